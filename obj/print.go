package obj

import (
	"strconv"

	"colophon/api"
	"colophon/digits"
)

const upperDigits = "0123456789ABCDEF"

// Print is an object's text.
func Print(o api.Obj) (string, api.Errno) {
	if !Good(o) {
		return "", api.ErrObj
	}
	text := appendObject(nil, o)
	if len(text) > api.MaxBytes {
		return "", api.ErrLong
	}
	return string(text), api.OK
}

// appendObject writes nothing more once a text is too long: good objects may
// share their strings, and so have texts far beyond what they take themselves.
func appendObject(text []byte, o api.Obj) []byte {
	if len(text) > api.MaxBytes {
		return text
	}
	switch o.Kind {
	case api.KBool:
		return strconv.AppendBool(text, o.Flag)
	case api.KInt:
		return strconv.AppendInt(text, int64(o.Num), 10)
	case api.KReal:
		number, _ := digits.Text(o.Num) // a good object's number is in
		return append(text, number...)
	case api.KName:
		return appendName(text, o.Text)
	case api.KString:
		return appendString(text, o.Text)
	case api.KArray:
		return appendArray(text, o.Items)
	case api.KDict:
		return appendDict(text, o)
	case api.KRef:
		return append(strconv.AppendInt(text, int64(o.Num), 10), " 0 R"...)
	}
	return append(text, "null"...)
}

func appendName(text []byte, name string) []byte {
	text = append(text, '/')
	for i := range len(name) {
		if isPlain(name[i]) {
			text = append(text, name[i])
		} else {
			text = appendHex(append(text, '#'), name[i])
		}
	}
	return text
}

func appendString(text []byte, s string) []byte {
	if !isReadable(s) {
		text = append(text, '<')
		for i := range len(s) {
			text = appendHex(text, s[i])
		}
		return append(text, '>')
	}
	text = append(text, '(')
	for i := range len(s) {
		if s[i] == '(' || s[i] == ')' || s[i] == '\\' {
			text = append(text, '\\')
		}
		text = append(text, s[i])
	}
	return append(text, ')')
}

// isReadable tells whether a string's bytes are all from 32 to 126.
func isReadable(s string) bool {
	for i := range len(s) {
		if s[i] < ' ' || s[i] > '~' {
			return false
		}
	}
	return true
}

func appendArray(text []byte, items []api.Obj) []byte {
	text = append(text, '[')
	for i, item := range items {
		if i > 0 {
			text = append(text, ' ')
		}
		text = appendObject(text, item)
	}
	return append(text, ']')
}

func appendDict(text []byte, o api.Obj) []byte {
	text = append(text, "<<"...)
	for i, key := range o.Keys {
		if i > 0 {
			text = append(text, ' ')
		}
		text = append(appendName(text, key), ' ')
		text = appendObject(text, o.Items[i])
	}
	return append(text, ">>"...)
}

func appendHex(text []byte, c byte) []byte {
	return append(text, upperDigits[c>>4], upperDigits[c&15])
}
