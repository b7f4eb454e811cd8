package obj

import (
	"strings"
	"testing"

	"colophon/api"
)

// prints are objects and the texts that Print makes of them.
func prints() []struct {
	o    api.Obj
	want string
} {
	return []struct {
		o    api.Obj
		want string
	}{
		{zero, "null"}, {boolean(true), "true"}, {boolean(false), "false"},
		{integer(0), "0"}, {integer(7), "7"}, {integer(-12), "-12"}, {integer(65536), "65536"},
		{integer(1 << 40), "1099511627776"}, {integer(-1 << 40), "-1099511627776"},
		{decimal(-98304), "-1.5"}, {decimal(32768), "0.5"}, {decimal(1), "0.0000152587890625"}, {decimal(-1), "-0.0000152587890625"},
		{decimal(1<<40 - 1), "16777215.9999847412109375"}, {decimal(1 - 1<<40), "-16777215.9999847412109375"},
		{name("A b#"), "/A#20b#23"}, {name("\xff~!(/"), "/#FF~!#28#2F"}, {name("\x01\n\x7f\x80\xab"), "/#01#0A#7F#80#AB"},
		{name("#20"), "/#2320"}, {name("()<>[]{}/%"), "/#28#29#3C#3E#5B#5D#7B#7D#2F#25"}, {name("a.b-c_d*\\'\""), "/a.b-c_d*\\'\""},
		{text(""), "()"}, {text("a(b"), "(a\\(b)"}, {text("a(b)c"), "(a\\(b\\)c)"}, {text("\\)"), "(\\\\\\))"}, {text(" ~"), "( ~)"}, {text("<>[]/#"), "(<>[]/#)"},
		{text("\x00"), "<00>"}, {text("a\n\xab"), "<610AAB>"}, {text("a\x7f"), "<617F>"}, {text("\x1f("), "<1F28>"}, {text("\xf0\x0f"), "<F00F>"},
		{ref(1), "1 0 R"}, {ref(4096), "4096 0 R"},
		{array(), "[]"}, {array(zero), "[null]"}, {array(array(), integer(2)), "[[] 2]"}, {array(name("a"), name("b"), text("c"), text("\x00")), "[/a /b (c) <00>]"},
		{array(integer(1), decimal(-98304), boolean(true), ref(7)), "[1 -1.5 true 7 0 R]"},
		{dict(), "<<>>"}, {dict(pair("Type", name("Page")), pair("Kids", array())), "<</Type /Page /Kids []>>"},
		{dict(pair("z", integer(1)), pair("a b", dict(pair("c", dict())))), "<</z 1 /a#20b <</c <<>>>>>>"},
	}
}

// P5.2

func TestPrint(t *testing.T) {
	for _, x := range prints() {
		if got, err := Print(x.o); got != x.want || err != api.OK {
			t.Errorf("Print: %q, %v; asked: %q", got, err, x.want)
		}
	}
}

func TestPrintOfWhatIsNotGood(t *testing.T) {
	for i, o := range wrong() {
		if got, err := Print(o); got != "" || err != api.ErrObj {
			t.Errorf("Print of wrong object %d: %d bytes, %v", i, len(got), err)
		}
	}
}

func TestPrintOfEachByte(t *testing.T) {
	const plain = "!\"$&'*+,-.0123456789:;=?@ABCDEFGHIJKLMNOPQRSTUVWXYZ\\^_`abcdefghijklmnopqrstuvwxyz|~"
	const hex = "0123456789ABCDEF"
	for c := range 256 {
		one := string([]byte{byte(c)})
		want := "/x#" + hex[c/16:c/16+1] + hex[c%16:c%16+1]
		if strings.Contains(plain, one) {
			want = "/x" + one
		}
		if c == 0 {
			want = ""
		}
		if got, _ := Print(name("x" + one)); got != want {
			t.Errorf("Print of a name with the byte %d: %q", c, got)
		}
		want = "<78" + hex[c/16:c/16+1] + hex[c%16:c%16+1] + ">"
		if c >= 32 && c <= 126 {
			want = "(x" + one + ")"
		}
		if strings.Contains("()\\", one) {
			want = "(x\\" + one + ")"
		}
		if got, _ := Print(text("x" + one)); got != want {
			t.Errorf("Print of a string with the byte %d: %q", c, got)
		}
	}
}

// long is an array whose text has so many bytes: 16 strings, of which the last
// makes up the rest.
func long(bytes int) api.Obj {
	o := array()
	for range 15 {
		o.Items = append(o.Items, text(strings.Repeat("a", 65536)))
	}
	used := 2 + 15*(65536+2) + 15 // brackets, strings, blanks between
	o.Items = append(o.Items, text(strings.Repeat("b", bytes-used-2)))
	return o
}

func TestPrintAtTheLongest(t *testing.T) {
	if s, err := Print(long(api.MaxBytes)); len(s) != api.MaxBytes || err != api.OK {
		t.Errorf("MaxBytes: %d bytes, %v", len(s), err)
	}
	if s, err := Print(long(api.MaxBytes + 1)); s != "" || err != api.ErrLong {
		t.Errorf("one byte more: %d bytes, %v", len(s), err)
	}
	if s, err := Print(long(api.MaxBytes - 1)); len(s) != api.MaxBytes-1 || err != api.OK {
		t.Errorf("one byte less: %d bytes, %v", len(s), err)
	}
}

func TestPrintOfWhatIsFarTooLong(t *testing.T) {
	o, one := array(), text(strings.Repeat("\x00", 65536))
	for range 65535 {
		o.Items = append(o.Items, one)
	}
	if s, err := Print(o); s != "" || err != api.ErrLong {
		t.Errorf("%d bytes, %v", len(s), err)
	}
	// What is not good is told first.
	o.Items = append(o.Items, zero)
	if s, err := Print(o); s != "" || err != api.ErrObj {
		t.Errorf("%d bytes, %v", len(s), err)
	}
	d := counted(65535)
	for i := range d.Keys {
		d.Keys[i] = strings.Repeat(d.Keys[i], 31)
	}
	if s, err := Print(d); s != "" || err != api.ErrLong {
		t.Errorf("%d bytes, %v", len(s), err)
	}
}
