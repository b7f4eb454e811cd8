/-
  Joined: O5Txt, O5TxH, O5TxN, O5TxP.
-/
import Derived.Test.YtalmcdbdibpgkaaGreatDoorBK
import Derived.Test.YtalmcdbdibpgkaaGreatDoorBL
import Derived.Test.YtalmcdbdibpgkaaGreatDoorBB
/-
  The reader within Parse; what the landed coded and escaped answer, in plain words.
-/
namespace Go.Proofs.YtalmcdbdibpgkaaGreatDoor
open Go.RowKit Go.Deep

structure RC (W0 : World) (b : Nat) (w : World) (s : ByteArray) (a : Nat) (l : Int) : Prop where
  rat : RAt w b s a l
  low : Below W0.heap.size W0 w
  hb : W0.heap.size ≤ b
  le : a ≤ s.size
theorem RC.but {W0 : World} {b : Nat} {w w' : World} {s : ByteArray} {a a' : Nat} {l l' : Int} (h : RC W0 b w s a l) (hk : But b w w') (hr : RAt w' b s a' l') (ha : a' ≤ s.size) : RC W0 b w' s a' l' := ⟨hr, hk.below h.low h.hb, h.hb, ha⟩
theorem RC.lt {W0 : World} {b : Nat} {w : World} {s : ByteArray} {a : Nat} {l : Int} (h : RC W0 b w s a l) : b < w.heap.size := h.rat.lt
theorem RC.below {W0 : World} {b : Nat} {w w' : World} {s : ByteArray} {a : Nat} {l : Int} (h : RC W0 b w s a l) (hb : Below w.heap.size w w') : RC W0 b w' s a l := ⟨h.rat.below hb, below_t5 h.low hb, h.hb, h.le⟩
/- a byte, and where it ends; or it gave up -/
def ByR (W0 : World) (b : Nat) (w : World) (s : ByteArray) (l : Int) (R : Option (Nat × Nat)) (e : Ending) (w' : World) : Prop := match R with
  | some (x, p) => e = .returned (.int .u8 (x : Int)) ∧ But b w w' ∧ RC W0 b w' s p l ∧ x ≤ 255
  | none => e = thrown ∧ But b w w'
def TxR (W0 : World) (b : Nat) (w : World) (s : ByteArray) (l : Int) (R : Option (List UInt8 × Nat)) (e : Ending) (w' : World) : Prop := match R with
  | some (bs, p) => e = .returned (.string ⟨bs.toArray⟩) ∧ But b w w' ∧ RC W0 b w' s p l
  | none => e = thrown ∧ But b w w'
theorem hex_dg : ∀ n : Fin 256, (decide (dgV n.val < 16) = decide (0 ≤ hexV n.val)) ∧ (0 ≤ hexV n.val → (dgV n.val : Int) = hexV n.val) := by decide +kernel
theorem oct_dg : ∀ n : Fin 256, (decide (dgV n.val < 8) = isOct n.val) ∧ (dgV n.val < 8 → dgV n.val = n.val - 48) := by decide +kernel
def hex2 (l : List UInt8) : Option Nat := match l with
  | c :: d :: _ => if hexB c && hexB d then some (byte2 c d).toNat else none
  | _ => none
theorem byte2_nat {c d : UInt8} (h : (hexB c && hexB d) = true) : ((byte2 c d).toNat : Int) = hexV c.toNat * 16 + hexV d.toNat := by
  simp only [Bool.and_eq_true, hexB, decide_eq_true_eq] at h
  have h1 := hexV_bd c.toNat
  have h2 := hexV_bd d.toNat
  unfold byte2
  rw [UInt8.toNat_ofNat']
  omega
theorem pu2 (c d : UInt8) : puR 16 [c, d] 0 = if dgV c.toNat < 16 ∧ dgV d.toNat < 16 then some (dgV c.toNat * 16 + dgV d.toNat) else none := by
  by_cases h1 : dgV c.toNat < 16
  · by_cases h2 : dgV d.toNat < 16
    · rw [puR, if_pos (by omega), puR, if_pos (by omega), puR, if_pos ⟨h1, h2⟩]; congr 1; omega
    · rw [puR, if_pos (by omega), puR, if_neg (fun h => h2 h.1), if_neg (fun h => h2 h.2)]
  · rw [puR, if_neg (fun h => h1 h.1), if_neg (fun h => h1 h.1)]
theorem cod16 (l : List UInt8) : codV 16 2 l = hex2 l := by
  unfold codV hex2
  match l with
  | [] => rfl
  | [_] => rfl
  | c :: d :: l =>
    rw [if_pos (by simp)]
    have h1 := hex_dg ⟨c.toNat, c.toNat_lt⟩
    have h2 := hex_dg ⟨d.toNat, d.toNat_lt⟩
    simp only at h1 h2
    rw [show (c :: d :: l).take 2 = [c, d] from rfl, pu2]
    have hiff : (dgV c.toNat < 16 ∧ dgV d.toNat < 16) ↔ (hexB c && hexB d) = true := by
      rw [Bool.and_eq_true, hexB, hexB, ← h1.1, ← h2.1, decide_eq_true_eq, decide_eq_true_eq]
    by_cases hb : (hexB c && hexB d) = true
    · have hbn := byte2_nat hb
      rw [if_pos (hiff.2 hb)]
      simp only [hb, if_true]
      simp only [Bool.and_eq_true, hexB, decide_eq_true_eq] at hb
      have e1 := h1.2 hb.1
      have e2 := h2.2 hb.2
      congr 1
      omega
    · rw [if_neg (fun h => hb (hiff.1 h))]
      simp only [hb]
      rfl
def oct3 (l : List UInt8) : Option Nat := match octR l 3 with
  | some n => if n < 256 then some n else none
  | none => none
theorem octR3 (c d e : UInt8) (l : List UInt8) : octR (c :: d :: e :: l) 3 = if isOct c.toNat && isOct d.toNat && isOct e.toNat then some (((c.toNat - 48) * 8 + (d.toNat - 48)) * 8 + (e.toNat - 48)) else none := by
  simp only [octR, List.getElem?_cons_zero, List.getElem?_cons_succ]
  cases isOct c.toNat <;> cases isOct d.toNat <;> cases isOct e.toNat <;> simp
theorem pu3 (c d e : UInt8) : puR 8 [c, d, e] 0 = if (dgV c.toNat < 8 ∧ dgV d.toNat < 8 ∧ dgV e.toNat < 8) ∧ (dgV c.toNat * 8 + dgV d.toNat) * 8 + dgV e.toNat < 256 then some ((dgV c.toNat * 8 + dgV d.toNat) * 8 + dgV e.toNat) else none := by
  by_cases h1 : dgV c.toNat < 8
  · by_cases h2 : dgV d.toNat < 8
    · by_cases h3 : dgV e.toNat < 8 ∧ (dgV c.toNat * 8 + dgV d.toNat) * 8 + dgV e.toNat < 256
      · rw [puR, if_pos (by omega), puR, if_pos (by omega), puR, if_pos (by omega), puR, if_pos ⟨⟨h1, h2, h3.1⟩, h3.2⟩]; congr 1; omega
      · rw [puR, if_pos (by omega), puR, if_pos (by omega), puR, if_neg (by omega), if_neg (fun h => h3 ⟨h.1.2.2, h.2⟩)]
    · rw [puR, if_pos (by omega), puR, if_neg (fun h => h2 h.1), if_neg (fun h => h2 h.1.2.1)]
  · rw [puR, if_neg (fun h => h1 h.1), if_neg (fun h => h1 h.1.1)]
theorem cod8 (l : List UInt8) : codV 8 3 l = oct3 l := by
  unfold codV oct3
  match l with
  | [] => rfl
  | [c] => simp only [octR, List.getElem?_cons_zero, List.getElem?_cons_succ, List.getElem?_nil]; cases isOct c.toNat <;> simp
  | [c, d] => simp only [octR, List.getElem?_cons_zero, List.getElem?_cons_succ, List.getElem?_nil]; cases isOct c.toNat <;> cases isOct d.toNat <;> simp
  | c :: d :: e :: l =>
    rw [if_pos (by simp), octR3]
    have h1 := oct_dg ⟨c.toNat, c.toNat_lt⟩
    have h2 := oct_dg ⟨d.toNat, d.toNat_lt⟩
    have h3 := oct_dg ⟨e.toNat, e.toNat_lt⟩
    simp only at h1 h2 h3
    rw [show (c :: d :: e :: l).take 3 = [c, d, e] from rfl, pu3]
    have hiff : (dgV c.toNat < 8 ∧ dgV d.toNat < 8 ∧ dgV e.toNat < 8) ↔ (isOct c.toNat && isOct d.toNat && isOct e.toNat) = true := by
      rw [Bool.and_eq_true, Bool.and_eq_true, ← h1.1, ← h2.1, ← h3.1, decide_eq_true_eq, decide_eq_true_eq, decide_eq_true_eq]
      exact ⟨fun h => ⟨⟨h.1, h.2.1⟩, h.2.2⟩, fun h => ⟨h.1.1, h.1.2, h.2⟩⟩
    by_cases hb : (isOct c.toNat && isOct d.toNat && isOct e.toNat) = true
    · have hd := hiff.2 hb
      have e1 := h1.2 hd.1
      have e2 := h2.2 hd.2.1
      have e3 := h3.2 hd.2.2
      rw [← e1, ← e2, ← e3]
      simp only [hb, if_true]
      by_cases hl : ((dgV c.toNat * 8 + dgV d.toNat) * 8 + dgV e.toNat) < 256
      · rw [if_pos ⟨hd, hl⟩, if_pos hl]
      · rw [if_neg (fun h => hl h.2), if_neg hl]
    · rw [if_neg (fun h => hb (hiff.1 h.1))]
      simp only [hb]
      rfl
theorem next_rc (W0 : World) (b : Nat) (s : ByteArray) (a : Nat) (l : Int) (w : World) (h : RC W0 b w s a l) (hs : s.size ≤ 16777216) (R : Option (Nat × Nat)) (hR : (if hlt : a < s.size then some (s[a].toNat, a + 1) else none) = R) :
    Calls Tryz.prog 72 #[.pointer (some ⟨b, 0, none⟩)] w (ByR W0 b w s l R) := by
  subst hR
  by_cases hlt : a < s.size
  · rw [dif_pos hlt]
    refine (next_ok b s a l w h.rat hs hlt).mono ?_
    rintro e w' ⟨rfl, h1, h2⟩
    exact ⟨rfl, h1, h.but h1 h2 (by omega), by have := s[a].toNat_lt; omega⟩
  · rw [dif_neg hlt]
    exact next_bad b s a l w h.rat hs hlt
theorem coded16_rc (W0 : World) (hg : Glo5 W0) (b : Nat) (s : ByteArray) (a : Nat) (l : Int) (w : World) (h : RC W0 b w s a l) (hs : s.size ≤ 16777216) :
    Calls Tryz.prog 71 #[.pointer (some ⟨b, 0, none⟩), .int .i64 2, .int .i64 16] w (ByR W0 b w s l ((hex2 (s.data.toList.drop a)).map fun x => (x, a + 2))) := by
  rw [← cod16]
  have hle := h.le
  have hln : (s.data.toList.drop a).length = s.size - a := by rw [List.length_drop, ← Lib.size_eq]
  by_cases hsh : s.size - a < 2
  · rw [show codV 16 2 (s.data.toList.drop a) = none by unfold codV; rw [if_neg (by omega)]]
    exact coded16_short b s a l w h.rat hs hle hsh
  · have e : codV 16 2 (s.data.toList.drop a) = puR 16 ((s.data.toList.drop a).take 2) 0 := by unfold codV; rw [if_pos (by omega)]
    rw [e]
    refine (coded16_long b s a l w h.rat (hg.below h.low) hs (by omega) _ rfl).mono ?_
    intro x w' hx
    cases hR : puR 16 ((s.data.toList.drop a).take 2) 0 with
    | some m =>
      rw [hR] at hx
      obtain ⟨h1, h2, h3⟩ := hx
      exact ⟨h1, h2, h.but h2 h3 (by omega), puR_le 16 _ 0 m (by omega) hR⟩
    | none =>
      rw [hR] at hx
      exact hx
theorem coded8_rc (W0 : World) (hg : Glo5 W0) (b : Nat) (s : ByteArray) (a : Nat) (l : Int) (w : World) (h : RC W0 b w s a l) (hs : s.size ≤ 16777216) :
    Calls Tryz.prog 71 #[.pointer (some ⟨b, 0, none⟩), .int .i64 3, .int .i64 8] w (ByR W0 b w s l ((oct3 (s.data.toList.drop a)).map fun x => (x, a + 3))) := by
  rw [← cod8]
  have hle := h.le
  have hln : (s.data.toList.drop a).length = s.size - a := by rw [List.length_drop, ← Lib.size_eq]
  by_cases hsh : s.size - a < 3
  · rw [show codV 8 3 (s.data.toList.drop a) = none by unfold codV; rw [if_neg (by omega)]]
    exact coded8_short b s a l w h.rat hs hle hsh
  · have e : codV 8 3 (s.data.toList.drop a) = puR 8 ((s.data.toList.drop a).take 3) 0 := by unfold codV; rw [if_pos (by omega)]
    rw [e]
    refine (coded8_long b s a l w h.rat (hg.below h.low) hs (by omega) _ rfl).mono ?_
    intro x w' hx
    cases hR : puR 8 ((s.data.toList.drop a).take 3) 0 with
    | some m =>
      rw [hR] at hx
      obtain ⟨h1, h2, h3⟩ := hx
      exact ⟨h1, h2, h.but h2 h3 (by omega), puR_le 8 _ 0 m (by omega) hR⟩
    | none =>
      rw [hR] at hx
      exact hx
set_option maxRecDepth 8000 in
set_option maxHeartbeats 1000000 in
theorem escaped_rc (W0 : World) (hg : Glo5 W0) (b : Nat) (s : ByteArray) (a : Nat) (l : Int) (w : World) (h : RC W0 b w s a l) (hs : s.size ≤ 16777216) :
    Calls Tryz.prog 73 #[.pointer (some ⟨b, 0, none⟩)] w (ByR W0 b w s l ((escV (s.data.toList.drop a)).map fun q => (q.1, a + q.2))) := by
  by_cases hlt : a < s.size
  case neg =>
    have e0 : s.data.toList.drop a = [] := List.drop_eq_nil_of_le (by rw [← Lib.size_eq]; omega)
    rw [e0]
    have C := hide (next_bad b s a l w h.rat hs hlt)
    clear h hs hlt e0 hg
    go_enter Tryz.func73, Tryz.ntmps73
    go_wp2_with (go_at_call 72; refine C.out.mono ?_; rintro e wy ⟨rfl, hy⟩)
    exact ⟨rfl, rfl, hy⟩
  have C := hide (next_ok b s a l w h.rat hs hlt)
  have HC := hide h
  have e0 := drop_at s a hlt
  have COD := hide (fun w' (h' : RC W0 b w' s a l) => coded8_rc W0 hg b s a l w' h' hs)
  unfold oct3 at COD
  rw [e0] at COD
  rw [e0]
  generalize s[a] = c at C COD
  have hc0 : (0 : Int) ≤ (c.toNat : Int) := by omega
  have HLE := hide hlt
  have HSS := hide hs
  clear h hs hlt e0 hg
  by_cases k110 : c.toNat = 110
  · have ev : escV (c :: s.data.toList.drop (a + 1)) = some (10, 1) := by simp only [escV]; rw [show escL c.toNat = some 10 by rw [k110]; rfl]
    rw [ev]
    have f110 : ((c.toNat : Int) == 110) = true := by rw [k110]; rfl
    have hcv : (c.toNat : Int) = 110 := by omega
    have HV := hide hcv
    clear ev COD hcv k110
    go_enter Tryz.func73, Tryz.ntmps73
    go_wp2_with (go_at_call 72; refine C.out.mono ?_; rintro e wy ⟨rfl, hy, hr⟩; have HY := hide hy; have HR := hide hr; clear hy hr)
    go_ret
    exact ⟨rfl, HY.out, HC.out.but HY.out HR.out (by have := HLE.out; omega), by decide⟩
  by_cases k114 : c.toNat = 114
  · have ev : escV (c :: s.data.toList.drop (a + 1)) = some (13, 1) := by simp only [escV]; rw [show escL c.toNat = some 13 by rw [k114]; rfl]
    rw [ev]
    have f110 : ((c.toNat : Int) == 110) = false := by rw [k114]; rfl
    have f114 : ((c.toNat : Int) == 114) = true := by rw [k114]; rfl
    have hcv : (c.toNat : Int) = 114 := by omega
    have HV := hide hcv
    clear ev COD hcv k110 k114
    go_enter Tryz.func73, Tryz.ntmps73
    go_wp2_with (go_at_call 72; refine C.out.mono ?_; rintro e wy ⟨rfl, hy, hr⟩; have HY := hide hy; have HR := hide hr; clear hy hr)
    go_ret
    exact ⟨rfl, HY.out, HC.out.but HY.out HR.out (by have := HLE.out; omega), by decide⟩
  by_cases k116 : c.toNat = 116
  · have ev : escV (c :: s.data.toList.drop (a + 1)) = some (9, 1) := by simp only [escV]; rw [show escL c.toNat = some 9 by rw [k116]; rfl]
    rw [ev]
    have f110 : ((c.toNat : Int) == 110) = false := by rw [k116]; rfl
    have f114 : ((c.toNat : Int) == 114) = false := by rw [k116]; rfl
    have f116 : ((c.toNat : Int) == 116) = true := by rw [k116]; rfl
    have hcv : (c.toNat : Int) = 116 := by omega
    have HV := hide hcv
    clear ev COD hcv k110 k114 k116
    go_enter Tryz.func73, Tryz.ntmps73
    go_wp2_with (go_at_call 72; refine C.out.mono ?_; rintro e wy ⟨rfl, hy, hr⟩; have HY := hide hy; have HR := hide hr; clear hy hr)
    go_ret
    exact ⟨rfl, HY.out, HC.out.but HY.out HR.out (by have := HLE.out; omega), by decide⟩
  by_cases k98 : c.toNat = 98
  · have ev : escV (c :: s.data.toList.drop (a + 1)) = some (8, 1) := by simp only [escV]; rw [show escL c.toNat = some 8 by rw [k98]; rfl]
    rw [ev]
    have f110 : ((c.toNat : Int) == 110) = false := by rw [k98]; rfl
    have f114 : ((c.toNat : Int) == 114) = false := by rw [k98]; rfl
    have f116 : ((c.toNat : Int) == 116) = false := by rw [k98]; rfl
    have f98 : ((c.toNat : Int) == 98) = true := by rw [k98]; rfl
    have hcv : (c.toNat : Int) = 98 := by omega
    have HV := hide hcv
    clear ev COD hcv k110 k114 k116 k98
    go_enter Tryz.func73, Tryz.ntmps73
    go_wp2_with (go_at_call 72; refine C.out.mono ?_; rintro e wy ⟨rfl, hy, hr⟩; have HY := hide hy; have HR := hide hr; clear hy hr)
    go_ret
    exact ⟨rfl, HY.out, HC.out.but HY.out HR.out (by have := HLE.out; omega), by decide⟩
  by_cases k102 : c.toNat = 102
  · have ev : escV (c :: s.data.toList.drop (a + 1)) = some (12, 1) := by simp only [escV]; rw [show escL c.toNat = some 12 by rw [k102]; rfl]
    rw [ev]
    have f110 : ((c.toNat : Int) == 110) = false := by rw [k102]; rfl
    have f114 : ((c.toNat : Int) == 114) = false := by rw [k102]; rfl
    have f116 : ((c.toNat : Int) == 116) = false := by rw [k102]; rfl
    have f98 : ((c.toNat : Int) == 98) = false := by rw [k102]; rfl
    have f102 : ((c.toNat : Int) == 102) = true := by rw [k102]; rfl
    have hcv : (c.toNat : Int) = 102 := by omega
    have HV := hide hcv
    clear ev COD hcv k110 k114 k116 k98 k102
    go_enter Tryz.func73, Tryz.ntmps73
    go_wp2_with (go_at_call 72; refine C.out.mono ?_; rintro e wy ⟨rfl, hy, hr⟩; have HY := hide hy; have HR := hide hr; clear hy hr)
    go_ret
    exact ⟨rfl, HY.out, HC.out.but HY.out HR.out (by have := HLE.out; omega), by decide⟩
  by_cases k40 : c.toNat = 40
  · have ev : escV (c :: s.data.toList.drop (a + 1)) = some (40, 1) := by simp only [escV]; rw [show escL c.toNat = some 40 by rw [k40]; rfl]
    rw [ev]
    have f110 : ((c.toNat : Int) == 110) = false := by rw [k40]; rfl
    have f114 : ((c.toNat : Int) == 114) = false := by rw [k40]; rfl
    have f116 : ((c.toNat : Int) == 116) = false := by rw [k40]; rfl
    have f98 : ((c.toNat : Int) == 98) = false := by rw [k40]; rfl
    have f102 : ((c.toNat : Int) == 102) = false := by rw [k40]; rfl
    have f40 : ((c.toNat : Int) == 40) = true := by rw [k40]; rfl
    have hcv : (c.toNat : Int) = 40 := by omega
    have HV := hide hcv
    clear ev COD hcv k110 k114 k116 k98 k102 k40
    go_enter Tryz.func73, Tryz.ntmps73
    go_wp2_with (go_at_call 72; refine C.out.mono ?_; rintro e wy ⟨rfl, hy, hr⟩; have HY := hide hy; have HR := hide hr; clear hy hr)
    go_ret
    exact ⟨by rw [HV.out]; rfl, HY.out, HC.out.but HY.out HR.out (by have := HLE.out; omega), by decide⟩
  by_cases k41 : c.toNat = 41
  · have ev : escV (c :: s.data.toList.drop (a + 1)) = some (41, 1) := by simp only [escV]; rw [show escL c.toNat = some 41 by rw [k41]; rfl]
    rw [ev]
    have f110 : ((c.toNat : Int) == 110) = false := by rw [k41]; rfl
    have f114 : ((c.toNat : Int) == 114) = false := by rw [k41]; rfl
    have f116 : ((c.toNat : Int) == 116) = false := by rw [k41]; rfl
    have f98 : ((c.toNat : Int) == 98) = false := by rw [k41]; rfl
    have f102 : ((c.toNat : Int) == 102) = false := by rw [k41]; rfl
    have f40 : ((c.toNat : Int) == 40) = false := by rw [k41]; rfl
    have f41 : ((c.toNat : Int) == 41) = true := by rw [k41]; rfl
    have hcv : (c.toNat : Int) = 41 := by omega
    have HV := hide hcv
    clear ev COD hcv k110 k114 k116 k98 k102 k40 k41
    go_enter Tryz.func73, Tryz.ntmps73
    go_wp2_with (go_at_call 72; refine C.out.mono ?_; rintro e wy ⟨rfl, hy, hr⟩; have HY := hide hy; have HR := hide hr; clear hy hr)
    go_ret
    exact ⟨by rw [HV.out]; rfl, HY.out, HC.out.but HY.out HR.out (by have := HLE.out; omega), by decide⟩
  by_cases k92 : c.toNat = 92
  · have ev : escV (c :: s.data.toList.drop (a + 1)) = some (92, 1) := by simp only [escV]; rw [show escL c.toNat = some 92 by rw [k92]; rfl]
    rw [ev]
    have f110 : ((c.toNat : Int) == 110) = false := by rw [k92]; rfl
    have f114 : ((c.toNat : Int) == 114) = false := by rw [k92]; rfl
    have f116 : ((c.toNat : Int) == 116) = false := by rw [k92]; rfl
    have f98 : ((c.toNat : Int) == 98) = false := by rw [k92]; rfl
    have f102 : ((c.toNat : Int) == 102) = false := by rw [k92]; rfl
    have f40 : ((c.toNat : Int) == 40) = false := by rw [k92]; rfl
    have f41 : ((c.toNat : Int) == 41) = false := by rw [k92]; rfl
    have f92 : ((c.toNat : Int) == 92) = true := by rw [k92]; rfl
    have hcv : (c.toNat : Int) = 92 := by omega
    have HV := hide hcv
    clear ev COD hcv k110 k114 k116 k98 k102 k40 k41 k92
    go_enter Tryz.func73, Tryz.ntmps73
    go_wp2_with (go_at_call 72; refine C.out.mono ?_; rintro e wy ⟨rfl, hy, hr⟩; have HY := hide hy; have HR := hide hr; clear hy hr)
    go_ret
    exact ⟨by rw [HV.out]; rfl, HY.out, HC.out.but HY.out HR.out (by have := HLE.out; omega), by decide⟩
  have ev : escV (c :: s.data.toList.drop (a + 1)) = (match octR (c :: s.data.toList.drop (a + 1)) 3 with | some n => if n < 256 then some (n, 3) else none | none => none) := by
    simp only [escV]
    rw [show escL c.toNat = none by unfold escL; rw [if_neg k110, if_neg k114, if_neg k116, if_neg k98, if_neg k102, if_neg (by omega)]]
    rfl
  have eR : ((escV (c :: s.data.toList.drop (a + 1))).map fun q => (q.1, a + q.2)) = ((match octR (c :: s.data.toList.drop (a + 1)) 3 with | some n => if n < 256 then some n else none | none => none).map fun x => (x, a + 3)) := by
    rw [ev]
    cases octR (c :: s.data.toList.drop (a + 1)) 3 with
    | none => rfl
    | some n =>
      simp only
      split <;> rfl
  rw [eR]
  generalize ((match octR (c :: s.data.toList.drop (a + 1)) 3 with | some n => if n < 256 then some n else none | none => none).map fun x => (x, a + 3)) = R at COD
  have f110 : ((c.toNat : Int) == 110) = false := by rw [beq_eq_false_iff_ne]; omega
  have f114 : ((c.toNat : Int) == 114) = false := by rw [beq_eq_false_iff_ne]; omega
  have f116 : ((c.toNat : Int) == 116) = false := by rw [beq_eq_false_iff_ne]; omega
  have f98 : ((c.toNat : Int) == 98) = false := by rw [beq_eq_false_iff_ne]; omega
  have f102 : ((c.toNat : Int) == 102) = false := by rw [beq_eq_false_iff_ne]; omega
  have f40 : ((c.toNat : Int) == 40) = false := by rw [beq_eq_false_iff_ne]; omega
  have f41 : ((c.toNat : Int) == 41) = false := by rw [beq_eq_false_iff_ne]; omega
  have f92 : ((c.toNat : Int) == 92) = false := by rw [beq_eq_false_iff_ne]; omega
  obtain ⟨A, hA⟩ : ∃ A : Nat, A = a + 1 := ⟨_, rfl⟩
  rw [← hA] at C
  have HA := hide hA
  have hA0 : (0 : Int) ≤ (A : Int) - 1 := by omega
  have hA1 : (A : Int) ≤ 16777217 := by have := HLE.out; have := HSS.out; omega
  clear ev eR hA k110 k114 k116 k98 k102 k40 k41 k92
  rcases R with _ | ⟨x, p⟩
  · unfold ByR at COD
    simp only at COD
    go_enter Tryz.func73, Tryz.ntmps73
    go_wp2_with (first
      | (go_at_call 72; refine C.out.mono ?_; rintro e wy ⟨rfl, hy, hr⟩; have HY := hide hy; have hr2 : RC W0 b (wy.setCell ⟨b, 1, none⟩ (.int .i64 ((A : Int) - 1))) s a l := HC.out.but (hy.trans (But.setCell b wy 1 _)) (by rw [show ((A : Int) - 1) = (a : Int) by have := HA.out; omega]; exact RAt.at1 hr a) HC.out.le; have CC := hide (COD.out _ hr2); obtain ⟨⟨d0, d1, d2⟩, y0, y1, y2⟩ := hr.three; clear hy hr hr2)
      | (go_at_call 71; refine CC.out.mono ?_; rintro e wz ⟨rfl, h1⟩))
    exact ⟨rfl, rfl, (HY.out.trans (But.setCell b wy 1 _)).trans h1⟩
  · unfold ByR at COD
    simp only at COD
    go_enter Tryz.func73, Tryz.ntmps73
    go_wp2_with (first
      | (go_at_call 72; refine C.out.mono ?_; rintro e wy ⟨rfl, hy, hr⟩; have HY := hide hy; have hr2 : RC W0 b (wy.setCell ⟨b, 1, none⟩ (.int .i64 ((A : Int) - 1))) s a l := HC.out.but (hy.trans (But.setCell b wy 1 _)) (by rw [show ((A : Int) - 1) = (a : Int) by have := HA.out; omega]; exact RAt.at1 hr a) HC.out.le; have CC := hide (COD.out _ hr2); obtain ⟨⟨d0, d1, d2⟩, y0, y1, y2⟩ := hr.three; clear hy hr hr2)
      | (go_at_call 71; refine CC.out.mono ?_; rintro e wz ⟨rfl, h1, h2, h3⟩))
    go_ret
    exact ⟨rfl, (HY.out.trans (But.setCell b wy 1 _)).trans h1, h2, h3⟩
end Go.Proofs.YtalmcdbdibpgkaaGreatDoor
/-
  What the landed hexText answers.
-/
namespace Go.Proofs.YtalmcdbdibpgkaaGreatDoor
open Go.RowKit Go.Deep

theorem hp_nil (x : UInt8) : Lib.hasPrefix [] [x] = false := by simp [Lib.hasPrefix]
theorem hp_one (c x : UInt8) (l : List UInt8) : Lib.hasPrefix (c :: l) [x] = decide (c = x) := by
  by_cases h : c = x
  · subst h; simp [Lib.hasPrefix]
  · have : ¬ x = c := fun e => h e.symm
    have e : (x == c) = false := by rw [beq_eq_false_iff_ne]; exact this
    rw [decide_eq_false h]
    simp only [Lib.hasPrefix, List.isPrefixOf, e, Bool.false_and]
theorem BRow.but {b B : Nat} {w w' : World} {v : Value} {ys : List UInt8} (h : BRow w B v ys) (hk : But b w w') (hb : b < B) : BRow w' B v ys := But.own h hk hb
theorem take_rc (W0 : World) (b : Nat) (s p : ByteArray) (a : Nat) (l : Int) (w : World) (h : RC W0 b w s a l) (hs : s.size ≤ 16777216) (hp : p.size ≤ 16) (t : Bool) (ht : Lib.hasPrefix (s.data.toList.drop a) p.data.toList = t) :
    Calls Tryz.prog 42 #[.pointer (some ⟨b, 0, none⟩), .string p] w fun e w' => e = .returned (.bool t) ∧ But b w w' ∧ RC W0 b w' s (if t then a + p.size else a) l := by
  refine (take_hit b s p a l w h.rat hs h.le hp t ht).mono ?_
  rintro e w' ⟨rfl, h1, h2⟩
  refine ⟨rfl, h1, h.but h1 h2 ?_⟩
  cases t
  · exact h.le
  · have h3 := hasP_len ht
    have h4 := h.le
    rw [List.length_drop, ← Lib.size_eq, ← Lib.size_eq] at h3
    by_cases h0 : p.size = 0
    · simp [h0, h4]
    · simp; omega
/- one byte more behind a row, within the reader's call -/
theorem app_rc {W0 : World} {b B : Nat} {w0 w : World} {s : ByteArray} {a : Nat} {l : Int} {v : Value} {ys : List UInt8} (c : UInt8) (h : RC W0 b w s a l) (hr : BRow w B v ys) (hB0 : w0.heap.size ≤ B) (hB : B ≤ w.heap.size) (hb : b < B) (hk : But b w0 w) (hl : ys.length + 1 ≤ 140737488355328) :
    ∃ v' w2, (Builtin.append_ #[43, 43] 43 #[v, .slice (some ⟨w.heap.size, 0, none⟩) 1 1]).run Tryz.prog (w.alloc (.cells #[bcell c] 5)) = .ok v' w2 ∧ BRow w2 B v' (ys ++ [c]) ∧ RC W0 b w2 s a l ∧ But b w0 w2 ∧ B ≤ w2.heap.size := by
  obtain ⟨v', w2, h1, h2, h3⟩ := app_b [c] hr hB (by simp) hl _ rfl
  exact ⟨v', w2, h1, h2, ⟨Blk.kept h.rat h3 hb, h.low.trans (h3.mono (Nat.le_of_lt (Nat.lt_of_le_of_lt h.hb hb))), h.hb, h.le⟩, hk.more h3 hB0, Nat.le_trans hB h3.size⟩
set_option maxRecDepth 8000 in
set_option maxHeartbeats 1000000 in
theorem hexText_rc (W0 : World) (hg : Glo5 W0) (b : Nat) (s : ByteArray) (a : Nat) (l : Int) (w : World) (h : RC W0 b w s a l) (hs : s.size ≤ 16777216) (R : Option (List UInt8 × Nat)) (hR : digV (s.data.toList.drop a) a = R) :
    Calls Tryz.prog 45 #[.pointer (some ⟨b, 0, none⟩)] w (TxR W0 b w s l R) := by
  have HC := hide h
  have HR := hide hR
  have HG := hide hg
  have HS := hide hs
  have HL := hide h.lt
  clear h hR hg hs
  go_enter Tryz.func45, Tryz.ntmps45
  go_wp2_with fail
  go_loopg [3] (s.size - a) (fun g vt wr => ∃ (k : Nat) (acc : List UInt8), Hid (g = s.size - k ∧ Dg (s.data.toList.drop k) k acc R ∧ BRow wr w.heap.size vt acc ∧ But b w wr ∧ RC W0 b wr s k l ∧ acc.length ≤ k ∧ w.heap.size ≤ wr.heap.size))
  case atStart => exact ⟨a, [], hide ⟨rfl, HR.out, BRow.nil _ _, But.refl _ _, HC.out, by simp, Nat.le_refl _⟩⟩
  case round =>
    obtain ⟨k, acc, HK⟩ := hrel
    obtain ⟨kg, hd, hbr, hbut, hrc, hal, hsz⟩ := HK.out
    clear HK HC HR
    have hle := hrc.le
    have hss := HS.out
    by_cases hlt : k < s.size
    case neg =>
      have e0 : s.data.toList.drop k = [] := List.drop_eq_nil_of_le (by rw [← Lib.size_eq]; omega)
      rw [e0] at hd
      have hRn : R = none := by unfold Dg at hd; simp only [List.length_nil, dR] at hd; exact hd.symm
      subst hRn
      have CT := hide (take_rc W0 b s ⟨#[62]⟩ k l wr hrc hss (by decide) false (by rw [e0]; exact hp_nil 62))
      have CC := hide (fun w' (h' : RC W0 b w' s k l) => coded16_rc W0 HG.out b s k l w' h' hss)
      rw [e0] at CC
      unfold ByR hex2 at CC
      simp only [Option.map_none] at CC
      have HBU := hide hbut
      clear hd hbr hbut hrc kg e0
      go_wp2_with (first
        | (go_at_call 42; refine CT.out.mono ?_; rintro e wy ⟨rfl, h1, h2⟩; have H1 := hide h1; have C2 := hide (CC.out wy (by simpa using h2)); clear h1 h2)
        | (go_at_call 71; refine C2.out.mono ?_; rintro e wz ⟨rfl, h3⟩))
      exact ⟨rfl, rfl, (HBU.out.trans H1.out).trans h3⟩
    case pos =>
      have e0 := drop_at s k hlt
      rw [e0] at hd
      have hn := hd.next
      by_cases hc : s[k].toNat = 62
      · have hRs := hn.1 hc
        subst hRs
        have CT := hide (take_rc W0 b s ⟨#[62]⟩ k l wr hrc hss (by decide) true (by rw [e0, hp_one, decide_eq_true_iff]; exact UInt8.toNat_inj.1 hc))
        have CV := hide (fun w' (h' : BRow w' w.heap.size u3 acc) => BRow.text h')
        have HBU := hide hbut
        have HBR := hide hbr
        clear hd hbr hbut hrc kg e0 hn hc
        go_wp2_with (go_at_call 42; refine CT.out.mono ?_; rintro e wy ⟨rfl, h1, h2⟩; have H1 := hide h1; have H2 := hide h2; have hcv := CV.out wy (HBR.out.but h1 HL.out); clear h1 h2)
        go_ret
        exact ⟨rfl, HBU.out.trans H1.out, H2.out⟩
      · have CT := hide (take_rc W0 b s ⟨#[62]⟩ k l wr hrc hss (by decide) false (by rw [e0, hp_one, decide_eq_false_iff_not]; exact fun h => hc (by rw [h]; rfl)))
        have CC := hide (fun w' (h' : RC W0 b w' s k l) => coded16_rc W0 HG.out b s k l w' h' hss)
        rw [e0] at CC
        cases hx : hex2 (s[k] :: s.data.toList.drop (k + 1)) with
        | none =>
          have hRn : R = none := by
            unfold hex2 at hx
            cases hdr : s.data.toList.drop (k + 1) with
            | nil => exact hn.2.1 hc hdr
            | cons d l' =>
              rw [hdr] at hx
              simp only at hx
              refine hn.2.2.1 hc d l' hdr ?_
              cases hb : (hexB s[k] && hexB d)
              · rfl
              · rw [hb] at hx; cases hx
          subst hRn
          rw [hx] at CC
          unfold ByR at CC
          simp only [Option.map_none] at CC
          have HBU := hide hbut
          clear hd hbr hbut hrc kg e0 hn hc hx
          go_wp2_with (first
            | (go_at_call 42; refine CT.out.mono ?_; rintro e wy ⟨rfl, h1, h2⟩; have H1 := hide h1; have C2 := hide (CC.out wy (by simpa using h2)); clear h1 h2)
            | (go_at_call 71; refine C2.out.mono ?_; rintro e wz ⟨rfl, h3⟩))
          exact ⟨rfl, rfl, (HBU.out.trans H1.out).trans h3⟩
        | some x =>
          obtain ⟨d, l', hdr, hb, hxv⟩ : ∃ d l', s.data.toList.drop (k + 1) = d :: l' ∧ (hexB s[k] && hexB d) = true ∧ x = (byte2 s[k] d).toNat := by
            unfold hex2 at hx
            cases hdr : s.data.toList.drop (k + 1) with
            | nil => rw [hdr] at hx; cases hx
            | cons d l' =>
              rw [hdr] at hx
              simp only at hx
              cases hb : (hexB s[k] && hexB d)
              · rw [hb] at hx; cases hx
              · rw [hb] at hx; simp only [if_true, Option.some.injEq] at hx; exact ⟨d, l', rfl, hb, hx.symm⟩
          have hnx := hn.2.2.2 hc d l' hdr hb
          have hk2 : k + 2 ≤ s.size := by
            have := congrArg List.length hdr
            rw [List.length_drop, ← Lib.size_eq, List.length_cons] at this
            omega
          have hl' : s.data.toList.drop (k + 2) = l' := by
            have := congrArg (List.drop 1) hdr
            rw [List.drop_drop] at this
            simpa using this
          rw [hx] at CC
          unfold ByR at CC
          simp only [Option.map_some] at CC
          subst hxv
          generalize byte2 s[k] d = by2 at CC hnx
          have AP := hide (fun w' (h1 : RC W0 b w' s (k + 2) l) (h2 : But b wr w') => app_rc (w0 := w) by2 h1 (hbr.but h2 HL.out) (Nat.le_refl _) (Nat.le_trans hsz h2.size) HL.out (hbut.trans h2) (by omega))
          have HBU := hide hbut
          have HN : Hid (Dg (s.data.toList.drop (k + 2)) (k + 2) (acc ++ [by2]) R) := hide (by rw [hl']; exact hnx)
          have HKG := hide kg
          clear hd hbr hbut hrc kg e0 hn hc hx hnx hdr hb hl'
          go_wp2_with (first
            | (go_at_call 42; refine CT.out.mono ?_; rintro e wy ⟨rfl, h1, h2⟩; have H1 := hide h1; have C2 := hide (CC.out wy (by simpa using h2)); clear h1 h2)
            | (go_at_call 71; refine C2.out.mono ?_; rintro e wz ⟨rfl, h3, h4, h5⟩; obtain ⟨v5, w5, q1, q2, q3, q4, q5⟩ := AP.out wz h4 (H1.out.trans h3); have Q1 := hide q1; have Q2 := hide q2; have Q3 := hide q3; have Q4 := hide q4; have Q5 := hide q5; clear h3 h4 h5 q1 q2 q3 q4 q5)
            | (at_builtin; refine Lib.wpList_append_run _ rfl _ _ _ _ rfl _ _ rfl rfl _ _ Q1.out ?_))
          go_roundg (s.size - (k + 2))
          case measure => have := HKG.out; omega
          case rel => exact ⟨k + 2, acc ++ [by2], hide ⟨rfl, HN.out, Q2.out, Q4.out, Q3.out, by simp; omega, Q5.out⟩⟩
end Go.Proofs.YtalmcdbdibpgkaaGreatDoor
/-
  What the landed name answers.
-/
namespace Go.Proofs.YtalmcdbdibpgkaaGreatDoor
open Go.RowKit Go.Deep

theorem atEnd_rc (W0 : World) (b : Nat) (s : ByteArray) (a : Nat) (l : Int) (w : World) (h : RC W0 b w s a l) (hs : s.size ≤ 16777216) (t : Bool) (ht : endV s.data.toList a = t) :
    Calls Tryz.prog 74 #[.pointer (some ⟨b, 0, none⟩)] w fun e w' => e = .returned (.bool t) ∧ But b w w' ∧ RC W0 b w' s a l := by
  refine (atEnd_any b s a l w h.rat hs h.le).mono ?_
  rintro e w' ⟨rfl, n, rfl⟩
  have hb := (But.refl b w).drewN n
  exact ⟨by rw [ht], hb, h.but hb (h.rat.drewN n) h.le⟩
set_option maxRecDepth 8000 in
set_option maxHeartbeats 1000000 in
theorem name_rc (W0 : World) (hg : Glo5 W0) (b : Nat) (s : ByteArray) (a : Nat) (l : Int) (w : World) (h : RC W0 b w s a l) (hs : s.size ≤ 16777216) (R : Option (List UInt8 × Nat)) (hR : nmV (s.data.toList.drop a) a = R) :
    Calls Tryz.prog 47 #[.pointer (some ⟨b, 0, none⟩)] w (TxR W0 b w s l R) := by
  have HC := hide h
  have HR := hide hR
  have HG := hide hg
  have HS := hide hs
  have HL := hide h.lt
  have CMT := hide must_t
  have CMF := hide must_f
  clear h hR hg hs
  go_enter Tryz.func47, Tryz.ntmps47
  go_wp2_with fail
  go_loopg [3] (s.size - a) (fun g vt wr => ∃ (k : Nat) (acc : List UInt8), Hid (g = s.size - k ∧ Nm (s.data.toList.drop k) k acc R ∧ BRow wr w.heap.size vt acc ∧ But b w wr ∧ RC W0 b wr s k l ∧ acc.length ≤ k ∧ w.heap.size ≤ wr.heap.size))
  case atStart => exact ⟨a, [], hide ⟨rfl, HR.out, BRow.nil _ _, But.refl _ _, HC.out, by simp, Nat.le_refl _⟩⟩
  case round =>
    obtain ⟨k, acc, HK⟩ := hrel
    obtain ⟨kg, hd, hbr, hbut, hrc, hal, hsz⟩ := HK.out
    clear HK HC HR
    have hle := hrc.le
    have hss := HS.out
    cases hev : endV s.data.toList k
    case true =>
      have hRs : R = some (acc, k) := by
        unfold endV at hev
        cases hdr : s.data.toList.drop k with
        | nil => rw [hdr] at hd; unfold Nm at hd; exact hd.symm
        | cons c l' => rw [hdr] at hd hev; exact hd.next.1 hev
      subst hRs
      have CE := hide (atEnd_rc W0 b s k l wr hrc hss true hev)
      have CV := hide (fun w' (h' : BRow w' w.heap.size u3 acc) => BRow.text h')
      have HBU := hide hbut
      have HBR := hide hbr
      clear hd hbr hbut hrc kg hev
      go_wp2_with (go_at_call 74; refine CE.out.mono ?_; rintro e wy ⟨rfl, h1, h2⟩; have H1 := hide h1; have H2 := hide h2; have hcv := CV.out wy (HBR.out.but h1 HL.out); clear h1 h2)
      go_ret
      exact ⟨rfl, HBU.out.trans H1.out, H2.out⟩
    have hlt : k < s.size := by
      rcases Nat.lt_or_ge k s.size with h | h
      · exact h
      · unfold endV at hev; rw [List.drop_eq_nil_of_le (by rw [← Lib.size_eq]; omega)] at hev; cases hev
    have e0 := drop_at s k hlt
    have hen : isEnd s[k].toNat = false := by unfold endV at hev; rw [e0] at hev; exact hev
    rw [e0] at hd
    have hn := hd.next
    have CE := hide (atEnd_rc W0 b s k l wr hrc hss false hev)
    have CN := hide (fun w' (h' : RC W0 b w' s k l) => next_rc W0 b s k l w' h' hss _ (dif_pos hlt))
    unfold ByR at CN
    simp only at CN
    have hkg := hide kg
    generalize s[k] = c at CN hn hen
    have HBU := hide hbut
    by_cases hc : c.toNat = 35
    · have f35 : ((c.toNat : Int) == 35) = true := by rw [hc]; rfl
      have CC := hide (fun w' (h' : RC W0 b w' s (k + 1) l) => coded16_rc W0 HG.out b s (k + 1) l w' h' hss)
      cases hx : hex2 (s.data.toList.drop (k + 1)) with
      | none =>
        have hRn : R = none := by
          unfold hex2 at hx
          match hdr : s.data.toList.drop (k + 1) with
          | [] => exact hn.2.1 hen hc (by rw [hdr]; simp)
          | [d] => exact hn.2.1 hen hc (by rw [hdr]; simp)
          | d :: e :: l' =>
            rw [hdr] at hx
            simp only at hx
            refine hn.2.2.1 hen hc d e l' hdr ?_
            cases hb : (hexB d && hexB e)
            · rfl
            · rw [hb] at hx; cases hx
        subst hRn
        rw [hx] at CC
        unfold ByR at CC
        simp only [Option.map_none] at CC
        clear hd hbr hbut hrc kg e0 hn hc hx hev hen
        go_wp2_with (first
          | (go_at_call 74; refine CE.out.mono ?_; rintro e wy ⟨rfl, h1, h2⟩; have H1 := hide h1; have C1 := hide (CN.out wy h2); clear h1 h2)
          | (go_at_call 72; refine C1.out.mono ?_; rintro e wz ⟨rfl, h3, h4, h5⟩; have H3 := hide h3; have C2 := hide (CC.out wz h4); clear h3 h4 h5)
          | (go_at_call 71; refine C2.out.mono ?_; rintro e wu ⟨rfl, h6⟩))
        exact ⟨rfl, rfl, ((HBU.out.trans H1.out).trans H3.out).trans h6⟩
      | some x =>
        obtain ⟨d, e, l', hdr, hb, hxv⟩ : ∃ d e l', s.data.toList.drop (k + 1) = d :: e :: l' ∧ (hexB d && hexB e) = true ∧ x = (byte2 d e).toNat := by
          unfold hex2 at hx
          match hdr : s.data.toList.drop (k + 1) with
          | [] => rw [hdr] at hx; cases hx
          | [d] => rw [hdr] at hx; cases hx
          | d :: e :: l' =>
            rw [hdr] at hx
            simp only at hx
            cases hb : (hexB d && hexB e)
            · rw [hb] at hx; cases hx
            · rw [hb] at hx; simp only [if_true, Option.some.injEq] at hx; exact ⟨d, e, l', rfl, hb, hx.symm⟩
        have hnx := hn.2.2.2.1 hen hc d e l' hdr hb
        have hk2 : k + 3 ≤ s.size := by
          have := congrArg List.length hdr
          rw [List.length_drop, ← Lib.size_eq, List.length_cons, List.length_cons] at this
          omega
        have hl' : s.data.toList.drop (k + 3) = l' := by
          have := congrArg (List.drop 2) hdr
          rw [List.drop_drop] at this
          simpa using this
        rw [hx] at CC
        unfold ByR at CC
        simp only [Option.map_some] at CC
        subst hxv
        generalize byte2 d e = by2 at CC hnx
        have AP := hide (fun w' (h1 : RC W0 b w' s (k + 1 + 2) l) (h2 : But b wr w') => app_rc (w0 := w) by2 h1 (hbr.but h2 HL.out) (Nat.le_refl _) (Nat.le_trans hsz h2.size) HL.out (hbut.trans h2) (by omega))
        have HN : Hid (Nm (s.data.toList.drop (k + 3)) (k + 3) (acc ++ [by2]) R) := hide (by rw [hl']; exact hnx)
        clear hd hbr hbut hrc kg e0 hn hc hx hnx hdr hb hl' hev hen
        go_wp2_with (first
          | (go_at_call 74; refine CE.out.mono ?_; rintro e wy ⟨rfl, h1, h2⟩; have H1 := hide h1; have C1 := hide (CN.out wy h2); clear h1 h2)
          | (go_at_call 72; refine C1.out.mono ?_; rintro e wz ⟨rfl, h3, h4, h5⟩; have H3 := hide h3; have C2 := hide (CC.out wz h4); clear h3 h4 h5)
          | (go_at_call 71; refine C2.out.mono ?_; rintro e wu ⟨rfl, h6, h7, h8⟩; obtain ⟨v5, w5, q1, q2, q3, q4, q5⟩ := AP.out wu h7 ((H1.out.trans H3.out).trans h6); have Q1 := hide q1; have Q2 := hide q2; have Q3 := hide q3; have Q4 := hide q4; have Q5 := hide q5; clear h6 h7 h8 q1 q2 q3 q4 q5)
          | (at_builtin; refine Lib.wpList_append_run _ rfl _ _ _ _ rfl _ _ rfl rfl _ _ Q1.out ?_))
        go_roundg (s.size - (k + 3))
        case measure => have := hkg.out; omega
        case rel => exact ⟨k + 3, acc ++ [by2], hide ⟨rfl, HN.out, Q2.out, Q4.out, Q3.out, by simp; omega, Q5.out⟩⟩
    · have f35 : ((c.toNat : Int) == 35) = false := by rw [beq_eq_false_iff_ne]; omega
      have CP := hide (fun w => plain_any c.toNat w c.toNat_lt)
      have hpl : isPl c.toNat = !(decide (c.toNat < 33 ∨ 126 < c.toNat)) := by
        have hdl : isDl c.toNat = false := by unfold isEnd at hen; rw [Bool.or_eq_false_iff] at hen; exact hen.2
        unfold isPl
        rw [hdl, decide_eq_true hc]
        by_cases h1 : c.toNat < 33
        · rw [decide_eq_true (Or.inl h1), decide_eq_false (by omega)]; rfl
        · by_cases h2 : 126 < c.toNat
          · rw [decide_eq_true (Or.inr h2), decide_eq_false (p := c.toNat ≤ 126) (by omega)]; cases decide (32 < c.toNat) <;> rfl
          · rw [decide_eq_false (p := c.toNat < 33 ∨ 126 < c.toNat) (by omega), decide_eq_true (by omega), decide_eq_true (by omega)]; rfl
      by_cases hbad : c.toNat < 33 ∨ 126 < c.toNat
      · have hRn := hn.2.2.2.2.1 hen hc hbad
        subst hRn
        rw [hpl, decide_eq_true hbad] at CP
        simp only [Bool.not_true] at CP
        clear hd hbr hbut hrc kg e0 hn hc hev hen hpl hbad
        go_wp2_with (first
          | (go_at_call 74; refine CE.out.mono ?_; rintro e wy ⟨rfl, h1, h2⟩; have H1 := hide h1; have C1 := hide (CN.out wy h2); clear h1 h2)
          | (go_at_call 72; refine C1.out.mono ?_; rintro e wz ⟨rfl, h3, h4, h5⟩; have H3 := hide h3; clear h3 h4 h5)
          | (go_at_call 63; refine (CP.out _).mono ?_; rintro e wu ⟨rfl, rfl⟩)
          | (go_at_call 40; refine (CMF.out _).mono ?_; rintro e wv ⟨rfl, rfl⟩))
        exact ⟨rfl, rfl, (HBU.out.trans H1.out).trans H3.out⟩
      · have hnx := hn.2.2.2.2.2 hen hc hbad
        rw [hpl, decide_eq_false hbad] at CP
        simp only [Bool.not_false] at CP
        have AP := hide (fun w' (h1 : RC W0 b w' s (k + 1) l) (h2 : But b wr w') => app_rc (w0 := w) c h1 (hbr.but h2 HL.out) (Nat.le_refl _) (Nat.le_trans hsz h2.size) HL.out (hbut.trans h2) (by omega))
        have HN := hide hnx
        clear hd hbr hbut hrc kg e0 hn hc hev hen hpl hbad hnx
        go_wp2_with (first
          | (go_at_call 74; refine CE.out.mono ?_; rintro e wy ⟨rfl, h1, h2⟩; have H1 := hide h1; have C1 := hide (CN.out wy h2); clear h1 h2)
          | (go_at_call 72; refine C1.out.mono ?_; rintro e wz ⟨rfl, h3, h4, h5⟩; obtain ⟨v5, w5, q1, q2, q3, q4, q5⟩ := AP.out wz h4 (H1.out.trans h3); have Q1 := hide q1; have Q2 := hide q2; have Q3 := hide q3; have Q4 := hide q4; have Q5 := hide q5; clear h3 h4 h5 q1 q2 q3 q4 q5)
          | (go_at_call 63; refine (CP.out _).mono ?_; rintro e wu ⟨rfl, rfl⟩)
          | (go_at_call 40; refine (CMT.out _).mono ?_; rintro e wv ⟨rfl, rfl⟩)
          | (at_builtin; refine Lib.wpList_append_run _ rfl _ _ _ _ rfl _ _ rfl rfl _ _ Q1.out ?_))
        go_roundg (s.size - (k + 1))
        case measure => have := hkg.out; omega
        case rel => exact ⟨k + 1, acc ++ [c], hide ⟨rfl, HN.out, Q2.out, Q4.out, Q3.out, by simp; omega, Q5.out⟩⟩
end Go.Proofs.YtalmcdbdibpgkaaGreatDoor
/-
  What the landed plainText answers.
-/
namespace Go.Proofs.YtalmcdbdibpgkaaGreatDoor
open Go.RowKit Go.Deep

set_option maxRecDepth 8000 in
set_option maxHeartbeats 1000000 in
theorem plainText_rc (W0 : World) (hg : Glo5 W0) (b : Nat) (s : ByteArray) (a : Nat) (l : Int) (w : World) (h : RC W0 b w s a l) (hs : s.size ≤ 16777216) (R : Option (List UInt8 × Nat)) (hR : quoV (s.data.toList.drop a) a = R) :
    Calls Tryz.prog 46 #[.pointer (some ⟨b, 0, none⟩)] w (TxR W0 b w s l R) := by
  have HC := hide h
  have HR := hide hR
  have HG := hide hg
  have HS := hide hs
  have HL := hide h.lt
  clear h hR hg hs
  go_enter Tryz.func46, Tryz.ntmps46
  go_wp2_with fail
  go_loopg [3, 4] (s.size - a) (fun g vt vo wr => ∃ (k o : Nat) (acc : List UInt8), vo = .int .i64 ((o : Int) + 1) ∧ Hid (g = s.size - k ∧ Qu (s.data.toList.drop k) o k acc R ∧ BRow wr w.heap.size vt acc ∧ But b w wr ∧ RC W0 b wr s k l ∧ acc.length ≤ k ∧ o ≤ k ∧ w.heap.size ≤ wr.heap.size))
  case atStart => exact ⟨a, 0, [], rfl, hide ⟨rfl, HR.out, BRow.nil _ _, But.refl _ _, HC.out, by simp, by omega, Nat.le_refl _⟩⟩
  case round =>
    obtain ⟨k, o, acc, rfl, HK⟩ := hrel
    obtain ⟨kg, hd, hbr, hbut, hrc, hal, hol, hsz⟩ := HK.out
    clear HK HC HR
    have hle := hrc.le
    have hss := HS.out
    have HBU := hide hbut
    have ho0 : (0 : Int) ≤ (o : Int) := by omega
    have ho1 : (o : Int) ≤ 16777216 := by omega
    by_cases hlt : k < s.size
    case neg =>
      have e0 : s.data.toList.drop k = [] := List.drop_eq_nil_of_le (by rw [← Lib.size_eq]; omega)
      rw [e0] at hd
      have hRn : R = none := by unfold Qu at hd; simp only [List.length_nil, qR] at hd; exact hd.symm
      subst hRn
      have C := hide (next_bad b s k l wr hrc.rat hss hlt)
      clear hd hbr hbut hrc kg e0
      go_wp2_with (go_at_call 72; refine C.out.mono ?_; rintro e wy ⟨rfl, h1⟩)
      exact ⟨rfl, rfl, HBU.out.trans h1⟩
    case pos =>
      have e0 := drop_at s k hlt
      rw [e0] at hd
      have hn := hd.next
      have CN := hide (next_rc W0 b s k l wr hrc hss _ (dif_pos hlt))
      unfold ByR at CN
      simp only at CN
      have hkg := hide kg
      generalize s[k] = c at CN hn
      have AP := hide (fun (c : UInt8) (p : Nat) w' (h1 : RC W0 b w' s p l) (h2 : But b wr w') => app_rc (w0 := w) c h1 (hbr.but h2 HL.out) (Nat.le_refl _) (Nat.le_trans hsz h2.size) HL.out (hbut.trans h2) (by omega))
      by_cases h40 : c.toNat = 40
      · have f40 : ((c.toNat : Int) == 40) = true := by rw [h40]; rfl
        have HN := hide (hn.1 h40)
        clear hd hbr hbut hrc kg e0 hn h40
        go_wp2_with (first
          | (go_at_call 72; refine CN.out.mono ?_; rintro e wz ⟨rfl, h3, h4, h5⟩; obtain ⟨v5, w5, q1, q2, q3, q4, q5⟩ := AP.out c _ wz h4 h3; have Q1 := hide q1; have Q2 := hide q2; have Q3 := hide q3; have Q4 := hide q4; have Q5 := hide q5; clear h3 h4 h5 q1 q2 q3 q4 q5)
          | (at_builtin; refine Lib.wpList_append_run _ rfl _ _ _ _ rfl _ _ rfl rfl _ _ Q1.out ?_))
        go_roundg (s.size - (k + 1))
        case measure => have := hkg.out; omega
        case rel => exact ⟨k + 1, o + 1, acc ++ [c], by go_num, hide ⟨rfl, HN.out, Q2.out, Q4.out, Q3.out, by simp; omega, by omega, Q5.out⟩⟩
      have f40 : ((c.toNat : Int) == 40) = false := by rw [beq_eq_false_iff_ne]; omega
      by_cases h41 : c.toNat = 41
      · have f41 : ((c.toNat : Int) == 41) = true := by rw [h41]; rfl
        by_cases hz : o = 0
        · have hRs := hn.2.1 h41 hz
          subst hRs
          subst hz
          have CV := hide (fun w' (h' : BRow w' w.heap.size u3 acc) => BRow.text h')
          have HBR := hide hbr
          clear hd hbr hbut hrc kg e0 hn h40 h41
          go_wp2_with (go_at_call 72; refine CN.out.mono ?_; rintro e wz ⟨rfl, h3, h4, h5⟩; have H3 := hide h3; have H4 := hide h4; have hcv := CV.out wz (HBR.out.but h3 HL.out); clear h3 h4 h5)
          go_ret
          exact ⟨rfl, HBU.out.trans H3.out, H4.out⟩
        · have HN := hide (hn.2.2.1 h41 hz)
          have fz : (((o : Int) + 1 - 1) == 0) = false := by rw [beq_eq_false_iff_ne]; omega
          have fz2 : ((o : Int) == 0) = false := by rw [beq_eq_false_iff_ne]; omega
          clear hd hbr hbut hrc kg e0 hn h40 h41
          go_wp2_with (first
            | (go_at_call 72; refine CN.out.mono ?_; rintro e wz ⟨rfl, h3, h4, h5⟩; obtain ⟨v5, w5, q1, q2, q3, q4, q5⟩ := AP.out c _ wz h4 h3; have Q1 := hide q1; have Q2 := hide q2; have Q3 := hide q3; have Q4 := hide q4; have Q5 := hide q5; clear h3 h4 h5 q1 q2 q3 q4 q5)
            | (at_builtin; refine Lib.wpList_append_run _ rfl _ _ _ _ rfl _ _ rfl rfl _ _ Q1.out ?_))
          go_roundg (s.size - (k + 1))
          case measure => have := hkg.out; omega
          case rel => exact ⟨k + 1, o - 1, acc ++ [c], by congr 1; omega, hide ⟨rfl, HN.out, Q2.out, Q4.out, Q3.out, by simp; omega, by omega, Q5.out⟩⟩
      have f41 : ((c.toNat : Int) == 41) = false := by rw [beq_eq_false_iff_ne]; omega
      by_cases h92 : c.toNat = 92
      · have f92 : ((c.toNat : Int) == 92) = true := by rw [h92]; rfl
        have CE := hide (fun w' (h' : RC W0 b w' s (k + 1) l) => escaped_rc W0 HG.out b s (k + 1) l w' h' hss)
        cases hx : escV (s.data.toList.drop (k + 1)) with
        | none =>
          have hRn := hn.2.2.2.1 h92 hx
          subst hRn
          rw [hx] at CE
          unfold ByR at CE
          simp only [Option.map_none] at CE
          clear hd hbr hbut hrc kg e0 hn h40 h41 h92 hx
          go_wp2_with (first
            | (go_at_call 72; refine CN.out.mono ?_; rintro e wz ⟨rfl, h3, h4, h5⟩; have H3 := hide h3; have C2 := hide (CE.out wz h4); clear h3 h4 h5)
            | (go_at_call 73; refine C2.out.mono ?_; rintro e wu ⟨rfl, h6⟩))
          exact ⟨rfl, rfl, (HBU.out.trans H3.out).trans h6⟩
        | some q =>
          obtain ⟨x, n⟩ := q
          have hnx := hn.2.2.2.2.1 h92 x n hx
          rw [List.drop_drop] at hnx
          rw [hx] at CE
          unfold ByR at CE
          simp only [Option.map_some] at CE
          have HN : Hid (Qu (s.data.toList.drop (k + 1 + n)) o (k + 1 + n) (acc ++ [UInt8.ofNat x]) R) := hide hnx
          clear hd hbr hbut hrc kg e0 hn h40 h41 h92 hx hnx
          go_wp2_with (first
            | (go_at_call 72; refine CN.out.mono ?_; rintro e wz ⟨rfl, h3, h4, h5⟩; have H3 := hide h3; have C2 := hide (CE.out wz h4); clear h3 h4 h5)
            | (go_at_call 73; refine C2.out.mono ?_; rintro e wu ⟨rfl, h6, h7, h8⟩; obtain ⟨v5, w5, q1, q2, q3, q4, q5⟩ := AP.out (UInt8.ofNat x) _ wu h7 (H3.out.trans h6); rw [← ofNat_cell x (by omega)] at q1; have Q1 := hide q1; have Q2 := hide q2; have Q3 := hide q3; have Q4 := hide q4; have Q5 := hide q5; clear h6 h7 h8 q1 q2 q3 q4 q5)
            | (at_builtin; refine Lib.wpList_append_run _ rfl _ _ _ _ rfl _ _ rfl rfl _ _ Q1.out ?_))
          go_roundg (s.size - (k + 1 + n))
          case measure => have := hkg.out; omega
          case rel => exact ⟨k + 1 + n, o, acc ++ [UInt8.ofNat x], rfl, hide ⟨rfl, HN.out, Q2.out, Q4.out, Q3.out, by simp; omega, by omega, Q5.out⟩⟩
      · have f92 : ((c.toNat : Int) == 92) = false := by rw [beq_eq_false_iff_ne]; omega
        have HN := hide (hn.2.2.2.2.2 h40 h41 h92)
        clear hd hbr hbut hrc kg e0 hn h40 h41 h92
        go_wp2_with (first
          | (go_at_call 72; refine CN.out.mono ?_; rintro e wz ⟨rfl, h3, h4, h5⟩; obtain ⟨v5, w5, q1, q2, q3, q4, q5⟩ := AP.out c _ wz h4 h3; have Q1 := hide q1; have Q2 := hide q2; have Q3 := hide q3; have Q4 := hide q4; have Q5 := hide q5; clear h3 h4 h5 q1 q2 q3 q4 q5)
          | (at_builtin; refine Lib.wpList_append_run _ rfl _ _ _ _ rfl _ _ rfl rfl _ _ Q1.out ?_))
        go_roundg (s.size - (k + 1))
        case measure => have := hkg.out; omega
        case rel => exact ⟨k + 1, o, acc ++ [c], rfl, hide ⟨rfl, HN.out, Q2.out, Q4.out, Q3.out, by simp; omega, by omega, Q5.out⟩⟩
end Go.Proofs.YtalmcdbdibpgkaaGreatDoor
