/-
  What tag of marks answers: whatever panics in it is caught.
-/
import Derived.Test.YtpmdekhjodhdmaaDoorK17H2
import Derived.Test.YtpmdekhjodhdmaaDoorK17R
import Derived.Defers
import Derived.Recover
import Derived.Laws.Pointers
import Derived.BigRegion
namespace Go.Proofs.YtpmdekhjodhdmaaDoor.K17
open Go.RowKit Go.Proofs.YtpmdekhjodhdmaaDoor
open Go.Lib
set_option linter.unusedVariables false
set_option linter.unusedSimpArgs false
set_option maxRecDepth 8000

theorem catch_idle (p q r : Addr) (w : World) :
    CallsD Tryd.prog 56 #[.pointer (some p), .pointer (some q), .pointer (some r)] .returning w fun e u' w' => e = .returned (.tuple #[]) ∧ u' = .returning ∧ w' = w := by
  refine callsD_of_wpS Tryd.func56 rfl fun c₀ cs hu => ?_
  apply wpS_seq
  apply wpS_region
  simp [wpOpsS, go_sem, recoverD, hu, Tryd.ntmps56, Exit.thenS]
  refine wpS_cond (t := false) (by simp [Act.eval, Array.replicate]) ?_
  simp only [Bool.false_eq_true, if_false]
  refine wpS_of_wp (wp_skip ?_)
  cases c₀
  simp_all [bodyPostS, results, Tryd.results56]
abbrev caught (w : World) (B : Nat) : World := ((st5 w B (.int .i64 0) (.string ⟨#[]⟩) (.string ⟨#[]⟩) (.slice none 0 0) (.int .i64 0)).setCell ⟨B + 1, 0, none⟩ (.int .i64 0)).setCell ⟨B + 1 + 1, 0, none⟩ (.bool false)
theorem catch_thrown (B : Nat) (w : World) (x0 x1 x2 x3 x4 y0 z0 : Value) (u : TypeId) (pv : Value) (hk : Blk w B #[x0, x1, x2, x3, x4] 45) (he : Blk w (B + 1) #[y0] 3) (ho : Blk w (B + 1 + 1) #[z0] 4) :
    CallsD Tryd.prog 56 #[.pointer (some ⟨B, 0, none⟩), .pointer (some ⟨B + 1, 0, none⟩), .pointer (some ⟨B + 1 + 1, 0, none⟩)] (.panicking [{ v := .iface u pv, recovered := false }]) w fun e u' w' =>
      e = .returned (.tuple #[]) ∧ u' = .panicking [{ v := .iface u pv, recovered := true }] ∧ w' = caught w B := by
  have r0 := hk.cell 0; have r1 := hk.cell 1; have r2 := hk.cell 2; have r3 := hk.cell 3; have r4 := hk.cell 4
  have q0 := hk.frozen 0; have q1 := hk.frozen 1; have q2 := hk.frozen 2; have q3 := hk.frozen 3; have q4 := hk.frozen 4
  have c1 := he.cell 0
  have f1 := he.frozen 0
  have c2 := ho.cell 0
  have f2 := ho.frozen 0
  simp at r0 r1 r2 r3 r4 c1 c2
  refine callsD_of_wpS Tryd.func56 rfl fun c₀ cs hu => ?_
  apply wpS_seq
  apply wpS_region
  simp [wpOpsS, go_sem, recoverD, hu, Tryd.ntmps56, Exit.thenS]
  refine wpS_cond (t := true) (by simp [Act.eval, Array.replicate]) ?_
  simp only [if_true]
  apply wpS_region
  simp [wpOpsS, go_sem, r0, r1, r2, r3, r4, q0, q1, q2, q3, q4, c1, f1, c2, f2, bodyPostS, results, Tryd.results56]
/- where tag stands: what it answers, and its reader -/
structure TZ (w : World) (cur : World) : Prop where
  t : Blk cur w.heap.size zt 45
  z : Blk cur (w.heap.size + 1) #[.int .i64 0] 3
  o : Blk cur (w.heap.size + 1 + 1) #[.bool false] 4
  be : Below w.heap.size w cur
structure TS (w : World) (cur : World) (l : List UInt8) : Prop extends TZ w cur where
  ra : RA cur (w.heap.size + 1 + 1 + 1) l
  mx : MX cur
theorem TZ.but {w cur cur' : World} (h : TZ w cur) (hb : But (w.heap.size + 1 + 1 + 1) cur cur') : TZ w cur' :=
  ⟨h.t.but hb (by omega), h.z.but hb (by omega), h.o.but hb (by omega), hb.below h.be (by omega) h.be.size⟩
theorem TS.but {w cur cur' : World} {l l' : List UInt8} (h : TS w cur l) (hb : But (w.heap.size + 1 + 1 + 1) cur cur') (hr : RA cur' (w.heap.size + 1 + 1 + 1) l') (hg : lays145_ren.g 1 < w.heap.size) : TS w cur' l' :=
  ⟨h.toTZ.but hb, hr, h.mx.but hb (by omega)⟩
theorem TS.new (w : World) (s : ByteArray) (hm : MX w) : TS w ((((w.alloc (.cells zt 45)).alloc (.cells #[.int .i64 0] 3)).alloc (.cells #[.bool false] 4)).alloc (.cells #[.string s] 96)) s.data.toList := by
  have hal : ∀ (u : World) (o : Obj), Below u.heap.size u (u.alloc o) := fun u o => (Below.refl _ _).alloc (Nat.le_refl _) _
  have e1 : (w.alloc (.cells zt 45)).heap.size = w.heap.size + 1 := by simp
  have e2 : ((w.alloc (.cells zt 45)).alloc (.cells #[.int .i64 0] 3)).heap.size = w.heap.size + 1 + 1 := by simp
  have e3 : (((w.alloc (.cells zt 45)).alloc (.cells #[.int .i64 0] 3)).alloc (.cells #[.bool false] 4)).heap.size = w.heap.size + 1 + 1 + 1 := by simp
  have b0 := Blk.new w zt 45
  have b1 := Blk.new (w.alloc (.cells zt 45)) #[.int .i64 0] 3
  rw [e1] at b1
  have b2 := Blk.new ((w.alloc (.cells zt 45)).alloc (.cells #[.int .i64 0] 3)) #[.bool false] 4
  rw [e2] at b2
  have b3 := Blk.new (((w.alloc (.cells zt 45)).alloc (.cells #[.int .i64 0] 3)).alloc (.cells #[.bool false] 4)) #[.string s] 96
  rw [e3] at b3
  have hbe : Below w.heap.size w ((((w.alloc (.cells zt 45)).alloc (.cells #[.int .i64 0] 3)).alloc (.cells #[.bool false] 4)).alloc (.cells #[.string s] 96)) :=
    ((((Below.refl _ _).alloc (Nat.le_refl _) _).alloc (by rw [e1]; omega) _).alloc (by rw [e2]; omega) _).alloc (by rw [e3]; omega) _
  exact ⟨⟨((b0.below (hal _ _)).below (hal _ _)).below (hal _ _), (b1.below (hal _ _)).below (hal _ _), b2.below (hal _ _), hbe⟩, b3, hm.below hbe⟩
theorem take_ts {w cur : World} {l p : List UInt8} {t : Bool} (S : Hid (TS w cur l)) (ht : hp p l = t) (hg : lays145_ren.g 1 < w.heap.size) :
    Calls Tryd.prog 58 #[.pointer (some ⟨w.heap.size + 1 + 1 + 1, 0, none⟩), .string ⟨p.toArray⟩] cur fun e w' => e = .returned (.bool t) ∧ TS w w' (tp p l) :=
  (take_any _ l p cur S.out.ra).mono fun e w' ⟨h1, h2⟩ => ⟨by rw [h1, ht], by rw [h2]; exact S.out.but (But.setCell _ _ _ _) (S.out.ra.set _) hg⟩
theorem take_tsf {w cur : World} {l p : List UInt8} (S : Hid (TS w cur l)) (ht : hp p l = false) (hg : lays145_ren.g 1 < w.heap.size) :
    Calls Tryd.prog 58 #[.pointer (some ⟨w.heap.size + 1 + 1 + 1, 0, none⟩), .string ⟨p.toArray⟩] cur fun e w' => e = .returned (.bool false) ∧ TS w w' l :=
  (take_ts S ht hg).mono fun e w' ⟨h1, h2⟩ => ⟨h1, by rw [tp_f ht] at h2; exact h2⟩
/- what tag answers -/
def TgR (w : World) (n : Nat) (R : Option (Int × List UInt8 × List At × List UInt8)) (e : Ending) (w' : World) : Prop := match R with
  | none => e = .returned (.tuple #[.agg zt, .int .i64 0, .bool false]) ∧ Below w.heap.size w w'
  | some (k, x, ps, r) => ∃ v, e = .returned (.tuple #[tkv k ⟨x.toArray⟩ ⟨#[]⟩ v 0, .int .i64 ((n - r.length : Nat) : Int), .bool true]) ∧ ARow w' w.heap.size v ps ∧ Below w.heap.size w w'
theorem caught_cells {w cur : World} (h : TZ w cur) : Below w.heap.size w (caught cur w.heap.size) ∧
    (caught cur w.heap.size).cell? ⟨w.heap.size, 0, none⟩ = some (.int .i64 0) ∧ (caught cur w.heap.size).cell? ⟨w.heap.size, 1, none⟩ = some (.string ⟨#[]⟩) ∧ (caught cur w.heap.size).cell? ⟨w.heap.size, 2, none⟩ = some (.string ⟨#[]⟩) ∧ (caught cur w.heap.size).cell? ⟨w.heap.size, 3, none⟩ = some (.slice none 0 0) ∧ (caught cur w.heap.size).cell? ⟨w.heap.size, 4, none⟩ = some (.int .i64 0) ∧
    (caught cur w.heap.size).cell? ⟨w.heap.size + 1, 0, none⟩ = some (.int .i64 0) ∧ (caught cur w.heap.size).cell? ⟨w.heap.size + 1 + 1, 0, none⟩ = some (.bool false) := by
  have S : Hid (TZ w cur) := hide h
  have FB := hide (((((((S.out.be.setCell (p := ⟨w.heap.size, 0, none⟩) (by simp <;> omega) (.int .i64 0)).setCell (p := ⟨w.heap.size, 1, none⟩) (by simp <;> omega) (.string ⟨#[]⟩)).setCell (p := ⟨w.heap.size, 2, none⟩) (by simp <;> omega) (.string ⟨#[]⟩)).setCell (p := ⟨w.heap.size, 3, none⟩) (by simp <;> omega) (.slice none 0 0)).setCell (p := ⟨w.heap.size, 4, none⟩) (by simp <;> omega) (.int .i64 0)).setCell (p := ⟨w.heap.size + 1, 0, none⟩) (by simp <;> omega) (.int .i64 0)).setCell (p := ⟨w.heap.size + 1 + 1, 0, none⟩) (by simp <;> omega) (.bool false))
  have F0 := hide (((set5 S.out.t (.int .i64 0) (.string ⟨#[]⟩) (.string ⟨#[]⟩) (.slice none 0 0) (.int .i64 0)).other (b' := w.heap.size + 1) (by omega) 0 (.int .i64 0)).other (b' := w.heap.size + 1 + 1) (by omega) 0 (.bool false))
  have F1 := hide (((((((S.out.z.other (b' := w.heap.size) (by omega) 0 (.int .i64 0)).other (b' := w.heap.size) (by omega) 1 (.string ⟨#[]⟩)).other (b' := w.heap.size) (by omega) 2 (.string ⟨#[]⟩)).other (b' := w.heap.size) (by omega) 3 (.slice none 0 0)).other (b' := w.heap.size) (by omega) 4 (.int .i64 0)).set 0 (.int .i64 0)).other (b' := w.heap.size + 1 + 1) (by omega) 0 (.bool false))
  have F2 := hide (((((((S.out.o.other (b' := w.heap.size) (by omega) 0 (.int .i64 0)).other (b' := w.heap.size) (by omega) 1 (.string ⟨#[]⟩)).other (b' := w.heap.size) (by omega) 2 (.string ⟨#[]⟩)).other (b' := w.heap.size) (by omega) 3 (.slice none 0 0)).other (b' := w.heap.size) (by omega) 4 (.int .i64 0)).other (b' := w.heap.size + 1) (by omega) 0 (.int .i64 0)).set 0 (.bool false))
  refine ⟨FB.out, ?_, ?_, ?_, ?_, ?_, ?_, ?_⟩
  · simpa using F0.out.cell 0
  · simpa using F0.out.cell 1
  · simpa using F0.out.cell 2
  · simpa using F0.out.cell 3
  · simpa using F0.out.cell 4
  · simpa using F1.out.cell 0
  · simpa using F2.out.cell 0
theorem closing_no {w cur : World} {l : List UInt8} (S : Hid (TS w cur l)) (hl : l.length ≤ 1048576) (hc : clo l = none) :
    Calls Tryd.prog 59 #[.pointer (some ⟨w.heap.size + 1 + 1 + 1, 0, none⟩)] cur fun e w' => e = thrown ∧ TZ w w' := by
  have C := closing_any _ l cur S.out.ra hl
  rw [hc] at C
  exact C.mono fun e w' ⟨h1, h2⟩ => ⟨h1, S.out.toTZ.but h2⟩
theorem closing_yes {w cur : World} {l x r : List UInt8} (S : Hid (TS w cur l)) (hg : lays145_ren.g 1 < w.heap.size) (hl : l.length ≤ 1048576) (hc : clo l = some (x, r)) :
    Calls Tryd.prog 59 #[.pointer (some ⟨w.heap.size + 1 + 1 + 1, 0, none⟩)] cur fun e w' => e = .returned (tkv 2 ⟨x.toArray⟩ ⟨#[]⟩ (.slice none 0 0) 0) ∧ TS w w' r := by
  have C := closing_any _ l cur S.out.ra hl
  rw [hc] at C
  exact C.mono fun e w' ⟨h1, h2, h3⟩ => ⟨h1, S.out.but h3 h2 hg⟩
theorem opening_no {w cur : World} {l : List UInt8} (S : Hid (TS w cur l)) (hg : lays145_ren.g 1 < w.heap.size) (hl : l.length ≤ 1048576) (hv : Vt l) (hc : op l = none) :
    Calls Tryd.prog 60 #[.pointer (some ⟨w.heap.size + 1 + 1 + 1, 0, none⟩)] cur fun e w' => e = thrown ∧ TZ w w' := by
  have C := opening_any _ l cur S.out.ra S.out.mx hl hv (by omega)
  rw [hc] at C
  exact C.mono fun e w' ⟨h1, h2⟩ => ⟨h1, S.out.toTZ.but h2⟩
theorem ARow.lower {w : World} {B B' : Nat} {v : Value} {ps : List At} (h : ARow w B v ps) (hB : B' ≤ B) : ARow w B' v ps := by
  obtain ⟨h1, h2 | ⟨g, cap, cur, hv, hg, hh, hr⟩⟩ := h
  · exact ⟨h1, Or.inl h2⟩
  · exact ⟨h1, Or.inr ⟨g, cap, cur, hv, Nat.le_trans hB hg, hh, hr⟩⟩
theorem opening_yes {w cur : World} {l x r : List UInt8} {k : Int} {ps : List At} (S : Hid (TS w cur l)) (hg : lays145_ren.g 1 < w.heap.size) (hl : l.length ≤ 1048576) (hv : Vt l) (hc : op l = some (k, x, ps, r)) :
    Calls Tryd.prog 60 #[.pointer (some ⟨w.heap.size + 1 + 1 + 1, 0, none⟩)] cur fun e w' => ∃ v, e = .returned (tkv k ⟨x.toArray⟩ ⟨#[]⟩ v 0) ∧ ARow w' w.heap.size v ps ∧ TS w w' r := by
  have C := opening_any _ l cur S.out.ra S.out.mx hl hv (by omega)
  rw [hc] at C
  exact C.mono fun e w' ⟨v, h1, h2, h3, h4⟩ => ⟨v, h1, h2.lower S.out.be.size, S.out.but h4 h3 hg⟩
theorem Blk.other5 {w : World} {b c : Nat} {cs : Array Value} {t : TypeId} (h : Blk w b cs t) (hbw : b ≠ c) (v0 v1 v2 v3 v4 : Value) : Blk (st5 w c v0 v1 v2 v3 v4) b cs t := ((((h.other hbw 0 _).other hbw 1 _).other hbw 2 _).other hbw 3 _).other hbw 4 _
theorem below5 {B c : Nat} {w w' : World} (h : Below B w w') (hc : B ≤ c) (v0 v1 v2 v3 v4 : Value) : Below B w (st5 w' c v0 v1 v2 v3 v4) :=
  ((((h.setCell (p := ⟨c, 0, none⟩) hc v0).setCell (p := ⟨c, 1, none⟩) hc v1).setCell (p := ⟨c, 2, none⟩) hc v2).setCell (p := ⟨c, 3, none⟩) hc v3).setCell (p := ⟨c, 4, none⟩) hc v4
/- where tag stands once it knows what it answers -/
structure TF (w cur : World) (k : Int) (x : ByteArray) (v : Value) (ps : List At) : Prop where
  t : Blk cur w.heap.size #[.int .i64 k, .string x, .string ⟨#[]⟩, v, .int .i64 0] 45
  z : ∃ n, Blk cur (w.heap.size + 1) #[.int .i64 n] 3
  o : ∃ b, Blk cur (w.heap.size + 1 + 1) #[.bool b] 4
  be : Below w.heap.size w cur
  ro : ARow cur w.heap.size v ps
theorem TF.st {w cur : World} {k : Int} {x : ByteArray} {v : Value} {ps : List At} {x0 x1 x2 x3 x4 : Value} (h0 : Blk cur w.heap.size #[x0, x1, x2, x3, x4] 45) (hz : ∃ n, Blk cur (w.heap.size + 1) #[.int .i64 n] 3) (ho : ∃ b, Blk cur (w.heap.size + 1 + 1) #[.bool b] 4) (hb : Below w.heap.size w cur) (hr : ARow cur w.heap.size v ps) :
    TF w (st5 cur w.heap.size (.int .i64 k) (.string x) (.string ⟨#[]⟩) v (.int .i64 0)) k x v ps := by
  obtain ⟨n, hz⟩ := hz
  obtain ⟨b, ho⟩ := ho
  exact ⟨set5 h0 _ _ _ _ _, ⟨n, hz.other5 (by omega) _ _ _ _ _⟩, ⟨b, ho.other5 (by omega) _ _ _ _ _⟩, below5 hb (Nat.le_refl _) _ _ _ _ _, hr.set5 h0 _ _ _ _ _⟩
theorem TF.end' {w cur : World} {k : Int} {x : ByteArray} {v : Value} {ps : List At} (h : TF w cur k x v ps) (n : Int) :
    Below w.heap.size w (((st5 cur w.heap.size (.int .i64 k) (.string x) (.string ⟨#[]⟩) v (.int .i64 0)).setCell ⟨w.heap.size + 1, 0, none⟩ (.int .i64 n)).setCell ⟨w.heap.size + 1 + 1, 0, none⟩ (.bool true)).drew ∧
    ARow (((st5 cur w.heap.size (.int .i64 k) (.string x) (.string ⟨#[]⟩) v (.int .i64 0)).setCell ⟨w.heap.size + 1, 0, none⟩ (.int .i64 n)).setCell ⟨w.heap.size + 1 + 1, 0, none⟩ (.bool true)).drew w.heap.size v ps ∧
    Blk (((st5 cur w.heap.size (.int .i64 k) (.string x) (.string ⟨#[]⟩) v (.int .i64 0)).setCell ⟨w.heap.size + 1, 0, none⟩ (.int .i64 n)).setCell ⟨w.heap.size + 1 + 1, 0, none⟩ (.bool true)).drew w.heap.size #[.int .i64 k, .string x, .string ⟨#[]⟩, v, .int .i64 0] 45 ∧
    Blk (((st5 cur w.heap.size (.int .i64 k) (.string x) (.string ⟨#[]⟩) v (.int .i64 0)).setCell ⟨w.heap.size + 1, 0, none⟩ (.int .i64 n)).setCell ⟨w.heap.size + 1 + 1, 0, none⟩ (.bool true)).drew (w.heap.size + 1) #[.int .i64 n] 3 ∧
    Blk (((st5 cur w.heap.size (.int .i64 k) (.string x) (.string ⟨#[]⟩) v (.int .i64 0)).setCell ⟨w.heap.size + 1, 0, none⟩ (.int .i64 n)).setCell ⟨w.heap.size + 1 + 1, 0, none⟩ (.bool true)).drew (w.heap.size + 1 + 1) #[.bool true] 4 := by
  have f := TF.st (k := k) (x := x) h.t h.z h.o h.be h.ro
  generalize st5 cur w.heap.size (.int .i64 k) (.string x) (.string ⟨#[]⟩) v (.int .i64 0) = u at f ⊢
  obtain ⟨a, z⟩ := f.z
  obtain ⟨b, o⟩ := f.o
  have z2 := z.set 0 (.int .i64 n)
  have o2 := o.other (b' := w.heap.size + 1) (by omega) 0 (.int .i64 n)
  exact ⟨((f.be.setCell (p := ⟨w.heap.size + 1, 0, none⟩) (by simp) (.int .i64 n)).setCell (p := ⟨w.heap.size + 1 + 1, 0, none⟩) (by simp <;> omega) (.bool true)).drew, (f.ro.set z (by decide) 0 (.int .i64 n)).set o2 (by decide) 0 (.bool true), (f.t.other (by omega) 0 _).other (by omega) 0 _, z2.other (by omega) 0 _, o2.set 0 (.bool true)⟩
set_option maxHeartbeats 4000000 in
theorem tag_any (s : ByteArray) (w : World) (hm : MX w) (hs : s.size ≤ 1048576) (hv : Vt s.data.toList) :
    Calls Tryd.prog 40 #[.string s] w (TgR w s.size (tagV s.data.toList)) := by
  have hmf : ∀ (fn : Fn) (first cap : Array Value) (w : World), (Instr.makeFunc fn first cap).run Tryd.prog w = .ok (.func fn first cap) w := fun _ _ _ _ => rfl
  have hgl : lays145_ren.g 1 < w.heap.size := by obtain ⟨m, hm⟩ := hm; exact cell_lt' hm
  have hl : s.data.toList.length = s.size := size_l s
  have hs' : (s.size : Int) ≤ 1048576 := by omega
  have S0 := hide (TS.new w s hm)
  have HG := hide hgl
  obtain ⟨V, hV⟩ : ∃ V, ((((w.alloc (.cells zt 45)).alloc (.cells #[.int .i64 0] 3)).alloc (.cells #[.bool false] 4)).alloc (.cells #[.string s] 96)) = V := ⟨_, rfl⟩
  rw [hV] at S0
  have hsuf := fun k x ps r => tagV_suf (l := s.data.toList) (k := k) (x := x) (qs := ps) (r := r)
  have hlen := fun k x ps r => tagV_len (l := s.data.toList) (k := k) (x := x) (qs := ps) (r := r)
  unfold tagV at *
  generalize hL : s.data.toList = l at *
  have HL := hide hl
  have HV := hide hv
  cases h60 : hp [60] l
  · rw [if_neg (by simp)]
    have H60 := hide h60
    clear hm hgl hv h60 hL hsuf hlen
    go_enter_defers Tryd.func40, Tryd.ntmps40
    go_wp2_with (first
      | (go_at_call 58; refine (take_tsf S0 (p := [60]) H60.out HG.out).mono ?_; rintro e w3 ⟨rfl, h2⟩; have S := hide h2; clear h2)
      | (go_at_call 57; refine (must_f _).mono ?_; rintro e w4 ⟨rfl, h2⟩; subst h2; have SZ := S.out.toTZ))
    refine leaves_cons (f := 56) (args := #[.pointer (some ⟨w.heap.size, 0, none⟩), .pointer (some ⟨w.heap.size + 1, 0, none⟩), .pointer (some ⟨w.heap.size + 1 + 1, 0, none⟩)]) (by simp) (by simp [go_sem]) ?_
    refine (catch_thrown w.heap.size _ _ _ _ _ _ _ _ _ _ S.out.t S.out.z S.out.o).mono ?_
    rintro e u' w'' ⟨rfl, rfl, hw⟩
    obtain ⟨FB, f0, f1, f2, f3, f4, g0, g1⟩ := caught_cells SZ
    rw [← hw] at FB f0 f1 f2 f3 f4 g0 g1
    show Leaves _ _ _ _ [] (settle (.panicking [{ v := .iface 24 (.int .i64 170), recovered := true }])) w''
    rw [show settle (.panicking [{ v := .iface 24 (.int .i64 170), recovered := true }]) = .returning from rfl]
    refine ⟨.tuple #[.agg zt, .int .i64 0, .bool false], ?_, rfl, FB⟩
    simp [results, Tryd.results40, go_sem, f0, f1, f2, f3, f4, g0, g1]
  · rw [if_pos rfl]
    have H60 := hide h60
    have hv1 := vt_tp1 (by decide) hv h60
    have hl1 := tp_len [60] l
    cases h47 : hp [47] (tp [60] l)
    · rw [if_neg (by simp)]
      have H47 := hide h47
      have HLQ := hide (show (tp [60] l).length ≤ 1048576 by omega)
      have HVQ := hide hv1
      cases hc : op (tp [60] l) with
      | none =>
        have HC := hide hc
        clear hm hgl hv h60 hL hsuf hlen hv1 hl1 h47 hc
        go_enter_defers Tryd.func40, Tryd.ntmps40
        go_wp2_with (first
          | (go_at_call 58; refine (take_ts S0 (p := [60]) H60.out HG.out).mono ?_; rintro e w3 ⟨rfl, h2⟩; have S1 := hide h2; clear h2 S0)
          | (go_at_call 58; refine (take_tsf S1 (p := [47]) H47.out HG.out).mono ?_; rintro e w3 ⟨rfl, h2⟩; have S2 := hide h2; clear h2 S1)
          | (go_at_call 57; refine (must_t _).mono ?_; rintro e w4 ⟨rfl, h2⟩; subst h2)
          | (go_at_call 60; refine (opening_no S2 HG.out HLQ.out HVQ.out HC.out).mono ?_; rintro e w4 ⟨rfl, SZ⟩; have S := hide SZ))
        refine leaves_cons (f := 56) (args := #[.pointer (some ⟨w.heap.size, 0, none⟩), .pointer (some ⟨w.heap.size + 1, 0, none⟩), .pointer (some ⟨w.heap.size + 1 + 1, 0, none⟩)]) (by simp) (by simp [go_sem]) ?_
        refine (catch_thrown w.heap.size _ _ _ _ _ _ _ _ _ _ S.out.t S.out.z S.out.o).mono ?_
        rintro e u' w'' ⟨rfl, rfl, hw⟩
        obtain ⟨FB, f0, f1, f2, f3, f4, g0, g1⟩ := caught_cells SZ
        rw [← hw] at FB f0 f1 f2 f3 f4 g0 g1
        show Leaves _ _ _ _ [] (settle (.panicking [{ v := .iface 24 (.int .i64 170), recovered := true }])) w''
        rw [show settle (.panicking [{ v := .iface 24 (.int .i64 170), recovered := true }]) = .returning from rfl]
        refine ⟨.tuple #[.agg zt, .int .i64 0, .bool false], ?_, rfl, FB⟩
        simp [results, Tryd.results40, go_sem, f0, f1, f2, f3, f4, g0, g1]
      | some p =>
        obtain ⟨k, x, ps, r⟩ := p
        have HC := hide hc
        have hrl : r.length < l.length := by have := (op_len hc).1; omega
        obtain ⟨Q, hQ⟩ : ∃ Q : ByteArray, (⟨r.toArray⟩ : ByteArray) = Q := ⟨_, rfl⟩
        have hQs : Q.size = r.length := by rw [← hQ, size_m]
        have HQ := hide hQ
        obtain ⟨M, hM⟩ : ∃ M : Nat, s.size - r.length = M := ⟨_, rfl⟩
        have hsub : (s.size : Int) - (r.length : Int) = (M : Int) := by omega
        have HM := hide hM
        clear hm hgl hv h60 hL hsuf hlen hv1 hl1 h47 hc hQ hM
        go_enter_defers Tryd.func40, Tryd.ntmps40
        go_wp2_with (first
          | (go_at_call 58; refine (take_ts S0 (p := [60]) H60.out HG.out).mono ?_; rintro e w3 ⟨rfl, h2⟩; have S1 := hide h2; clear h2 S0)
          | (go_at_call 58; refine (take_tsf S1 (p := [47]) H47.out HG.out).mono ?_; rintro e w3 ⟨rfl, h2⟩; have S2 := hide h2; clear h2 S1)
          | (go_at_call 57; refine (must_t _).mono ?_; rintro e w4 ⟨rfl, h2⟩; subst h2)
          | (go_at_call 60; refine (opening_yes S2 HG.out HLQ.out HVQ.out HC.out).mono ?_; rintro e w4 ⟨av, rfl, hrow, h2⟩; obtain ⟨aa, ac, rfl, _⟩ := hrow.lst; have S := hide h2; have HROW := hide hrow; have r0 := S.out.t.cell 0; have r1 := S.out.t.cell 1; have r2 := S.out.t.cell 2; have r3 := S.out.t.cell 3; have r4 := S.out.t.cell 4; simp at r0 r1 r2 r3 r4; have q0 := S.out.t.frozen 0; have q1 := S.out.t.frozen 1; have q2 := S.out.t.frozen 2; have q3 := S.out.t.frozen 3; have q4 := S.out.t.frozen 4; have z0 := S.out.z.cell 0; have o0 := S.out.o.cell 0; simp at z0 o0; have z1 := S.out.z.frozen 0; have o1 := S.out.o.frozen 0; have e0 := S.out.ra.c0; rw [HQ.out] at e0; clear h2 hrow))
        have F := hide (TF.st (k := k) (x := ⟨x.toArray⟩) S.out.t ⟨_, S.out.z⟩ ⟨_, S.out.o⟩ S.out.be HROW.out)
        have hr2 := S.out.ra.other5 (c := w.heap.size) (by omega) (.int .i64 k) (.string ⟨x.toArray⟩) (.string ⟨#[]⟩) (.slice aa ps.length ac) (.int .i64 0)
        clear r0 r1 r2 r3 r4 q0 q1 q2 q3 q4 z0 o0 z1 o1 e0
        unfold st5 at F hr2
        generalize ((((w4.setCell ⟨w.heap.size, 0, none⟩ (.int .i64 k)).setCell ⟨w.heap.size, 1, none⟩ (.string ⟨x.toArray⟩)).setCell ⟨w.heap.size, 2, none⟩ (.string ⟨#[]⟩)).setCell ⟨w.heap.size, 3, none⟩ (.slice aa ps.length ac)).setCell ⟨w.heap.size, 4, none⟩ (.int .i64 0) = w5 at F hr2 ⊢
        have e0 := hr2.c0
        rw [HQ.out] at e0
        have r0 := F.out.t.cell 0; have r1 := F.out.t.cell 1; have r2 := F.out.t.cell 2; have r3 := F.out.t.cell 3; have r4 := F.out.t.cell 4
        simp at r0 r1 r2 r3 r4
        have q0 := F.out.t.frozen 0; have q1 := F.out.t.frozen 1; have q2 := F.out.t.frozen 2; have q3 := F.out.t.frozen 3; have q4 := F.out.t.frozen 4
        obtain ⟨zn, hz⟩ := F.out.z
        obtain ⟨ob, ho⟩ := F.out.o
        have z0 := hz.cell 0; have o0 := ho.cell 0
        simp at z0 o0
        have z1 := hz.frozen 0; have o1 := ho.frozen 0
        clear hr2 hz ho
        go_region
        obtain ⟨FB, FR, F0, F1, F2⟩ := F.out.end' (M : Int)
        unfold st5 at FB FR F0 F1 F2
        generalize ((((((((w5.setCell ⟨w.heap.size, 0, none⟩ (.int .i64 k)).setCell ⟨w.heap.size, 1, none⟩ (.string ⟨x.toArray⟩)).setCell ⟨w.heap.size, 2, none⟩ (.string ⟨#[]⟩)).setCell ⟨w.heap.size, 3, none⟩ (.slice aa ps.length ac)).setCell ⟨w.heap.size, 4, none⟩ (.int .i64 0)).setCell ⟨w.heap.size + 1, 0, none⟩ (.int .i64 (M : Int))).setCell ⟨w.heap.size + 1 + 1, 0, none⟩ (.bool true)).drew) = wf at FB FR F0 F1 F2 ⊢
        clear r0 r1 r2 r3 r4 q0 q1 q2 q3 q4 z0 o0 z1 o1 e0
        go_wp2_with fail
        refine leaves_cons (f := 56) (args := #[.pointer (some ⟨w.heap.size, 0, none⟩), .pointer (some ⟨w.heap.size + 1, 0, none⟩), .pointer (some ⟨w.heap.size + 1 + 1, 0, none⟩)]) (by simp) (by simp [go_sem]) ?_
        refine (catch_idle _ _ _ _).mono ?_
        rintro e u' w'' ⟨rfl, rfl, hw⟩
        subst w''
        have f0 := F0.cell 0; have f1 := F0.cell 1; have f2 := F0.cell 2; have f3 := F0.cell 3; have f4 := F0.cell 4; have g0 := F1.cell 0; have g1 := F2.cell 0
        simp at f0 f1 f2 f3 f4 g0 g1
        refine ⟨.tuple #[tkv k ⟨x.toArray⟩ ⟨#[]⟩ (.slice aa ps.length ac) 0, .int .i64 (M : Int), .bool true], ?_, ⟨_, by rw [HM.out], FR, FB⟩⟩
        simp [results, Tryd.results40, go_sem, f0, f1, f2, f3, f4, g0, g1]
    · rw [if_pos rfl]
      have H47 := hide h47
      have hl2 := tp_len [47] (tp [60] l)
      have HLQ := hide (show (tp [47] (tp [60] l)).length ≤ 1048576 by omega)
      cases hc : clo (tp [47] (tp [60] l)) with
      | none =>
        have HC := hide hc
        clear hm hgl hv h60 hL hsuf hlen hv1 hl1 h47 hc hl2
        go_enter_defers Tryd.func40, Tryd.ntmps40
        go_wp2_with (first
          | (go_at_call 58; refine (take_ts S0 (p := [60]) H60.out HG.out).mono ?_; rintro e w3 ⟨rfl, h2⟩; have S1 := hide h2; clear h2 S0)
          | (go_at_call 58; refine (take_ts S1 (p := [47]) H47.out HG.out).mono ?_; rintro e w3 ⟨rfl, h2⟩; have S2 := hide h2; clear h2 S1)
          | (go_at_call 57; refine (must_t _).mono ?_; rintro e w4 ⟨rfl, h2⟩; subst h2)
          | (go_at_call 59; refine (closing_no S2 HLQ.out HC.out).mono ?_; rintro e w4 ⟨rfl, SZ⟩; have S := hide SZ))
        refine leaves_cons (f := 56) (args := #[.pointer (some ⟨w.heap.size, 0, none⟩), .pointer (some ⟨w.heap.size + 1, 0, none⟩), .pointer (some ⟨w.heap.size + 1 + 1, 0, none⟩)]) (by simp) (by simp [go_sem]) ?_
        refine (catch_thrown w.heap.size _ _ _ _ _ _ _ _ _ _ S.out.t S.out.z S.out.o).mono ?_
        rintro e u' w'' ⟨rfl, rfl, hw⟩
        obtain ⟨FB, f0, f1, f2, f3, f4, g0, g1⟩ := caught_cells SZ
        rw [← hw] at FB f0 f1 f2 f3 f4 g0 g1
        show Leaves _ _ _ _ [] (settle (.panicking [{ v := .iface 24 (.int .i64 170), recovered := true }])) w''
        rw [show settle (.panicking [{ v := .iface 24 (.int .i64 170), recovered := true }]) = .returning from rfl]
        refine ⟨.tuple #[.agg zt, .int .i64 0, .bool false], ?_, rfl, FB⟩
        simp [results, Tryd.results40, go_sem, f0, f1, f2, f3, f4, g0, g1]
      | some p =>
        obtain ⟨x, r⟩ := p
        have HC := hide hc
        have hrl : r.length < l.length := by have := (clo_len hc).1; omega
        obtain ⟨Q, hQ⟩ : ∃ Q : ByteArray, (⟨r.toArray⟩ : ByteArray) = Q := ⟨_, rfl⟩
        have hQs : Q.size = r.length := by rw [← hQ, size_m]
        have HQ := hide hQ
        obtain ⟨M, hM⟩ : ∃ M : Nat, s.size - r.length = M := ⟨_, rfl⟩
        have hsub : (s.size : Int) - (r.length : Int) = (M : Int) := by omega
        have HM := hide hM
        clear hm hgl hv h60 hL hsuf hlen hv1 hl1 h47 hc hl2 hQ hM
        go_enter_defers Tryd.func40, Tryd.ntmps40
        go_wp2_with (first
          | (go_at_call 58; refine (take_ts S0 (p := [60]) H60.out HG.out).mono ?_; rintro e w3 ⟨rfl, h2⟩; have S1 := hide h2; clear h2 S0)
          | (go_at_call 58; refine (take_ts S1 (p := [47]) H47.out HG.out).mono ?_; rintro e w3 ⟨rfl, h2⟩; have S2 := hide h2; clear h2 S1)
          | (go_at_call 57; refine (must_t _).mono ?_; rintro e w4 ⟨rfl, h2⟩; subst h2)
          | (go_at_call 59; refine (closing_yes S2 HG.out HLQ.out HC.out).mono ?_; rintro e w4 ⟨rfl, h2⟩; have S := hide h2; have r0 := S.out.t.cell 0; have r1 := S.out.t.cell 1; have r2 := S.out.t.cell 2; have r3 := S.out.t.cell 3; have r4 := S.out.t.cell 4; simp at r0 r1 r2 r3 r4; have q0 := S.out.t.frozen 0; have q1 := S.out.t.frozen 1; have q2 := S.out.t.frozen 2; have q3 := S.out.t.frozen 3; have q4 := S.out.t.frozen 4; have z0 := S.out.z.cell 0; have o0 := S.out.o.cell 0; simp at z0 o0; have z1 := S.out.z.frozen 0; have o1 := S.out.o.frozen 0; have e0 := S.out.ra.c0; rw [HQ.out] at e0; clear h2))
        have F := hide (TF.st (k := 2) (x := ⟨x.toArray⟩) S.out.t ⟨_, S.out.z⟩ ⟨_, S.out.o⟩ S.out.be (ARow.nil w4 w.heap.size))
        have hr2 := S.out.ra.other5 (c := w.heap.size) (by omega) (.int .i64 2) (.string ⟨x.toArray⟩) (.string ⟨#[]⟩) (.slice none 0 0) (.int .i64 0)
        clear r0 r1 r2 r3 r4 q0 q1 q2 q3 q4 z0 o0 z1 o1 e0
        unfold st5 at F hr2
        generalize ((((w4.setCell ⟨w.heap.size, 0, none⟩ (.int .i64 2)).setCell ⟨w.heap.size, 1, none⟩ (.string ⟨x.toArray⟩)).setCell ⟨w.heap.size, 2, none⟩ (.string ⟨#[]⟩)).setCell ⟨w.heap.size, 3, none⟩ (.slice none 0 0)).setCell ⟨w.heap.size, 4, none⟩ (.int .i64 0) = w5 at F hr2 ⊢
        have e0 := hr2.c0
        rw [HQ.out] at e0
        have r0 := F.out.t.cell 0; have r1 := F.out.t.cell 1; have r2 := F.out.t.cell 2; have r3 := F.out.t.cell 3; have r4 := F.out.t.cell 4
        simp at r0 r1 r2 r3 r4
        have q0 := F.out.t.frozen 0; have q1 := F.out.t.frozen 1; have q2 := F.out.t.frozen 2; have q3 := F.out.t.frozen 3; have q4 := F.out.t.frozen 4
        obtain ⟨zn, hz⟩ := F.out.z
        obtain ⟨ob, ho⟩ := F.out.o
        have z0 := hz.cell 0; have o0 := ho.cell 0
        simp at z0 o0
        have z1 := hz.frozen 0; have o1 := ho.frozen 0
        clear hr2 hz ho
        go_region
        obtain ⟨FB, FR, F0, F1, F2⟩ := F.out.end' (M : Int)
        unfold st5 at FB FR F0 F1 F2
        generalize ((((((((w5.setCell ⟨w.heap.size, 0, none⟩ (.int .i64 2)).setCell ⟨w.heap.size, 1, none⟩ (.string ⟨x.toArray⟩)).setCell ⟨w.heap.size, 2, none⟩ (.string ⟨#[]⟩)).setCell ⟨w.heap.size, 3, none⟩ (.slice none 0 0)).setCell ⟨w.heap.size, 4, none⟩ (.int .i64 0)).setCell ⟨w.heap.size + 1, 0, none⟩ (.int .i64 (M : Int))).setCell ⟨w.heap.size + 1 + 1, 0, none⟩ (.bool true)).drew) = wf at FB FR F0 F1 F2 ⊢
        clear r0 r1 r2 r3 r4 q0 q1 q2 q3 q4 z0 o0 z1 o1 e0
        go_wp2_with fail
        refine leaves_cons (f := 56) (args := #[.pointer (some ⟨w.heap.size, 0, none⟩), .pointer (some ⟨w.heap.size + 1, 0, none⟩), .pointer (some ⟨w.heap.size + 1 + 1, 0, none⟩)]) (by simp) (by simp [go_sem]) ?_
        refine (catch_idle _ _ _ _).mono ?_
        rintro e u' w'' ⟨rfl, rfl, hw⟩
        subst w''
        have f0 := F0.cell 0; have f1 := F0.cell 1; have f2 := F0.cell 2; have f3 := F0.cell 3; have f4 := F0.cell 4; have g0 := F1.cell 0; have g1 := F2.cell 0
        simp at f0 f1 f2 f3 f4 g0 g1
        refine ⟨.tuple #[tkv 2 ⟨x.toArray⟩ ⟨#[]⟩ (.slice none 0 0) 0, .int .i64 (M : Int), .bool true], ?_, ⟨_, by rw [HM.out], FR, FB⟩⟩
        simp [results, Tryd.results40, go_sem, f0, f1, f2, f3, f4, g0, g1]
end Go.Proofs.YtpmdekhjodhdmaaDoor.K17
