/-
  What the reference's Get (chapter 5) answers.
-/
import Derived.Test.YtcgoklacjniemaaGreatDoorO5Cpy
namespace Go.Proofs.YtcgoklacjniemaaGreatDoor
open Go.RowKit Go.Deep

/- the first of the keys that is the key -/
def kfind (x : ByteArray) : List ByteArray → Option Nat
  | [] => none
  | y :: l => if y.toList == x.toList then some 0 else (kfind x l).map (· + 1)
/- the n-th of a forest -/
def nthF : BT Pay → Nat → Option (Pay × BT Pay)
  | .nil, _ => none
  | .node _ _ p T _, 0 => some (p, T)
  | .node _ _ _ _ N, n + 1 => nthF N n
def getV (p : Pay) (T : BT Pay) (x : ByteArray) : Option (Pay × BT Pay) := if p.kind = 7 then (kfind x p.keys).bind (nthF T) else none
theorem nthF_none : ∀ (T : BT Pay) (n : Nat), flen T ≤ n → nthF T n = none
  | .nil, _, _ => by simp [nthF]
  | .node _ _ _ _ N, 0, h => by simp [flen] at h
  | .node _ _ _ _ N, n + 1, h => by simp only [nthF]; exact nthF_none N n (by simp [flen] at h; omega)
theorem nthF_rows {w : World} : ∀ {T : BT Pay} {b off n : Nat}, n < flen T → Rows w T b off → ∃ p U ka kc ia ic, nthF T n = some (p, U) ∧ Six w b (off + n * 6) p ka kc ia (flen U) ic ∧ OIn w p U ka kc ia ic
  | .nil, _, _, _, h, _ => by simp [flen] at h
  | .node _ _ p T N, b, off, 0, _, hr => by
    obtain ⟨⟨ka, kc, ia, ic, h6, hin⟩, _⟩ := rows_node.1 hr
    exact ⟨p, T, ka, kc, ia, ic, rfl, by simpa using h6, hin⟩
  | .node _ _ p T N, b, off, n + 1, h, hr => by
    obtain ⟨_, hN⟩ := rows_node.1 hr
    obtain ⟨q, U, ka, kc, ia, ic, h1, h2, h3⟩ := nthF_rows (n := n) (by simp [flen] at h; omega) hN
    exact ⟨q, U, ka, kc, ia, ic, h1, by rw [show off + (n + 1) * 6 = off + 6 + n * 6 by omega]; exact h2, h3⟩
theorem kfind_step {x : ByteArray} {l : List ByteArray} {i : Nat} (h : i < l.length) : kfind x (l.drop i) = if (l.getD i ByteArray.empty).toList == x.toList then some 0 else (kfind x (l.drop (i + 1))).map (· + 1) := by
  rw [List.drop_eq_getElem_cons h, kfind, List.getD_eq_getElem?_getD, List.getElem?_eq_getElem h]
  rfl
def zpay : Pay := ⟨0, false, 0, ⟨#[]⟩, []⟩
theorem zin (w : World) : OIn w zpay .nil none 0 none 0 := by
  refine ⟨⟨⟨by simp [zpay], by simp [zpay]⟩, ⟨by simp [zpay], by simp [zpay]⟩, by simp [zpay, ByteArray.size], by simp [zpay]⟩, ⟨Or.inl rfl, ⟨by simp [zpay], by simp [zpay]⟩, by omega⟩, ⟨by simp [flen], by simp [flen]⟩, by omega, Or.inl rfl⟩

/- what Get answers: an object that lies, or none -/
def Got (w : World) (r : Option (Pay × BT Pay)) (e : Ending) : Prop :=
  match r with
  | some (q, U) => ∃ ka kc ia ic, e = .returned (.tuple #[ov q ka kc ia (flen U) ic, .bool true]) ∧ OIn w q U ka kc ia ic
  | none => e = .returned (.tuple #[ov zpay none 0 none 0 0, .bool false])
theorem fin_none {w wr : World} {b : Nat} (h : Below w.heap.size w wr) (hk : Blk wr b zobj 25) (hb : w.heap.size ≤ b) (a : Act) (h4 : a.tmps[4]?.getD undef = .pointer (some ⟨b, 0, none⟩)) (h5 : a.tmps[5]?.getD undef = .bool false) (hd : a.defers = []) :
    bodyPost Tryz.prog Tryz.f17 (fun e w' => Got w' none e ∧ Below w.heap.size w w') Exit.ret a (st6 wr b (.int .i64 0) (.bool false) (.int .i64 0) (.string ⟨#[]⟩) (.slice none 0 0) (.slice none 0 0)) := by
  have hbf := st6_below h hb (.int .i64 0) (.bool false) (.int .i64 0) (.string ⟨#[]⟩) (.slice none 0 0) (.slice none 0 0)
  obtain ⟨⟨f0, f1, f2, f3, f4, f5⟩, _⟩ := (st6_blk hk (.int .i64 0) (.bool false) (.int .i64 0) (.string ⟨#[]⟩) (.slice none 0 0) (.slice none 0 0)).six
  generalize st6 wr b (.int .i64 0) (.bool false) (.int .i64 0) (.string ⟨#[]⟩) (.slice none 0 0) (.slice none 0 0) = wf at hbf f0 f1 f2 f3 f4 f5 ⊢
  refine bodyPost_ret (v := .tuple #[ov zpay none 0 none 0 0, .bool false]) ?_ hd ⟨rfl, hbf⟩
  simp [results, Tryz.results17, go_sem, f0, f1, f2, f3, f4, f5, zpay, h4, h5]
set_option maxRecDepth 8000 in
set_option maxHeartbeats 4000000 in
theorem rget_any (p : Pay) (T : BT Pay) (ka : Option Addr) (kc : Nat) (ia : Option Addr) (ic : Nat) (x : ByteArray) (w : World) (hin : OIn w p T ka kc ia ic) :
    Calls Tryz.prog 17 #[ov p ka kc ia (flen T) ic, .string x] w fun e w' => Got w' (getV p T x) e ∧ Below w.heap.size w w' := by
  have HI := hide hin
  have hl1 : (flen T : Int) ≤ 9223372036854775807 := by have h := hin.2.2.1; have h' := hin.2.2.2.1; omega
  have hl0 : (0 : Int) ≤ (flen T : Int) := by omega
  have hl3 : (p.keys.length : Int) ≤ 9223372036854775807 := by have h := hin.2.1.2.1; have h' := hin.2.1.2.2; omega
  have HB0 := hide (((Below.refl w.heap.size w).alloc (Nat.le_refl _) (.cells (obox p ka kc ia (flen T) ic) 25)).alloc (by simp) (.cells zobj 25))
  clear hin
  by_cases h7 : p.kind = 7
  case neg =>
    have hg : getV p T x = none := by unfold getV; rw [if_neg h7]
    rw [hg]
    have h7' : (p.kind != 7) = true := by simpa using h7
    clear h7 hg
    go_enter Tryz.func17, Tryz.ntmps17
    go_wp2_with fail
    exact bodyPost_ret (v := .tuple #[ov zpay none 0 none 0 0, .bool false]) (by simp [results, Tryz.results17, go_sem, zpay]) rfl ⟨rfl, HB0.out⟩
  have h7' : (p.kind != 7) = false := by simp [h7]
  obtain ⟨R, hR⟩ : ∃ R, getV p T x = R := ⟨_, rfl⟩
  rw [hR]
  have HG := hide (show R = (kfind x p.keys).bind (nthF T) by rw [← hR]; unfold getV; rw [if_pos h7])
  clear h7 hR
  go_enter Tryz.func17, Tryz.ntmps17
  go_wp2_with fail
  have HK0 : Hid (Blk ((w.alloc (.cells (obox p ka kc ia (flen T) ic) 25)).alloc (.cells zobj 25)) w.heap.size (obox p ka kc ia (flen T) ic) 25) := hide ((Blk.new w _ _).below ((Below.refl _ _).alloc (Nat.le_refl _) _))
  have HK1 : Hid (Blk ((w.alloc (.cells (obox p ka kc ia (flen T) ic) 25)).alloc (.cells zobj 25)) (w.heap.size + 1) zobj 25) := hide (by
    have := Blk.new (w.alloc (.cells (obox p ka kc ia (flen T) ic) 25)) zobj 25
    rwa [show (w.alloc (.cells (obox p ka kc ia (flen T) ic) 25)).heap.size = w.heap.size + 1 by simp] at this)
  go_loopw [6] (fun vi wr => ∃ i : Nat, vi = .int .i64 i ∧ Hid (i ≤ p.keys.length ∧ (kfind x p.keys).bind (nthF T) = (kfind x (p.keys.drop i)).bind (fun k => nthF T (k + i)) ∧ Below w.heap.size w wr ∧ Blk wr w.heap.size (obox p ka kc ia (flen T) ic) 25 ∧ Blk wr (w.heap.size + 1) zobj 25)) (fun vi _ => p.keys.length - (intOf vi).toNat)
  case atStart => exact ⟨0, rfl, hide ⟨Nat.zero_le _, by simp, HB0.out, HK0.out, HK1.out⟩⟩
  case round =>
    clear HB0 HK0 HK1
    obtain ⟨i, rfl, HV⟩ := hrel
    obtain ⟨hi, hk, hbel, hk0, hk1⟩ := HV.out
    clear HV
    have HB := hide hbel
    have HK0 := hide hk0
    have HK1 := hide hk1
    have HKK := hide hk
    have s4 : wr.cell? ⟨w.heap.size, 4, none⟩ = some (.slice ka p.keys.length kc) := hk0.cell 4
    have s5 : wr.cell? ⟨w.heap.size, 5, none⟩ = some (.slice ia (flen T) ic) := hk0.cell 5
    obtain ⟨⟨r0, r1, r2, r3, r4, r5⟩, ⟨y0, y1, y2, y3, y4, y5⟩⟩ := hk1.six
    have hi0 : (0 : Int) ≤ (i : Int) := by omega
    by_cases hlt : i < p.keys.length
    case neg =>
      obtain rfl : R = none := by rw [HG.out, hk, List.drop_of_length_le (by omega)]; rfl
      clear hk hbel hi hk0 hk1
      go_wp2_with fail
      exact fin_none HB.out HK1.out (by omega) _ rfl rfl rfl
    case pos =>
      obtain ⟨b, off, rfl, hb, hc⟩ := HI.out.2.1.1.get5 hlt
      have c1 := (hbel.cell (p := ⟨b, off + i, none⟩) hb).trans hc
      have st := kfind_step (x := x) hlt
      generalize p.keys.getD i ByteArray.empty = y at c1 st
      cases hq : (y.toList == x.toList)
      · rw [hq] at st
        have ST := hide st
        clear hc hbel hi hk0 hk1 hk st
        go_wp2_with fail
        go_roundw
        case rel => exact ⟨i + 1, by go_num, hide ⟨by omega, by
            rw [HKK.out, ST.out]
            simp only [Bool.false_eq_true, if_false]
            cases kfind x (p.keys.drop (i + 1)) with
            | none => rfl
            | some k => simp [show k + 1 + i = k + (i + 1) by omega], HB.out, HK0.out, HK1.out⟩⟩
        case measure => simp [intOf]; omega
      · rw [hq, if_pos rfl] at st
        have hg : R = nthF T i := by rw [HG.out, hk, st]; simp
        obtain ⟨bb, of, hia, hrows⟩ := OIn.at_ HI.out
        by_cases hin : i < flen T
        · obtain ⟨q, U, ka2, kc2, ia2, ic2, hn, g6, gin⟩ := nthF_rows hin hrows
          rw [hn] at hg
          subst hg
          obtain rfl | ⟨rfl, hbz⟩ := hia
          · simp [flen] at hin
          obtain ⟨c0, c1, c2, c3, c4, c5⟩ := g6.below hbz hbel
          have HGI := hide gin
          clear hc hbel hi hk0 hk1 hk st hrows gin g6 hn
          go_wp2_with fail
          have hbf := st6_below HB.out (b := w.heap.size + 1) (by omega) (.int .i64 q.kind) (.bool q.flag) (.int .i64 q.num) (.string q.text) (.slice ka2 q.keys.length kc2) (.slice ia2 (flen U) ic2)
          obtain ⟨⟨f0, f1, f2, f3, f4, f5⟩, _⟩ := (st6_blk HK1.out (.int .i64 q.kind) (.bool q.flag) (.int .i64 q.num) (.string q.text) (.slice ka2 q.keys.length kc2) (.slice ia2 (flen U) ic2)).six
          exact bodyPost_ret (v := .tuple #[ov q ka2 kc2 ia2 (flen U) ic2, .bool true]) (by simp only [results, Tryz.results17, go_sem]; simp [go_sem, f0, f1, f2, f3, f4, f5]) rfl ⟨⟨ka2, kc2, ia2, ic2, rfl, HGI.out.below hbf⟩, hbf⟩
        · rw [nthF_none T i (by omega)] at hg
          subst hg
          clear hc hbel hi hk0 hk1 hk st hrows hia
          go_wp2_with fail
          exact fin_none HB.out HK1.out (by omega) _ rfl rfl rfl
end Go.Proofs.YtcgoklacjniemaaGreatDoor
