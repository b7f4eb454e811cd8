/-
  Joined: C11N2, C11Rp, C11Rc.
-/
import Derived.Deep.RegionLaw
import Derived.Lib.AppendZeros
import Derived.Lib.ItoaNum
import Derived.Test.YtpdfpbbamnhkfaaGreatDoorZ10
import Derived.Test.YtpdfpbbamnhkfaaGreatDoorZ13
import Derived.Test.YtpdfpbbamnhkfaaGreatDoorZ14
import Derived.Test.YtpdfpbbamnhkfaaGreatDoorZ17
import Derived.Test.YtpdfpbbamnhkfaaGreatDoorZ19
namespace Go.Proofs.YtpdfpbbamnhkfaaGreatDoor.C11
open Go.RowKit Go.Deep Go.Shelf
set_option linter.unusedVariables false
def zl (cs : List Ch) : List Int := cs.map (·.l)
def zf (cs : List Ch) : List Int := cs.map (·.f)
section
variable {w u : World} {v3 v4 v5 : Value} {z3 z4 z5 : List Int}
end
end Go.Proofs.YtpdfpbbamnhkfaaGreatDoor.C11
namespace Go.Proofs.YtpdfpbbamnhkfaaGreatDoor.C11
open Go.RowKit Go.Deep
set_option linter.unusedVariables false
set_option linter.unusedSimpArgs false
theorem cat11 (a b : ByteArray) (n m : Nat) (ha : a.size = n) (hb : b.size = m) (h : n + m ≤ 1000000) : ∃ P : ByteArray, (∀ w, (Op.stringOp .add a b).run Tryz.prog w = .ok (.string P) w) ∧ P.data.toList = a.data.toList ++ b.data.toList ∧ P.size = n + m :=
  ⟨a ++ b, fun w => run_string_add_sum w a b (by omega), by rw [ByteArray.data_append, Array.toList_append], by rw [ByteArray.size_append, ha, hb]⟩
theorem bs_eq2 {P : ByteArray} {l : List UInt8} (h : P.data.toList = l) : P = ⟨l.toArray⟩ := by
  cases P with | mk d => cases d with | mk t => simp at h; rw [h]
theorem step_append_e2 {P : Program} (w : World) {ops : Array Oper} {o : Oper} {a : Act} {K : Act → World → Prop} {Q : Exit → Act → World → Prop} {E : Prop} (hgd : o.guard = none) (s x : Operand) (t tn : TypeId)
    (ho : o.op = .call { callee := .builtin .append, args := #[s, x], argTypes := #[t, tn] }) (vs vx : Value) (hs : a.eval s = vs) (hx : a.eval x = vx)
    {G : Value → World → Prop} (hr : ∃ v' w', (Builtin.append_ #[t, tn] o.type #[vs, vx]).run P w = .ok v' w' ∧ G v' w') (h : ∀ v' w', G v' w' → K (a.put o.dst v') w') :
    if Region.wanted o (yielded ops a.tmps) = true then Oper.wp P o a w K Q else E := by
  rw [if_pos (by simp [Region.wanted, hgd])]
  obtain ⟨v', w', hr, hG⟩ := hr
  exact Lib.wp_append_run w s x t tn ho vs vx hs hx v' w' hr (h v' w' hG)
theorem take_c (cs : List Ch) (k : Nat) (h : k < cs.length) : cs.take (k + 1) = cs.take k ++ [cs.getD k c0] := by
  rw [List.take_succ_eq_append_getElem h, List.getD_eq_getElem?_getD, List.getElem?_eq_getElem h]; rfl
theorem g3_flat (cs : List Ch) : (cs.flatMap g3).length = 12 * cs.length := by
  induction cs with
  | nil => rfl
  | cons a l ih => rw [List.flatMap_cons, List.length_append, ih, List.length_cons]; show 12 + _ = _; omega
end Go.Proofs.YtpdfpbbamnhkfaaGreatDoor.C11
namespace Go.Proofs.YtpdfpbbamnhkfaaGreatDoor.C11
open Go.RowKit Go.Deep
set_option linter.unusedVariables false
set_option linter.unusedSimpArgs false
theorem rbuild_bad (a : Option Addr) (cs : List Ch) (len cap : Nat) (wd : Bool) (w : World) (hl : cs.length = len) (hm : len ≤ 1073741824) (hL : CLst w a cs) (hg : gooB cs 4096 = false) :
    Calls Tryz.prog 53 #[.slice a len cap, .bool wd] w fun e w' => e = .returned (.tuple #[.string ⟨#[]⟩, .int .i64 110]) ∧ Below w.heap.size w w' := by
  have C := hide (rgood_any a cs len cap 4096 w hl hm ⟨by omega, by omega⟩ hL)
  rw [hg] at C
  clear hg hL hl hm
  go_enter Tryz.func53, Tryz.ntmps53
  go_wp2_with fail
  refine C.out.mono ?_
  rintro e w1 ⟨rfl, h1⟩
  have H1 := hide h1
  clear h1
  go_wp2_with fail
  go_ret2
  exact ⟨rfl, H1.out⟩
set_option maxRecDepth 8000 in
set_option maxHeartbeats 4000000 in
theorem rbuild_wide (a : Option Addr) (cs : List Ch) (len cap : Nat) (w : World) (hl : cs.length = len) (hL : CLst w a cs) (hg : gooB cs 4096 = true) :
    Calls Tryz.prog 53 #[.slice a len cap, .bool true] w fun e w' => e = .returned (.tuple #[.string ⟨(wiT cs).toArray⟩, .int .i64 0]) ∧ Below w.heap.size w w' := by
  have hsm := good_small hg (by omega)
  have hm := hsm.1
  have C := hide (rgood_any a cs len cap 4096 w hl (by omega) ⟨by omega, by omega⟩ hL)
  rw [hg] at C
  obtain ⟨FV, hFV⟩ : ∃ FV : Int → ByteArray, ∀ x, FV x = ⟨(t4 x).toArray⟩ := ⟨_, fun _ => rfl⟩
  have CF : Hid (∀ (x : Int) (w : World), 0 ≤ x → x ≤ 2147483647 → Calls Tryz.prog 106 #[.int .i64 x] w fun e w' => e = .returned (.string (FV x)) ∧ Below w.heap.size w w') := hide (fun x w h0 h1 => by rw [hFV x]; exact rf_any x w (by omega) (by omega))
  obtain ⟨TV, hTV⟩ : ∃ TV : Int → ByteArray, ∀ x, TV x = ⟨(t2 x).toArray⟩ := ⟨_, fun _ => rfl⟩
  have CT : Hid (∀ (x : Int) (w : World), 0 ≤ x → x ≤ 2147483647 → Calls Tryz.prog 107 #[.int .i64 x] w fun e w' => e = .returned (.string (TV x)) ∧ Below w.heap.size w w') := hide (fun x w h0 h1 => by rw [hTV x]; exact rt_any x w (by omega) (by omega))
  have hsz : ∀ x, (FV x).size = 4 := fun x => by rw [hFV x]; rfl
  have hs2 : ∀ x, (TV x).size = 2 := fun x => by rw [hTV x]; rfl
  have HFS := hide (And.intro hFV hsz)
  have HTS := hide (And.intro hTV hs2)
  have HSM := hide hsm
  have HL := hide hl
  have HLS := hide hL
  have hlen : (len : Int) ≤ 4096 := by omega
  clear hsm hl hL hg hFV hTV hsz hs2 hm
  go_enter Tryz.func53, Tryz.ntmps53
  go_wp2_with fail
  refine C.out.mono ?_
  rintro e w1 ⟨rfl, h1⟩
  have H1 := hide h1
  clear h1
  go_wp2_with fail
  go_loopw [6, 7] (fun vb vi wr => ∃ k : Nat, vi = .int .i64 k ∧ Hid (k ≤ len ∧ BRow wr w.heap.size vb ((cs.take k).flatMap g3) ∧ Below w.heap.size w wr)) (fun _ vi _ => len - (intOf vi).toNat)
  case atStart => exact ⟨0, rfl, hide ⟨by omega, BRow.nil _ _, H1.out⟩⟩
  case round =>
    obtain ⟨vb, hvb⟩ : ∃ vb, vb = u6 := ⟨_, rfl⟩
    subst hvb
    obtain ⟨k, rfl, HV⟩ := hrel
    obtain ⟨hk, hR, hbw⟩ := HV.out
    have hk0 : (0 : Int) ≤ (k : Int) := by omega
    have HRW := hide hR
    have HBW := hide hbw
    clear HV
    by_cases hlt : k < len
    · have hlt' : (k : Int) < (len : Int) := by omega
      obtain ⟨b, off, rfl, hbl, hcell⟩ : ∃ b off, a = some ⟨b, off, none⟩ ∧ b < w.heap.size ∧ (∀ x, Below w.heap.size w x → x.cell? ⟨b, off + k * 3, none⟩ = some (.int .i64 (cs.getD k c0).f) ∧ x.cell? ⟨b, off + k * 3 + 1, none⟩ = some (.int .i64 (cs.getD k c0).l) ∧ x.cell? ⟨b, off + k * 3 + 2, none⟩ = some (.int .i64 (cs.getD k c0).g)) := by
        rcases HLS.out with hz | ⟨b, off, h1, h2, h3⟩
        · have := HL.out; rw [hz] at this; simp at this; omega
        · refine ⟨b, off, h1, h2, fun x hx => ?_⟩
          have := h3 k (by have := HL.out; omega)
          rw [hx.cell (p := ⟨b, off + k * 3, none⟩) h2, hx.cell (p := ⟨b, off + k * 3 + 1, none⟩) h2, hx.cell (p := ⟨b, off + k * 3 + 2, none⟩) h2]
          exact this
      obtain ⟨z1, z2, z3, z4, z5⟩ := HSM.out.2 k (by have := HL.out; omega)
      have e3 : (cs.take (k + 1)).flatMap g3 = (cs.take k).flatMap g3 ++ g3 (cs.getD k c0) := by rw [take_c cs k (by have := HL.out; omega)]; simp
      have hbl2 : b < wr.heap.size := Nat.lt_of_lt_of_le hbl hbw.size
      obtain ⟨x, hx⟩ : ∃ x, cs.getD k c0 = x := ⟨_, rfl⟩
      rw [hx] at hcell z1 z2 z3 z4 z5 e3
      obtain ⟨f, la, gl⟩ := x
      simp only at hcell z1 z2 z3 z4 z5
      obtain ⟨G1, r1, x4, s4⟩ := cat11 (FV f) (FV la) 4 4 (HFS.out.2 f) (HFS.out.2 la) (by omega)
      obtain ⟨G2, r2, x5, s5⟩ := cat11 G1 (FV gl) 8 4 s4 (HFS.out.2 gl) (by omega)
      have hx5 : G2.data.toList = g3 ⟨f, la, gl⟩ := by
        rw [x5, x4, HFS.out.1, HFS.out.1, HFS.out.1]
        unfold g3 fo
        simp
      obtain ⟨c1, c2, c3⟩ := hcell wr hbw
      have KS := hide (fun (u : World) (hu : Below wr.heap.size wr u) => show b < u.heap.size ∧ u.cell? ⟨b, off + k * 3, none⟩ = some (.int .i64 f) ∧ u.cell? ⟨b, off + k * 3 + 1, none⟩ = some (.int .i64 la) ∧ u.cell? ⟨b, off + k * 3 + 2, none⟩ = some (.int .i64 gl) from ⟨Nat.lt_of_lt_of_le hbl2 hu.size, hcell u (hbw.trans (hu.mono hbw.size))⟩)
      have HAP : Hid (∀ u, Below wr.heap.size wr u → ∃ v' w', (Builtin.append_ #[128, 9] 128 #[vb, .string G2]).run Tryz.prog u = .ok v' w' ∧ (BRow w' w.heap.size v' ((cs.take (k + 1)).flatMap g3) ∧ Below w.heap.size w w' ∧ (b < w'.heap.size ∧ w'.cell? ⟨b, off + k * 3, none⟩ = some (.int .i64 f) ∧ w'.cell? ⟨b, off + k * 3 + 1, none⟩ = some (.int .i64 la) ∧ w'.cell? ⟨b, off + k * 3 + 2, none⟩ = some (.int .i64 gl)))) := hide (fun u hu => by
        have hBu : Below w.heap.size w u := HBW.out.trans (hu.mono HBW.out.size)
        obtain ⟨v', w', r, hb', hk'⟩ := app_s3 (W := u) (B := w.heap.size) G2 (HRW.out.later hu) hBu.size (by rw [g3_flat, List.length_take, s5]; omega)
        have hBw' := hBu.trans hk'.below
        refine ⟨v', w', r, by rw [e3, ← hx5]; exact hb', hBw', Nat.lt_of_lt_of_le hbl hBw'.size, hcell w' hBw'⟩)
      have HVV := hide (Below.refl wr.heap.size wr)
      clear hcell hR hbw hx5 x4 x5 s4 s5 hx e3
      go_wp2_with fail
      go_region_held3 (fun u => b < u.heap.size ∧ u.cell? ⟨b, off + k * 3, none⟩ = some (.int .i64 f) ∧ u.cell? ⟨b, off + k * 3 + 1, none⟩ = some (.int .i64 la) ∧ u.cell? ⟨b, off + k * 3 + 2, none⟩ = some (.int .i64 gl)) (first | exact HP.out | exact KS.out _ (below_d HVV.out (Below.refl _ _) rfl rfl rfl rfl)) ((first | (go_at_call 106; refine (CF.out _ _ (by omega) (by omega)).mono ?_; rintro e wy ⟨rfl, hy⟩; replace HVV := hide (below_d HVV.out hy rfl rfl rfl rfl); clear hy) | (refine step_append_e2 _ (by rfl) _ _ _ _ (by rfl) _ _ (by rfl) (by rfl) (HAP.out _ (below_d HVV.out (Below.refl _ _) rfl rfl rfl rfl)) ?_; rintro v4 w4 ⟨p1, p2, p3⟩; have HP := hide p3; have HR4 := hide p1; have HB4 := hide p2; clear p1 p2 p3)))
      go_wp2_with fail
      all_goals refine ⟨⟨k + 1, by go_num, hide ⟨by omega, HR4.out, HB4.out⟩⟩, by simp [intOf]; omega⟩
    · have hlt' : ¬ (k : Int) < (len : Int) := by omega
      obtain rfl : k = len := by omega
      rw [List.take_of_length_le (by rw [HL.out]; omega)] at hR
      obtain ⟨va, vc, hvs⟩ := hR.shape
      rw [g3_flat, HL.out] at hvs
      obtain ⟨LB, hLB⟩ : ∃ LB, 12 * k = LB := ⟨_, rfl⟩
      rw [hLB] at hvs
      subst hvs
      obtain ⟨BS, hBS⟩ : ∃ BS : ByteArray, (⟨(cs.flatMap g3).toArray⟩ : ByteArray) = BS := ⟨_, rfl⟩
      have hbs : BS.size = LB := by rw [← hBS, Lib.size_eq, ← hLB]; show (cs.flatMap g3).length = _; rw [g3_flat, HL.out]
      have hbd : BS.data.toList = cs.flatMap g3 := by rw [← hBS]
      have hL1 : LB ≤ 49152 := by omega
      obtain ⟨P1, r1, x1, s1⟩ := cat11 ⟨#[0, 0, 0, 1]⟩ (TV 3) 4 2 rfl (HTS.out.2 _) (by omega)
      obtain ⟨P2, r2, x2, s2⟩ := cat11 P1 (TV 10) 6 2 s1 (HTS.out.2 _) (by omega)
      obtain ⟨P3, r3, x3, s3⟩ := cat11 P2 (FV 12) 8 4 s2 (HFS.out.2 _) (by omega)
      obtain ⟨P4, r4, x4, s4⟩ := cat11 P3 ⟨#[0, 12, 0, 0]⟩ 12 4 s3 rfl (by omega)
      obtain ⟨P5, r5, x5, s5⟩ := cat11 P4 (FV (16 + (LB : Int))) 16 4 s4 (HFS.out.2 _) (by omega)
      obtain ⟨P6, r6, x6, s6⟩ := cat11 P5 (FV 0) 20 4 s5 (HFS.out.2 _) (by omega)
      obtain ⟨P7, r7, x7, s7⟩ := cat11 P6 (FV (k : Int)) 24 4 s6 (HFS.out.2 _) (by omega)
      obtain ⟨P8, r8, x8, s8⟩ := cat11 P7 BS 28 LB s7 hbs (by omega)
      have hT : P8 = ⟨(wiT cs).toArray⟩ := bs_eq2 (by
        rw [x8, x7, x6, x5, x4, x3, x2, x1, hbd, HFS.out.1, HFS.out.1, HFS.out.1, HFS.out.1, HTS.out.1, HTS.out.1]
        unfold wiT opT fo tw
        rw [HL.out, show (16 : Int) + 12 * (k : Int) = 16 + (LB : Int) by omega]
        simp [t4, t2, hiB, loB])
      have HT := hide hT
      have KT := hide (fun (u : World) (hu : Below wr.heap.size wr u) => (show (convert 128 9 (.slice va LB vc)).run Tryz.prog u = .ok (.string BS) u by rw [← hBS]; exact BRow.text (hR.later hu)))
      have HVV := hide (Below.refl wr.heap.size wr)
      have kt0 := KT.out wr (Below.refl _ _)
      have w1 : IntKind.i64.wrap (16 + (LB : Int)) = 16 + (LB : Int) := by rw [IntKind.wrap_i64]; omega
      have hL2 : (LB : Int) ≤ 49152 := by omega
      have hL0 : (0 : Int) ≤ (LB : Int) := by omega
      clear hR hbw hBS hbs hbd x1 x2 x3 x4 x5 x6 x7 x8 s1 s2 s3 s4 s5 s6 s7 s8 hT hLB hlt HRW
      go_wp2_with fail
      go_region_held3 (fun u => (convert 128 9 (.slice va LB vc)).run Tryz.prog u = .ok (.string BS) u) (exact KT.out _ (below_d HVV.out (Below.refl _ _) rfl rfl rfl rfl)) ((first | (go_at_call 107; refine (CT.out _ _ (by omega) (by omega)).mono ?_; rintro e wy ⟨rfl, hy⟩; replace HVV := hide (below_d HVV.out hy rfl rfl rfl rfl); clear hy) | (go_at_call 106; refine (CF.out _ _ (by omega) (by omega)).mono ?_; rintro e wy ⟨rfl, hy⟩; replace HVV := hide (below_d HVV.out hy rfl rfl rfl rfl); clear hy)))
      all_goals
        go_wp2_with fail
        go_ret2
        exact ⟨by rw [← HT.out]; rfl, HBW.out.trans ((below_d HVV.out (Below.refl _ _) rfl rfl rfl rfl).mono HBW.out.size)⟩
end Go.Proofs.YtpdfpbbamnhkfaaGreatDoor.C11
