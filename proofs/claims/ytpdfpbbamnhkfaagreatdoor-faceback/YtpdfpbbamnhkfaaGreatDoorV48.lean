/-
  Joined: F12L, F12M, F12N, F12O, F12P.
-/
import Derived.Deep.AppendSrc
import Derived.Test.YtpdfpbbamnhkfaaGreatDoorV44
import Derived.Test.YtpdfpbbamnhkfaaGreatDoorV47
namespace Go.Proofs.YtpdfpbbamnhkfaaGreatDoor.F12
open Go.RowKit Go.Deep
set_option linter.unusedVariables false
set_option linter.unusedSimpArgs false
def ldV (s : ByteArray) : Except Int (Mt × List ByteArray × List C11.Ch) :=
  if S8.errV s.data.toList = 0 then
    match rdO (S8.tabV s) with
    | none => .error 90
    | some m => match ouV (S8.tabV s) m.ad.length m.lg with
      | none => .error 100
      | some gs => match chV (S8.tabV s) m.ad.length with
        | none => .error 110
        | some cs => if ckV m gs cs = 0 then .ok (m, gs, cs) else .error (ckV m gs cs)
  else .error (S8.errV s.data.toList)
def LdR (w : World) (s : ByteArray) (e : Ending) (w' : World) : Prop := Below w.heap.size w w' ∧ match ldV s with
  | .error er => er ≠ 0 ∧ e = .returned (.tuple #[.agg zf, .int .i64 er])
  | .ok (m, gs, cs) => ∃ p q g ca cc k, m.ad.length = k ∧ m.be.length = k ∧ (1 ≤ k ∧ k ≤ 4096) ∧ gs.length = k ∧ cs.length ≤ 4096 ∧ ckV m gs cs = 0 ∧ e = .returned (.tuple #[.agg (fcs m (.slice (some ⟨p, 0, none⟩) k k) (.slice (some ⟨q, 0, none⟩) k k) (.slice (some ⟨g, 0, none⟩) k k) (.slice ca cs.length cc)), .int .i64 0]) ∧ Lst w' (some ⟨p, 0, none⟩) m.ad ∧ Lst w' (some ⟨q, 0, none⟩) m.be ∧ G10.SLst w' (some ⟨g, 0, none⟩) gs ∧ C11.CLst w' ca cs
theorem ou_size {l : List Tab} {k : Nat} {lg : Bool} {gs : List ByteArray} (hd : ∀ x ∈ l, x.2.size ≤ 1000000) (h : ouV l k lg = some gs) : gs.length = k ∧ ∀ g ∈ gs, g.size ≤ 1000000 := by
  unfold ouV at h
  split at h
  · rename_i A B hA hB
    split at h
    · injection h with h
      subst h
      refine ⟨by simp [G10.splV], fun g hg => ?_⟩
      unfold G10.splV at hg
      obtain ⟨i, _, rfl⟩ := List.mem_map.1 hg
      obtain ⟨x, hx, rfl⟩ := fin_mem hB
      have := hd x hx
      unfold G10.splG
      rw [ByteArray.size_extract]
      omega
    · cases h
  · cases h
theorem slst_but {w w' : World} {L : Nat} {cs : Array Value} {t : TypeId} {a : Option Addr} {l : List ByteArray} (h : G10.SLst w a l) (hb : But L w w') (hk : Blk w L cs t) (hj : ∀ (j : Nat) (x : ByteArray), cs[j]? ≠ some (Value.string x)) : G10.SLst w' a l := by
  rcases h with h | ⟨b, o, h1, h2, h3⟩
  · exact Or.inl h
  · refine Or.inr ⟨b, o, h1, Nat.lt_of_lt_of_le h2 hb.size, fun i hi => ?_⟩
    have hne : b ≠ L := by
      intro e
      subst e
      have := h3 i hi
      rw [hk.cell] at this
      exact hj _ _ this
    rw [World.cell?_of_block (w := w) (hb.block b h2 hne)]
    exact h3 i hi
theorem clst_but {w w' : World} {L : Nat} {a : Option Addr} {l : List C11.Ch} (h : C11.CLst w a l) (hb : But L w w') (hne : l = [] ∨ ∃ b, a = some ⟨b, 0, none⟩ ∧ b ≠ L) : C11.CLst w' a l := by
  rcases h with h | ⟨b, o, h1, h2, h3⟩
  · exact Or.inl h
  · rcases hne with hn | ⟨b', h4, h5⟩
    · exact Or.inl hn
    · rw [h1] at h4
      injection h4 with h4
      injection h4 with h6 h7
      subst h6
      exact Or.inr ⟨b, o, h1, Nat.lt_of_lt_of_le h2 hb.size, fun i hi => by
        have key : ∀ k, w'.cell? ⟨b, k, none⟩ = w.cell? ⟨b, k, none⟩ := fun k => World.cell?_of_block (w := w) (a := ⟨b, k, none⟩) (hb.block b h2 h5)
        rw [key, key, key]
        exact h3 i hi⟩
theorem nos {j : Nat} {x : ByteArray} : zf[j]? ≠ some (Value.string x) := by
  intro h
  match j, h with
  | 0, h => simp at h
  | 1, h => simp at h
  | 2, h => simp at h
  | 3, h => simp at h
  | 4, h => simp at h
  | 5, h => simp at h
  | 6, h => simp at h
  | 7, h => simp at h
  | 8, h => simp at h
  | 9, h => simp at h
  | 10, h => simp at h
  | 11, h => simp at h
  | 12, h => simp at h
  | j + 13, h => simp at h
structure St (w : World) (F E L X G : Nat) (W : World) : Prop where
  kF : Blk W F zf 29
  kE : Blk W E #[.int .i64 0] 33
  kX : Blk W X #[.pointer (some ⟨L, 0, none⟩)] 71
  kG : Blk W G #[.func (.func 73) #[.pointer (some ⟨L, 0, none⟩)] #[], .func (.func 74) #[.pointer (some ⟨L, 0, none⟩)] #[], .func (.func 75) #[.pointer (some ⟨L, 0, none⟩)] #[], .func (.func 76) #[.pointer (some ⟨L, 0, none⟩)] #[], .func (.func 77) #[.pointer (some ⟨L, 0, none⟩)] #[]] 1
  bl : Below w.heap.size w W
  n1 : w.heap.size ≤ F
  n2 : w.heap.size ≤ E
  n3 : w.heap.size ≤ L
  e1 : F ≠ L
  e2 : E ≠ L
  e3 : X ≠ L
  e4 : G ≠ L
  e5 : E ≠ F
theorem St.but {w W W' : World} {F E L X G : Nat} (h : St w F E L X G W) (hb : But L W W') : St w F E L X G W' :=
  ⟨hb.blk h.kF h.e1, hb.blk h.kE h.e2, hb.blk h.kX h.e3, hb.blk h.kG h.e4, hb.below h.bl h.n3, h.n1, h.n2, h.n3, h.e1, h.e2, h.e3, h.e4, h.e5⟩
theorem ld_begin (s : ByteArray) (w : World) : ∃ V, V = ((((w.alloc (.cells zf 29)).alloc (.cells #[.int .i64 0] 33)).alloc (.cells (lcs s vn zM vn vn vn vn 0) 74)).alloc (.cells #[.pointer (some ⟨w.heap.size + 1 + 1, 0, none⟩)] 71)).alloc (.cells #[.func (.func 73) #[.pointer (some ⟨w.heap.size + 1 + 1, 0, none⟩)] #[], .func (.func 74) #[.pointer (some ⟨w.heap.size + 1 + 1, 0, none⟩)] #[], .func (.func 75) #[.pointer (some ⟨w.heap.size + 1 + 1, 0, none⟩)] #[], .func (.func 76) #[.pointer (some ⟨w.heap.size + 1 + 1, 0, none⟩)] #[], .func (.func 77) #[.pointer (some ⟨w.heap.size + 1 + 1, 0, none⟩)] #[]] 1) ∧ St w w.heap.size (w.heap.size + 1) (w.heap.size + 1 + 1) (w.heap.size + 1 + 1 + 1) (w.heap.size + 1 + 1 + 1 + 1) V ∧ LB V (w.heap.size + 1 + 1) s vn zM vn vn vn vn 0 := by
  have hal : ∀ (u : World) (o : Obj), Below u.heap.size u (u.alloc o) := fun u o => (Below.refl _ _).alloc (Nat.le_refl _) _
  have sz : ∀ (u : World) (o : Obj), (u.alloc o).heap.size = u.heap.size + 1 := fun u o => by simp
  have k1 := Blk.new w zf 29
  have b1 := hal w (.cells zf 29)
  have z1 := sz w (.cells zf 29)
  generalize w.alloc (.cells zf 29) = W1 at *
  have k2 := Blk.new W1 #[.int .i64 0] 33
  have b2 := hal W1 (.cells #[.int .i64 0] 33)
  have z2 := sz W1 (.cells #[.int .i64 0] 33)
  rw [z1] at k2 z2
  generalize W1.alloc (.cells #[.int .i64 0] 33) = W2 at *
  have k3 := Blk.new W2 (lcs s vn zM vn vn vn vn 0) 74
  have b3 := hal W2 (.cells (lcs s vn zM vn vn vn vn 0) 74)
  have z3 := sz W2 (.cells (lcs s vn zM vn vn vn vn 0) 74)
  rw [z2] at k3 z3
  generalize W2.alloc (.cells (lcs s vn zM vn vn vn vn 0) 74) = W3 at *
  have k4 := Blk.new W3 #[.pointer (some ⟨w.heap.size + 1 + 1, 0, none⟩)] 71
  have b4 := hal W3 (.cells #[.pointer (some ⟨w.heap.size + 1 + 1, 0, none⟩)] 71)
  have z4 := sz W3 (.cells #[.pointer (some ⟨w.heap.size + 1 + 1, 0, none⟩)] 71)
  rw [z3] at k4 z4
  generalize W3.alloc (.cells #[.pointer (some ⟨w.heap.size + 1 + 1, 0, none⟩)] 71) = W4 at *
  have k5 := Blk.new W4 #[.func (.func 73) #[.pointer (some ⟨w.heap.size + 1 + 1, 0, none⟩)] #[], .func (.func 74) #[.pointer (some ⟨w.heap.size + 1 + 1, 0, none⟩)] #[], .func (.func 75) #[.pointer (some ⟨w.heap.size + 1 + 1, 0, none⟩)] #[], .func (.func 76) #[.pointer (some ⟨w.heap.size + 1 + 1, 0, none⟩)] #[], .func (.func 77) #[.pointer (some ⟨w.heap.size + 1 + 1, 0, none⟩)] #[]] 1
  have b5 := hal W4 (.cells #[.func (.func 73) #[.pointer (some ⟨w.heap.size + 1 + 1, 0, none⟩)] #[], .func (.func 74) #[.pointer (some ⟨w.heap.size + 1 + 1, 0, none⟩)] #[], .func (.func 75) #[.pointer (some ⟨w.heap.size + 1 + 1, 0, none⟩)] #[], .func (.func 76) #[.pointer (some ⟨w.heap.size + 1 + 1, 0, none⟩)] #[], .func (.func 77) #[.pointer (some ⟨w.heap.size + 1 + 1, 0, none⟩)] #[]] 1)
  rw [z4] at k5
  refine ⟨_, rfl, ⟨(((k1.below b2).below b3).below b4).below b5, ((k2.below b3).below b4).below b5, k4.below b5, k5, below_t5 (below_t5 (below_t5 (below_t5 b1 b2) b3) b4) b5, by omega, by omega, by omega, by omega, by omega, by omega, by omega, by omega⟩, (k3.below b4).below b5⟩
set_option maxRecDepth 8000 in
set_option maxHeartbeats 16000000 in
theorem load_any (s : ByteArray) (w : World) (hs : s.size ≤ 1000000) (hG : S8.Glo8 w) : Calls Tryz.prog 15 #[.string s] w (LdR w s) := by
  have hmf : ∀ (fn : Fn) (first cap : Array Value) (w : World), (Instr.makeFunc fn first cap).run Tryz.prog w = .ok (.func fn first cap) w := fun _ _ _ _ => rfl
  obtain ⟨V, hV, hS0, hL0⟩ := ld_begin s w
  have hlen := S8.tabV_len s
  have HD := hide (fun (x : Tab) (hx : x ∈ S8.tabV s) => show x.2.size ≤ 1000000 by have := S8.tabV_bd s x hx; omega)
  have HR : Hid (∀ (e : Ending) (w' : World), (Below w.heap.size w w' ∧ match ldV s with
      | .error er => er ≠ 0 ∧ e = .returned (.tuple #[.agg zf, .int .i64 er])
      | .ok (m, gs, cs) => ∃ p q g ca cc k, m.ad.length = k ∧ m.be.length = k ∧ (1 ≤ k ∧ k ≤ 4096) ∧ gs.length = k ∧ cs.length ≤ 4096 ∧ ckV m gs cs = 0 ∧ e = .returned (.tuple #[.agg (fcs m (.slice (some ⟨p, 0, none⟩) k k) (.slice (some ⟨q, 0, none⟩) k k) (.slice (some ⟨g, 0, none⟩) k k) (.slice ca cs.length cc)), .int .i64 0]) ∧ Lst w' (some ⟨p, 0, none⟩) m.ad ∧ Lst w' (some ⟨q, 0, none⟩) m.be ∧ G10.SLst w' (some ⟨g, 0, none⟩) gs ∧ C11.CLst w' ca cs) → LdR w s e w') := hide fun e w' h => h
  have HG := hide hG
  have HSZ := hide hs
  have HLEN := hide hlen
  clear hs hG hlen
  simp only [lcs, zM] at hV
  go_enter_defers Tryz.func15, Tryz.ntmps15
  go_wp2_with fail
  refine (steps_any _ _).mono ?_
  rintro e w1 ⟨rfl, rfl⟩
  go_wp2_with fail
  rw [← hV]
  clear hV
  obtain ⟨G, hg⟩ : ∃ g, w.heap.size + 1 + 1 + 1 + 1 = g := ⟨_, rfl⟩
  rw [hg] at hS0 ⊢
  obtain ⟨X, hx⟩ : ∃ g, w.heap.size + 1 + 1 + 1 = g := ⟨_, rfl⟩
  rw [hx] at hS0 ⊢
  obtain ⟨L, hl⟩ : ∃ g, w.heap.size + 1 + 1 = g := ⟨_, rfl⟩
  rw [hl] at hS0 hL0 ⊢
  obtain ⟨E, he⟩ : ∃ g, w.heap.size + 1 = g := ⟨_, rfl⟩
  rw [he] at hS0 ⊢
  obtain ⟨F, hf⟩ : ∃ F, F = w.heap.size := ⟨_, rfl⟩
  have HS0 : Hid (St w F E L X G V) := hide (by rw [hf]; exact hS0)
  rw [← hf]
  have HL0 := hide hL0
  clear hg hx hl he hf hS0 hL0
  refine wp_loop_rounds 6 ?_
  rw [rounds_succ]
  have t := HS0.out.kG.cell 0
  have glt := HS0.out.kG.lt
  simp at t
  go_wp2_with fail
  clear t glt
  refine (directory_any L s none 0 0 zM vn vn vn vn 0 V HL0.out HSZ.out (HG.out.below HS0.out.bl)).mono ?_
  rintro e w1 ⟨hbt, hc⟩
  have HST := hide (HS0.out.but hbt)
  clear hbt HS0 HL0
  rcases hc with ⟨hE, rfl, a, n, c, hn, hlb, hT⟩ | ⟨hE, rfl, hlb⟩
  case inr =>
    have HLB := hide hlb
    have hev : ldV s = .error (S8.errV s.data.toList) := by unfold ldV; rw [if_neg hE]
    generalize S8.errV s.data.toList = er at hE HLB hev ⊢
    clear hlb
    have hst := store13 HST.out.kF (.int .i64 0) (.int .i64 0) (.int .i64 0) (.int .i64 0) (.int .i64 0) (.int .i64 0) (.int .i64 0) (.int .i64 0) (.bool false) (.slice none 0 0) (.slice none 0 0) (.slice none 0 0) (.slice none 0 0)
    have kF2 := hst.1.other (b' := E) (Ne.symm HST.out.e5) 0 (.int .i64 er)
    have kE2 := Blk.set (hst.2.blk HST.out.kE HST.out.e5) 0 (.int .i64 er)
    have hFB := (hst.2.below HST.out.bl HST.out.n1).setCell (p := ⟨E, 0, none⟩) HST.out.n2 (.int .i64 er)
    have c15 := Blk.cell HLB.out 15
    simp [lcs] at c15
    refine leaves_cons (f := 40) (args := #[.pointer (some ⟨X, 0, none⟩), .pointer (some ⟨F, 0, none⟩), .pointer (some ⟨E, 0, none⟩)]) (by simp) (by simp [go_sem]) ?_
    refine (catch_thrown F E X L w1 er _ _ _ HST.out.kF HST.out.kE HST.out.kX c15 (LB.lt HLB.out) HST.out.e5).mono ?_
    rintro e u' w'' ⟨rfl, rfl, rfl⟩
    generalize (((((((((((((w1.setCell ⟨F, 0, none⟩ (.int .i64 0)).setCell ⟨F, 1, none⟩ (.int .i64 0)).setCell ⟨F, 2, none⟩ (.int .i64 0)).setCell ⟨F, 3, none⟩ (.int .i64 0)).setCell ⟨F, 4, none⟩ (.int .i64 0)).setCell ⟨F, 5, none⟩ (.int .i64 0)).setCell ⟨F, 6, none⟩ (.int .i64 0)).setCell ⟨F, 7, none⟩ (.int .i64 0)).setCell ⟨F, 8, none⟩ (.bool false)).setCell ⟨F, 9, none⟩ (.slice none 0 0)).setCell ⟨F, 10, none⟩ (.slice none 0 0)).setCell ⟨F, 11, none⟩ (.slice none 0 0)).setCell ⟨F, 12, none⟩ (.slice none 0 0)).setCell ⟨E, 0, none⟩ (.int .i64 er) = wf at kF2 kE2 hFB ⊢
    have q0 := kF2.cell 0
    have q1 := kF2.cell 1
    have q2 := kF2.cell 2
    have q3 := kF2.cell 3
    have q4 := kF2.cell 4
    have q5 := kF2.cell 5
    have q6 := kF2.cell 6
    have q7 := kF2.cell 7
    have q8 := kF2.cell 8
    have q9 := kF2.cell 9
    have q10 := kF2.cell 10
    have q11 := kF2.cell 11
    have q12 := kF2.cell 12
    have q13 := kE2.cell 0
    simp at q0 q1 q2 q3 q4 q5 q6 q7 q8 q9 q10 q11 q12 q13
    show Leaves _ _ _ _ [] (settle (.panicking [{ v := .iface 33 (.int .i64 er), recovered := true }])) wf
    rw [show settle (.panicking [{ v := .iface 33 (.int .i64 er), recovered := true }]) = .returning from rfl]
    refine ⟨.tuple #[.agg zf, .int .i64 er], ?_, HR.out _ _ ⟨hFB, by rw [hev]; exact ⟨hE, rfl⟩⟩⟩
    simp [results, Tryz.results15, go_sem, q0, q1, q2, q3, q4, q5, q6, q7, q8, q9, q10, q11, q12, q13]
  have HS1 := HST
  have HLB1 := hide hlb
  have HT1 := hide hT
  have HN := hide hn
  have HM : Hid (n ≤ 1000) := hide (by have := HLEN.out; omega)
  have HE1 : Hid (ldV s = match rdO (S8.tabV s) with
    | none => .error 90
    | some m => match ouV (S8.tabV s) m.ad.length m.lg with
      | none => .error 100
      | some gs => match chV (S8.tabV s) m.ad.length with
        | none => .error 110
        | some cs => if ckV m gs cs = 0 then .ok (m, gs, cs) else .error (ckV m gs cs)) := hide (by unfold ldV; rw [if_pos hE])
  generalize S8.tabV s = l at HD HN HT1 HE1
  clear HST hE hlb hT hn HLEN
  go_wp2_with fail
  rw [rounds_succ]
  have t := HS1.out.kG.cell 1
  have glt := HS1.out.kG.lt
  simp at t
  go_wp2_with fail
  clear t glt
  refine (metrics_any L s a l n c w1 HLB1.out HN.out HM.out HD.out HT1.out).mono ?_
  rintro e w2 ⟨hbt, hc⟩
  have FLT := hide (And.intro HS1.out.kF.lt HS1.out.kE.lt)
  have HST := hide (HS1.out.but hbt)
  clear hbt HS1 HLB1 HT1
  cases hr : rdO l with
  | none =>
    rw [hr] at hc
    obtain ⟨rfl, hlb⟩ := hc
    have HLB := hide hlb
    have hev : ldV s = .error 90 := by rw [HE1.out, hr]
    clear hlb HE1 hr
    have hst := store13 HST.out.kF (.int .i64 0) (.int .i64 0) (.int .i64 0) (.int .i64 0) (.int .i64 0) (.int .i64 0) (.int .i64 0) (.int .i64 0) (.bool false) (.slice none 0 0) (.slice none 0 0) (.slice none 0 0) (.slice none 0 0)
    have kF2 := hst.1.other (b' := E) (Ne.symm HST.out.e5) 0 (.int .i64 90)
    have kE2 := Blk.set (hst.2.blk HST.out.kE HST.out.e5) 0 (.int .i64 90)
    have hFB := (hst.2.below HST.out.bl HST.out.n1).setCell (p := ⟨E, 0, none⟩) HST.out.n2 (.int .i64 90)
    have c15 := Blk.cell HLB.out 15
    simp [lcs] at c15
    refine leaves_cons (f := 40) (args := #[.pointer (some ⟨X, 0, none⟩), .pointer (some ⟨F, 0, none⟩), .pointer (some ⟨E, 0, none⟩)]) (by simp) (by simp [go_sem]) ?_
    refine (catch_thrown F E X L w2 90 _ _ _ HST.out.kF HST.out.kE HST.out.kX c15 (LB.lt HLB.out) HST.out.e5).mono ?_
    rintro e u' w'' ⟨rfl, rfl, rfl⟩
    generalize (((((((((((((w2.setCell ⟨F, 0, none⟩ (.int .i64 0)).setCell ⟨F, 1, none⟩ (.int .i64 0)).setCell ⟨F, 2, none⟩ (.int .i64 0)).setCell ⟨F, 3, none⟩ (.int .i64 0)).setCell ⟨F, 4, none⟩ (.int .i64 0)).setCell ⟨F, 5, none⟩ (.int .i64 0)).setCell ⟨F, 6, none⟩ (.int .i64 0)).setCell ⟨F, 7, none⟩ (.int .i64 0)).setCell ⟨F, 8, none⟩ (.bool false)).setCell ⟨F, 9, none⟩ (.slice none 0 0)).setCell ⟨F, 10, none⟩ (.slice none 0 0)).setCell ⟨F, 11, none⟩ (.slice none 0 0)).setCell ⟨F, 12, none⟩ (.slice none 0 0)).setCell ⟨E, 0, none⟩ (.int .i64 90) = wf at kF2 kE2 hFB ⊢
    have q0 := kF2.cell 0
    have q1 := kF2.cell 1
    have q2 := kF2.cell 2
    have q3 := kF2.cell 3
    have q4 := kF2.cell 4
    have q5 := kF2.cell 5
    have q6 := kF2.cell 6
    have q7 := kF2.cell 7
    have q8 := kF2.cell 8
    have q9 := kF2.cell 9
    have q10 := kF2.cell 10
    have q11 := kF2.cell 11
    have q12 := kF2.cell 12
    have q13 := kE2.cell 0
    simp at q0 q1 q2 q3 q4 q5 q6 q7 q8 q9 q10 q11 q12 q13
    show Leaves _ _ _ _ [] (settle (.panicking [{ v := .iface 33 (.int .i64 90), recovered := true }])) wf
    rw [show settle (.panicking [{ v := .iface 33 (.int .i64 90), recovered := true }]) = .returning from rfl]
    refine ⟨.tuple #[.agg zf, .int .i64 90], ?_, HR.out _ _ ⟨hFB, by rw [hev]; exact ⟨by omega, rfl⟩⟩⟩
    simp [results, Tryz.results15, go_sem, q0, q1, q2, q3, q4, q5, q6, q7, q8, q9, q10, q11, q12, q13]
  | some m =>
  rw [hr] at hc
  obtain ⟨rfl, p, q, k, hpq, hak, hbk, hk, hlb, hA, hB, hT⟩ := hc
  have HPQ : Hid ((p ≠ F ∧ q ≠ F) ∧ (p ≠ E ∧ q ≠ E)) := hide (by have := FLT.out; omega)
  have HE2 : Hid (ldV s = match ouV l k m.lg with
      | none => .error 100
      | some gs => match chV l k with
        | none => .error 110
        | some cs => if ckV m gs cs = 0 then .ok (m, gs, cs) else .error (ckV m gs cs)) := hide (by rw [HE1.out, hr]; simp only [hak])
  have HS2 := HST
  have HLB2 := hide hlb
  have HT2 := hide (And.intro hT (And.intro hA hB))
  have HK := hide (And.intro hak (And.intro hbk hk))
  clear HST HE1 hr hak hbk hk hlb hA hB hT hpq FLT
  go_wp2_with fail
  rw [rounds_succ]
  have t := HS2.out.kG.cell 2
  have glt := HS2.out.kG.lt
  simp at t
  go_wp2_with fail
  clear t glt
  refine (outlines_any L s a l n c m p q k w2 HLB2.out HN.out HM.out HD.out HK.out.2.2 HT2.out.1 HT2.out.2.1 HT2.out.2.2).mono ?_
  rintro e w3 ⟨hbt, hc⟩
  have HST := hide (HS2.out.but hbt)
  clear hbt HS2 HLB2 HT2
  cases hr : ouV l k m.lg with
  | none =>
    rw [hr] at hc
    obtain ⟨rfl, hlb⟩ := hc
    have HLB := hide hlb
    have hev : ldV s = .error 100 := by rw [HE2.out, hr]
    clear hlb HE2 hr
    have hst := store13 HST.out.kF (.int .i64 0) (.int .i64 0) (.int .i64 0) (.int .i64 0) (.int .i64 0) (.int .i64 0) (.int .i64 0) (.int .i64 0) (.bool false) (.slice none 0 0) (.slice none 0 0) (.slice none 0 0) (.slice none 0 0)
    have kF2 := hst.1.other (b' := E) (Ne.symm HST.out.e5) 0 (.int .i64 100)
    have kE2 := Blk.set (hst.2.blk HST.out.kE HST.out.e5) 0 (.int .i64 100)
    have hFB := (hst.2.below HST.out.bl HST.out.n1).setCell (p := ⟨E, 0, none⟩) HST.out.n2 (.int .i64 100)
    have c15 := Blk.cell HLB.out 15
    simp [lcs] at c15
    refine leaves_cons (f := 40) (args := #[.pointer (some ⟨X, 0, none⟩), .pointer (some ⟨F, 0, none⟩), .pointer (some ⟨E, 0, none⟩)]) (by simp) (by simp [go_sem]) ?_
    refine (catch_thrown F E X L w3 100 _ _ _ HST.out.kF HST.out.kE HST.out.kX c15 (LB.lt HLB.out) HST.out.e5).mono ?_
    rintro e u' w'' ⟨rfl, rfl, rfl⟩
    generalize (((((((((((((w3.setCell ⟨F, 0, none⟩ (.int .i64 0)).setCell ⟨F, 1, none⟩ (.int .i64 0)).setCell ⟨F, 2, none⟩ (.int .i64 0)).setCell ⟨F, 3, none⟩ (.int .i64 0)).setCell ⟨F, 4, none⟩ (.int .i64 0)).setCell ⟨F, 5, none⟩ (.int .i64 0)).setCell ⟨F, 6, none⟩ (.int .i64 0)).setCell ⟨F, 7, none⟩ (.int .i64 0)).setCell ⟨F, 8, none⟩ (.bool false)).setCell ⟨F, 9, none⟩ (.slice none 0 0)).setCell ⟨F, 10, none⟩ (.slice none 0 0)).setCell ⟨F, 11, none⟩ (.slice none 0 0)).setCell ⟨F, 12, none⟩ (.slice none 0 0)).setCell ⟨E, 0, none⟩ (.int .i64 100) = wf at kF2 kE2 hFB ⊢
    have q0 := kF2.cell 0
    have q1 := kF2.cell 1
    have q2 := kF2.cell 2
    have q3 := kF2.cell 3
    have q4 := kF2.cell 4
    have q5 := kF2.cell 5
    have q6 := kF2.cell 6
    have q7 := kF2.cell 7
    have q8 := kF2.cell 8
    have q9 := kF2.cell 9
    have q10 := kF2.cell 10
    have q11 := kF2.cell 11
    have q12 := kF2.cell 12
    have q13 := kE2.cell 0
    simp at q0 q1 q2 q3 q4 q5 q6 q7 q8 q9 q10 q11 q12 q13
    show Leaves _ _ _ _ [] (settle (.panicking [{ v := .iface 33 (.int .i64 100), recovered := true }])) wf
    rw [show settle (.panicking [{ v := .iface 33 (.int .i64 100), recovered := true }]) = .returning from rfl]
    refine ⟨.tuple #[.agg zf, .int .i64 100], ?_, HR.out _ _ ⟨hFB, by rw [hev]; exact ⟨by omega, rfl⟩⟩⟩
    simp [results, Tryz.results15, go_sem, q0, q1, q2, q3, q4, q5, q6, q7, q8, q9, q10, q11, q12, q13]
  | some gs =>
  rw [hr] at hc
  obtain ⟨rfl, g, hlb, hS, hA, hB, hT⟩ := hc
  have HE3 : Hid (ldV s = match chV l k with
        | none => .error 110
        | some cs => if ckV m gs cs = 0 then .ok (m, gs, cs) else .error (ckV m gs cs)) := hide (by rw [HE2.out, hr])
  have HGS := hide (ou_size HD.out hr)
  have HS3 := HST
  have HLB3 := hide hlb
  have HT3 := hide (And.intro hT (And.intro hA (And.intro hB hS)))
  clear HST HE2 hr hlb hA hB hT hS
  go_wp2_with fail
  rw [rounds_succ]
  have t := HS3.out.kG.cell 3
  have glt := HS3.out.kG.lt
  simp at t
  go_wp2_with fail
  clear t glt
  refine (characters_any L s a l n c m p q g k gs w3 HLB3.out HN.out HM.out HD.out HK.out.2.2 HT3.out.1 HT3.out.2.1 HT3.out.2.2.1 HT3.out.2.2.2).mono ?_
  rintro e w4 ⟨hbt, hc⟩
  have FLT := hide (And.intro HS3.out.kF.lt HS3.out.kE.lt)
  have HST := hide (HS3.out.but hbt)
  clear hbt HS3 HLB3 HT3
  cases hr : chV l k with
  | none =>
    rw [hr] at hc
    obtain ⟨rfl, hlb⟩ := hc
    have HLB := hide hlb
    have hev : ldV s = .error 110 := by rw [HE3.out, hr]
    clear hlb HE3 hr
    have hst := store13 HST.out.kF (.int .i64 0) (.int .i64 0) (.int .i64 0) (.int .i64 0) (.int .i64 0) (.int .i64 0) (.int .i64 0) (.int .i64 0) (.bool false) (.slice none 0 0) (.slice none 0 0) (.slice none 0 0) (.slice none 0 0)
    have kF2 := hst.1.other (b' := E) (Ne.symm HST.out.e5) 0 (.int .i64 110)
    have kE2 := Blk.set (hst.2.blk HST.out.kE HST.out.e5) 0 (.int .i64 110)
    have hFB := (hst.2.below HST.out.bl HST.out.n1).setCell (p := ⟨E, 0, none⟩) HST.out.n2 (.int .i64 110)
    have c15 := Blk.cell HLB.out 15
    simp [lcs] at c15
    refine leaves_cons (f := 40) (args := #[.pointer (some ⟨X, 0, none⟩), .pointer (some ⟨F, 0, none⟩), .pointer (some ⟨E, 0, none⟩)]) (by simp) (by simp [go_sem]) ?_
    refine (catch_thrown F E X L w4 110 _ _ _ HST.out.kF HST.out.kE HST.out.kX c15 (LB.lt HLB.out) HST.out.e5).mono ?_
    rintro e u' w'' ⟨rfl, rfl, rfl⟩
    generalize (((((((((((((w4.setCell ⟨F, 0, none⟩ (.int .i64 0)).setCell ⟨F, 1, none⟩ (.int .i64 0)).setCell ⟨F, 2, none⟩ (.int .i64 0)).setCell ⟨F, 3, none⟩ (.int .i64 0)).setCell ⟨F, 4, none⟩ (.int .i64 0)).setCell ⟨F, 5, none⟩ (.int .i64 0)).setCell ⟨F, 6, none⟩ (.int .i64 0)).setCell ⟨F, 7, none⟩ (.int .i64 0)).setCell ⟨F, 8, none⟩ (.bool false)).setCell ⟨F, 9, none⟩ (.slice none 0 0)).setCell ⟨F, 10, none⟩ (.slice none 0 0)).setCell ⟨F, 11, none⟩ (.slice none 0 0)).setCell ⟨F, 12, none⟩ (.slice none 0 0)).setCell ⟨E, 0, none⟩ (.int .i64 110) = wf at kF2 kE2 hFB ⊢
    have q0 := kF2.cell 0
    have q1 := kF2.cell 1
    have q2 := kF2.cell 2
    have q3 := kF2.cell 3
    have q4 := kF2.cell 4
    have q5 := kF2.cell 5
    have q6 := kF2.cell 6
    have q7 := kF2.cell 7
    have q8 := kF2.cell 8
    have q9 := kF2.cell 9
    have q10 := kF2.cell 10
    have q11 := kF2.cell 11
    have q12 := kF2.cell 12
    have q13 := kE2.cell 0
    simp at q0 q1 q2 q3 q4 q5 q6 q7 q8 q9 q10 q11 q12 q13
    show Leaves _ _ _ _ [] (settle (.panicking [{ v := .iface 33 (.int .i64 110), recovered := true }])) wf
    rw [show settle (.panicking [{ v := .iface 33 (.int .i64 110), recovered := true }]) = .returning from rfl]
    refine ⟨.tuple #[.agg zf, .int .i64 110], ?_, HR.out _ _ ⟨hFB, by rw [hev]; exact ⟨by omega, rfl⟩⟩⟩
    simp [results, Tryz.results15, go_sem, q0, q1, q2, q3, q4, q5, q6, q7, q8, q9, q10, q11, q12, q13]
  | some cs =>
  rw [hr] at hc
  obtain ⟨rfl, ca, cc, hfr, hcl, hlb, hC, hS, hA, hB⟩ := hc
  have HFR : Hid (cs = [] ∨ ∃ b, ca = some ⟨b, 0, none⟩ ∧ b ≠ F ∧ b ≠ E) := hide (by
    rcases hfr with h | ⟨b, h1, h2⟩
    · exact Or.inl h
    · exact Or.inr ⟨b, h1, by have := FLT.out; omega, by have := FLT.out; omega⟩)
  have HE4 : Hid (ldV s = if ckV m gs cs = 0 then .ok (m, gs, cs) else .error (ckV m gs cs)) := hide (by rw [HE3.out, hr])
  have HS4 := HST
  have HLB4 := hide hlb
  have HT4 := hide (And.intro hC (And.intro hA (And.intro hB hS)))
  have HCL := hide hcl
  clear HST HE3 hr hlb hA hB hC hS hcl hfr FLT
  go_wp2_with fail
  rw [rounds_succ]
  have t := HS4.out.kG.cell 4
  have glt := HS4.out.kG.lt
  simp at t
  go_wp2_with fail
  clear t glt
  refine (whole_any L s (.slice a n c) m (some ⟨p, 0, none⟩) (some ⟨q, 0, none⟩) (some ⟨g, 0, none⟩) ca k k k cs.length k k k cc gs cs w4 HLB4.out HK.out.1 HK.out.2.1 HGS.out.1 rfl (by have := HK.out.2.2; omega) (by have := HK.out.2.2; omega) (by have := HK.out.2.2; omega) (by have := HCL.out; omega) HGS.out.2 HT4.out.2.1 HT4.out.2.2.1 HT4.out.2.2.2 HT4.out.1).mono ?_
  rintro e w5 ⟨hbt, hc⟩
  have HST := hide (HS4.out.but hbt)
  clear hbt HS4
  rcases hc with ⟨hck, rfl, h5⟩ | ⟨hck, rfl, hlb⟩
  case inr =>
    have HLB := hide hlb
    have hev : ldV s = .error (ckV m gs cs) := by rw [HE4.out, if_neg hck]
    generalize ckV m gs cs = er at hck HLB hev ⊢
    clear hlb HE4 HLB4 HT4
    have hst := store13 HST.out.kF (.int .i64 0) (.int .i64 0) (.int .i64 0) (.int .i64 0) (.int .i64 0) (.int .i64 0) (.int .i64 0) (.int .i64 0) (.bool false) (.slice none 0 0) (.slice none 0 0) (.slice none 0 0) (.slice none 0 0)
    have kF2 := hst.1.other (b' := E) (Ne.symm HST.out.e5) 0 (.int .i64 er)
    have kE2 := Blk.set (hst.2.blk HST.out.kE HST.out.e5) 0 (.int .i64 er)
    have hFB := (hst.2.below HST.out.bl HST.out.n1).setCell (p := ⟨E, 0, none⟩) HST.out.n2 (.int .i64 er)
    have c15 := Blk.cell HLB.out 15
    simp [lcs] at c15
    refine leaves_cons (f := 40) (args := #[.pointer (some ⟨X, 0, none⟩), .pointer (some ⟨F, 0, none⟩), .pointer (some ⟨E, 0, none⟩)]) (by simp) (by simp [go_sem]) ?_
    refine (catch_thrown F E X L w5 er _ _ _ HST.out.kF HST.out.kE HST.out.kX c15 (LB.lt HLB.out) HST.out.e5).mono ?_
    rintro e u' w'' ⟨rfl, rfl, rfl⟩
    generalize (((((((((((((w5.setCell ⟨F, 0, none⟩ (.int .i64 0)).setCell ⟨F, 1, none⟩ (.int .i64 0)).setCell ⟨F, 2, none⟩ (.int .i64 0)).setCell ⟨F, 3, none⟩ (.int .i64 0)).setCell ⟨F, 4, none⟩ (.int .i64 0)).setCell ⟨F, 5, none⟩ (.int .i64 0)).setCell ⟨F, 6, none⟩ (.int .i64 0)).setCell ⟨F, 7, none⟩ (.int .i64 0)).setCell ⟨F, 8, none⟩ (.bool false)).setCell ⟨F, 9, none⟩ (.slice none 0 0)).setCell ⟨F, 10, none⟩ (.slice none 0 0)).setCell ⟨F, 11, none⟩ (.slice none 0 0)).setCell ⟨F, 12, none⟩ (.slice none 0 0)).setCell ⟨E, 0, none⟩ (.int .i64 er) = wf at kF2 kE2 hFB ⊢
    have q0 := kF2.cell 0
    have q1 := kF2.cell 1
    have q2 := kF2.cell 2
    have q3 := kF2.cell 3
    have q4 := kF2.cell 4
    have q5 := kF2.cell 5
    have q6 := kF2.cell 6
    have q7 := kF2.cell 7
    have q8 := kF2.cell 8
    have q9 := kF2.cell 9
    have q10 := kF2.cell 10
    have q11 := kF2.cell 11
    have q12 := kF2.cell 12
    have q13 := kE2.cell 0
    simp at q0 q1 q2 q3 q4 q5 q6 q7 q8 q9 q10 q11 q12 q13
    show Leaves _ _ _ _ [] (settle (.panicking [{ v := .iface 33 (.int .i64 er), recovered := true }])) wf
    rw [show settle (.panicking [{ v := .iface 33 (.int .i64 er), recovered := true }]) = .returning from rfl]
    refine ⟨.tuple #[.agg zf, .int .i64 er], ?_, HR.out _ _ ⟨hFB, by rw [hev]; exact ⟨hck, rfl⟩⟩⟩
    simp [results, Tryz.results15, go_sem, q0, q1, q2, q3, q4, q5, q6, q7, q8, q9, q10, q11, q12, q13]
  have hev : ldV s = .ok (m, gs, cs) := by rw [HE4.out, if_pos hck]
  have HEV := hide hev
  have HCK := hide hck
  have hlb := HLB4.out.below h5
  have HT5 := hide (And.intro (HT4.out.1.below h5) (And.intro (HT4.out.2.1.below h5) (And.intro (HT4.out.2.2.1.below h5) (HT4.out.2.2.2.below h5))))
  clear HE4 hev hck h5 HLB4 HT4
  have HSV := HST
  have kF := HST.out.kF
  have kE := HST.out.kE
  obtain ⟨up, sc, de, ga, b0, b1, b2, b3, lg, ad, be⟩ := m
  have d2 := Blk.cell hlb 2
  have d3 := Blk.cell hlb 3
  have d4 := Blk.cell hlb 4
  have d5 := Blk.cell hlb 5
  have d6 := Blk.cell hlb 6
  have d7 := Blk.cell hlb 7
  have d8 := Blk.cell hlb 8
  have d9 := Blk.cell hlb 9
  have d10 := Blk.cell hlb 10
  have d11 := Blk.cell hlb 11
  have d12 := Blk.cell hlb 12
  have d13 := Blk.cell hlb 13
  have d14 := Blk.cell hlb 14
  simp [lcs] at d2 d3 d4 d5 d6 d7 d8 d9 d10 d11 d12 d13 d14
  have r0 := kF.cell 0
  have z0 := kF.frozen 0
  have r1 := kF.cell 1
  have z1 := kF.frozen 1
  have r2 := kF.cell 2
  have z2 := kF.frozen 2
  have r3 := kF.cell 3
  have z3 := kF.frozen 3
  have r4 := kF.cell 4
  have z4 := kF.frozen 4
  have r5 := kF.cell 5
  have z5 := kF.frozen 5
  have r6 := kF.cell 6
  have z6 := kF.frozen 6
  have r7 := kF.cell 7
  have z7 := kF.frozen 7
  have r8 := kF.cell 8
  have z8 := kF.frozen 8
  have r9 := kF.cell 9
  have z9 := kF.frozen 9
  have r10 := kF.cell 10
  have z10 := kF.frozen 10
  have r11 := kF.cell 11
  have z11 := kF.frozen 11
  have r12 := kF.cell 12
  have z12 := kF.frozen 12
  simp at r0 r1 r2 r3 r4 r5 r6 r7 r8 r9 r10 r11 r12
  have x0 := HST.out.kX.cell 0
  have y0 := kE.cell 0
  have yf := kE.frozen 0
  simp at x0 y0
  have l1 := hlb.lt
  have l2 := kF.lt
  have l3 := kE.lt
  have l4 := HST.out.kX.lt
  have hEF := HST.out.e5
  have hst := store13 kF (.int .i64 up) (.int .i64 sc) (.int .i64 de) (.int .i64 ga) (.int .i64 b0) (.int .i64 b1) (.int .i64 b2) (.int .i64 b3) (.bool lg) (.slice (some ⟨p, 0, none⟩) k k) (.slice (some ⟨q, 0, none⟩) k k) (.slice (some ⟨g, 0, none⟩) k k) (.slice ca cs.length cc)
  have hsE : But E _ _ := But.setCell E (((((((((((((w5.setCell ⟨F, 0, none⟩ (.int .i64 up)).setCell ⟨F, 1, none⟩ (.int .i64 sc)).setCell ⟨F, 2, none⟩ (.int .i64 de)).setCell ⟨F, 3, none⟩ (.int .i64 ga)).setCell ⟨F, 4, none⟩ (.int .i64 b0)).setCell ⟨F, 5, none⟩ (.int .i64 b1)).setCell ⟨F, 6, none⟩ (.int .i64 b2)).setCell ⟨F, 7, none⟩ (.int .i64 b3)).setCell ⟨F, 8, none⟩ (.bool lg)).setCell ⟨F, 9, none⟩ (.slice (some ⟨p, 0, none⟩) k k)).setCell ⟨F, 10, none⟩ (.slice (some ⟨q, 0, none⟩) k k)).setCell ⟨F, 11, none⟩ (.slice (some ⟨g, 0, none⟩) k k)).setCell ⟨F, 12, none⟩ (.slice ca cs.length cc)) 0 (.int .i64 0)
  have kF2 := hst.1.other (b' := E) (Ne.symm hEF) 0 (.int .i64 0)
  have kE1 := hst.2.blk kE hEF
  have kE2 := Blk.set kE1 0 (.int .i64 0)
  have hFB := (hst.2.below HST.out.bl HST.out.n1).setCell (p := ⟨E, 0, none⟩) HST.out.n2 (.int .i64 0)
  have u1 := clst_but (clst_but HT5.out.1 hst.2 (by rcases HFR.out with h | ⟨b, h1, h2, h3⟩; exact Or.inl h; exact Or.inr ⟨b, h1, h2⟩)) hsE (by rcases HFR.out with h | ⟨b, h1, h2, h3⟩; exact Or.inl h; exact Or.inr ⟨b, h1, h3⟩)
  have u2 := (HT5.out.2.1.but hst.2 HPQ.out.1.1).but hsE HPQ.out.2.1
  have u3 := (HT5.out.2.2.1.but hst.2 HPQ.out.1.2).but hsE HPQ.out.2.2
  have u4 := slst_but (slst_but HT5.out.2.2.2 hst.2 kF (fun _ _ => nos)) hsE kE1 (fun j x h => by
    match j, h with
    | 0, h => simp at h
    | j + 1, h => simp at h)
  have HU := hide (And.intro kF2 (And.intro kE2 (And.intro hFB (And.intro u1 (And.intro u2 (And.intro u3 u4))))))
  clear hlb HST kF kE hst hsE kF2 kE1 kE2 hFB u1 u2 u3 u4 HSV HT5 HFR HPQ
  go_wp2_with fail
  rw [rounds_succ]
  go_wp2_with fail
  clear d2 d3 d4 d5 d6 d7 d8 d9 d10 d11 d12 d13 d14 r0 z0 r1 z1 r2 z2 r3 z3 r4 z4 r5 z5 r6 z6 r7 z7 r8 z8 r9 z9 r10 z10 r11 z11 r12 z12 x0 y0 yf l1 l2 l3 l4
  generalize (((((((((((((w5.setCell ⟨F, 0, none⟩ (.int .i64 up)).setCell ⟨F, 1, none⟩ (.int .i64 sc)).setCell ⟨F, 2, none⟩ (.int .i64 de)).setCell ⟨F, 3, none⟩ (.int .i64 ga)).setCell ⟨F, 4, none⟩ (.int .i64 b0)).setCell ⟨F, 5, none⟩ (.int .i64 b1)).setCell ⟨F, 6, none⟩ (.int .i64 b2)).setCell ⟨F, 7, none⟩ (.int .i64 b3)).setCell ⟨F, 8, none⟩ (.bool lg)).setCell ⟨F, 9, none⟩ (.slice (some ⟨p, 0, none⟩) k k)).setCell ⟨F, 10, none⟩ (.slice (some ⟨q, 0, none⟩) k k)).setCell ⟨F, 11, none⟩ (.slice (some ⟨g, 0, none⟩) k k)).setCell ⟨F, 12, none⟩ (.slice ca cs.length cc)).setCell ⟨E, 0, none⟩ (.int .i64 0) = wf at HU ⊢
  obtain ⟨kF2, kE2, hFB, u1, u2, u3, u4⟩ := HU.out
  have q0 := kF2.cell 0
  have q1 := kF2.cell 1
  have q2 := kF2.cell 2
  have q3 := kF2.cell 3
  have q4 := kF2.cell 4
  have q5 := kF2.cell 5
  have q6 := kF2.cell 6
  have q7 := kF2.cell 7
  have q8 := kF2.cell 8
  have q9 := kF2.cell 9
  have q10 := kF2.cell 10
  have q11 := kF2.cell 11
  have q12 := kF2.cell 12
  have q13 := kE2.cell 0
  simp at q0 q1 q2 q3 q4 q5 q6 q7 q8 q9 q10 q11 q12 q13
  refine leaves_cons (f := 40) (args := #[.pointer (some ⟨X, 0, none⟩), .pointer (some ⟨F, 0, none⟩), .pointer (some ⟨E, 0, none⟩)]) (by simp) (by simp [go_sem]) ?_
  refine (catch_idle _ _ _ _).mono ?_
  rintro e u' w'' ⟨rfl, rfl, hw⟩
  subst w''
  refine ⟨.tuple #[.agg (fcs ⟨up, sc, de, ga, b0, b1, b2, b3, lg, ad, be⟩ (.slice (some ⟨p, 0, none⟩) k k) (.slice (some ⟨q, 0, none⟩) k k) (.slice (some ⟨g, 0, none⟩) k k) (.slice ca cs.length cc)), .int .i64 0], ?_, HR.out _ _ ⟨hFB, by rw [HEV.out]; exact ⟨p, q, g, ca, cc, k, HK.out.1, HK.out.2.1, HK.out.2.2, HGS.out.1, HCL.out, HCK.out, rfl, u2, u3, u4, u1⟩⟩⟩
  simp [results, Tryz.results15, go_sem, q0, q1, q2, q3, q4, q5, q6, q7, q8, q9, q10, q11, q12, q13]
end Go.Proofs.YtpdfpbbamnhkfaaGreatDoor.F12
namespace Go.Proofs.YtpdfpbbamnhkfaaGreatDoor.F12
open Go.RowKit Go.Deep
set_option linter.unusedVariables false
set_option linter.unusedSimpArgs false
def smM : Mt := ⟨1000, 0, 0, 0, 0, 0, 0, 0, false, [0, 500], [0, 0]⟩
def smG : List ByteArray := [⟨#[]⟩, ⟨#[]⟩]
def smC : List C11.Ch := [⟨97, 97, 1⟩]
theorem sm_show : shI smC [97, 97] = none := by kernel_rfl
theorem sm_long : lgF smM.up smM.ad 655360 [1, 1] 0 = some 655360 := by kernel_rfl
theorem sm_err : svE smM smG smC = 0 := by kernel_rfl
def okL (r : Except Int (Mt × List ByteArray × List C11.Ch)) : Bool := match r with
  | .ok (m, gs, _) => m.lg && (gs.length == 2)
  | _ => false
theorem sm_load : okL (ldV (svS smM smG smC)) = true := by kernel_rfl
theorem sm_size : decide ((svS smM smG smC).size ≤ 1000000) = true := by kernel_rfl
end Go.Proofs.YtpdfpbbamnhkfaaGreatDoor.F12
namespace Go.Proofs.YtpdfpbbamnhkfaaGreatDoor.F12
open Go.RowKit Go.Deep
set_option linter.unusedVariables false
set_option linter.unusedSimpArgs false
theorem sm_begin (w : World) : ∃ V, V = (((((w.alloc (.cells #[.int .i64 1000, .int .i64 0, .int .i64 0, .int .i64 0, .int .i64 0, .int .i64 0, .int .i64 0, .int .i64 0, .bool false, .slice (some ⟨w.heap.size + 1, 0, none⟩) 2 2, .slice (some ⟨w.heap.size + 1 + 1, 0, none⟩) 2 2, .slice (some ⟨w.heap.size + 1 + 1 + 1, 0, none⟩) 2 2, .slice (some ⟨w.heap.size + 1 + 1 + 1 + 1, 0, none⟩) 1 1] 29)).alloc (.cells #[.int .i64 0, .int .i64 500] 3)).alloc (.cells #[.int .i64 0, .int .i64 0] 3)).alloc (.cells #[.string ⟨#[]⟩, .string ⟨#[]⟩] 9)).alloc (.cells #[.int .i64 97, .int .i64 97, .int .i64 1] 106)) ∧ Lst V (some ⟨w.heap.size + 1, 0, none⟩) smM.ad ∧ Lst V (some ⟨w.heap.size + 1 + 1, 0, none⟩) smM.be ∧ G10.SLst V (some ⟨w.heap.size + 1 + 1 + 1, 0, none⟩) smG ∧ C11.CLst V (some ⟨w.heap.size + 1 + 1 + 1 + 1, 0, none⟩) smC ∧ Below w.heap.size w V := by
  have hal : ∀ (u : World) (o : Obj), Below u.heap.size u (u.alloc o) := fun u o => (Below.refl _ _).alloc (Nat.le_refl _) _
  have sz : ∀ (u : World) (o : Obj), (u.alloc o).heap.size = u.heap.size + 1 := fun u o => by simp
  have k1 := Blk.new w #[.int .i64 1000, .int .i64 0, .int .i64 0, .int .i64 0, .int .i64 0, .int .i64 0, .int .i64 0, .int .i64 0, .bool false, .slice (some ⟨w.heap.size + 1, 0, none⟩) 2 2, .slice (some ⟨w.heap.size + 1 + 1, 0, none⟩) 2 2, .slice (some ⟨w.heap.size + 1 + 1 + 1, 0, none⟩) 2 2, .slice (some ⟨w.heap.size + 1 + 1 + 1 + 1, 0, none⟩) 1 1] 29
  have b1 := hal w (.cells #[.int .i64 1000, .int .i64 0, .int .i64 0, .int .i64 0, .int .i64 0, .int .i64 0, .int .i64 0, .int .i64 0, .bool false, .slice (some ⟨w.heap.size + 1, 0, none⟩) 2 2, .slice (some ⟨w.heap.size + 1 + 1, 0, none⟩) 2 2, .slice (some ⟨w.heap.size + 1 + 1 + 1, 0, none⟩) 2 2, .slice (some ⟨w.heap.size + 1 + 1 + 1 + 1, 0, none⟩) 1 1] 29)
  have z1 := sz w (.cells #[.int .i64 1000, .int .i64 0, .int .i64 0, .int .i64 0, .int .i64 0, .int .i64 0, .int .i64 0, .int .i64 0, .bool false, .slice (some ⟨w.heap.size + 1, 0, none⟩) 2 2, .slice (some ⟨w.heap.size + 1 + 1, 0, none⟩) 2 2, .slice (some ⟨w.heap.size + 1 + 1 + 1, 0, none⟩) 2 2, .slice (some ⟨w.heap.size + 1 + 1 + 1 + 1, 0, none⟩) 1 1] 29)
  generalize w.alloc (.cells #[.int .i64 1000, .int .i64 0, .int .i64 0, .int .i64 0, .int .i64 0, .int .i64 0, .int .i64 0, .int .i64 0, .bool false, .slice (some ⟨w.heap.size + 1, 0, none⟩) 2 2, .slice (some ⟨w.heap.size + 1 + 1, 0, none⟩) 2 2, .slice (some ⟨w.heap.size + 1 + 1 + 1, 0, none⟩) 2 2, .slice (some ⟨w.heap.size + 1 + 1 + 1 + 1, 0, none⟩) 1 1] 29) = W1 at *
  have k2 := Blk.new W1 #[.int .i64 0, .int .i64 500] 3
  have b2 := hal W1 (.cells #[.int .i64 0, .int .i64 500] 3)
  have z2 := sz W1 (.cells #[.int .i64 0, .int .i64 500] 3)
  rw [z1] at k2 z2
  generalize W1.alloc (.cells #[.int .i64 0, .int .i64 500] 3) = W2 at *
  have k3 := Blk.new W2 #[.int .i64 0, .int .i64 0] 3
  have b3 := hal W2 (.cells #[.int .i64 0, .int .i64 0] 3)
  have z3 := sz W2 (.cells #[.int .i64 0, .int .i64 0] 3)
  rw [z2] at k3 z3
  generalize W2.alloc (.cells #[.int .i64 0, .int .i64 0] 3) = W3 at *
  have k4 := Blk.new W3 #[.string ⟨#[]⟩, .string ⟨#[]⟩] 9
  have b4 := hal W3 (.cells #[.string ⟨#[]⟩, .string ⟨#[]⟩] 9)
  have z4 := sz W3 (.cells #[.string ⟨#[]⟩, .string ⟨#[]⟩] 9)
  rw [z3] at k4 z4
  generalize W3.alloc (.cells #[.string ⟨#[]⟩, .string ⟨#[]⟩] 9) = W4 at *
  have k5 := Blk.new W4 #[.int .i64 97, .int .i64 97, .int .i64 1] 106
  have b5 := hal W4 (.cells #[.int .i64 97, .int .i64 97, .int .i64 1] 106)
  rw [z4] at k5
  have k2' := ((k2.below b3).below b4).below b5
  have k3' := (k3.below b4).below b5
  have k4' := k4.below b5
  refine ⟨_, rfl, Or.inr ⟨_, 0, rfl, k2'.lt, fun i hi => ?_⟩, Or.inr ⟨_, 0, rfl, k3'.lt, fun i hi => ?_⟩, Or.inr ⟨_, 0, rfl, k4'.lt, fun i hi => ?_⟩, Or.inr ⟨_, 0, rfl, k5.lt, fun i hi => ?_⟩, below_t5 (below_t5 (below_t5 (below_t5 b1 b2) b3) b4) b5⟩
  · match i, hi with
    | 0, _ => exact k2'.cell 0
    | 1, _ => exact k2'.cell 1
  · match i, hi with
    | 0, _ => exact k3'.cell 0
    | 1, _ => exact k3'.cell 1
  · match i, hi with
    | 0, _ => exact k4'.cell 0
    | 1, _ => exact k4'.cell 1
  · match i, hi with
    | 0, _ => exact ⟨k5.cell 0, k5.cell 1, k5.cell 2⟩
theorem small_any (w : World) : Calls Tryz.prog 28 #[] w fun e w' => ∃ p q g c, e = .returned (.agg (fcs smM (.slice (some ⟨p, 0, none⟩) 2 2) (.slice (some ⟨q, 0, none⟩) 2 2) (.slice (some ⟨g, 0, none⟩) 2 2) (.slice (some ⟨c, 0, none⟩) 1 1))) ∧ Lst w' (some ⟨p, 0, none⟩) smM.ad ∧ Lst w' (some ⟨q, 0, none⟩) smM.be ∧ G10.SLst w' (some ⟨g, 0, none⟩) smG ∧ C11.CLst w' (some ⟨c, 0, none⟩) smC ∧ Below w.heap.size w w' := by
  obtain ⟨V, hV, h1, h2, h3, h4, h5⟩ := sm_begin w
  go_enter Tryz.func28, Tryz.ntmps28
  go_wp2_with fail
  refine bodyPost_ret (v := .agg (fcs smM (.slice (some ⟨w.heap.size + 1, 0, none⟩) 2 2) (.slice (some ⟨w.heap.size + 1 + 1, 0, none⟩) 2 2) (.slice (some ⟨w.heap.size + 1 + 1 + 1, 0, none⟩) 2 2) (.slice (some ⟨w.heap.size + 1 + 1 + 1 + 1, 0, none⟩) 1 1))) (by simp [results, Tryz.results28, go_sem, fcs, smM]) rfl ?_
  rw [← hV]
  exact ⟨_, _, _, _, rfl, h1, h2, h3, h4, h5⟩
set_option maxRecDepth 8000 in
set_option maxHeartbeats 8000000 in
theorem wakes12_any (w : World) (hG : S8.Glo8 w) : Calls Tryz.prog 10 #[] w fun e w' => e = .returned (.bool true) ∧ Below w.heap.size w w' := by
  have CS := hide small_any
  have CSh := hide (fun (va vb vg : Value) (c la lc : Nat) (u : World) (hC : C11.CLst u (some ⟨c, 0, none⟩) smC) (hL : Lst u (some ⟨la, 0, none⟩) [97, 97]) => show_any smM va vb vg (some ⟨c, 0, none⟩) 1 1 smC (some ⟨la, 0, none⟩) 2 lc [97, 97] u rfl (by omega) (fun z hz => by simp at hz; subst hz; exact ⟨by decide, by decide⟩) rfl (by omega) (fun i hi => by
    match i, hi with
    | 0, _ => exact ⟨⟨by decide, by decide⟩, ⟨by decide, by decide⟩, by decide, by decide⟩) hC hL)
  have CLg := hide (fun (p q la lc : Nat) (vg vc : Value) (u : World) (hA : Lst u (some ⟨p, 0, none⟩) smM.ad) (hL : Lst u (some ⟨la, 0, none⟩) [1, 1]) => long_any smM (some ⟨p, 0, none⟩) 2 2 (some ⟨q, 0, none⟩) 2 2 vg vc (some ⟨la, 0, none⟩) 2 lc [1, 1] 655360 u rfl (by omega) (by show i64 1000; unfold i64; omega) (fun x hx => by simp [smM] at hx; rcases hx with rfl | rfl <;> (unfold i64; omega)) (by unfold i64; omega) rfl (by omega) hA hL)
  have CSv := hide (fun (p q g c : Nat) (u : World) (hA : Lst u (some ⟨p, 0, none⟩) smM.ad) (hB : Lst u (some ⟨q, 0, none⟩) smM.be) (hS : G10.SLst u (some ⟨g, 0, none⟩) smG) (hC : C11.CLst u (some ⟨c, 0, none⟩) smC) (hW : S8.Glo8 u) => save_any smM (some ⟨p, 0, none⟩) (some ⟨q, 0, none⟩) (some ⟨g, 0, none⟩) (some ⟨c, 0, none⟩) 2 2 2 1 2 2 2 1 smG smC u rfl rfl rfl rfl (by omega) (by omega) (by omega) (by omega) (fun x hx => by simp [smG] at hx; subst hx; decide) (by decide +kernel) hA hB hS hC hW)
  have CLd := hide (fun (u : World) (hW : S8.Glo8 u) => load_any (svS smM smG smC) u (of_decide_eq_true sm_size) hW)
  unfold LdR at CLd
  unfold ShR at CSh
  rw [sm_long] at CLg
  rw [sm_err] at CSv
  have HOK := hide sm_load
  generalize svS smM smG smC = SF at CSv CLd HOK
  have HW := hide hG
  clear hG
  have KSM := hide (fun (a b : Option Addr) (ca cb : Nat) (u : World) (h1 : Lst u a [1, 1]) (h2 : Lst u b [1, 1]) => G10.ksame_any a b 2 ca cb [1, 1] u rfl (by omega) h1 h2)
  have E97 : (#[.int .i64 97, .int .i64 97] : Array Value) = ([97, 97].map (Value.int .i64)).toArray := rfl
  have E11 : (#[.int .i64 1, .int .i64 1] : Array Value) = ([1, 1].map (Value.int .i64)).toArray := rfl
  have L97 := hide (fun (u : World) => lst_new u [97, 97] u.heap.size rfl)
  have L11 := hide (fun (u : World) => lst_new u [1, 1] u.heap.size rfl)
  rw [← E97] at L97
  rw [← E11] at L11
  have hal := hide (fun (u : World) (o : Obj) => (Below.refl u.heap.size u).alloc (Nat.le_refl _) o)
  clear E97 E11
  simp only [fcs, smM] at CS CSh CLg CSv
  go_enter Tryz.func10, Tryz.ntmps10
  go_wp2_with fail
  refine (CS.out _).mono ?_
  rintro e w1 ⟨p, q, g, c, rfl, hA, hB, hS, hC, hb1⟩
  have C1 := hide (CSh.out (.slice (some ⟨p, 0, none⟩) 2 2) (.slice (some ⟨q, 0, none⟩) 2 2) (.slice (some ⟨g, 0, none⟩) 2 2) c w1.heap.size 2 _ (hC.below (hal.out w1 (.cells #[.int .i64 97, .int .i64 97] 3))) (L97.out w1))
  have HB1 := hide (below_t5 hb1 (hal.out w1 (.cells #[.int .i64 97, .int .i64 97] 3)))
  clear hA hB hS hC hb1 CSh L97
  go_wp2_with fail
  refine C1.out.mono ?_
  rintro e w2 ⟨hb2, h | ⟨hsn, gg, rfl, hgg, hbk⟩⟩
  · obtain ⟨k, hk, _⟩ := h
    rw [sm_show] at hk
    cases hk
  have hl1 : Lst w2 (some ⟨gg, 0, none⟩) [1, 1] := by
    have := arr_lst hbk
    have e0 : (List.range 2).map (shF smC [97, 97]) = [1, 1] := by kernel_rfl
    rw [e0] at this
    exact this
  have HL1 := hide hl1
  have HB2 := hide (below_t5 HB1.out hb2)
  clear hb2 hsn hgg hbk hl1 C1 HB1
  go_wp2_with fail
  refine (CS.out _).mono ?_
  rintro e w3 ⟨p, q, g, c, rfl, hA, hB, hS, hC, hb3⟩
  have C1 := hide (CLg.out p q w3.heap.size 2 (.slice (some ⟨g, 0, none⟩) 2 2) (.slice (some ⟨c, 0, none⟩) 1 1) _ (hA.below (hal.out w3 (.cells #[.int .i64 1, .int .i64 1] 3))) (L11.out w3))
  have hx3 := below_t5 hb3 (hal.out w3 (.cells #[.int .i64 1, .int .i64 1] 3))
  have HB3 := hide (below_t5 HB2.out hx3)
  have HL3 := hide (HL1.out.below hx3)
  clear hA hB hS hC hb3 hx3 CLg HL1 HB2
  go_wp2_with fail
  refine C1.out.mono ?_
  rintro e w4 ⟨rfl, hb4⟩
  have HB4 := hide (below_t5 HB3.out hb4)
  have HL4 := hide (HL3.out.below hb4)
  clear hb4 C1 HB3 HL3
  simp only [lgV]
  go_wp2_with fail
  refine (CS.out _).mono ?_
  rintro e w5 ⟨p, q, g, c, rfl, hA, hB, hS, hC, hb5⟩
  have hx5 := below_t5 HB4.out hb5
  have C1 := hide (CSv.out p q g c w5 hA hB hS hC (HW.out.below hx5))
  have HB5 := hide hx5
  have HL5 := hide (HL4.out.below hb5)
  clear hA hB hS hC hb5 hx5 CSv HL4 HB4 CS
  go_wp2_with fail
  refine C1.out.mono ?_
  rintro e w6 ⟨rfl, hb6⟩
  have hx6 := below_t5 HB5.out hb6
  have C2 := hide (CLd.out w6 (HW.out.below hx6))
  have HB6 := hide hx6
  have HL6 := hide (HL5.out.below hb6)
  clear hb6 hx6 HL5 HB5 C1 CLd
  generalize ldV SF = R at C2 HOK
  go_wp2_with fail
  refine C2.out.mono ?_
  rintro e w7 ⟨hb7, hm⟩
  have HB7 := hide (below_t5 HB6.out hb7)
  have HL7 := hide (HL6.out.below hb7)
  clear hb7 C2 HB6 HL6
  cases R with
  | error er => have := HOK.out; simp [okL] at this
  | ok r =>
  obtain ⟨m, gs, cs⟩ := r
  obtain ⟨p, q, g, ca, cc, k, h1, h2, h3, h4, h5, h6, rfl, h8, h9, h10, h11⟩ := hm
  have ho := HOK.out
  simp only [okL, Bool.and_eq_true, beq_iff_eq] at ho
  obtain ⟨up, sc, de, ga, b0, b1, b2, b3, lg, ad, be⟩ := m
  simp only at ho
  obtain ⟨rfl, hk⟩ := ho
  have hk2 : k = 2 := by omega
  subst hk2
  clear HOK h1 h2 h3 h4 h5 h6 h8 h9 h10 h11 hk
  simp only [fcs]
  go_wp2_with fail
  have kf := Blk.new w7 #[.int .i64 up, .int .i64 sc, .int .i64 de, .int .i64 ga, .int .i64 b0, .int .i64 b1, .int .i64 b2, .int .i64 b3, .bool true, .slice (some ⟨p, 0, none⟩) 2 2, .slice (some ⟨q, 0, none⟩) 2 2, .slice (some ⟨g, 0, none⟩) 2 2, .slice ca cs.length cc] 29
  have hb8 := hal.out w7 (.cells #[.int .i64 up, .int .i64 sc, .int .i64 de, .int .i64 ga, .int .i64 b0, .int .i64 b1, .int .i64 b2, .int .i64 b3, .bool true, .slice (some ⟨p, 0, none⟩) 2 2, .slice (some ⟨q, 0, none⟩) 2 2, .slice (some ⟨g, 0, none⟩) 2 2, .slice ca cs.length cc] 29)
  have hsz : (w7.alloc (.cells #[.int .i64 up, .int .i64 sc, .int .i64 de, .int .i64 ga, .int .i64 b0, .int .i64 b1, .int .i64 b2, .int .i64 b3, .bool true, .slice (some ⟨p, 0, none⟩) 2 2, .slice (some ⟨q, 0, none⟩) 2 2, .slice (some ⟨g, 0, none⟩) 2 2, .slice ca cs.length cc] 29)).heap.size = w7.heap.size + 1 := by simp
  rw [← hsz]
  generalize w7.alloc (.cells #[.int .i64 up, .int .i64 sc, .int .i64 de, .int .i64 ga, .int .i64 b0, .int .i64 b1, .int .i64 b2, .int .i64 b3, .bool true, .slice (some ⟨p, 0, none⟩) 2 2, .slice (some ⟨q, 0, none⟩) 2 2, .slice (some ⟨g, 0, none⟩) 2 2, .slice ca cs.length cc] 29) = U at kf hb8 hsz ⊢
  have hb9 := hal.out U (.cells #[.int .i64 1, .int .i64 1] 3)
  have C := KSM.out _ _ 2 2 _ ((HL7.out.below hb8).below hb9) (L11.out U)
  have kf2 := kf.below hb9
  have hbz := below_t5 (below_t5 HB7.out hb8) hb9
  generalize U.alloc (.cells #[.int .i64 1, .int .i64 1] 3) = U2 at C kf2 hbz ⊢
  refine C.mono ?_
  rintro e w8 ⟨rfl, n, rfl⟩
  have kf3 := kf2.drewN n
  have HBZ : Hid (Below w.heap.size w (U2.drewN n)) := hide ⟨hbz.os, hbz.tape, hbz.output, hbz.size, hbz.block⟩
  obtain ⟨y, hy⟩ : ∃ y, w7.heap.size = y := ⟨_, rfl⟩
  rw [hy] at kf3 ⊢
  have e8 := kf3.cell 8
  have e11 := kf3.cell 11
  simp only [List.getElem?_toArray, List.getElem?_cons_succ, List.getElem?_cons_zero] at e8 e11
  have ylt := kf3.lt
  generalize U2.drewN n = U3 at HBZ e8 e11 ylt ⊢
  clear kf hb8 hsz hb9 C kf2 hbz kf3 hy HB7 HL7 KSM L11 hal
  go_wp2_with fail
  go_ret
  exact ⟨rfl, HBZ.out⟩
end Go.Proofs.YtpdfpbbamnhkfaaGreatDoor.F12
namespace Go.Proofs.YtpdfpbbamnhkfaaGreatDoor.F12
open Go.RowKit Go.Deep
set_option linter.unusedVariables false
set_option linter.unusedSimpArgs false
def lsum : List ByteArray → Nat → Nat
  | [], n => n
  | g :: r, n => if n ≤ 30000 then lsum r (n + g.size) else n
def lrgB (t ng nc na nb : Nat) : Bool := decide (30000 < t) || (decide (200 < ng) || (decide (200 < nc) || (decide (200 < na) || decide (200 < nb))))
theorem drop_gs (gs : List ByteArray) (k : Nat) (h : k < gs.length) : gs.drop k = gs.getD k ⟨#[]⟩ :: gs.drop (k + 1) := by
  rw [List.drop_eq_getElem_cons h, List.getD_eq_getElem?_getD, List.getElem?_eq_getElem h]; rfl
set_option maxRecDepth 8000 in
set_option maxHeartbeats 4000000 in
theorem large_any (m : Mt) (aa ab ga ca : Option Addr) (na nb ng nc ka kb kg kc : Nat) (gs : List ByteArray) (w : World) (hng : gs.length = ng) (hm : ng ≤ 4611686018427387904) (hz : ∀ g ∈ gs, g.size ≤ 4611686018427387904) (hG : G10.SLst w ga gs) :
    Calls Tryz.prog 9 #[.agg (fcs m (.slice aa na ka) (.slice ab nb kb) (.slice ga ng kg) (.slice ca nc kc))] w fun e w' => e = .returned (.bool (lrgB (lsum gs 0) ng nc na nb)) ∧ Below w.heap.size w w' := by
  have hm' : (ng : Int) ≤ 4611686018427387904 := by omega
  obtain ⟨up, sc, de, gap, b0, b1, b2, b3, lg, ad, be⟩ := m
  have HB0 := hide ((Below.refl w.heap.size w).alloc (Nat.le_refl _) (.cells (fcs ⟨up, sc, de, gap, b0, b1, b2, b3, lg, ad, be⟩ (.slice aa na ka) (.slice ab nb kb) (.slice ga ng kg) (.slice ca nc kc)) 29))
  have HK0 := hide (Blk.new w (fcs ⟨up, sc, de, gap, b0, b1, b2, b3, lg, ad, be⟩ (.slice aa na ka) (.slice ab nb kb) (.slice ga ng kg) (.slice ca nc kc)) 29)
  obtain ⟨T, hT⟩ : ∃ T, lsum gs 0 = T := ⟨_, rfl⟩
  rw [hT]
  have HT := hide hT
  have HL := hide hG
  have HN := hide hng
  have HZ := hide hz
  clear hG hng hz hT
  simp only [fcs] at HB0 HK0 ⊢
  go_enter Tryz.func9, Tryz.ntmps9
  go_wp2_with fail
  go_loopw [3, 4] (fun vn vi wr => ∃ (k t : Nat), vi = .int .i64 (k : Int) ∧ vn = .int .i64 (t : Int) ∧ Hid (k ≤ ng ∧ t ≤ 4611686018427417904 ∧ Blk wr w.heap.size #[.int .i64 up, .int .i64 sc, .int .i64 de, .int .i64 gap, .int .i64 b0, .int .i64 b1, .int .i64 b2, .int .i64 b3, .bool lg, .slice aa na ka, .slice ab nb kb, .slice ga ng kg, .slice ca nc kc] 29 ∧ Below w.heap.size w wr ∧ lsum (gs.drop k) t = T)) (fun _ vi _ => ng - (intOf vi).toNat)
  case atStart => exact ⟨0, 0, rfl, rfl, hide ⟨by omega, by omega, HK0.out, HB0.out, by rw [List.drop_zero]; exact HT.out⟩⟩
  case round =>
    clear HB0 HK0 HT
    obtain ⟨k, t, rfl, rfl, HV⟩ := hrel
    obtain ⟨hk, ht, hkb, hbw, hrr⟩ := HV.out
    have hk0 : (0 : Int) ≤ (k : Int) := by omega
    have ht0 : (0 : Int) ≤ (t : Int) := by omega
    have e9 := hkb.cell 9
    have e10 := hkb.cell 10
    have e11 := hkb.cell 11
    have e12 := hkb.cell 12
    simp at e9 e10 e11 e12
    have xlt := hkb.lt
    clear HV
    have HKB := hide hkb
    have HBW := hide hbw
    clear hkb hbw
    by_cases hgo : k < ng ∧ t ≤ 30000
    case neg =>
      have hTt : T = t := by
        rw [← hrr]
        by_cases h : k < ng
        · rw [drop_gs gs k (by rw [HN.out]; exact h), lsum, if_neg (by omega)]
        · rw [List.drop_eq_nil_of_le (by rw [HN.out]; omega), lsum]
      clear hrr
      have hrr := True.intro
      by_cases h3 : 30000 < t
      · have h3' : ¬ (t : Int) ≤ 30000 := by omega
        have h3'' : (30000 : Int) < (t : Int) := by omega
        by_cases hkn : k < ng
        · have hkn' : (k : Int) < (ng : Int) := by omega
          have HB : Hid (lrgB T ng nc na nb = true) := hide (by rw [hTt]; unfold lrgB; simp [h3])
          clear hTt hgo hrr hk ht
          go_wp2_with fail
          go_ret
          exact ⟨by rw [HB.out]; rfl, HBW.out⟩
        · have hkn' : ¬ (k : Int) < (ng : Int) := by omega
          have HB : Hid (lrgB T ng nc na nb = true) := hide (by rw [hTt]; unfold lrgB; simp [h3])
          clear hTt hgo hrr hk ht
          go_wp2_with fail
          go_ret
          exact ⟨by rw [HB.out]; rfl, HBW.out⟩
      have hkn : ¬ k < ng := fun h => hgo ⟨h, by omega⟩
      have hkn' : ¬ (k : Int) < (ng : Int) := by omega
      have h3' : ¬ (30000 : Int) < (t : Int) := by omega
      by_cases hA : 200 < ng
      · have hA' : (200 : Int) < (ng : Int) := by omega
        have HB : Hid (lrgB T ng nc na nb = true) := hide (by rw [hTt]; unfold lrgB; simp [hA])
        clear hTt hgo hrr hk ht
        go_wp2_with fail
        go_ret
        exact ⟨by rw [HB.out]; rfl, HBW.out⟩
      have hA' : ¬ (200 : Int) < (ng : Int) := by omega
      by_cases hB : 200 < nc
      · have hB' : (200 : Int) < (nc : Int) := by omega
        have HB : Hid (lrgB T ng nc na nb = true) := hide (by rw [hTt]; unfold lrgB; simp [hB])
        clear hTt hgo hrr hk ht
        go_wp2_with fail
        go_ret
        exact ⟨by rw [HB.out]; rfl, HBW.out⟩
      have hB' : ¬ (200 : Int) < (nc : Int) := by omega
      by_cases hC : 200 < na
      · have hC' : (200 : Int) < (na : Int) := by omega
        have HB : Hid (lrgB T ng nc na nb = true) := hide (by rw [hTt]; unfold lrgB; simp [hC])
        clear hTt hgo hrr hk ht
        go_wp2_with fail
        go_ret
        exact ⟨by rw [HB.out]; rfl, HBW.out⟩
      have hC' : ¬ (200 : Int) < (na : Int) := by omega
      by_cases hD : 200 < nb
      · have hD' : (200 : Int) < (nb : Int) := by omega
        have HB : Hid (lrgB T ng nc na nb = true) := hide (by rw [hTt]; unfold lrgB; simp [hD])
        clear hTt hgo hrr hk ht
        go_wp2_with fail
        go_ret
        exact ⟨by rw [HB.out]; rfl, HBW.out⟩
      have hD' : ¬ (200 : Int) < (nb : Int) := by omega
      have HB : Hid (lrgB T ng nc na nb = false) := hide (by rw [hTt]; unfold lrgB; simp [decide_eq_false h3, decide_eq_false hA, decide_eq_false hB, decide_eq_false hC, decide_eq_false hD] <;> omega)
      clear hTt hgo hrr hk ht
      go_wp2_with fail
      go_ret
      exact ⟨by rw [HB.out]; rfl, HBW.out⟩
    have hlt := hgo.1
    have hle := hgo.2
    have hlt' : (k : Int) < (ng : Int) := by omega
    have hle' : (t : Int) ≤ 30000 := by omega
    obtain ⟨b, o, rfl, hbl, hcell⟩ : ∃ b o, ga = some ⟨b, o, none⟩ ∧ b < w.heap.size ∧ ∀ i, i < gs.length → w.cell? ⟨b, o + i, none⟩ = some (.string (gs.getD i ⟨#[]⟩)) := by
      rcases HL.out with hz | h
      · have := HN.out
        rw [hz] at this; simp at this; omega
      · exact h
    rw [drop_gs gs k (by rw [HN.out]; exact hlt), lsum, if_pos hle] at hrr
    have c0 := hcell k (by rw [HN.out]; exact hlt)
    rw [← HBW.out.cell (p := ⟨b, o + k, none⟩) hbl] at c0
    have hsz : (gs.getD k ⟨#[]⟩).size ≤ 4611686018427387904 := by
      rw [List.getD_eq_getElem?_getD, List.getElem?_eq_getElem (by rw [HN.out]; exact hlt)]
      exact HZ.out _ (List.getElem_mem _)
    generalize gs.getD k ⟨#[]⟩ = sg at c0 hsz hrr
    have hsz' : (sg.size : Int) ≤ 4611686018427387904 := by omega
    have hblw : b < wr.heap.size := Nat.lt_of_lt_of_le hbl HBW.out.size
    have HRR := hide hrr
    clear hrr hcell hgo hlt hle hsz ht hk
    go_wp2_with fail
    go_roundw
    case rel => exact ⟨k + 1, t + sg.size, by go_num, by go_num, hide ⟨by omega, by omega, HKB.out, HBW.out, HRR.out⟩⟩
    case measure => simp [intOf]; omega
end Go.Proofs.YtpdfpbbamnhkfaaGreatDoor.F12
namespace Go.Proofs.YtpdfpbbamnhkfaaGreatDoor.F12
open Go.RowKit Go.Deep
set_option linter.unusedVariables false
set_option linter.unusedSimpArgs false
theorem ba {w u : World} (h : Below w.heap.size w u) (o : Obj) : Below w.heap.size w (u.alloc o) := h.alloc h.size o
theorem bdr {w u : World} (h : Below w.heap.size w u) : Below w.heap.size w u.drew := ⟨h.os, h.tape, h.output, h.size, h.block⟩
theorem info_strs : (Tryz.prog.info? 9).map (fun i => (i.zero, i.size, i.bytes)) = some (some (.string ⟨#[]⟩), 1, 16) := by kernel_rfl
theorem app_S2 (u : World) (H : Nat) (a : Option Addr) (n c : Nat) (zs : List ByteArray) (hz : zs.length = n) (h : n ≤ 100000) (hL : G10.SLst u a zs) :
    ∃ g c' w', (Builtin.append_ #[26, 26] 26 #[.slice (some ⟨H, 0, none⟩) 0 0, .slice a n c]).run Tryz.prog u = .ok (.slice (some ⟨g, 0, none⟩) n c') w' ∧ (G10.SLst w' (some ⟨g, 0, none⟩) zs ∧ Below u.heap.size u w') := by
  obtain ⟨i0, hi, hz0, hz1, hz2⟩ := info_parts5 info_strs
  rcases Nat.eq_zero_or_pos n with h0 | h0
  · subst h0
    obtain rfl : zs = [] := List.eq_nil_of_length_eq_zero hz
    have hs : Src Tryz.prog i0.size 26 (.slice a 0 c) 0 [] u := by
      cases a with
      | none => exact Src.ofNil _ Tryz.underlying26 c
      | some x => exact Src.ofSlice _ Tryz.underlying26 x 0 c [] (by simp) (by simp) (by simp)
    have hr := run_append_room_src (P := Tryz.prog) u 26 26 26 9 i0 Tryz.underlying26 hi H 0 0 0 _ 0 [] hs (by omega) (by simp) (by simp)
    exact ⟨H, 0, u, by simpa [World.setCells] using hr, Or.inl rfl, Below.refl _ _⟩
  · rcases hL with hz' | ⟨b, off, rfl, hb, hcell⟩
    · rw [hz'] at hz; simp at hz; omega
    have hs : Src Tryz.prog i0.size 26 (.slice (some ⟨b, off, none⟩) n c) n (zs.map Value.string) u := by
      refine Src.ofSlice u Tryz.underlying26 ⟨b, off, none⟩ n c _ (by rw [hz1]; simp [hz]) ?_ (fun u hu => by obtain ⟨x, _, rfl⟩ := List.mem_map.1 hu; rfl)
      intro j v hu
      have hj : j < zs.length := by
        have := List.getElem?_eq_some_iff.1 hu
        simpa using this.1
      rw [Go.WideShapes.add_plain, hcell j hj]
      rw [List.getElem?_map, List.getElem?_eq_getElem hj] at hu
      simp at hu
      rw [← hu, List.getD_eq_getElem?_getD, List.getElem?_eq_getElem hj]
      rfl
    have hr := run_append_grow_src (P := Tryz.prog) u 26 26 26 9 i0 (.string ⟨#[]⟩) Tryz.underlying26 hi hz0 (some ⟨H, 0, none⟩) 0 0 [] (run_firstCells_some _ i0.size 0 _ 0 0 [] (by simp) (by simp)) _ n _ hs (by omega) (by omega)
      (by rw [hz2]; have := growslice_fits (need := 0 + n) (old := 0) (bytes := 16) (by omega) (by omega); exact this)
    simp only [Nat.zero_add, List.nil_append] at hr
    have hsz : (u.drew).heap.size = u.heap.size := rfl
    refine ⟨_, _, _, hr, Or.inr ⟨u.heap.size, 0, rfl, by simp, fun i hi => ?_⟩, (bdr (Below.refl _ _)).alloc (Nat.le_refl _) _⟩
    rw [Nat.zero_add, World.cell?_alloc_at _ _ _ _ hsz.symm, Array.getElem?_append_left (by simpa using hi)]
    simp [List.getElem?_eq_getElem hi, List.getD_eq_getElem?_getD]
end Go.Proofs.YtpdfpbbamnhkfaaGreatDoor.F12
