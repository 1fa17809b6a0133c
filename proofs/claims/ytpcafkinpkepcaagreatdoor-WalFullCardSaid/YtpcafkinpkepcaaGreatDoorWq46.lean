import Derived.Test.YtpcafkinpkepcaaGreatDoorWq45
import Derived.Test.YtpcafkinpkepcaaGreatDoorWq42
import Derived.Test.YtpcafkinpkepcaaGreatDoorWq43
/-
  Wq46: WlDoes, WlBegin, in one text.
-/
/-
  LAYER 3 (wal), the laws' own helpers: does, where an act saves or resets.
-/
namespace Go.Proofs.YtpcafkinpkepcaaGreatDoor
open Go.RowKit Go.Maps
set_option linter.unusedVariables false
set_option maxRecDepth 100000

/-- The laws' pair of a disk and a log. -/
def PairAt (w : World) (q a p : Nat) : Prop := own w q #[.pointer (some ⟨a, 0, none⟩), .pointer (some ⟨p, 0, none⟩)] 38
set_option maxHeartbeats 8000000 in
theorem does_any3 {w : World} {T : Nat → Prop} {p a q : Nat} {s : Dk} {g : Lg} {B0 : Nat} (h : LogAt w T p a s g) (hq : PairAt w q a p) (hqT : ¬ T q) (hg : Glob w B0) (hB0 : B0 ≤ w.heap.size) (ac : Wa) (hac : WaOk ac) (hop : pickZ ac.op 10 < 7) (hgl : g.L.length ≤ 99000)
    (kv nv : Value) (hk : ∃ x n c, kv = .slice x n c) (hn : ∃ x n c, nv = .slice x n c) :
    Calls Tryz.prog 18 #[.pointer (some ⟨q, 0, none⟩), waV ac kv nv] w (SavePost w T p a (actW s g ac)) := by
  have HP := hid (fun wx => pick3_any ac.op 10 wx (by omega) (by omega) hac.op)
  have hro := pkRange ac.op 10 (by omega)
  have hHard := hardA_any ac hac kv nv hk hn
  have hEnts := entriesA_any ac hac kv nv hk hn
  obtain ⟨ka, kn, kc, rfl⟩ := hk
  obtain ⟨na, nn, nc, rfl⟩ := hn
  have hb0 : Below w.heap.size w (w.alloc (.cells #[.int .i64 ac.op, .int .i64 ac.term, .int .i64 ac.vote, .int .i64 ac.idx, .int .i64 ac.n, .string ac.data, .slice ka kn kc, .slice na nn nc] 34)) := (Below.refl _ _).alloc (Nat.le_refl _) _
  have hbx := own.new w #[.int .i64 ac.op, .int .i64 ac.term, .int .i64 ac.vote, .int .i64 ac.idx, .int .i64 ac.n, .string ac.data, .slice ka kn kc, .slice na nn nc] 34
  have hlt := h.lt
  have hqlt := hq.lt
  have c1 := ((hq.same (hb0.block _ hqlt)).cell 1).trans rfl
  have b0 := (hbx.cell 0).trans rfl
  by_cases h6 : pickZ ac.op 10 = 6
  · have hact : actW s g ac = resetL s g := by unfold actW; rw [if_pos h6]
    rw [hact]
    rw [h6] at HP
    have HRs := hid (reset_any (h.below hb0) (hg.below hb0 hB0) (by have := hb0.size; omega))
    have HFin := hid (fun e w' (hp : SavePost (w.alloc (.cells #[.int .i64 ac.op, .int .i64 ac.term, .int .i64 ac.vote, .int .i64 ac.idx, .int .i64 ac.n, .string ac.data, .slice ka kn kc, .slice na nn nc] 34)) T p a (resetL s g) e w') => (show e = .returned (.int .i64 (resetL s g).2.2) ∧ SavePost w T p a (resetL s g) (.returned (.int .i64 (resetL s g).2.2)) w' from ⟨hp.1, rfl, hp.2.rebase hb0 hlt⟩))
    clear h hq hg hHard hEnts hac hact h6 hro hop hb0 hbx
    generalize resetL s g = r at *
    unfold waV
    go_enter Tryz.func18, Tryz.ntmps18
    go_wp2_with (first
      | (go_at_call 17; (with_reducible refine (HP.out _).mono ?_); rintro e w1 ⟨rfl, rfl⟩)
      | (go_at_call 56; (with_reducible refine HRs.out.mono ?_); intro e w2 hp2; obtain ⟨rfl, hp3⟩ := HFin.out _ _ hp2; have HP3 := hid hp3; clear hp2 hp3))
    go_ret
    exact HP3.out
  · have hact : actW s g ac = saveL s g (hdA ac) (entA ac) := by unfold actW; rw [if_neg h6]
    rw [hact]
    have hhi := hdA_in hac
    have hei := entA_in hac
    have hel := entA_len ac
    have HHard := hid hHard
    have HEnts := hid hEnts
    have HX := hid (fun wx (hx : Below (w.heap.size + 1) (w.alloc (.cells #[.int .i64 ac.op, .int .i64 ac.term, .int .i64 ac.vote, .int .i64 ac.idx, .int .i64 ac.n, .string ac.data, .slice ka kn kc, .slice na nn nc] 34)) wx) => (show (wx.cell? ⟨q, 1, none⟩ = some (.pointer (some ⟨p, 0, none⟩)) ∧ wx.cell? ⟨w.heap.size, 0, none⟩ = some (.int .i64 ac.op) ∧ wx.cell? ⟨w.heap.size, 1, none⟩ = some (.int .i64 ac.term) ∧ wx.cell? ⟨w.heap.size, 2, none⟩ = some (.int .i64 ac.vote) ∧ wx.cell? ⟨w.heap.size, 3, none⟩ = some (.int .i64 ac.idx) ∧ wx.cell? ⟨w.heap.size, 4, none⟩ = some (.int .i64 ac.n) ∧ wx.cell? ⟨w.heap.size, 5, none⟩ = some (.string ac.data) ∧ wx.cell? ⟨w.heap.size, 6, none⟩ = some (.slice ka kn kc) ∧ wx.cell? ⟨w.heap.size, 7, none⟩ = some (.slice na nn nc)) from by
      have h1 := hbx.same (hx.block _ (by omega))
      have h2 := (hq.same (hb0.block _ hqlt)).same (hx.block _ (by omega))
      exact ⟨(h2.cell 1).trans rfl, (h1.cell 0).trans rfl, (h1.cell 1).trans rfl, (h1.cell 2).trans rfl, (h1.cell 3).trans rfl, (h1.cell 4).trans rfl, (h1.cell 5).trans rfl, (h1.cell 6).trans rfl, (h1.cell 7).trans rfl⟩))
    have HSave := hid (fun wx v (hx : Below (w.heap.size + 1) (w.alloc (.cells #[.int .i64 ac.op, .int .i64 ac.term, .int .i64 ac.vote, .int .i64 ac.idx, .int .i64 ac.n, .string ac.data, .slice ka kn kc, .slice na nn nc] 34)) wx) (hv : EntsAt wx v (entA ac)) (hvT : ∀ g0 o n c, v = .slice (some ⟨g0, o, none⟩) n c → w.heap.size ≤ g0) =>
      (show Calls Tryz.prog 42 #[.pointer (some ⟨p, 0, none⟩), .agg #[.int .i64 (hdA ac).term, .int .i64 (hdA ac).vote], v] wx (fun e w5 => e = .returned (.int .i64 (saveL s g (hdA ac) (entA ac)).2.2) ∧ SavePost w T p a (saveL s g (hdA ac) (entA ac)) (.returned (.int .i64 (saveL s g (hdA ac) (entA ac)).2.2)) w5 ∧ (w5.cell? ⟨q, 1, none⟩ = some (.pointer (some ⟨p, 0, none⟩)) ∧ w5.cell? ⟨w.heap.size, 0, none⟩ = some (.int .i64 ac.op) ∧ w5.cell? ⟨w.heap.size, 1, none⟩ = some (.int .i64 ac.term) ∧ w5.cell? ⟨w.heap.size, 2, none⟩ = some (.int .i64 ac.vote) ∧ w5.cell? ⟨w.heap.size, 3, none⟩ = some (.int .i64 ac.idx) ∧ w5.cell? ⟨w.heap.size, 4, none⟩ = some (.int .i64 ac.n) ∧ w5.cell? ⟨w.heap.size, 5, none⟩ = some (.string ac.data) ∧ w5.cell? ⟨w.heap.size, 6, none⟩ = some (.slice ka kn kc) ∧ w5.cell? ⟨w.heap.size, 7, none⟩ = some (.slice na nn nc))) from by
        have hbw : Below w.heap.size w wx := hb0.trans (hx.mono (by omega))
        refine (save_any (h.below hbw) (hg.below hbw hB0) (by have := hbw.size; omega) (hdA ac) hhi.1 hhi.2 v (entA ac) hv (fun g0 o n c e hT => by have := hvT g0 o n c e; have := hlt g0 hT; omega) (fun e he => ⟨(hei e he).1, by have := (hei e he).2; omega⟩) (by omega) (by omega)).mono ?_
        rintro e w5 ⟨he, hr5⟩
        have hxs := hx.size
        simp at hxs
        have hq5 := ((hq.same (hb0.block _ hqlt)).same (hx.block _ (by omega))).same (hr5.2.block q (by omega) hqT)
        have hb5 := (hbx.same (hx.block _ (by omega))).same (hr5.2.block w.heap.size (by omega) (fun e => by have := hlt _ e; omega))
        exact ⟨he, ⟨rfl, hr5.rebase hbw hlt⟩, (hq5.cell 1).trans rfl, (hb5.cell 0).trans rfl, (hb5.cell 1).trans rfl, (hb5.cell 2).trans rfl, (hb5.cell 3).trans rfl, (hb5.cell 4).trans rfl, (hb5.cell 5).trans rfl, (hb5.cell 6).trans rfl, (hb5.cell 7).trans rfl⟩))
    have e6 : (pickZ ac.op 10 == 6) = false := beq_eq_false_iff_ne.2 h6
    have e7 : (pickZ ac.op 10 == 7) = false := beq_eq_false_iff_ne.2 (by omega)
    have e8 : (pickZ ac.op 10 == 8) = false := beq_eq_false_iff_ne.2 (by omega)
    have e9 : (pickZ ac.op 10 == 9) = false := beq_eq_false_iff_ne.2 (by omega)
    have hz0 : (w.alloc (.cells #[.int .i64 ac.op, .int .i64 ac.term, .int .i64 ac.vote, .int .i64 ac.idx, .int .i64 ac.n, .string ac.data, .slice ka kn kc, .slice na nn nc] 34)).heap.size = w.heap.size + 1 := by simp
    have hbk : Below (w.heap.size + 1) (w.alloc (.cells #[.int .i64 ac.op, .int .i64 ac.term, .int .i64 ac.vote, .int .i64 ac.idx, .int .i64 ac.n, .string ac.data, .slice ka kn kc, .slice na nn nc] 34)) (w.alloc (.cells #[.int .i64 ac.op, .int .i64 ac.term, .int .i64 ac.vote, .int .i64 ac.idx, .int .i64 ac.n, .string ac.data, .slice ka kn kc, .slice na nn nc] 34)).drew := Below.drew (Below.refl _ _)
    have HZ0 := hid hz0
    clear h hq hg hHard hEnts hac hact h6 hro hop hb0 hbx hhi hei hel hgl hz0
    unfold waV at *
    generalize saveL s g (hdA ac) (entA ac) = r at *
    generalize (hdA ac).term = t1 at *
    generalize (hdA ac).vote = t2 at *
    generalize pickZ ac.op 10 = o at *
    generalize ac.op = x0 at *
    generalize ac.term = x1 at *
    generalize ac.vote = x2 at *
    generalize ac.idx = x3 at *
    generalize ac.n = x4 at *
    generalize ac.data = x5 at *
    go_enter Tryz.func18, Tryz.ntmps18
    go_wp2_with (go_at_call 17; (with_reducible refine (HP.out _).mono ?_); rintro e w1 ⟨rfl, rfl⟩)
    go_region_held3 (fun wx => wx.cell? ⟨q, 1, none⟩ = some (.pointer (some ⟨p, 0, none⟩)) ∧ wx.cell? ⟨w.heap.size, 0, none⟩ = some (.int .i64 x0) ∧ wx.cell? ⟨w.heap.size, 1, none⟩ = some (.int .i64 x1) ∧ wx.cell? ⟨w.heap.size, 2, none⟩ = some (.int .i64 x2) ∧ wx.cell? ⟨w.heap.size, 3, none⟩ = some (.int .i64 x3) ∧ wx.cell? ⟨w.heap.size, 4, none⟩ = some (.int .i64 x4) ∧ wx.cell? ⟨w.heap.size, 5, none⟩ = some (.string x5) ∧ wx.cell? ⟨w.heap.size, 6, none⟩ = some (.slice ka kn kc) ∧ wx.cell? ⟨w.heap.size, 7, none⟩ = some (.slice na nn nc))
      (first | (with_reducible exact HX.out _ hbk) | (with_reducible exact hS5))
      (first
        | (go_at_call 36; (with_reducible refine (HHard.out _).mono ?_); rintro e w2 ⟨rfl, hb2⟩; have hbk := hbk.trans (hb2.mono (by have := hbk.size; rw [HZ0.out] at this; exact this)); first | (have HE := hid (EntsAt.below HE.out hb2)) | skip)
        | (go_at_call 35; (with_reducible refine (HEnts.out _).mono ?_); rintro e w3 ⟨v3, rfl, hr3, hb3⟩; have HNT := hid (fun g0 o n c (e : v3 = .slice (some ⟨g0, o, none⟩) n c) => (show w.heap.size ≤ g0 from by have h1 := (World.ownsRow.lt hr3 g0 (by rw [e]; rfl)).1; have h2 := (by have := hbk.size; rw [HZ0.out] at this; exact this); omega)); have hbk := hbk.trans (hb3.mono (by have := hbk.size; rw [HZ0.out] at this; exact this)); have HE := hid hr3.ents; obtain ⟨ao, cap, rfl, -, -⟩ := hr3.slice; clear hr3)
        | (go_at_call 42; (with_reducible refine (HSave.out _ _ hbk HE.out HNT.out).mono ?_); rintro e w5 ⟨rfl, hp5, hS5⟩; have HP5 := hid hp5; clear hp5))
    all_goals
      go_wp2
      go_ret
      exact HP5.out
end Go.Proofs.YtpcafkinpkepcaaGreatDoor

/-
  LAYER 3 (wal), the laws' own helpers: begin.
-/
namespace Go.Proofs.YtpcafkinpkepcaaGreatDoor
open Go.RowKit Go.Maps
set_option linter.unusedVariables false
set_option maxRecDepth 100000

theorem good_new {m : Int} (h0 : 0 ≤ m) (h1 : m ≤ 10000000) : Good (newD m) := ⟨rfl, by show (-1 : Int) < 0; omega, Ok_new h0 h1, fun f hf => by simp [newD] at hf, by simp [newD]⟩
theorem rcH_len : (rcL (.hard ⟨0, 0⟩)).length ≤ 100 := by
  have := encs_length [1, 0, 0] (by intro m hm; simp at hm; rcases hm with rfl | rfl <;> exact ⟨by omega, by omega⟩)
  unfold rcL
  rw [frameL_length]
  simp only [payL]
  simp at this
  omega
theorem open0_good {m : Int} (h0 : 100 ≤ m) (h1 : m ≤ 10000000) : (open0 (newD m)).2 = 0 ∧ Good (open0 (newD m)).1 ∧ (open0 (newD m)).1.most = m := by
  have hl := rcH_len
  rcases (good_new (by omega) h1).write (n := segN 1) (isSeg_segN (n := 1) (by omega) (by omega)) (.inr (by simp [newD])) (rcL (.hard ⟨0, 0⟩)) with ⟨_, h⟩ | ⟨h2, h3, _, h5⟩
  · exfalso
    have : m - ((0 : Nat) : Int) < ((rcL (.hard ⟨0, 0⟩)).length : Int) := h
    omega
  · exact ⟨h2, h3, h5⟩
theorem segs_nil : segsL [] = [] := by
  have := (segsL_perm []).length_eq
  simp at this
  exact this
/-- What begin leaves: the pair, and the document's. -/
structure Begun (W w : World) (q a p mq r ql : Nat) (T S : Nat → Prop) (s c : Dk) : Prop where
  log : LogAt w T p a s g0
  pair : PairAt w q a p
  ref : RefIs w S r c
  rlog : RefLog w ql r ⟨0, 0⟩ (.slice none 0 0)
  model : own w mq #[.pointer (some ⟨r, 0, none⟩), .pointer (some ⟨ql, 0, none⟩)] 45
  tq : ¬ T q
  tS : ∀ b, S b → ¬ T b
  tl : ¬ T ql
  tm : ¬ T mq
  sq : ¬ S q
  sl : ¬ S ql
  sm : ¬ S mq
  ge : (∀ b, T b → W.heap.size ≤ b) ∧ (∀ b, S b → W.heap.size ≤ b) ∧ W.heap.size ≤ q ∧ W.heap.size ≤ mq ∧ W.heap.size ≤ ql
  below : Below W.heap.size W w
theorem LogAt.apart {w w' : World} {T U : Nat → Prop} {p a : Nat} {s : Dk} {g : Lg} (h : LogAt w T p a s g) (hc : Chg U w w') (hU : ∀ b, T b → ¬ U b) : LogAt w' T p a s g := by
  obtain ⟨⟨S, v, h1, h2, h3, h4, h5, h6, h7⟩, hl, ho, hn⟩ := h
  exact ⟨⟨S, v, h1.same hc.size (fun b hb => hc.block b (hl b (h5 b hb)) (hU b (h5 b hb))), h2.same (hc.block p (hl p h6) (hU p h6)) (fun b hb => hc.block b (hl b (h7 b hb)) (hU b (h7 b hb))), h3, h4, h5, h6, h7⟩, fun b hb => by have := hl b hb; have := hc.size; omega, ho, hn⟩
def BeginPost (w : World) (s : Dk) (e : Ending) (w' : World) : Prop :=
  ∃ q a p mq r ql T S, e = .returned (.tuple #[.pointer (some ⟨q, 0, none⟩), .pointer (some ⟨mq, 0, none⟩), .bool true]) ∧ Begun w w' q a p mq r ql T S s s
set_option maxHeartbeats 8000000 in
theorem begin_any (m : Int) (w : World) {B0 : Nat} (hg : Glob w B0) (hB0 : B0 ≤ w.heap.size) (h0 : 100 ≤ m) (h1 : m ≤ 10000000) :
    Calls Tryz.prog 16 #[.int .i64 m] w (BeginPost w (open0 (newD m)).1) := by
  obtain ⟨k2, _, _⟩ := open0_good h0 h1
  have HN := hid (fun wx => new_ok m wx (by omega) h1)
  have HR := hid (fun wx => refNew_ok m wx (by omega) h1)
  have HO := hid (fun wx S a (hx : Below w.heap.size w wx) (hD : DiskIs wx S a (newD m)) => open0_any hD (hg.below hx hB0) (by have := hx.size; omega) (by rw [show (newD m).L = [] from rfl, segs_nil]) k2)
  have HRO := hid (fun wx S r (hD : RefIs wx S r (newD m)) => refOpen0_any hD rfl rfl k2)
  have HGlob := hid hg
  clear hg
  generalize (open0 (newD m)).1 = s at *
  generalize newD m = s0 at *
  go_enter Tryz.func16, Tryz.ntmps16
  go_wp2_with (first
    | (go_at_call 28; (with_reducible refine (HN.out _).mono ?_); rintro e w1 ⟨a, S1, rfl, hD1, hS1, hb1⟩; have HD1 := hid hD1; have HS1 := hid hS1; clear hD1 hS1)
    | (go_at_call 29; (with_reducible refine (HR.out _).mono ?_); rintro e w2 ⟨r, S2, rfl, hR2, hS2, hb2⟩; have HR2 := hid hR2; have HS2 := hid hS2; clear hR2 hS2; have hb12 := hb1.trans (hb2.mono hb1.size); have HD2 := hid (HD1.out.below hb2))
    | (go_at_call 32; (with_reducible refine (HO.out _ _ _ hb12 HD2.out).mono ?_); rintro e w3 ⟨p, T, rfl, hL3, hT3, hc3, hp3⟩; have HL3 := hid hL3; have HT3 := hid hT3; have HC3 := hid hc3; have HP3 := hid hp3; clear hL3 hT3 hc3 hp3; have HR3 := hid (HR2.out.same HC3.out.size (fun b hb => HC3.out.block b (refIs_lt HR2.out b hb) (fun hS => by have h1 := HS2.out b hb; have h2 := diskIs_lt HD1.out b hS; omega))))
    | (go_at_call 33; (with_reducible refine (HRO.out _ _ _ HR3.out).mono ?_); rintro e w4 ⟨ql, S4, rfl, hR4, hS4, hq4, hl4, hc4, hp4⟩; have HR4 := hid hR4; have HS4 := hid hS4; have HQ4 := hid hq4; have HLl4 := hid hl4; have HC4 := hid hc4; have HP4 := hid hp4; clear hR4 hS4 hq4 hl4 hc4 hp4))
  have hfin : BeginPost w s (.returned (.tuple #[.pointer (some ⟨w4.heap.size, 0, none⟩), .pointer (some ⟨w4.heap.size + 1, 0, none⟩), .bool true])) ((w4.alloc (.cells #[.pointer (some ⟨a, 0, none⟩), .pointer (some ⟨p, 0, none⟩)] 38)).alloc (.cells #[.pointer (some ⟨r, 0, none⟩), .pointer (some ⟨ql, 0, none⟩)] 45)) := by
    have hb5 : Below w4.heap.size w4 ((w4.alloc (.cells #[.pointer (some ⟨a, 0, none⟩), .pointer (some ⟨p, 0, none⟩)] 38)).alloc (.cells #[.pointer (some ⟨r, 0, none⟩), .pointer (some ⟨ql, 0, none⟩)] 45)) := ((Below.refl _ w4).alloc (Nat.le_refl _) _).alloc (by simp) _
    have z1 := hb1.size
    have z2 := hb2.size
    have z3 := HC3.out.size
    have z4 := HC4.out.size
    have hS1 := HS1.out
    have hS2 := HS2.out
    have hT3 := HT3.out
    have hS4 := HS4.out
    have lS1 := diskIs_lt HD1.out
    have lS2 := refIs_lt HR2.out
    have lT3 := HL3.out.lt
    have lS4 := refIs_lt HR4.out
    have hp4 := HP4.out
    have hTS : ∀ b, T b → ¬ S2 b := fun b hT hS => by
      have h1 := hS2 b hS; have h2 := lS2 b hS
      rcases hT3 b hT with h | h
      · have := lS1 b h; omega
      · omega
    have hTge : ∀ b, T b → w.heap.size ≤ b := fun b hT => by
      rcases hT3 b hT with h | h
      · exact hS1 b h
      · omega
    have hSge : ∀ b, S4 b → w.heap.size ≤ b := fun b hS => by
      rcases hS4 b hS with h | h
      · have := hS2 b h; omega
      · omega
    have hb3 : Below w.heap.size w w3 := (hb12).trans (HC3.out.below (by omega) (fun b hb => by have := hS1 b hb; omega))
    have hb4 : Below w.heap.size w w4 := hb3.trans (HC4.out.below (by omega) (fun b hb => by have := hS2 b hb; omega))
    refine ⟨w4.heap.size, a, p, w4.heap.size + 1, r, ql, T, S4, rfl, ⟨(HL3.out.apart HC4.out hTS).below hb5, (own.new w4 _ _).same (Below.heap_alloc _ _ _ (by simp)), HR4.out.below hb5, (HLl4.out : own _ _ _ _).same (hb5.block _ (own.lt HLl4.out)), ?_, fun hT => by have := lT3 _ hT; omega, fun b hS hT => ?_, fun hT => by have := lT3 _ hT; omega, fun hT => by have := lT3 _ hT; omega, fun hS => by have := lS4 _ hS; omega, HQ4.out, fun hS => by have := lS4 _ hS; omega, ⟨hTge, hSge, by omega, by omega, by omega⟩, hb4.trans (hb5.mono (by omega))⟩⟩
    · exact own_new (by simp)
    · rcases hS4 b hS with h | h
      · exact hTS b hT h
      · have := lT3 b hT; omega
  have HF := hid hfin
  clear hfin
  go_ret3
  exact HF.out
end Go.Proofs.YtpcafkinpkepcaaGreatDoor

