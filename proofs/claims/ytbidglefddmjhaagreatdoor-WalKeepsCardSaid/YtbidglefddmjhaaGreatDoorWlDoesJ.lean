import Derived.Test.YtbidglefddmjhaaGreatDoorMqdJ
import Derived.Test.YtbidglefddmjhaaGreatDoorWlResetJ
/-
  LAYER 3 (wal), the laws' own helpers: does, where an act saves or resets.
-/
namespace Go.Proofs.YtbidglefddmjhaaGreatDoor
open Go.RowKit Go.Maps
set_option linter.unusedVariables false
set_option maxRecDepth 100000

/-- The laws' pair of a disk and a log. -/
def PairAt (w : World) (q a p : Nat) : Prop := own w q #[.pointer (some ⟨a, 0, none⟩), .pointer (some ⟨p, 0, none⟩)] 38
set_option maxHeartbeats 8000000 in
theorem does_any3 {w : World} {T : Nat → Prop} {p a q : Nat} {s : Dk} {g : Lg} {B0 : Nat} (h : LogAt w T p a s g) (hq : PairAt w q a p) (hqT : ¬ T q) (hg : Glob w B0) (hB0 : B0 ≤ w.heap.size) (ac : Wa) (hac : WaOk ac) (hop : pickZ ac.op 10 < 7) (hgl : g.L.length ≤ 99000)
    (kv nv : Value) (hk : ∃ x n c, kv = .slice x n c) (hn : ∃ x n c, nv = .slice x n c) :
    Calls Tryz.prog 15 #[.pointer (some ⟨q, 0, none⟩), waV ac kv nv] w (SavePost w T p a (actW s g ac)) := by
  have HP := hid (fun wx => pick3_any ac.op 10 wx (by omega) (by omega) hac.op)
  have hro := pkRange ac.op 10 (by omega)
  have hHard := hardA_any ac hac kv nv hk hn
  have hEnts := entriesA_any ac hac kv nv hk hn
  obtain ⟨ka, kn, kc, rfl⟩ := hk
  obtain ⟨na, nn, nc, rfl⟩ := hn
  have hb0 : Below w.heap.size w (w.alloc (.cells #[.int .i64 ac.op, .int .i64 ac.term, .int .i64 ac.vote, .int .i64 ac.idx, .int .i64 ac.n, .string ac.data, .slice ka kn kc, .slice na nn nc] 34)) := (Below.refl _ _).alloc (Nat.le_refl _) _
  have hbx := own.new w #[.int .i64 ac.op, .int .i64 ac.term, .int .i64 ac.vote, .int .i64 ac.idx, .int .i64 ac.n, .string ac.data, .slice ka kn kc, .slice na nn nc] 34
  have hlt := h.lt
  have hqlt := hq.lt
  have c1 := ((hq.same (hb0.block _ hqlt)).cell 1).trans rfl
  have b0 := (hbx.cell 0).trans rfl
  by_cases h6 : pickZ ac.op 10 = 6
  · have hact : actW s g ac = resetL s g := by unfold actW; rw [if_pos h6]
    rw [hact]
    rw [h6] at HP
    have HRs := hid (reset_any (h.below hb0) (hg.below hb0 hB0) (by have := hb0.size; omega))
    have HFin := hid (fun e w' (hp : SavePost (w.alloc (.cells #[.int .i64 ac.op, .int .i64 ac.term, .int .i64 ac.vote, .int .i64 ac.idx, .int .i64 ac.n, .string ac.data, .slice ka kn kc, .slice na nn nc] 34)) T p a (resetL s g) e w') => (show e = .returned (.int .i64 (resetL s g).2.2) ∧ SavePost w T p a (resetL s g) (.returned (.int .i64 (resetL s g).2.2)) w' from ⟨hp.1, rfl, hp.2.rebase hb0 hlt⟩))
    clear h hq hg hHard hEnts hac hact h6 hro hop hb0 hbx
    generalize resetL s g = r at *
    unfold waV
    go_enter Tryz.func15, Tryz.ntmps15
    go_wp2_with (first
      | (go_at_call 14; (with_reducible refine (HP.out _).mono ?_); rintro e w1 ⟨rfl, rfl⟩)
      | (go_at_call 50; (with_reducible refine HRs.out.mono ?_); intro e w2 hp2; obtain ⟨rfl, hp3⟩ := HFin.out _ _ hp2; have HP3 := hid hp3; clear hp2 hp3))
    go_ret
    exact HP3.out
  · have hact : actW s g ac = saveL s g (hdA ac) (entA ac) := by unfold actW; rw [if_neg h6]
    rw [hact]
    have hhi := hdA_in hac
    have hei := entA_in hac
    have hel := entA_len ac
    have HHard := hid hHard
    have HEnts := hid hEnts
    have HX := hid (fun wx (hx : Below (w.heap.size + 1) (w.alloc (.cells #[.int .i64 ac.op, .int .i64 ac.term, .int .i64 ac.vote, .int .i64 ac.idx, .int .i64 ac.n, .string ac.data, .slice ka kn kc, .slice na nn nc] 34)) wx) => (show (wx.cell? ⟨q, 1, none⟩ = some (.pointer (some ⟨p, 0, none⟩)) ∧ wx.cell? ⟨w.heap.size, 0, none⟩ = some (.int .i64 ac.op) ∧ wx.cell? ⟨w.heap.size, 1, none⟩ = some (.int .i64 ac.term) ∧ wx.cell? ⟨w.heap.size, 2, none⟩ = some (.int .i64 ac.vote) ∧ wx.cell? ⟨w.heap.size, 3, none⟩ = some (.int .i64 ac.idx) ∧ wx.cell? ⟨w.heap.size, 4, none⟩ = some (.int .i64 ac.n) ∧ wx.cell? ⟨w.heap.size, 5, none⟩ = some (.string ac.data) ∧ wx.cell? ⟨w.heap.size, 6, none⟩ = some (.slice ka kn kc) ∧ wx.cell? ⟨w.heap.size, 7, none⟩ = some (.slice na nn nc)) from by
      have h1 := hbx.same (hx.block _ (by omega))
      have h2 := (hq.same (hb0.block _ hqlt)).same (hx.block _ (by omega))
      exact ⟨(h2.cell 1).trans rfl, (h1.cell 0).trans rfl, (h1.cell 1).trans rfl, (h1.cell 2).trans rfl, (h1.cell 3).trans rfl, (h1.cell 4).trans rfl, (h1.cell 5).trans rfl, (h1.cell 6).trans rfl, (h1.cell 7).trans rfl⟩))
    have HSave := hid (fun wx v (hx : Below (w.heap.size + 1) (w.alloc (.cells #[.int .i64 ac.op, .int .i64 ac.term, .int .i64 ac.vote, .int .i64 ac.idx, .int .i64 ac.n, .string ac.data, .slice ka kn kc, .slice na nn nc] 34)) wx) (hv : EntsAt wx v (entA ac)) (hvT : ∀ g0 o n c, v = .slice (some ⟨g0, o, none⟩) n c → w.heap.size ≤ g0) =>
      (show Calls Tryz.prog 48 #[.pointer (some ⟨p, 0, none⟩), .agg #[.int .i64 (hdA ac).term, .int .i64 (hdA ac).vote], v] wx (fun e w5 => e = .returned (.int .i64 (saveL s g (hdA ac) (entA ac)).2.2) ∧ SavePost w T p a (saveL s g (hdA ac) (entA ac)) (.returned (.int .i64 (saveL s g (hdA ac) (entA ac)).2.2)) w5 ∧ (w5.cell? ⟨q, 1, none⟩ = some (.pointer (some ⟨p, 0, none⟩)) ∧ w5.cell? ⟨w.heap.size, 0, none⟩ = some (.int .i64 ac.op) ∧ w5.cell? ⟨w.heap.size, 1, none⟩ = some (.int .i64 ac.term) ∧ w5.cell? ⟨w.heap.size, 2, none⟩ = some (.int .i64 ac.vote) ∧ w5.cell? ⟨w.heap.size, 3, none⟩ = some (.int .i64 ac.idx) ∧ w5.cell? ⟨w.heap.size, 4, none⟩ = some (.int .i64 ac.n) ∧ w5.cell? ⟨w.heap.size, 5, none⟩ = some (.string ac.data) ∧ w5.cell? ⟨w.heap.size, 6, none⟩ = some (.slice ka kn kc) ∧ w5.cell? ⟨w.heap.size, 7, none⟩ = some (.slice na nn nc))) from by
        have hbw : Below w.heap.size w wx := hb0.trans (hx.mono (by omega))
        refine (save_any (h.below hbw) (hg.below hbw hB0) (by have := hbw.size; omega) (hdA ac) hhi.1 hhi.2 v (entA ac) hv (fun g0 o n c e hT => by have := hvT g0 o n c e; have := hlt g0 hT; omega) (fun e he => ⟨(hei e he).1, by have := (hei e he).2; omega⟩) (by omega) (by omega)).mono ?_
        rintro e w5 ⟨he, hr5⟩
        have hxs := hx.size
        simp at hxs
        have hq5 := ((hq.same (hb0.block _ hqlt)).same (hx.block _ (by omega))).same (hr5.2.block q (by omega) hqT)
        have hb5 := (hbx.same (hx.block _ (by omega))).same (hr5.2.block w.heap.size (by omega) (fun e => by have := hlt _ e; omega))
        exact ⟨he, ⟨rfl, hr5.rebase hbw hlt⟩, (hq5.cell 1).trans rfl, (hb5.cell 0).trans rfl, (hb5.cell 1).trans rfl, (hb5.cell 2).trans rfl, (hb5.cell 3).trans rfl, (hb5.cell 4).trans rfl, (hb5.cell 5).trans rfl, (hb5.cell 6).trans rfl, (hb5.cell 7).trans rfl⟩))
    have e6 : (pickZ ac.op 10 == 6) = false := beq_eq_false_iff_ne.2 h6
    have e7 : (pickZ ac.op 10 == 7) = false := beq_eq_false_iff_ne.2 (by omega)
    have e8 : (pickZ ac.op 10 == 8) = false := beq_eq_false_iff_ne.2 (by omega)
    have e9 : (pickZ ac.op 10 == 9) = false := beq_eq_false_iff_ne.2 (by omega)
    have hz0 : (w.alloc (.cells #[.int .i64 ac.op, .int .i64 ac.term, .int .i64 ac.vote, .int .i64 ac.idx, .int .i64 ac.n, .string ac.data, .slice ka kn kc, .slice na nn nc] 34)).heap.size = w.heap.size + 1 := by simp
    have hbk : Below (w.heap.size + 1) (w.alloc (.cells #[.int .i64 ac.op, .int .i64 ac.term, .int .i64 ac.vote, .int .i64 ac.idx, .int .i64 ac.n, .string ac.data, .slice ka kn kc, .slice na nn nc] 34)) (w.alloc (.cells #[.int .i64 ac.op, .int .i64 ac.term, .int .i64 ac.vote, .int .i64 ac.idx, .int .i64 ac.n, .string ac.data, .slice ka kn kc, .slice na nn nc] 34)).drew := Below.drew (Below.refl _ _)
    have HZ0 := hid hz0
    clear h hq hg hHard hEnts hac hact h6 hro hop hb0 hbx hhi hei hel hgl hz0
    unfold waV at *
    generalize saveL s g (hdA ac) (entA ac) = r at *
    generalize (hdA ac).term = t1 at *
    generalize (hdA ac).vote = t2 at *
    generalize pickZ ac.op 10 = o at *
    generalize ac.op = x0 at *
    generalize ac.term = x1 at *
    generalize ac.vote = x2 at *
    generalize ac.idx = x3 at *
    generalize ac.n = x4 at *
    generalize ac.data = x5 at *
    go_enter Tryz.func15, Tryz.ntmps15
    go_wp2_with (go_at_call 14; (with_reducible refine (HP.out _).mono ?_); rintro e w1 ⟨rfl, rfl⟩)
    go_region_held3 (fun wx => wx.cell? ⟨q, 1, none⟩ = some (.pointer (some ⟨p, 0, none⟩)) ∧ wx.cell? ⟨w.heap.size, 0, none⟩ = some (.int .i64 x0) ∧ wx.cell? ⟨w.heap.size, 1, none⟩ = some (.int .i64 x1) ∧ wx.cell? ⟨w.heap.size, 2, none⟩ = some (.int .i64 x2) ∧ wx.cell? ⟨w.heap.size, 3, none⟩ = some (.int .i64 x3) ∧ wx.cell? ⟨w.heap.size, 4, none⟩ = some (.int .i64 x4) ∧ wx.cell? ⟨w.heap.size, 5, none⟩ = some (.string x5) ∧ wx.cell? ⟨w.heap.size, 6, none⟩ = some (.slice ka kn kc) ∧ wx.cell? ⟨w.heap.size, 7, none⟩ = some (.slice na nn nc))
      (first | (with_reducible exact HX.out _ hbk) | (with_reducible exact hS5))
      (first
        | (go_at_call 33; (with_reducible refine (HHard.out _).mono ?_); rintro e w2 ⟨rfl, hb2⟩; have hbk := hbk.trans (hb2.mono (by have := hbk.size; rw [HZ0.out] at this; exact this)); first | (have HE := hid (EntsAt.below HE.out hb2)) | skip)
        | (go_at_call 32; (with_reducible refine (HEnts.out _).mono ?_); rintro e w3 ⟨v3, rfl, hr3, hb3⟩; have HNT := hid (fun g0 o n c (e : v3 = .slice (some ⟨g0, o, none⟩) n c) => (show w.heap.size ≤ g0 from by have h1 := (World.ownsRow.lt hr3 g0 (by rw [e]; rfl)).1; have h2 := (by have := hbk.size; rw [HZ0.out] at this; exact this); omega)); have hbk := hbk.trans (hb3.mono (by have := hbk.size; rw [HZ0.out] at this; exact this)); have HE := hid hr3.ents; obtain ⟨ao, cap, rfl, -, -⟩ := hr3.slice; clear hr3)
        | (go_at_call 48; (with_reducible refine (HSave.out _ _ hbk HE.out HNT.out).mono ?_); rintro e w5 ⟨rfl, hp5, hS5⟩; have HP5 := hid hp5; clear hp5))
    all_goals
      go_wp2
      go_ret
      exact HP5.out
end Go.Proofs.YtbidglefddmjhaaGreatDoor

