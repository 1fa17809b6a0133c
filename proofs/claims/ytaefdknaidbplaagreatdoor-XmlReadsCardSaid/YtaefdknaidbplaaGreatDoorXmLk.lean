/-
  LAYER 11 (xml), THE LAWS' OWN HELPERS: alike (of the same tokens), wrong.
-/
import Derived.Test.YtaefdknaidbplaaGreatDoorXmRd
import Derived.Test.YtaefdknaidbplaaGreatDoorXmEs
namespace Go.Proofs.YtaefdknaidbplaaGreatDoor
open Go.RowKit
set_option linter.unusedVariables false
set_option maxRecDepth 100000

def raTy : RowTy AtX := ⟨40, 39, 2, 32, fun a => [.string (mk a.n), .string (mk a.v)], .agg #[.string ⟨#[]⟩, .string ⟨#[]⟩]⟩
theorem raTy_ok : raTy.Ok := ⟨fun _ => rfl, fun x u hu => by simp [raTy] at hu; rcases hu with rfl | rfl <;> rfl, by decide, Tryz.underlying40, by kernel_rfl, by kernel_rfl, rfl, by decide⟩
def rkTy : RowTy TkV := ⟨27, 42, 4, 64, fun x => [.int .i64 x.k, .string (mk x.n), .slice x.a x.m x.c, .string (mk x.t)], .agg #[.int .i64 0, .string ⟨#[]⟩, .slice none 0 0, .string ⟨#[]⟩]⟩
theorem rkTy_ok : rkTy.Ok := ⟨fun _ => rfl, fun x u hu => by simp [rkTy] at hu; rcases hu with rfl | rfl | rfl | rfl <;> rfl, by decide, Tryz.underlying27, by kernel_rfl, by kernel_rfl, rfl, by decide⟩
/-- The document's tokens. -/
structure RkIs (w : World) (x : TkV) (t : TkX) : Prop where
  hk : x.k = t.k
  hn : x.n = t.n
  ht : x.t = t.t
  ha : RAt raTy w (.slice x.a x.m x.c) t.as
def RksIs (w : World) (V : List TkV) (L : List TkX) : Prop := V.length = L.length ∧ ∀ (i : Nat) x t, V[i]? = some x → L[i]? = some t → RkIs w x t
def RokAt (w : World) (v : Value) (L : List TkX) : Prop := ∃ V, RAt rkTy w v V ∧ RksIs w V L
theorem RokAt.below {w w' : World} {v : Value} {L : List TkX} (h : RokAt w v L) (hb : Below w.heap.size w w') : RokAt w' v L := by
  obtain ⟨V, h1, h2, h3⟩ := h
  exact ⟨V, h1.below hb, h2, fun i x t hx ht => have k := h3 i x t hx ht; ⟨k.hk, k.hn, k.ht, k.ha.below hb⟩⟩
theorem ras_at {w : World} {v : Value} {L : List AtX} (h : RAt raTy w v L) : ∃ a cap, v = .slice a L.length cap ∧ ∀ (k : Nat) x, L[k]? = some x → ∃ sb so, a = some ⟨sb, so, none⟩ ∧ ∀ wx, Below w.heap.size w wx → wx.cell? ⟨sb, so + k * 2, none⟩ = some (.string (mk x.n)) ∧ wx.cell? ⟨sb, so + k * 2 + 1, none⟩ = some (.string (mk x.v)) := by
  obtain ⟨a, cap, rfl, _, _, hc⟩ := h.at raTy_ok
  refine ⟨a, cap, rfl, fun k x hk => ?_⟩
  obtain ⟨sb, so, e, hlt, hcs⟩ := hc k x hk
  exact ⟨sb, so, e, fun wx hb => ⟨(hb.cell (p := ⟨sb, _, none⟩) hlt).trans (hcs 0 _ rfl), (hb.cell (p := ⟨sb, _, none⟩) hlt).trans (hcs 1 _ rfl)⟩⟩
theorem tks_at {w : World} {v : Value} {L : List TkX} (h : TokAt w v L) : ∃ a cap, v = .slice a L.length cap ∧ ∀ (k : Nat) t, L[k]? = some t → ∃ sb so aa ac, a = some ⟨sb, so, none⟩ ∧ RAt atTy w (.slice aa t.as.length ac) t.as ∧ ∀ wx, Below w.heap.size w wx → wx.cell? ⟨sb, so + k * 4, none⟩ = some (.int .i64 t.k) ∧ wx.cell? ⟨sb, so + k * 4 + 1, none⟩ = some (.string (mk t.n)) ∧ wx.cell? ⟨sb, so + k * 4 + 2, none⟩ = some (.slice aa t.as.length ac) ∧ wx.cell? ⟨sb, so + k * 4 + 3, none⟩ = some (.string (mk t.t)) := by
  obtain ⟨V, h1, h2, h3⟩ := h
  obtain ⟨a, cap, rfl, _, _, hc⟩ := h1.at tkTy_ok
  refine ⟨a, cap, by rw [h2], fun k t hk => ?_⟩
  have hlt : k < V.length := by rw [h2]; exact (List.getElem?_eq_some_iff.1 hk).1
  obtain ⟨x, hx⟩ : ∃ x, V[k]? = some x := ⟨V[k], by simp [hlt]⟩
  have hi := h3 k x t hx hk
  obtain ⟨sb, so, e, hlt2, hcs⟩ := hc k x hx
  obtain ⟨aa, ac, e2, _⟩ := hi.ha.at atTy_ok
  have hl : x.m = t.as.length := by simp only [Value.slice.injEq] at e2; exact e2.2.1
  refine ⟨sb, so, x.a, x.c, e, by rw [← hl]; exact hi.ha, fun wx hb => ⟨?_, ?_, ?_, ?_⟩⟩
  · rw [← hi.hk]; exact (hb.cell (p := ⟨sb, _, none⟩) hlt2).trans (hcs 0 _ rfl)
  · rw [← hi.hn]; exact (hb.cell (p := ⟨sb, _, none⟩) hlt2).trans (hcs 1 _ rfl)
  · rw [← hl]; exact (hb.cell (p := ⟨sb, _, none⟩) hlt2).trans (hcs 2 _ rfl)
  · rw [← hi.ht]; exact (hb.cell (p := ⟨sb, _, none⟩) hlt2).trans (hcs 3 _ rfl)
theorem rks_at {w : World} {v : Value} {L : List TkX} (h : RokAt w v L) : ∃ a cap, v = .slice a L.length cap ∧ ∀ (k : Nat) t, L[k]? = some t → ∃ sb so aa ac, a = some ⟨sb, so, none⟩ ∧ RAt raTy w (.slice aa t.as.length ac) t.as ∧ ∀ wx, Below w.heap.size w wx → wx.cell? ⟨sb, so + k * 4, none⟩ = some (.int .i64 t.k) ∧ wx.cell? ⟨sb, so + k * 4 + 1, none⟩ = some (.string (mk t.n)) ∧ wx.cell? ⟨sb, so + k * 4 + 2, none⟩ = some (.slice aa t.as.length ac) ∧ wx.cell? ⟨sb, so + k * 4 + 3, none⟩ = some (.string (mk t.t)) := by
  obtain ⟨V, h1, h2, h3⟩ := h
  obtain ⟨a, cap, rfl, _, _, hc⟩ := h1.at rkTy_ok
  refine ⟨a, cap, by rw [h2], fun k t hk => ?_⟩
  have hlt : k < V.length := by rw [h2]; exact (List.getElem?_eq_some_iff.1 hk).1
  obtain ⟨x, hx⟩ : ∃ x, V[k]? = some x := ⟨V[k], by simp [hlt]⟩
  have hi := h3 k x t hx hk
  obtain ⟨sb, so, e, hlt2, hcs⟩ := hc k x hx
  obtain ⟨aa, ac, e2, _⟩ := hi.ha.at raTy_ok
  have hl : x.m = t.as.length := by simp only [Value.slice.injEq] at e2; exact e2.2.1
  refine ⟨sb, so, x.a, x.c, e, by rw [← hl]; exact hi.ha, fun wx hb => ⟨?_, ?_, ?_, ?_⟩⟩
  · rw [← hi.hk]; exact (hb.cell (p := ⟨sb, _, none⟩) hlt2).trans (hcs 0 _ rfl)
  · rw [← hi.hn]; exact (hb.cell (p := ⟨sb, _, none⟩) hlt2).trans (hcs 1 _ rfl)
  · rw [← hl]; exact (hb.cell (p := ⟨sb, _, none⟩) hlt2).trans (hcs 2 _ rfl)
  · rw [← hi.ht]; exact (hb.cell (p := ⟨sb, _, none⟩) hlt2).trans (hcs 3 _ rfl)
def LkRel (w : World) (n : Nat) (i : Value) (wr : World) : Prop := ∃ k : Nat, k ≤ n ∧ i = .int .i64 k ∧ Below w.heap.size w wr
set_option maxHeartbeats 8000000 in
theorem alike_same {w : World} {v u : Value} {L : List TkX} (h1 : TokAt w v L) (h2 : RokAt w u L) (hl : L.length ≤ 1000000) (ha : ∀ t ∈ L, t.as.length ≤ 1000000) :
    Calls Tryz.prog 8 #[v, u] w fun e w' => e = .returned (.bool true) ∧ Below w.heap.size w w' := by
  obtain ⟨a1, c1, rfl, t1⟩ := tks_at h1
  obtain ⟨a2, c2, rfl, t2⟩ := rks_at h2
  have T1 := hid t1
  have T2 := hid t2
  have HA := hid ha
  clear h1 h2 t1 t2 ha
  go_enter Tryz.func8, Tryz.ntmps8
  go_wp2
  go_loopw [5] (LkRel w L.length) (fun i _ => L.length - (intOf i).toNat)
  case atStart => exact ⟨0, Nat.zero_le _, rfl, Below.refl _ _⟩
  case round =>
    obtain ⟨k, hk, rfl, hb⟩ := hrel
    by_cases hlt : k < L.length
    · have hkI : (k : Int) < (L.length : Int) := by omega
      have hx : L[k]? = some L[k] := by simp [hlt]
      have hal : L[k].as.length ≤ 1000000 := HA.out _ (List.getElem_mem hlt)
      generalize L[k] = t at hx hal
      obtain ⟨sb, so, aa, ac, rfl, r1, f1⟩ := T1.out k t hx
      obtain ⟨sc, sd, ba, bc, rfl, r2, f2⟩ := T2.out k t hx
      obtain ⟨_, _, e1, g1⟩ := ats_at r1
      cases e1
      obtain ⟨_, _, e2, g2⟩ := ras_at r2
      cases e2
      have F1 := hid f1
      have F2 := hid f2
      have G1 := hid g1
      have G2 := hid g2
      obtain ⟨x0, x1, x2, x3⟩ := f1 _ hb
      obtain ⟨y0, y1, y2, y3⟩ := f2 _ hb
      have q0 : (t.k == t.k) = true := beq_self_eq_true _
      have q1 : ((mk t.n).toList == (mk t.n).toList) = true := beq_self_eq_true _
      have q2 : ((mk t.t).toList == (mk t.t).toList) = true := beq_self_eq_true _
      clear hx r1 r2 f1 f2 g1 g2
      go_wp2
      go_quiet (fail)
      all_goals
        have hb5 : Below w.heap.size w (wr.drewN nq) := below_drew hb nq
        clear x0 x1 x2 x3 y0 y1 y2 y3 q0 q1 q2
        generalize wr.drewN nq = w5 at *
        go_wp2
        go_loopw [6] (LkRel w5 t.as.length) (fun i _ => t.as.length - (intOf i).toNat)
        case atStart => exact ⟨0, Nat.zero_le _, rfl, Below.refl _ _⟩
        case round =>
          obtain ⟨j, hj, rfl, hbj⟩ := hrel
          have hb6 := hb5.trans (hbj.mono hb5.size)
          obtain ⟨-, -, x2, -⟩ := F1.out _ hb6
          obtain ⟨-, -, y2, -⟩ := F2.out _ hb6
          by_cases hjl : j < t.as.length
          · have hjI : (j : Int) < (t.as.length : Int) := by omega
            have hz : t.as[j]? = some t.as[j] := by simp [hjl]
            generalize t.as[j] = z at hz
            obtain ⟨_, _, rfl, f1⟩ := G1.out j z hz
            obtain ⟨_, _, rfl, f2⟩ := G2.out j z hz
            obtain ⟨x4, x5⟩ := f1 _ hb6
            obtain ⟨y4, y5⟩ := f2 _ hb6
            have q0 : ((mk z.n).toList == (mk z.n).toList) = true := beq_self_eq_true _
            have q1 : ((mk z.v).toList == (mk z.v).toList) = true := beq_self_eq_true _
            have HBj := hid (fun nq => below_drew hbj nq)
            clear hz f1 f2 hbj hb6
            go_wp2
            go_quiet (fail)
            all_goals
              go_wp2
              go_roundw
              case rel => exact ⟨j + 1, by omega, by go_num, HBj.out _⟩
              case measure => simp [intOf]; omega
          · obtain rfl : j = t.as.length := by omega
            go_wp2
            go_roundw
            case rel => exact ⟨k + 1, by omega, by go_num, hb6⟩
            case measure => simp [intOf]; omega
    · obtain rfl : k = L.length := by omega
      go_wp2
      go_ret
      exact ⟨rfl, hb⟩
end Go.Proofs.YtaefdknaidbplaaGreatDoor
