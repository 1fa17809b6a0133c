/-
  LAYER 9 (conf), the law ConfSteps: its walk.
-/
import Derived.Test.YtcjhiegiccekpaaCfCalls
import Derived.Deep.DeepCutAuto
namespace Go.Proofs.Ytcjhiegiccekpaa
open Go.RowKit
set_option linter.unusedVariables false
set_option maxRecDepth 100000

theorem turn_len_le (l : List Int) (x : Int) : (turnC l x).length ≤ l.length + 1 := by
  unfold turnC
  split
  · have := without_len l x; omega
  · exact with_len l x
theorem turn_in {w w' : World} {v u : Value} {l : List Int} {x : Int} (h : NumIn w v l) (hx : I64c x) (hl : l.length < 1000) (hr : RAt numTy w' u (turnC l x)) : NumIn w' u (turnC l x) := by
  unfold turnC at hr ⊢
  split at hr
  · rename_i e; rw [if_pos e]; exact in_without h hr
  · rename_i e; rw [if_neg e]; exact in_with h hx hl hr
/-- Has, a row lying by. -/
theorem k_has2 (HP : CfProg) {W : World} {v : Value} {l : List Int} (h : NumIn W v l) (x : Int) (hx : I64c x) : ∀ wx u M, RAt numTy wx u M → Below W.heap.size W wx → Calls Try.prog 15 #[v, .int .i64 x] wx fun e w' => e = .returned (.bool (hasC l x)) ∧ Hid (RAt numTy w' u M) ∧ Below W.heap.size W w' := fun wx u M hu hb => (HP.has x (h.below hb) hx).mono fun e w' ⟨he, k⟩ => ⟨he, hid (hu.below k), hb.trans (k.mono hb.size)⟩
set_option maxHeartbeats 16000000 in
theorem confSteps_main (HP : CfProg) {w : World} {v : Value} {l : List Int} (a b : Int) (ha : I64c a) (hbb : I64c b) (hv : NumIn w v l) (hl : l.length ≤ 20) : Calls Try.prog 9 #[v, .int .i64 a, .int .i64 b] w (ShownPost9 w) := by
  have HS := hid (shown_any9 HP w)
  have K1 := hid (k_right HP hv)
  have K2 := hid (k_next HP hv hv)
  rw [next_self] at K2
  have K3 := hid (k_with HP hv a ha)
  have K4 := hid (k_has2 HP hv a ha)
  have K5 := hid (k_without HP hv a ha)
  obtain ⟨ao, cap, rfl, -⟩ := nums_in hv.row
  have hlI : (l.length : Int) ≤ 20 := by omega
  have HV := hid hv
  have HL := hid hl
  have hb : Below w.heap.size w w := Below.refl _ _
  clear hv hl
  cases hr : rightC l with
  | false =>
    rw [hr] at K1
    clear HP K3 K4 K5 HV HL ha hbb hr
    go_enter Try.func9, Try.ntmps9
    go_wp2_with (first
      | (go_at_call 10; (with_reducible refine HS.out.mono ?_); rintro e w1 ⟨rfl, hb⟩)
      | (go_at_call 11; (with_reducible refine (K1.out _ hb).mono ?_); rintro e w2 ⟨rfl, hb⟩)
      | (go_at_call 13; (with_reducible refine (K2.out _ hb).mono ?_); rintro e w3 ⟨rfl, hb⟩))
    go_ret
    exact ⟨rfl, hb⟩
  | true =>
    rw [hr] at K1
    have HR := hid hr
    have HPh := hid HP
    obtain ⟨t, ht⟩ : ∃ t, hasC l a = t := ⟨_, rfl⟩
    have HTn : Hid (turnC l a = if t = true then withoutC l a else withC l a) := hid (by unfold turnC; rw [ht])
    rw [ht] at K4
    obtain ⟨M, hM⟩ : ∃ M, turnC l a = M := ⟨_, rfl⟩
    rw [hM] at HTn
    have HM := hid hM
    have HAB := hid (And.intro ha hbb)
    clear HP ha hbb hr ht hM K2
    go_enter Try.func9, Try.ntmps9
    go_upto_if 34 with (first
      | (go_at_call 10; (with_reducible refine HS.out.mono ?_); rintro e w1 ⟨rfl, hb⟩)
      | (go_at_call 11; (with_reducible refine (K1.out _ hb).mono ?_); rintro e w2 ⟨rfl, hb⟩)
      | (go_at_call 18; (with_reducible refine (K3.out _ hb).mono ?_); rintro e w3 ⟨a3, _, c3, rfl, rfl, h3, hb⟩)
      | (go_at_call 15; (with_reducible refine (K4.out _ _ _ h3.out hb).mono ?_); rintro e w4 ⟨rfl, h4, hb⟩))
    go_cut [9] (fun u wx => ∃ a n c, u = .slice a n c ∧ n = M.length ∧ Hid (RAt numTy wx (.slice a n c) M) ∧ Below w.heap.size w wx)
    case first =>
      cases t with
      | true =>
        have h5 := HTn.out
        rw [if_pos rfl] at h5
        subst h5
        go_wp2_with (go_at_call 20; (with_reducible refine (K5.out _ hb).mono ?_); rintro e w5 ⟨a5, _, c5, rfl, rfl, h5, hb⟩)
        go_meet
        exact ⟨_, _, _, rfl, rfl, h5, hb⟩
      | false =>
        have h5 := HTn.out
        rw [if_neg (by simp)] at h5
        subst h5
        go_wp2
        go_meet
        exact ⟨_, _, _, rfl, rfl, h4, hb⟩
    case rest =>
    obtain ⟨ma, _, mc, rfl, rfl, hm, hbW⟩ := hcut
    clear hb h3 h4 K1 K3 K4 K5 HS
    generalize wc = W at *
    have hMn := turn_in HV.out HAB.out.1 (by have := HL.out; omega) (by rw [HM.out]; exact hm.out)
    rw [HM.out] at hMn
    have HMn := hid hMn
    have HMl : Hid (M.length ≤ 21) := hid (by rw [← HM.out]; have := turn_len_le l a; have := HL.out; omega)
    have HV1 := hid (HV.out.below hbW)
    have HBW := hid hbW
    have K3 := hid (k_with HPh.out hMn b HAB.out.2)
    have K4 := hid (k_has2 HPh.out hMn b HAB.out.2)
    have K5 := hid (k_without HPh.out hMn b HAB.out.2)
    obtain ⟨t2, ht2⟩ : ∃ t, hasC M b = t := ⟨_, rfl⟩
    have HTn2 : Hid (turnC M b = if t2 = true then withoutC M b else withC M b) := hid (by unfold turnC; rw [ht2])
    rw [ht2] at K4
    obtain ⟨O, hO⟩ : ∃ O, turnC M b = O := ⟨_, rfl⟩
    rw [hO] at HTn2
    have HO := hid hO
    have hb : Below W.heap.size W W := Below.refl _ _
    clear hMn hm hbW ht2 hO HTn HV
    go_upto_if 43 with (first
      | (go_at_call 18; (with_reducible refine (K3.out _ hb).mono ?_); rintro e w3 ⟨a3, _, c3, rfl, rfl, h3, hb⟩)
      | (go_at_call 15; (with_reducible refine (K4.out _ _ _ h3.out hb).mono ?_); rintro e w4 ⟨rfl, h4, hb⟩))
    go_cut [10] (fun u wx => ∃ a n c, u = .slice a n c ∧ n = O.length ∧ Hid (RAt numTy wx (.slice a n c) O) ∧ Below W.heap.size W wx)
    case first =>
      cases t2 with
      | true =>
        have h5 := HTn2.out
        rw [if_pos rfl] at h5
        subst h5
        go_wp2_with (go_at_call 20; (with_reducible refine (K5.out _ hb).mono ?_); rintro e w5 ⟨a5, _, c5, rfl, rfl, h5, hb⟩)
        go_meet
        exact ⟨_, _, _, rfl, rfl, h5, hb⟩
      | false =>
        have h5 := HTn2.out
        rw [if_neg (by simp)] at h5
        subst h5
        go_wp2
        go_meet
        exact ⟨_, _, _, rfl, rfl, h4, hb⟩
    case rest =>
    obtain ⟨oa, _, oc, rfl, rfl, ho, hbX⟩ := hcut
    clear hb h3 h4 K3 K4 K5
    generalize wc = X at *
    have hOn := turn_in HMn.out HAB.out.2 (by have := HMl.out; omega) (by rw [HO.out]; exact ho.out)
    rw [HO.out] at hOn
    have hvX := HV1.out.below hbX
    have hmX := HMn.out.below hbX
    have HBX := hid (HBW.out.trans (hbX.mono HBW.out.size))
    obtain ⟨hn1, hn2⟩ := turn_next a HR.out
    rw [HM.out] at hn1 hn2
    have N1 := hid (k_next HPh.out hvX hmX)
    have N2 := hid (k_next HPh.out hmX hvX)
    have N3 := hid (k_next HPh.out hvX hvX)
    have N4 := hid (k_next HPh.out hvX hOn)
    have R1 := hid (k_right HPh.out hmX)
    have hn4 := next_two a b HR.out
    rw [HM.out, HO.out] at hn4
    rw [hn1] at N1
    rw [hn2] at N2
    rw [next_self] at N3
    rw [hn4] at N4
    have HSa : Hid (a = b → ∀ wx, Below X.heap.size X wx → Calls Try.prog 17 #[.slice ao l.length cap, .slice oa O.length oc] wx (KB X true)) := hid (fun e wx hb => by
      have h1 := (turn_one a (right_inc HR.out)).2.2
      rw [HM.out, e, HO.out] at h1
      have h2 := (hOn.below hb).row
      have h3 := (hvX.below hb).row
      have h4 := k_same (W := X) hb h3 (show RAt numTy wx (.slice oa O.length oc) l by have h5 := h2; rw [h1] at h5; rw [h1]; exact h5) (by have := HL.out; omega)
      exact h4)
    obtain ⟨f, hf⟩ : ∃ f, rightC M = f := ⟨_, rfl⟩
    rw [hf] at N1 N2 R1
    have q1 : (f == f) = true := beq_self_eq_true _
    have hb : Below X.heap.size X X := Below.refl _ _
    clear hOn hvX hmX hn1 hn2 hn4 hf ho hbX
    by_cases hab : a = b
    · have q2 : (a == b) = true := by rw [hab]; exact beq_self_eq_true _
      have q3 : (a != b) = false := by rw [hab]; exact bne_self_eq_false _
      have C1 := hid (HSa.out hab)
      clear hab HSa
      go_wp2_with (first
        | (go_at_call 11; (with_reducible refine (R1.out _ hb).mono ?_); rintro e w2 ⟨rfl, hb⟩)
        | (go_at_call 13; (with_reducible refine (N1.out _ hb).mono ?_); rintro e w3 ⟨rfl, hb⟩)
        | (go_at_call 13; (with_reducible refine (N2.out _ hb).mono ?_); rintro e w3 ⟨rfl, hb⟩)
        | (go_at_call 13; (with_reducible refine (N3.out _ hb).mono ?_); rintro e w3 ⟨rfl, hb⟩)
        | (go_at_call 13; (with_reducible refine (N4.out _ hb).mono ?_); rintro e w3 ⟨rfl, hb⟩)
        | (go_at_call 17; (with_reducible refine (C1.out _ hb).mono ?_); rintro e w3 ⟨rfl, hb⟩))
      go_ret
      exact ⟨by first | rfl | simp, HBX.out.trans (hb.mono HBX.out.size)⟩
    · have q2 : (a == b) = false := beq_false_of_ne hab
      have q3 : (a != b) = true := by simp [bne, q2]
      clear HSa
      go_wp2_with (first
        | (go_at_call 11; (with_reducible refine (R1.out _ hb).mono ?_); rintro e w2 ⟨rfl, hb⟩)
        | (go_at_call 13; (with_reducible refine (N1.out _ hb).mono ?_); rintro e w3 ⟨rfl, hb⟩)
        | (go_at_call 13; (with_reducible refine (N2.out _ hb).mono ?_); rintro e w3 ⟨rfl, hb⟩)
        | (go_at_call 13; (with_reducible refine (N3.out _ hb).mono ?_); rintro e w3 ⟨rfl, hb⟩)
        | (go_at_call 13; (with_reducible refine (N4.out _ hb).mono ?_); rintro e w3 ⟨rfl, hb⟩))
      go_ret
      exact ⟨by first | rfl | simp, HBX.out.trans (hb.mono HBX.out.size)⟩
set_option maxHeartbeats 4000000 in
theorem confSteps_walk (HP : CfProg) {w : World} {v : Value} {l : List Int} (a b : Int) (ha : I64c a) (hbb : I64c b) (hv : RAt numTy w v l) (hvn : ∀ n ∈ l, I64c n) : Calls Try.prog 9 #[v, .int .i64 a, .int .i64 b] w (ShownPost9 w) := by
  by_cases hs : l.length ≤ 20
  · exact confSteps_main HP a b ha hbb ⟨hv, by omega, hvn⟩ hs
  have HS := hid (shown_any9 HP w)
  obtain ⟨ao, cap, rfl, -⟩ := nums_in hv
  have hlI : (20 : Int) < (l.length : Int) := by omega
  clear HP hv hvn hs
  go_enter Try.func9, Try.ntmps9
  go_wp2_with (go_at_call 10; (with_reducible refine HS.out.mono ?_); rintro e w1 ⟨rfl, hb⟩)
  go_ret
  exact ⟨rfl, hb⟩
end Go.Proofs.Ytcjhiegiccekpaa
