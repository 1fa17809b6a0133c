/-
  LAYER 11 (xml), THE PROGRAM: has.
-/
import Derived.Test.YtbiiaepmemdlgaaDoorXmMj
namespace Go.Proofs.YtbiiaepmemdlgaaDoor
open Go.RowKit
set_option linter.unusedVariables false
set_option maxRecDepth 100000

/-- Where the cells of the k-th attribute lie, as the walk spells them. -/
theorem ats_at {w : World} {v : Value} {L : List AtX} (h : RAt atTy w v L) : ∃ a cap, v = .slice a L.length cap ∧ ∀ (k : Nat) x, L[k]? = some x → ∃ sb so, a = some ⟨sb, so, none⟩ ∧ ∀ wx, Below w.heap.size w wx → wx.cell? ⟨sb, so + k * 2, none⟩ = some (.string (mk x.n)) ∧ wx.cell? ⟨sb, so + k * 2 + 1, none⟩ = some (.string (mk x.v)) := by
  obtain ⟨a, cap, rfl, _, _, hc⟩ := h.at atTy_ok
  refine ⟨a, cap, rfl, fun k x hk => ?_⟩
  obtain ⟨sb, so, e, hlt, hcs⟩ := hc k x hk
  exact ⟨sb, so, e, fun wx hb => ⟨(hb.cell (p := ⟨sb, _, none⟩) hlt).trans (hcs 0 _ rfl), (hb.cell (p := ⟨sb, _, none⟩) hlt).trans (hcs 1 _ rfl)⟩⟩
theorem mk_eqb (l m : List UInt8) : ((mk l).toList == (mk m).toList) = (l == m) := by
  rw [str_eqb, Bool.eq_iff_iff]
  simp only [decide_eq_true_eq, beq_iff_eq]
  exact ⟨mk_inj, fun h => by rw [h]⟩
set_option maxHeartbeats 1000000 in
theorem hasFn_any (x y n : List UInt8) (q : Nat) (w : World) (hq : w.cell? ⟨q, 0, none⟩ = some (.string (mk n))) :
    Calls Tryd.prog 54 #[.agg #[.string (mk x), .string (mk y)], .pointer (some ⟨q, 0, none⟩)] w fun e w' => e = .returned (.bool (x == n)) ∧ Below w.heap.size w w' := by
  have hql : q < w.heap.size := World.block_lt_of_cell? w _ hq
  have hb : Below w.heap.size w (w.alloc (.cells #[.string (mk x), .string (mk y)] 38)) := (Below.refl _ _).alloc (Nat.le_refl _) _
  have hq2 : (w.alloc (.cells #[.string (mk x), .string (mk y)] 38)).cell? ⟨q, 0, none⟩ = some (.string (mk n)) := (hb.cell (p := ⟨q, 0, none⟩) hql).trans hq
  have HE : Hid (((mk x).toList == (mk n).toList) = (x == n)) := hid (mk_eqb x n)
  clear hq hql hb
  go_enter Tryd.func54, Tryd.ntmps54
  go_wp2
  go_ret
  exact ⟨ret_bool HE.out, (Below.refl _ _).alloc (Nat.le_refl _) _⟩
/-- The place of the first attribute of a name, or -1. -/
def IxPost (w : World) (l : List AtX) (n : List UInt8) (e : Ending) (w' : World) : Prop := (∃ i : Int, e = .returned (.int .i64 i) ∧ -1 ≤ i ∧ decide (0 ≤ i) = hasX l n) ∧ Below w.heap.size w w'
theorem hasX_take {l : List AtX} {n : List UInt8} {k : Nat} {x : AtX} (hk : l[k]? = some x) : hasX (l.take (k + 1)) n = (hasX (l.take k) n || x.n == n) := by
  unfold hasX
  rw [List.take_add_one, hk, List.any_append]
  simp
theorem hasX_of {l : List AtX} {n : List UInt8} {k : Nat} {x : AtX} (hk : l[k]? = some x) (h : (x.n == n) = true) : hasX l n = true := by
  unfold hasX
  rw [List.any_eq_true]
  exact ⟨x, List.mem_of_getElem? hk, h⟩
set_option maxHeartbeats 2000000 in
theorem hasIx_any {w : World} {v : Value} {l : List AtX} (hv : RAt atTy w v l) (hl : l.length ≤ 1000000) (n : List UInt8) (q : Nat) (hq : w.cell? ⟨q, 0, none⟩ = some (.string (mk n))) :
    Calls Tryd.prog 69 #[v, .func (.func 54) #[] #[.pointer (some ⟨q, 0, none⟩)]] w (IxPost w l n) := by
  have hql : q < w.heap.size := World.block_lt_of_cell? w _ hq
  obtain ⟨a, cap, rfl, hat⟩ := ats_at hv
  have HA := hid hat
  have HQ := hid (fun wx (h : Below w.heap.size w wx) => (h.cell (p := ⟨q, 0, none⟩) hql).trans hq)
  clear hat hv hq hql
  go_enter Tryd.func69, Tryd.ntmps69
  go_wp2
  go_loopw [8] (fun i wr => ∃ k : Nat, k ≤ l.length ∧ i = .int .i64 k ∧ Below w.heap.size w wr ∧ Hid (hasX (l.take k) n = false)) (fun i _ => l.length - (intOf i).toNat)
  case atStart => exact ⟨0, Nat.zero_le _, rfl, Below.refl _ _, hid rfl⟩
  case round =>
    obtain ⟨k, hk, rfl, hb, hN⟩ := hrel
    by_cases hlt : k < l.length
    · have hx : l[k]? = some l[k] := by simp [hlt]
      generalize l[k] = x at hx
      obtain ⟨sb, so, rfl, hcs⟩ := HA.out k x hx
      obtain ⟨c0, c1⟩ := hcs _ hb
      have HF := hid (hasFn_any x.n x.v n q wr (HQ.out _ hb))
      have ht := hasX_take (n := n) hx
      rw [hN.out] at ht
      have HO := hid (fun h => hasX_of (n := n) hx h)
      have hw := hb.size
      clear hcs hx
      cases he : (x.n == n) with
      | true =>
        rw [he] at HF
        have HT := hid (HO.out he)
        clear he ht
        go_wp2_with (go_at_call 54; (with_reducible refine HF.out.mono ?_); rintro e w2 ⟨rfl, hb2⟩)
        go_ret
        exact ⟨⟨_, rfl, by omega, by rw [HT.out]; simp⟩, hb.trans (hb2.mono hw)⟩
      | false =>
        rw [he] at HF
        have HT : Hid (hasX (l.take (k + 1)) n = false) := hid (by rw [ht, he]; rfl)
        clear he ht
        go_wp2_with (go_at_call 54; (with_reducible refine HF.out.mono ?_); rintro e w2 ⟨rfl, hb2⟩)
        go_roundw
        case rel => exact ⟨k + 1, by omega, by go_num, hb.trans (hb2.mono hw), HT⟩
        case measure => simp [intOf]; omega
    · have HT : Hid (hasX l n = false) := hid (by have := hN.out; rw [List.take_of_length_le (by omega)] at this; exact this)
      go_wp2
      go_ret
      exact ⟨⟨-1, rfl, by omega, by rw [HT.out]; rfl⟩, hb⟩
set_option maxHeartbeats 1000000 in
theorem hasCf_any {w : World} {v : Value} {l : List AtX} (hv : RAt atTy w v l) (hl : l.length ≤ 1000000) (n : List UInt8) (q : Nat) (hq : w.cell? ⟨q, 0, none⟩ = some (.string (mk n))) :
    Calls Tryd.prog 53 #[v, .func (.func 54) #[] #[.pointer (some ⟨q, 0, none⟩)]] w fun e w' => e = .returned (.bool (hasX l n)) ∧ Below w.heap.size w w' := by
  have H := hid (hasIx_any hv hl n q hq)
  clear hv hq
  go_enter Tryd.func53, Tryd.ntmps53
  go_wp2_with (go_at_call 69; (with_reducible refine H.out.mono ?_); rintro e w2 ⟨⟨i, rfl, hi, hd⟩, hb2⟩; have HD := hid hd; clear hd)
  go_ret
  exact ⟨ret_bool HD.out, hb2⟩
set_option maxHeartbeats 1000000 in
theorem has_any {w : World} {v : Value} {l : List AtX} (hv : RAt atTy w v l) (hl : l.length ≤ 1000000) (n : List UInt8) :
    Calls Tryd.prog 39 #[v, .string (mk n)] w fun e w' => e = .returned (.bool (hasX l n)) ∧ Below w.heap.size w w' := by
  have hb : Below w.heap.size w (w.alloc (.cells #[.string (mk n)] 9)) := (Below.refl _ _).alloc (Nat.le_refl _) _
  have ho : own (w.alloc (.cells #[.string (mk n)] 9)) w.heap.size #[.string (mk n)] 9 := own.new w _ _
  have H := hid (hasCf_any (hv.below hb) hl n w.heap.size (by rw [ho.cell]; rfl))
  have HB := hid hb
  clear hv hb ho
  go_enter Tryd.func39, Tryd.ntmps39
  go_wp2_with (go_at_call 53; (with_reducible refine H.out.mono ?_); rintro e w2 ⟨rfl, hb2⟩)
  go_ret
  exact ⟨rfl, HB.out.trans (hb2.mono HB.out.size)⟩
end Go.Proofs.YtbiiaepmemdlgaaDoor
