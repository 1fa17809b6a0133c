/-
  LAYER 7 (msg), THE DOCUMENT's ANSWER: Voters, ToVoters; the law's sameInts.
-/
import Derived.Test.YtppjojjejabaeaaMsRefA
namespace Go.Proofs.Ytppjojjejabaeaa
open Go.RowKit
set_option linter.unusedVariables false
set_option maxRecDepth 100000

theorem eI_len {n : Int} (h : i64b n) : (eI n).length ≤ 10 := enc_length (nat64_lt h.1 h.2)
theorem encs_len : ∀ (l : List Int), (∀ x ∈ l, i64b x) → (encs l).length ≤ 10 * l.length
  | [], _ => by simp [encs]
  | x :: r, h => by
    have e : encs (x :: r) = eI x ++ encs r := by simp [encs, eI]
    rw [e, List.length_append, List.length_cons]
    have h1 := eI_len (h x (by simp))
    have h2 := encs_len r (fun y hy => h y (by simp [hy]))
    omega
theorem encs_snocI (l : List Int) (x : Int) : encs (l ++ [x]) = encs l ++ eI x := by simp [encs, eI]
theorem rInt_any (n : Int) (w : World) (h : i64b n) : Calls Try.prog 38 #[.int .i64 n] w fun e w' => e = .returned (.string (mk (eI n))) ∧ Below w.heap.size w w' := refInt_any n w h.1 h.2
def VotRel (w : World) (xs : List Int) (u3 u4 : Value) (wr : World) : Prop :=
  ∃ k : Nat, k ≤ xs.length ∧ u3 = .string (mk (eI xs.length ++ encs (xs.take k))) ∧ u4 = .int .i64 (k : Int) ∧ Below w.heap.size w wr
set_option maxHeartbeats 2000000 in
theorem refVoters_any {w : World} {v : Value} {xs : List Int} (hv : RAt numTy w v xs) (hx : ∀ x ∈ xs, i64b x) (hl : xs.length ≤ 1000000) :
    Calls Try.prog 16 #[v] w fun e w' => e = .returned (.string (mk (eV xs))) ∧ Below w.heap.size w w' := by
  obtain ⟨ao, cap, rfl, hat⟩ := nums_at hv
  have HAt : Hid (∀ wx, Below w.heap.size w wx → ∀ k, k < xs.length → ∃ sb so, ao = some ⟨sb, so, none⟩ ∧ wx.cell? ⟨sb, so + k, none⟩ = some (.int .i64 (xs.getD k 0))) := hid (fun wx hb k hk => by
    obtain ⟨sb, so, e, hlt, hc⟩ := hat k hk
    exact ⟨sb, so, e, (hb.cell (p := ⟨sb, so + k, none⟩) hlt).trans hc⟩)
  have HI0 := hid (rInt_any (xs.length : Int) w ⟨by omega, by omega⟩)
  have HX := hid hx
  have HFin : Hid (∀ wr, VotRel w xs (.string (mk (eI xs.length ++ encs (xs.take xs.length)))) (.int .i64 (xs.length : Int)) wr → True) := hid (fun _ _ => trivial)
  have hlen0 := eI_len (n := (xs.length : Int)) ⟨by omega, by omega⟩
  have HL0 := hid hlen0
  clear hat hv hx HFin hlen0
  go_enter Try.func16, Try.ntmps16
  go_wp2_with (go_at_call 38; (with_reducible refine HI0.out.mono ?_); rintro e w1 ⟨rfl, hb1⟩)
  go_loopw [3, 4] (VotRel w xs) (fun _ i _ => xs.length - (intOf i).toNat)
  case atStart => exact ⟨0, Nat.zero_le _, by simp [encs], rfl, hb1⟩
  case round =>
    obtain ⟨k, hk, rfl, rfl, hbw⟩ := hrel
    by_cases hkl : k < xs.length
    · have hkI : (k : Int) < (xs.length : Int) := by omega
      obtain ⟨sb, so, rfl, c0⟩ := HAt.out _ hbw k hkl
      have hget : xs.getD k 0 = xs[k] := by simp [List.getD, hkl]
      have hxk := HX.out _ (List.getElem_mem hkl)
      rw [← hget] at hxk
      have HTk : Hid (encs (xs.take (k + 1)) = encs (xs.take k) ++ eI (xs.getD k 0)) := hid (by rw [List.take_add_one, List.getElem?_eq_getElem hkl, hget]; exact encs_snocI _ _)
      have hsz : (mk (eI xs.length ++ encs (xs.take k))).size ≤ 10 + 10 * k := by
        rw [mk_size, List.length_append]
        have h1 := HL0.out
        have h2 := encs_len (xs.take k) (fun y hy => HX.out y (List.mem_of_mem_take hy))
        rw [List.length_take] at h2
        omega
      have hsz2 : (mk (eI (xs.getD k 0))).size ≤ 10 := by rw [mk_size]; exact eI_len hxk
      have HI := hid (rInt_any (xs.getD k 0) wr hxk)
      have HAp : Hid (mk (eI xs.length ++ encs (xs.take k)) ++ mk (eI (xs.getD k 0)) = mk (eI xs.length ++ encs (xs.take (k + 1)))) := hid (by rw [mk_append, HTk.out, List.append_assoc])
      have HBw := hid hbw
      clear hget HTk hbw hxk
      obtain ⟨S, hS⟩ : ∃ S, mk (eI xs.length ++ encs (xs.take k)) = S := ⟨_, rfl⟩
      rw [hS] at hsz HAp
      have HS := hid hS
      rw [hS]
      clear hS
      generalize xs.getD k 0 = x at *
      generalize mk (eI x) = t at *
      go_wp2_with (go_at_call 38; (with_reducible refine HI.out.mono ?_); rintro e w2 ⟨rfl, hb2⟩)
      go_roundw
      case rel => exact ⟨k + 1, by omega, by rw [← HAp.out], by go_num, HBw.out.trans (hb2.mono HBw.out.size)⟩
      case measure => simp [intOf]; omega
    · obtain rfl : k = xs.length := by omega
      have HBw := hid hbw
      clear hbw
      go_wp2
      go_ret
      exact ⟨by rw [List.take_length]; rfl, HBw.out⟩
theorem rI_no {l : List UInt8} (h : dI l = none) (hl : l.length ≤ maxLen) (w : World) : Calls Try.prog 58 #[.string (mk l)] w fun e w' => e = .returned (.tuple #[.int .i64 0, .string ⟨#[]⟩, .bool false]) ∧ Below w.heap.size w w' := by
  have := refToInt_any (mk l) w (by rw [mk_size]; exact hl)
  rw [mk_data, dI_none_of_toInt.2 h] at this
  exact this
theorem rI_yes {l r : List UInt8} {n : Int} (h : dI l = some (n, r)) (hl : l.length ≤ maxLen) (w : World) : Calls Try.prog 58 #[.string (mk l)] w fun e w' => e = .returned (.tuple #[.int .i64 n, .string (mk r), .bool true]) ∧ Below w.heap.size w w' := by
  have := refToInt_any (mk l) w (by rw [mk_size]; exact hl)
  unfold dI at h
  obtain ⟨⟨v, r'⟩, h1, h2⟩ := Option.map_eq_some_iff.1 h
  simp only [Prod.mk.injEq] at h2
  obtain ⟨rfl, rfl⟩ := h2
  rw [mk_data, h1] at this
  exact this
theorem dI_shorter {l r : List UInt8} {n : Int} (h : dI l = some (n, r)) : r.length < l.length := by
  obtain ⟨_, rfl⟩ := dI_sound h
  rw [List.length_append]
  have := enc_pos (nat64 n)
  unfold eI
  omega
end Go.Proofs.Ytppjojjejabaeaa
