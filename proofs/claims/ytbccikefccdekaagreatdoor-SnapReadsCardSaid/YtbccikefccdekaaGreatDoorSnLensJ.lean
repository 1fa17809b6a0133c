import Derived.Test.YtbccikefccdekaaGreatDoorMq1J
/-
  LAYER 4 (snap), plain mathematics: bytes behind, bytes cut short, how long they are.
-/
namespace Go.Proofs.YtbccikefccdekaaGreatDoor
set_option linter.unusedVariables false
set_option maxRecDepth 100000

theorem unpack_more {b : Bs} (h : rightS b = true) {t : List UInt8} (ht : t ≠ []) : unpackS (packS b ++ t) = (bs0, 8) := by
  have hl := headS_len h
  have hu : unframeS (packS b ++ t) = (headS b, 8 + (headS b).length, 0) := by rw [packS_is, List.append_assoc]; exact unframeS_frame _ _ (by omega)
  have hd : (packS b ++ t).drop (8 + (headS b).length) = chunkBytes b.data ++ t := by rw [packS_is, List.append_assoc, drop_frame]
  have hn : nums (headS b) = some (headN b) := nums_encs (headN_I64 h)
  have hdat := dataS_pack b.data t
  unfold unpackS
  rw [hu]
  simp only
  rw [if_neg (by simp), hn]
  simp only
  rw [if_neg (by rw [headN_ok h]; simp), hd, headN_B]
  simp only [Int.toNat_natCast]
  rw [hdat]
  simp [ht]
theorem unpack_cut {b : Bs} (h : rightS b = true) {p : Nat} (hp : p < (packS b).length) : (unpackS ((packS b).take p)).2 ≠ 0 := by
  intro e
  obtain ⟨b2, h2⟩ : ∃ b2, unpackS ((packS b).take p) = (b2, 0) := ⟨(unpackS ((packS b).take p)).1, by rw [← e]⟩
  obtain ⟨r2, p2⟩ := pack_unpack h2
  have ht : (packS b).drop p ≠ [] := fun e => by
    have := congrArg List.length e
    rw [List.length_drop, List.length_nil] at this
    omega
  have h3 := unpack_more r2 ht
  rw [p2, List.take_append_drop, unpack_pack h] at h3
  simp only [Prod.mk.injEq] at h3
  omega
theorem chunkBytes_len : ∀ (k : Nat) (d : List UInt8), d.length ≤ k → (chunkBytes d).length = d.length + 8 * ((d.length + 999) / 1000)
  | _, [], _ => rfl
  | 0, c :: d, h => by simp at h
  | k + 1, c :: d, h => by
    rw [chunkBytes_cons (by simp), List.length_append, frameL_length, chunkBytes_len k _ (by rw [List.length_drop, List.length_cons]; rw [List.length_cons] at h; omega), List.length_take, List.length_drop, List.length_cons]
    omega
theorem packS_len (b : Bs) : (packS b).length = 8 + (headS b).length + b.data.length + 8 * ((b.data.length + 999) / 1000) := by
  rw [packS_is, List.length_append, frameL_length, chunkBytes_len _ _ (Nat.le_refl _)]
  omega
theorem encs_append (l m : List Int) : encs (l ++ m) = encs l ++ encs m := by unfold encs; rw [List.flatMap_append]
theorem enc_small {v : Nat} (h : v < 16384) : (enc v).length = if v < 128 then 1 else 2 := by
  rw [enc, List.length_append, List.length_singleton]
  by_cases h1 : v < 128
  · rw [if_pos h1, show v / 128 = 0 by omega, encC_zero]; rfl
  · rw [if_neg h1, encC_pos (by omega), List.length_append, List.length_singleton, show v / 128 / 128 = 0 by omega, encC_zero]; rfl
/-- A head tells a greater length in at most two bytes more. -/
theorem headS_grows (b : Bs) (hd : b.data.length ≤ 5000) : (headS { b with data := [] }).length ≤ (headS b).length ∧ (headS b).length ≤ (headS { b with data := [] }).length + 2 := by
  have key : ∀ d : List UInt8, (headS { b with data := d }).length = (encs (b.ix :: b.tm :: (b.vot.length : Int) :: b.vot)).length + (enc (nat64 (d.length : Int))).length := fun d => by
    have : headN { b with data := d } = (b.ix :: b.tm :: (b.vot.length : Int) :: b.vot) ++ [(d.length : Int)] := rfl
    unfold headS
    rw [this, encs_append, List.length_append]
    congr 1
    show (encs [(d.length : Int)]).length = _
    rw [encs_cons, List.length_append]
    rfl
  have k0 := key []
  have k1 : (headS b).length = _ := key b.data
  have e1 : nat64 (b.data.length : Int) = 2 * b.data.length := by unfold nat64; rw [if_pos (by omega)]; omega
  have e0 : nat64 (([] : List UInt8).length : Int) = 0 := rfl
  rw [e1, enc_small (by omega)] at k1
  rw [e0, enc_small (by omega)] at k0
  rw [if_pos (by omega)] at k0
  split at k1 <;> omega
/-- What SnapLengths says of the bytes. -/
theorem pack_grows {b : Bs} (hd : b.data.length ≤ 5000) : ∃ g : Nat, g ≤ 2 ∧ (packS b).length = (packS { b with data := [] }).length + b.data.length + 8 * ((b.data.length + 999) / 1000) + g := by
  obtain ⟨h1, h2⟩ := headS_grows b hd
  refine ⟨(headS b).length - (headS { b with data := [] }).length, by omega, ?_⟩
  rw [packS_len, packS_len]
  simp only [List.length_nil]
  omega
end Go.Proofs.YtbccikefccdekaaGreatDoor

