import Derived.Test.YtpcafkinpkepcaaGreatDoorWq35
/-
  Wq36: RkJ, RkK, in one text.
-/
/-
  LAYER 2 (disk), THE DOCUMENT's ANSWER: New, at.
-/
namespace Go.Proofs.YtpcafkinpkepcaaGreatDoor
open Go.RowKit Go.Maps
set_option linter.unusedVariables false
set_option maxRecDepth 100000

def RefNewPost (w : World) (s : Dk) (e : Ending) (w' : World) : Prop := ∃ (r : Nat) (S : Nat → Prop), e = .returned (.tuple #[.pointer (some ⟨r, 0, none⟩), .bool true]) ∧ RefIs w' S r s ∧ (∀ b, S b → w.heap.size ≤ b) ∧ Below w.heap.size w w'
theorem refNew_ok (m : Int) (w : World) (h0 : 0 ≤ m) (h1 : m ≤ 10000000) : Calls Tryz.prog 29 #[.int .i64 m] w (RefNewPost w (newD m)) := by
  have hfin : RefNewPost w (newD m) (.returned (.tuple #[.pointer (some ⟨w.heap.size, 0, none⟩), .bool true])) (w.alloc (.cells #[.slice none 0 0, .int .i64 m, .int .i64 (-1), .bool false] 41)) := by
    refine ⟨w.heap.size, fun b => b = w.heap.size, rfl, ⟨.slice none 0 0, ⟨own.new w _ _, ⟨rfl, .inl ⟨rfl, rfl⟩⟩, by simp [Value.ownBlock], ⟨rfl, fun b hb => by simp [Value.ownBlock] at hb⟩, fun b hb => by simp; omega, Ok_new h0 h1⟩⟩, fun b hb => by omega, (Below.refl _ w).alloc (Nat.le_refl _) _⟩
  have HF := hid hfin
  clear hfin
  generalize newD m = s at *
  go_enter Tryz.func29, Tryz.ntmps29
  go_wp2
  go_ret2
  exact HF.out
theorem refNew_bad (m : Int) (w : World) (h : m < 0 ∨ 10000000 < m) : Calls Tryz.prog 29 #[.int .i64 m] w fun e w' => ∃ p, e = .returned (.tuple #[.pointer (some p), .bool false]) ∧ Below w.heap.size w w' := by
  rcases h with h | h
  · have hq : decide (m ≥ 0) = false := by simp; omega
    go_enter Tryz.func29, Tryz.ntmps29
    go_wp2
    go_ret2
    exact ⟨_, rfl, (Below.refl _ w).alloc (Nat.le_refl _) _⟩
  · have h2 : 0 ≤ m := by omega
    have hq : decide (m ≤ 10000000) = false := by simp; omega
    go_enter Tryz.func29, Tryz.ntmps29
    go_wp2
    go_ret2
    exact ⟨_, rfl, (Below.refl _ w).alloc (Nat.le_refl _) _⟩
theorem refAt_any (v : Value) (xs : List Int) (w : World) {B : Nat} (hv : IntsAt w B v xs) (hx : xs.length ≤ 1000) (k : Nat) (hk : k ≤ 1000) :
    Calls Tryz.prog 120 #[v, .int .i64 (k : Int)] w fun e w' => e = .returned (.int .i64 (xs.getD k 0)) ∧ w = w' := by
  obtain ⟨a, cap, rfl, hc⟩ := hv
  by_cases h : k < xs.length
  · have hne : xs ≠ [] := fun e => by rw [e] at h; simp at h
    obtain ⟨sb, so, rfl, _, hcell⟩ := hc hne
    have c0 := hcell k _ (getD_at h)
    have hq : decide (k < xs.length) = true := by simpa using h
    have h1 : (k : Int) < (xs.length : Int) := by omega
    generalize xs.getD k 0 = z at *
    clear hcell hc hne
    go_enter Tryz.func120, Tryz.ntmps120
    go_wp2
    go_ret
    exact ⟨rfl, rfl⟩
  · have hz : xs.getD k 0 = 0 := by simp [List.getD, List.getElem?_eq_none (Nat.le_of_not_lt h)]
    have hq : decide (k < xs.length) = false := by simpa using h
    rw [hz]
    clear hc hz
    go_enter Tryz.func120, Tryz.ntmps120
    go_wp2
    go_ret
    exact ⟨rfl, rfl⟩

end Go.Proofs.YtpcafkinpkepcaaGreatDoor

/-
  LAYER 2 (disk), THE DOCUMENT's ANSWER: Crash: how far its loop has come, as lists.
-/
namespace Go.Proofs.YtpcafkinpkepcaaGreatDoor
open Go.RowKit Go.Maps
set_option linter.unusedVariables false
set_option maxRecDepth 100000

/-- The first i files are crashed, and k of the two lists' numbers are used. -/
structure CrAt (L : List AF) (ks ns : List Int) (i k : Nat) (P : List AF) : Prop where
  len : P.length = i
  used : k ≤ i
  rest : crL L ks ns = P ++ crL (L.drop i) (ks.drop k) (ns.drop k)
theorem CrAt.start (L : List AF) (ks ns : List Int) : CrAt L ks ns 0 0 [] := ⟨rfl, Nat.le_refl _, by simp⟩
theorem headD_drop (xs : List Int) (k : Nat) : (xs.drop k).headD 0 = xs.getD k 0 := by
  rw [List.headD_eq_head?_getD, List.head?_drop, List.getD_eq_getElem?_getD]
theorem CrAt.keep {L : List AF} {ks ns : List Int} {i k : Nat} {P : List AF} (h : CrAt L ks ns i k P) (hi : i < L.length) (hf : ¬ (L[i]'hi).synced < (L[i]'hi).data.length) : CrAt L ks ns (i + 1) k (P ++ [L[i]'hi]) := by
  refine ⟨by simp [h.len], by have := h.used; omega, ?_⟩
  rw [h.rest, List.drop_eq_getElem_cons hi, crL, if_neg hf]
  simp
theorem CrAt.turn {L : List AF} {ks ns : List Int} {i k : Nat} {P : List AF} (h : CrAt L ks ns i k P) (hi : i < L.length) (hf : (L[i]'hi).synced < (L[i]'hi).data.length) : CrAt L ks ns (i + 1) (k + 1) (P ++ [crF (L[i]'hi) (ks.getD k 0) (ns.getD k 0)]) := by
  refine ⟨by simp [h.len], by have := h.used; omega, ?_⟩
  rw [h.rest, List.drop_eq_getElem_cons hi, crL, if_pos hf, headD_drop, headD_drop]
  simp
theorem CrAt.done {L : List AF} {ks ns : List Int} {i k : Nat} {P : List AF} (h : CrAt L ks ns i k P) (hi : i = L.length) : crL L ks ns = P := by
  rw [h.rest, hi, List.drop_length, crL]
  simp
/-- The list as it lies there meanwhile. -/
theorem CrAt.get {L : List AF} {ks ns : List Int} {i k : Nat} {P : List AF} (h : CrAt L ks ns i k P) (hi : i < L.length) : ∃ hh : i < (P ++ L.drop i).length, (P ++ L.drop i)[i]'hh = L[i]'hi := by
  have hh : i < (P ++ L.drop i).length := by rw [List.length_append, h.len, List.length_drop]; omega
  refine ⟨hh, ?_⟩
  have : (P ++ L.drop i)[i]? = some (L[i]'hi) := by
    rw [List.getElem?_append_right (by rw [h.len]; exact Nat.le_refl _), h.len, Nat.sub_self, List.getElem?_drop, Nat.add_zero, List.getElem?_eq_getElem hi]
  rw [List.getElem?_eq_getElem hh] at this
  exact Option.some.inj this
theorem CrAt.set {L : List AF} {ks ns : List Int} {i k : Nat} {P : List AF} (h : CrAt L ks ns i k P) (hi : i < L.length) (x : AF) : (P ++ L.drop i).set i x = (P ++ [x]) ++ L.drop (i + 1) := by
  have h1 : (L.drop i).set 0 x = x :: L.drop (i + 1) := by rw [List.drop_eq_getElem_cons hi]; rfl
  rw [List.set_append_right _ _ (by rw [h.len]; exact Nat.le_refl _), h.len, Nat.sub_self, h1, List.append_assoc]
  rfl
theorem CrAt.same {L : List AF} {ks ns : List Int} {i k : Nat} {P : List AF} (h : CrAt L ks ns i k P) (hi : i < L.length) : P ++ L.drop i = (P ++ [L[i]'hi]) ++ L.drop (i + 1) := by
  rw [List.drop_eq_getElem_cons hi]
  simp
end Go.Proofs.YtpcafkinpkepcaaGreatDoor

