/-
  LAYER 14 (shard): names, hashes, parts: mathematics of lists.
-/
import Derived.Test.YtnbghghkahaenaaG0
namespace Go.Proofs.Ytnbghghkahaenaa
set_option linter.unusedVariables false
set_option maxRecDepth 100000

def nameOk (c : UInt8) : Bool := decide (33 ≤ c.toNat) && decide (c.toNat ≤ 126)
def nameL (l : List UInt8) : Bool := l.all nameOk && decide (1 ≤ l.length) && decide (l.length ≤ 60)
def hst (h : Nat) (b : UInt8) : Nat := ((h ^^^ b.toNat) * 16777619) % 4294967296
def hashL (l : List UInt8) : Nat := l.foldl hst 2166136261
theorem hst_lt (h : Nat) (b : UInt8) : hst h b < 4294967296 := by unfold hst; omega
theorem foldl_lt {N : Nat} {f : Nat → UInt8 → Nat} (hf : ∀ h c, f h c < N) : ∀ (l : List UInt8) (h : Nat), h < N → l.foldl f h < N
  | [], h, hh => hh
  | c :: r, h, hh => foldl_lt hf r _ (hf h c)
theorem hashL_lt (l : List UInt8) : hashL l < 4294967296 := by
  unfold hashL
  exact foldl_lt hst_lt l _ (by decide)
theorem foldl_snoc {f : Nat → UInt8 → Nat} (a : Nat) (l : List UInt8) (c : UInt8) : (l ++ [c]).foldl f a = f (l.foldl f a) c := by simp
theorem hashL_snoc (l : List UInt8) (c : UInt8) : hashL (l ++ [c]) = hst (hashL l) c := foldl_snoc _ _ _
def ofL (s : ByteArray) : Nat := hashL s.data.toList % 8
theorem ofL_lt (s : ByteArray) : ofL s < 8 := by unfold ofL; omega
def inPart (n : Int) (s : ByteArray) : Bool := decide ((ofL s : Int) = n)
def partL (L : List ByteArray) (n : Int) : List ByteArray := L.filter (inPart n)
def cntL (L : List ByteArray) (s : ByteArray) : Nat := L.countP (fun x => decide (x = s))
theorem take_snocL (s : ByteArray) (k : Nat) (h : k < s.size) : s.data.toList.take (k + 1) = s.data.toList.take k ++ [s[k]] := by
  rw [List.take_succ_eq_append_getElem (by simpa using h)]; rfl
/-- How many of L lie in the parts below n. -/
def sumL (L : List ByteArray) : Nat → Nat
  | 0 => 0
  | n + 1 => sumL L n + (partL L (n : Int)).length
theorem sumL_is (L : List ByteArray) : ∀ n : Nat, sumL L n = L.countP (fun s => decide (ofL s < n))
  | 0 => by
    unfold sumL
    exact (List.countP_eq_zero.2 (fun s hs => by simp)).symm
  | n + 1 => by
    unfold sumL
    rw [sumL_is L n]
    induction L with
    | nil => rfl
    | cons s r ih =>
      have h1 : (partL (s :: r) (n : Int)).length = (partL r (n : Int)).length + (if ofL s = n then 1 else 0) := by
        unfold partL
        rw [List.filter_cons]
        by_cases h : ofL s = n
        · rw [if_pos (by unfold inPart; simp [h]), if_pos h, List.length_cons]
        · rw [if_neg (by unfold inPart; simp only [decide_eq_true_eq]; omega), if_neg h]; rfl
      rw [List.countP_cons, List.countP_cons, h1]
      by_cases h2 : ofL s = n
      · rw [if_pos h2, if_neg (by simp only [decide_eq_true_eq]; omega), if_pos (by simp only [decide_eq_true_eq]; omega)]; omega
      · rw [if_neg h2]
        by_cases h3 : ofL s < n
        · rw [if_pos (by simpa using h3), if_pos (by simp only [decide_eq_true_eq]; omega)]; omega
        · rw [if_neg (by simpa using h3), if_neg (by simp only [decide_eq_true_eq]; omega)]; omega
theorem sumL_all (L : List ByteArray) : sumL L 8 = L.length := by
  rw [sumL_is]
  exact List.countP_eq_length.2 (fun s hs => by have := ofL_lt s; simpa using this)
theorem cnt_other (L : List ByteArray) (s : ByteArray) (n : Int) (h : (ofL s : Int) ≠ n) : cntL (partL L n) s = 0 :=
  List.countP_eq_zero.2 (fun x hx e => by
    have h1 := (List.mem_filter.1 hx).2
    simp only [decide_eq_true_eq] at e
    subst e
    unfold inPart at h1
    exact h (of_decide_eq_true h1))
theorem cnt_own (L : List ByteArray) (s : ByteArray) : cntL (partL L (ofL s : Int)) s = cntL L s := by
  unfold cntL partL
  rw [List.countP_filter]
  apply List.countP_congr
  intro x hx
  simp only [Bool.and_eq_true, decide_eq_true_eq]
  exact ⟨fun h => h.1, fun h => ⟨h, by rw [h]; unfold inPart; simp⟩⟩
theorem part_len (L : List ByteArray) (n : Int) : (partL L n).length ≤ L.length := List.length_filter_le _ _
/-- A name with a byte more. -/
theorem name_more (l : List UInt8) (c : UInt8) : nameL (l ++ [c]) = ((nameL l || decide (l.length = 0)) && decide (l.length < 60) && decide (33 ≤ c.toNat) && decide (c.toNat ≤ 126)) := by
  unfold nameL
  rw [List.all_append]
  have h1 : (l ++ [c]).length = l.length + 1 := by simp
  rw [h1]
  simp only [List.all_cons, List.all_nil, Bool.and_true]
  show (l.all nameOk && (decide (33 ≤ c.toNat) && decide (c.toNat ≤ 126)) && decide (1 ≤ l.length + 1) && decide (l.length + 1 ≤ 60)) = _
  cases l with
  | nil => simp
  | cons x r =>
    have h2 : decide ((x :: r).length = 0) = false := by simp
    have h3 : decide (1 ≤ (x :: r).length) = true := by simp
    have h4 : decide (1 ≤ (x :: r).length + 1) = true := by simp
    rw [h2, h3, h4]
    by_cases h5 : (x :: r).length < 60
    · rw [decide_eq_true h5, decide_eq_true (by omega : (x :: r).length + 1 ≤ 60), decide_eq_true (by omega : (x :: r).length ≤ 60)]
      cases (x :: r).all nameOk <;> simp
    · rw [decide_eq_false h5, decide_eq_false (by omega : ¬ (x :: r).length + 1 ≤ 60)]
      simp
theorem name_tail {c : UInt8} {r : List UInt8} (h : nameL (c :: r) = true) (hr : r.length ≠ 0) : nameL r = true := by
  unfold nameL at *
  simp only [Bool.and_eq_true, decide_eq_true_eq, List.all_cons, List.length_cons] at *
  exact ⟨⟨h.1.1.2, by omega⟩, by omega⟩
end Go.Proofs.Ytnbghghkahaenaa
