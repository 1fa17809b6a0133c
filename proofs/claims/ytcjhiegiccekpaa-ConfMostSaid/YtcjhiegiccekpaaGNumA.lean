/-
  GENERAL: the library's calls that read rows of ints: slices.Equal, Contains, BinarySearch, IndexFunc.
-/
import Derived.Test.YtcjhiegiccekpaaGNumLay
import Derived.Test.YtcjhiegiccekpaaGClone0
namespace Go.Proofs.Ytcjhiegiccekpaa
open Go.RowKit Go.Shelf Go.Lib
set_option linter.unusedVariables false
set_option maxRecDepth 100000

/-- A row that is not empty has an address. -/
theorem nums_addr {w : World} {v : Value} {xs : List Int} (h : RAt numTy w v xs) (h0 : xs ≠ []) : ∃ b off c, v = .slice (some ⟨b, off, none⟩) xs.length c ∧ b < w.heap.size ∧ ∀ j, j < xs.length → w.cell? ⟨b, off + j, none⟩ = some (.int .i64 (xs.getD j 0)) := by
  obtain ⟨a, cap, rfl, hat⟩ := nums_at h
  have hp : 0 < xs.length := List.length_pos_iff.2 h0
  obtain ⟨sb, so, rfl, hlt, -⟩ := hat 0 hp
  refine ⟨sb, so, cap, rfl, hlt, fun j hj => ?_⟩
  obtain ⟨sb', so', e, _, hc⟩ := hat j hj
  cases e
  exact hc
theorem drewN_below (w : World) (q : Nat) : Below w.heap.size w (w.drewN q) := below_drewN' (Below.refl _ w) q
def QPost (w : World) (v : Value) (e : Ending) (w' : World) : Prop := e = .returned v ∧ ∃ q, w' = w.drewN q
theorem QPost.below {w : World} {v : Value} {e : Ending} {w' : World} (h : QPost w v e w') : e = .returned v ∧ Below w.heap.size w w' := by
  obtain ⟨h1, q, rfl⟩ := h
  exact ⟨h1, drewN_below w q⟩
theorem equalN_any {w : World} {v u : Value} {L M : List Int} (h : RAt numTy w v L) (k : RAt numTy w u M) (hL : L.length ≤ 1000000) (hM : M.length ≤ 1000000) :
    Calls Try.prog 40 #[v, u] w (QPost w (.bool (L == M))) := by
  by_cases h0 : L = []
  · subst h0
    obtain ⟨a, c, rfl, -⟩ := nums_at h
    obtain ⟨a2, c2, rfl, -⟩ := nums_at k
    refine (AnyG.slices_Equal_int_empty Try.equalI a a2 c M.length c2 w (by omega)).mono ?_
    rintro e w' ⟨rfl, rfl⟩
    refine ⟨?_, 0, rfl⟩
    cases M <;> rfl
  · by_cases h1 : M = []
    · subst h1
      obtain ⟨b, o, c, rfl, hlt, hc⟩ := nums_addr h h0
      obtain ⟨a2, c2, rfl, -⟩ := nums_at k
      have hne : ¬ ((L.length : Int) = 0) := by have := List.length_pos_iff.2 h0; omega
      have hf : (L == ([] : List Int)) = false := by cases L with | nil => exact absurd rfl h0 | cons x r => rfl
      rw [hf]
      clear hc h k hf h0
      simp only [List.length_nil]
      generalize L.length = n at *
      have hq : ((n : Int) == 0) = false := by simpa using hne
      go_enter Try.func40, Try.ntmps40
      go_wp2
      go_ret
      exact ⟨rfl, 0, rfl⟩
    · obtain ⟨b, o, c, rfl, hlt, hc⟩ := nums_addr h h0
      obtain ⟨b2, o2, c2, rfl, hlt2, hc2⟩ := nums_addr k h1
      refine (AnyG.slices_Equal_int Try.equalI b o L.length c b2 o2 M.length c2 L M w (Nat.le_refl _) (Nat.le_refl _) (by omega) (by omega) hc hc2).mono ?_
      rintro e w' ⟨rfl, q, rfl⟩
      exact ⟨by rw [List.take_length, List.take_length], q, rfl⟩
theorem containsN_any {w : World} {v : Value} {L : List Int} (x : Int) (h : RAt numTy w v L) (hL : L.length ≤ 1000000) :
    Calls Try.prog 31 #[v, .int .i64 x] w fun e w' => e = .returned (.bool (L.contains x)) ∧ w' = w := by
  by_cases h0 : L = []
  · subst h0
    obtain ⟨a, c, rfl, -⟩ := nums_at h
    exact AnyG.slices_Contains_int_empty Try.containsI a c x w
  · obtain ⟨b, o, c, rfl, hlt, hc⟩ := nums_addr h h0
    refine (AnyG.slices_Contains_int Try.containsI b o L.length c L x w (Nat.le_refl _) (by omega) hc).mono ?_
    rintro e w' ⟨rfl, rfl⟩
    exact ⟨by rw [List.take_length], rfl⟩
set_option maxHeartbeats 1000000 in
theorem searchN_any {w : World} {v : Value} {L : List Int} (x : Int) (h : RAt numTy w v L) (hL : L.length ≤ 1000000) (hs : L.Pairwise (· ≤ ·)) :
    Calls Try.prog 45 #[v, .int .i64 x] w (QPost w (.tuple #[.int .i64 (L.countP (· < x) : Nat), .bool (L.contains x)])) := by
  by_cases h0 : L = []
  · subst h0
    obtain ⟨a, c, rfl, -⟩ := nums_at h
    simp only [List.length_nil]
    go_enter Try.func45, Try.ntmps45
    go_wp2
    go_loopg [7, 8] 0 (fun _ s7 s8 wr => s7 = .int .i64 0 ∧ s8 = .int .i64 0 ∧ wr = w)
    case atStart => exact ⟨rfl, rfl, rfl⟩
    case round =>
      obtain ⟨rfl, rfl, rfl⟩ := hrel
      go_wp2
      go_ret2
      exact ⟨rfl, 0, rfl⟩
  · obtain ⟨b, o, c, rfl, hlt, hc⟩ := nums_addr h h0
    refine (AnyG.slices_BinarySearch_int Try.searchI b o L.length c L x w (Nat.le_refl _) (by omega) hc (by rw [List.take_length]; exact hs)).mono ?_
    rintro e w' ⟨rfl, q, rfl⟩
    exact ⟨by rw [List.take_length], q, rfl⟩
theorem indexN_any {w : World} {v : Value} {L : List Int} (p : Int → Bool) (g : Nat) (lb : Array Value) (eg : ∀ args w, (callFunc g args).run Try.prog w = .ok (.enter g args) w) (h : RAt numTy w v L) (hL : L.length ≤ 1000000) (hp : PredAt Try.prog g lb (Value.int .i64) p w) :
    Calls Try.prog 33 #[v, .func (.func g) #[] lb] w (QPost w (.int .i64 (Lib.idxBy (fun _ y => p y) L default))) := by
  by_cases h0 : L = []
  · subst h0
    obtain ⟨a, c, rfl, -⟩ := nums_at h
    refine (AnyE.slices_IndexFunc_empty Try.indexI a c (.func (.func g) #[] lb) w).mono ?_
    rintro e w' ⟨rfl, rfl⟩
    exact ⟨rfl, 0, rfl⟩
  · obtain ⟨b, o, c, rfl, hlt, hc⟩ := nums_addr h h0
    refine (AnyE.slices_IndexFunc Try.indexI (Value.int .i64) p g lb eg b o L.length c L w hp (Nat.le_refl _) (by omega) (fun j hj => by rw [hc j hj]; simp [List.getD, hj])).mono ?_
    rintro e w' ⟨rfl, q, rfl⟩
    exact ⟨by rw [List.take_length], q, rfl⟩
end Go.Proofs.Ytcjhiegiccekpaa
