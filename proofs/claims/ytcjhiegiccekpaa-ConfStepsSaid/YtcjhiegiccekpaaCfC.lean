/-
  LAYER 9 (conf), THE PROGRAM: Agreed, adds, Next.
-/
import Derived.Test.YtcjhiegiccekpaaCfB
namespace Go.Proofs.Ytcjhiegiccekpaa
open Go.RowKit
set_option linter.unusedVariables false
set_option maxRecDepth 100000

set_option maxHeartbeats 4000000 in
theorem agreed_any {w : World} {v : Value} {l : List Int} (h : NumIn w v l) : Calls Try.prog 24 #[v] w fun e w' => e = .returned (.int .i64 (agreedC l)) ∧ Below w.heap.size w w' := by
  have hl := h.len
  by_cases h0 : l = []
  · subst h0
    obtain ⟨ao, cap, rfl, -⟩ := nums_at h.row
    have ha : agreedC [] = 0 := rfl
    rw [ha]
    simp only [List.length_nil]
    clear h hl
    go_enter Try.func24, Try.ntmps24
    go_wp2
    go_ret
    exact ⟨rfl, Below.refl _ _⟩
  · have hp : 0 < l.length := List.length_pos_iff.2 h0
    have hs := srt_len l
    rw [agreed_sorted hp]
    have C1 : Hid (Calls Try.prog 39 #[v] w fun e w' => ∃ sb so cap, e = .returned (.slice (some ⟨sb, so, none⟩) l.length cap) ∧ w'.cell? ⟨sb, so + (l.length - 1) / 2, none⟩ = some (.int .i64 ((srtC l).getD ((l.length - 1) / 2) 0)) ∧ Below w.heap.size w w') := hid ((sorted_any h.row (by omega)).mono (fun e w' ⟨a, cap, he, hm⟩ => by
      obtain ⟨a', cap', e1, hc⟩ := nums_at hm.row.rAt
      obtain ⟨sb, so, e2, _, hcc⟩ := hc ((l.length - 1) / 2) (by omega)
      simp only [Value.slice.injEq] at e1
      obtain ⟨e3, -, -⟩ := e1
      subst e3
      subst e2
      exact ⟨sb, so, cap, he, hcc, hm.below⟩))
    obtain ⟨ao, cap, rfl, -⟩ := nums_at h.row
    clear h hs h0
    generalize (srtC l).getD ((l.length - 1) / 2) 0 = y at *
    generalize l.length = n at *
    have hne : ((n : Int) == 0) = false := by simp; omega
    have hw1 : IntKind.i64.wrap ((n : Int) - 1) = ((n - 1 : Nat) : Int) := by rw [IntKind.wrap_i64] <;> omega
    have hq : ((n - 1 : Nat) : Int).tdiv 2 = (((n - 1) / 2 : Nat) : Int) := by rw [Int.tdiv_eq_ediv_of_nonneg (by omega)]; omega
    have hw : IntKind.i64.wrap (((n - 1) / 2 : Nat) : Int) = (((n - 1) / 2 : Nat) : Int) := by rw [IntKind.wrap_i64] <;> omega
    have hlt : (n - 1) / 2 < n := by omega
    obtain ⟨k, hk⟩ : ∃ k, (n - 1) / 2 = k := ⟨_, rfl⟩
    have hkI : (k : Int) < (n : Int) := by omega
    rw [hk] at hq hw C1
    clear hk
    go_enter Try.func24, Try.ntmps24
    go_wp2_with (go_at_call 39; (with_reducible refine C1.out.mono ?_); rintro e w1 ⟨sb, so, cap1, rfl, c1, hb⟩)
    go_ret
    exact ⟨rfl, hb⟩
def addsC (l m : List Int) : Bool := decide (m.length = l.length + 1) && decide (comC l m = l.length)
set_option maxHeartbeats 4000000 in
theorem adds_any {w : World} {v u : Value} {l m : List Int} (h : NumIn w v l) (k : NumIn w u m) : Calls Try.prog 30 #[v, u] w (BoolPost9 w (addsC l m)) := by
  have hl := h.len
  have hm := k.len
  have C1 := hid (common_any h.row k.row (by omega) (by omega))
  obtain ⟨ao, cap, rfl, -⟩ := nums_at h.row
  obtain ⟨ao2, cap2, rfl, -⟩ := nums_at k.row
  have hc := com_len l m
  have hA : addsC l m = (decide (m.length = l.length + 1) && decide (comC l m = l.length)) := rfl
  rw [hA]
  clear h k hA
  generalize comC l m = c at *
  generalize l.length = n at *
  generalize m.length = n2 at *
  have hw : IntKind.i64.wrap ((n : Int) + 1) = ((n + 1 : Nat) : Int) := by rw [IntKind.wrap_i64] <;> omega
  by_cases hn : n2 = n + 1
  · have q1 : ((n2 : Int) == ((n + 1 : Nat) : Int)) = true := by rw [hn]; exact beq_self_eq_true _
    have q3 : ((n2 : Int) == (n : Int) + 1) = true := by rw [hn]; simp
    rw [decide_eq_true hn]
    by_cases hcn : c = n
    · have q2 : ((c : Int) == (n : Int)) = true := by rw [hcn]; exact beq_self_eq_true _
      rw [decide_eq_true hcn]
      clear hn hcn
      go_enter Try.func30, Try.ntmps30
      go_wp2_with (go_at_call 38; (with_reducible refine C1.out.mono ?_); rintro e w1 ⟨rfl, hb⟩)
      go_ret
      exact ⟨rfl, hb⟩
    · have q2 : ((c : Int) == (n : Int)) = false := by simp; omega
      rw [decide_eq_false hcn]
      clear hn hcn
      go_enter Try.func30, Try.ntmps30
      go_wp2_with (go_at_call 38; (with_reducible refine C1.out.mono ?_); rintro e w1 ⟨rfl, hb⟩)
      go_ret
      exact ⟨rfl, hb⟩
  · have q1 : ((n2 : Int) == ((n + 1 : Nat) : Int)) = false := by simpa using (fun e => hn (by omega))
    have q3 : ((n2 : Int) == (n : Int) + 1) = false := by simp; omega
    rw [decide_eq_false hn]
    clear hn
    go_enter Try.func30, Try.ntmps30
    go_wp2
    go_ret
    exact ⟨rfl, Below.refl _ _⟩
theorem inc_ext : ∀ {l m : List Int}, Inc l → Inc m → (∀ x, x ∈ l ↔ x ∈ m) → l = m
  | [], [], _, _, _ => rfl
  | [], y :: s, _, _, h => by have := (h y).2 (List.mem_cons_self ..); cases this
  | x :: r, [], _, _, h => by have := (h x).1 (List.mem_cons_self ..); cases this
  | x :: r, y :: s, hl, hm, h => by
    obtain ⟨h1, h2⟩ := List.pairwise_cons.1 hl
    obtain ⟨h3, h4⟩ := List.pairwise_cons.1 hm
    have hxy : x = y := by
      rcases List.mem_cons.1 ((h x).1 (List.mem_cons_self ..)) with e | e
      · exact e
      · rcases List.mem_cons.1 ((h y).2 (List.mem_cons_self ..)) with e2 | e2
        · exact e2.symm
        · have := h3 x e; have := h1 y e2; omega
    subst hxy
    rw [inc_ext h2 h4 (fun z => by
      constructor
      · intro hz
        rcases List.mem_cons.1 ((h z).1 (List.mem_cons_of_mem _ hz)) with e | e
        · have := h1 z hz; omega
        · exact e
      · intro hz
        rcases List.mem_cons.1 ((h z).2 (List.mem_cons_of_mem _ hz)) with e | e
        · have := h3 z hz; omega
        · exact e)]
theorem com_comm {l m : List Int} (hl : Inc l) (hm : Inc m) : comC l m = comC m l := by
  unfold comC
  rw [List.countP_eq_length_filter, List.countP_eq_length_filter]
  have : l.filter (hasC m) = m.filter (hasC l) := inc_ext (hl.filter _) (hm.filter _) (fun x => by
    rw [List.mem_filter, List.mem_filter]
    unfold hasC
    simp only [decide_eq_true_eq]
    exact ⟨fun h => ⟨h.2, h.1⟩, fun h => ⟨h.2, h.1⟩⟩)
  rw [this]
theorem next_is (l m : List Int) : nextC l m = (rightC l && rightC m && (addsC l m || addsC m l)) := by
  unfold nextC
  cases h1 : rightC l with
  | false => rfl
  | true =>
    cases h2 : rightC m with
    | false => rfl
    | true =>
      have hc := com_comm (right_inc h1) (right_inc h2)
      unfold addsC
      rw [hc]
      congr 3
      exact decide_eq_decide.2 ⟨fun h => h.symm, fun h => h.symm⟩
set_option maxHeartbeats 4000000 in
theorem next_any {w : World} {v u : Value} {l m : List Int} (h : NumIn w v l) (k : NumIn w u m) : Calls Try.prog 13 #[v, u] w (BoolPost9 w (nextC l m)) := by
  have C1 := hid (right_any h)
  have C2 : Hid (∀ w1, Below w.heap.size w w1 → Calls Try.prog 11 #[u] w1 (BoolPost9 w (rightC m))) := hid (fun w1 hb => (right_any (k.below hb)).mono (fun e w' h => ⟨h.1, hb.trans (h.2.mono hb.size)⟩))
  have C3 : Hid (∀ w1, Below w.heap.size w w1 → Calls Try.prog 30 #[v, u] w1 (BoolPost9 w (addsC l m))) := hid (fun w1 hb => (adds_any (h.below hb) (k.below hb)).mono (fun e w' h => ⟨h.1, hb.trans (h.2.mono hb.size)⟩))
  have C4 : Hid (∀ w1, Below w.heap.size w w1 → Calls Try.prog 30 #[u, v] w1 (BoolPost9 w (addsC m l))) := hid (fun w1 hb => (adds_any (k.below hb) (h.below hb)).mono (fun e w' h => ⟨h.1, hb.trans (h.2.mono hb.size)⟩))
  obtain ⟨ao, cap, rfl, -⟩ := nums_at h.row
  obtain ⟨ao2, cap2, rfl, -⟩ := nums_at k.row
  rw [next_is]
  clear h k
  generalize rightC l = b1 at *
  generalize rightC m = b2 at *
  generalize addsC l m = b3 at *
  generalize addsC m l = b4 at *
  generalize l.length = n at *
  generalize m.length = n2 at *
  cases b1 with
  | false =>
    go_enter Try.func13, Try.ntmps13
    go_wp2_with (go_at_call 11; (with_reducible refine C1.out.mono ?_); rintro e w1 ⟨rfl, hb⟩)
    go_ret
    exact ⟨rfl, hb⟩
  | true =>
    cases b2 with
    | false =>
      go_enter Try.func13, Try.ntmps13
      go_wp2_with (first | (go_at_call 11; (with_reducible refine C1.out.mono ?_); rintro e w1 ⟨rfl, hb⟩) | (go_at_call 11; (with_reducible refine (C2.out _ hb).mono ?_); rintro e w2 ⟨rfl, hb⟩))
      go_ret
      exact ⟨rfl, hb⟩
    | true =>
      cases b3 with
      | true =>
        go_enter Try.func13, Try.ntmps13
        go_wp2_with (first | (go_at_call 11; (with_reducible refine C1.out.mono ?_); rintro e w1 ⟨rfl, hb⟩) | (go_at_call 11; (with_reducible refine (C2.out _ hb).mono ?_); rintro e w2 ⟨rfl, hb⟩) | (go_at_call 30; (with_reducible refine (C3.out _ hb).mono ?_); rintro e w3 ⟨rfl, hb⟩))
        go_ret
        exact ⟨rfl, hb⟩
      | false =>
        cases b4 with
        | true =>
          go_enter Try.func13, Try.ntmps13
          go_wp2_with (first | (go_at_call 11; (with_reducible refine C1.out.mono ?_); rintro e w1 ⟨rfl, hb⟩) | (go_at_call 11; (with_reducible refine (C2.out _ hb).mono ?_); rintro e w2 ⟨rfl, hb⟩) | (go_at_call 30; (with_reducible refine (C3.out _ hb).mono ?_); rintro e w3 ⟨rfl, hb⟩) | (go_at_call 30; (with_reducible refine (C4.out _ hb).mono ?_); rintro e w4 ⟨rfl, hb⟩))
          go_ret
          exact ⟨rfl, hb⟩
        | false =>
          go_enter Try.func13, Try.ntmps13
          go_wp2_with (first | (go_at_call 11; (with_reducible refine C1.out.mono ?_); rintro e w1 ⟨rfl, hb⟩) | (go_at_call 11; (with_reducible refine (C2.out _ hb).mono ?_); rintro e w2 ⟨rfl, hb⟩) | (go_at_call 30; (with_reducible refine (C3.out _ hb).mono ?_); rintro e w3 ⟨rfl, hb⟩) | (go_at_call 30; (with_reducible refine (C4.out _ hb).mono ?_); rintro e w4 ⟨rfl, hb⟩))
          go_ret
          exact ⟨rfl, hb⟩
end Go.Proofs.Ytcjhiegiccekpaa
