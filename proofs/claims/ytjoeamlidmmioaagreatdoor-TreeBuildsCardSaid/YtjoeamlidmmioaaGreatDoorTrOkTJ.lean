import Derived.Test.YtjoeamlidmmioaaGreatDoorTrBuildJ
import Derived.Test.YtjoeamlidmmioaaGreatDoorTrNod2J
/-
  LAYER 12 (tree): the tokens of a tree may be asked of Build.
-/
namespace Go.Proofs.YtjoeamlidmmioaaGreatDoor
set_option linter.unusedVariables false
set_option maxRecDepth 100000

/-- No text is longer than Go has it. -/
inductive TxtT : Tr → Prop where
  | nd {n : List UInt8} {la : List AtX} {t : List UInt8} {ks : List Tr} (ht : t.length ≤ maxLen) (hk : ∀ (i : Nat) (u : Tr), ks[i]? = some u → TxtT u) : TxtT (.nd n la t ks)
def BdOk (st : List OpX) (n : Nat) : Prop := ∀ e ∈ st, e.ws.length ≤ 1 ∧ e.ks.length + n ≤ 1000000
theorem okT_of {st : List OpX} {n : Nat} (h : BdOk st n) (h20 : st.length ≤ 20) {t : TkX} (ha : t.as.length ≤ 1000000) (ht : t.t.length ≤ maxLen) : OkT ⟨st, none⟩ t := by
  refine ⟨h20, ha, ht, fun e r he => ?_, fun e r he => ⟨?_, fun d r' hd => ?_⟩⟩
  · obtain ⟨q1, q2⟩ := h e (by simp only at he; rw [he]; simp)
    exact ⟨.inl q1, by omega⟩
  · obtain ⟨q1, q2⟩ := h e (by simp only at he; rw [he]; simp)
    omega
  · obtain ⟨q1, q2⟩ := h d (by simp only at he; rw [he, hd]; simp)
    omega
theorem bdOk_mono {st : List OpX} {n m : Nat} (h : BdOk st n) (hm : m ≤ n) : BdOk st m := fun e he => ⟨(h e he).1, by have := (h e he).2; omega⟩
mutual
theorem okF_tree : ∀ (t : Tr) (st : List OpX) (R : List TkX), st.length ≤ 20 → SmallT t → TxtT t → manyT t ≤ 1000000 → BdOk st (manyT t) → (st.length + deepT t ≤ 20 → okF (putB st t) R) → okF ⟨st, none⟩ (tokT t ++ R)
  | .nd n la t ks, st, R, h20, hS, hT, hM, hB, hR => by
    cases hS with
    | nd ha hks =>
    cases hT with
    | nd ht hkt =>
    unfold deepT at hR
    have hM2 : manysT ks + 1 ≤ 1000000 := hM
    have hB2 : BdOk st (manysT ks + 1) := hB
    unfold tokT
    rw [List.cons_append]
    refine ⟨okT_of hB2 h20 (by show la.length ≤ _; omega) (by show ([] : List UInt8).length ≤ _; simp), fun h0 => ?_⟩
    by_cases hl : st.length = 20
    · rw [take_deep hl n la] at h0; cases h0
    · rw [take_open (by omega) n la, List.append_assoc, List.append_assoc]
      have hend : ∀ (e : OpX), e.n = n → e.as = la → e.ws.flatten = t → e.ws.length ≤ 1 → e.ks = [] → okF ⟨e :: st, none⟩ (toksT ks ++ ([closeT n] ++ R)) := fun e h1 h2 h3 h4 h5 => by
        refine okF_trees ks e st _ (by omega) hks hkt (by omega) (fun d hd => ?_) (fun hdp => ?_)
        · rcases List.mem_cons.1 hd with rfl | hd
          · exact ⟨h4, by rw [h5]; simp; omega⟩
          · have := hB2 d hd; exact ⟨this.1, by omega⟩
        · rw [List.singleton_append]
          have hc : takeX ⟨{ e with ks := e.ks ++ ks } :: st, none⟩ (closeT n) = (0, endB { e with ks := e.ks ++ ks } st none) := by
            rw [← h1]
            exact take_close { e with ks := e.ks ++ ks } st none
          refine ⟨okT_of (n := 0) (fun d hd => ?_) (by simp; omega) (by show ([] : List AtX).length ≤ _; simp) (by show ([] : List UInt8).length ≤ _; simp), fun _ => ?_⟩
          · rcases List.mem_cons.1 hd with rfl | hd
            · refine ⟨h4, ?_⟩
              rw [h5]
              have := manys_len ks
              simp; omega
            · have := hB2 d hd; exact ⟨this.1, by omega⟩
          · rw [hc]
            simp only
            rw [endB_put]
            have := hR (by omega)
            rw [show shutX { e with ks := e.ks ++ ks } = .nd n la t ks by unfold shutX; simp [h1, h2, h3, h5]]
            exact this
      by_cases hte : t = []
      · rw [if_pos hte, List.nil_append]
        exact hend ⟨n, la, [], []⟩ rfl rfl (by rw [hte]; rfl) (by simp) rfl
      · rw [if_neg hte, List.singleton_append]
        refine ⟨okT_of (n := 0) (fun d hd => ?_) (by simp; omega) (by show ([] : List AtX).length ≤ _; simp) ht, fun _ => ?_⟩
        · rcases List.mem_cons.1 hd with rfl | hd
          · simp
          · have := hB2 d hd; exact ⟨this.1, by omega⟩
        · rw [take_words]
          exact hend ⟨n, la, [] ++ [t], []⟩ rfl rfl (by simp) (by simp) rfl
theorem okF_trees : ∀ (ks : List Tr) (e : OpX) (st : List OpX) (R : List TkX), st.length + 1 ≤ 20 → (∀ (i : Nat) (u : Tr), ks[i]? = some u → SmallT u) → (∀ (i : Nat) (u : Tr), ks[i]? = some u → TxtT u) → manysT ks ≤ 1000000 → BdOk (e :: st) (manysT ks) → (st.length + 1 + deepsT ks ≤ 20 → okF ⟨{ e with ks := e.ks ++ ks } :: st, none⟩ R) → okF ⟨e :: st, none⟩ (toksT ks ++ R)
  | [], e, st, R, h20, _, _, _, _, hR => by
    unfold toksT
    have := hR (by unfold deepsT; omega)
    simpa using this
  | k :: r, e, st, R, h20, hS, hT, hM, hB, hR => by
    have hM2 : manyT k + manysT r ≤ 1000000 := hM
    have hB2 : BdOk (e :: st) (manyT k + manysT r) := hB
    have hk1 := many_pos k
    unfold deepsT at hR
    unfold toksT
    rw [List.append_assoc]
    refine okF_tree k (e :: st) _ (by simpa using h20) (hS 0 k rfl) (hT 0 k rfl) (by omega) (bdOk_mono hB2 (by omega)) (fun hd => ?_)
    refine okF_trees r { e with ks := e.ks ++ [k] } st R h20 (fun i u hu => hS (i + 1) u (by simpa using hu)) (fun i u hu => hT (i + 1) u (by simpa using hu)) (by omega) (fun d hd2 => ?_) (fun hd3 => ?_)
    · rcases List.mem_cons.1 hd2 with rfl | hd2
      · have := hB2 e (by simp); exact ⟨this.1, by have := this.2; simp; omega⟩
      · have := hB2 d (by simp [hd2]); exact ⟨this.1, by omega⟩
    · have := hR (by simp at hd; omega)
      simpa using this
end
/-- What TreeBack asks of Build. -/
theorem okF_tok (t : Tr) (hS : SmallT t) (hT : TxtT t) (hM : manyT t ≤ 1000000) : okF bdX0 (tokT t) := by
  have := okF_tree t [] [] (by simp) hS hT hM (fun e he => by simp at he) (fun _ => trivial)
  rw [List.append_nil] at this
  exact this
/-- How many tokens. -/
theorem tok_len : ∀ (m : Nat) (t : Tr), manyT t ≤ m → (tokT t).length ≤ 3 * manyT t
  | 0, t, h => by have := many_pos t; omega
  | m + 1, .nd n la t ks, h => by
    have hk : ∀ (l : List Tr), manysT l ≤ m → (toksT l).length ≤ 3 * manysT l := by
      intro l
      induction l with
      | nil => intro _; simp [toksT]
      | cons x r ih =>
        intro hl
        have hl2 : manyT x + manysT r ≤ m := hl
        have h1 := tok_len m x (by omega)
        have h2 := ih (by omega)
        unfold toksT
        show _ ≤ 3 * (manyT x + manysT r)
        rw [List.length_append]; omega
    have h1 : manysT ks + 1 ≤ m + 1 := h
    have h2 := hk ks (by omega)
    unfold tokT
    show _ ≤ 3 * (manysT ks + 1)
    split <;> simp <;> omega
end Go.Proofs.YtjoeamlidmmioaaGreatDoor

