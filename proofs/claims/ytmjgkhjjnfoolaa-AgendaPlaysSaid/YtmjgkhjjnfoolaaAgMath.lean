/-
  LAYER 5 (agenda): PLAIN MATHEMATICS: things (a time, a number), their order, heaps on lists, sorted lists.
-/
import Derived.Lib.Hide
namespace Go.Proofs.Ytmjgkhjjnfoolaa
set_option linter.unusedVariables false

abbrev It := Int × Int
def bf (x y : It) : Bool := if x.1 = y.1 then decide (x.2 < y.2) else decide (x.1 < y.1)
def Le (x y : It) : Prop := bf y x = false
theorem bf_iff {x y : It} : bf x y = true ↔ x.1 < y.1 ∨ (x.1 = y.1 ∧ x.2 < y.2) := by
  unfold bf
  by_cases h : x.1 = y.1
  · simp [h]
  · simp [h]
theorem bf_false {x y : It} : bf x y = false ↔ y.1 < x.1 ∨ (x.1 = y.1 ∧ y.2 ≤ x.2) := by
  unfold bf
  by_cases h : x.1 = y.1
  · simp [h]
  · simp [h]; omega
theorem Le_iff {x y : It} : Le x y ↔ x.1 < y.1 ∨ (x.1 = y.1 ∧ x.2 ≤ y.2) := by
  unfold Le; rw [bf_false]; omega
theorem Le_refl (x : It) : Le x x := Le_iff.2 (by omega)
theorem Le_trans {x y z : It} (h : Le x y) (k : Le y z) : Le x z := by rw [Le_iff] at *; omega
theorem Le_antisymm {x y : It} (h : Le x y) (k : Le y x) : x = y := by
  rw [Le_iff] at *
  exact Prod.ext (by omega) (by omega)
theorem bf_Le {x y : It} (h : bf x y = true) : Le x y := by rw [bf_iff] at h; rw [Le_iff]; omega
theorem bf_trans {x y z : It} (h : bf x y = true) (k : bf y z = true) : bf x z = true := by rw [bf_iff] at *; omega
theorem bf_irrefl (x : It) : bf x x = false := bf_false.2 (by omega)

def gt (L : List It) (k : Nat) : It := L.getD k (0, 0)
theorem gt_of {L : List It} {k : Nat} (h : k < L.length) : gt L k = L[k] := by simp [gt, List.getD, h]
theorem gt_mem {L : List It} {k : Nat} (h : k < L.length) : gt L k ∈ L := by rw [gt_of h]; exact List.getElem_mem h
def sw (L : List It) (i j : Nat) : List It := (L.set i (gt L j)).set j (gt L i)
theorem sw_length (L : List It) (i j : Nat) : (sw L i j).length = L.length := by simp [sw]
theorem sw_perm {L : List It} {i j : Nat} (hi : i < L.length) (hj : j < L.length) : (sw L i j).Perm L := by
  unfold sw
  rw [gt_of hi, gt_of hj]
  exact List.set_set_perm hi hj
theorem gt_sw {L : List It} {i j : Nat} (hi : i < L.length) (hj : j < L.length) (k : Nat) : gt (sw L i j) k = if k = j then gt L i else if k = i then gt L j else gt L k := by
  have hp : ∀ (M : List It) (a b : Nat) (x : It), a < M.length → (M.set a x).getD b (0, 0) = if b = a then x else M.getD b (0, 0) := by
    intro M a b x ha
    simp only [List.getD, List.getElem?_set]
    by_cases h : a = b
    · subst h; simp [ha]
    · simp [h, Ne.symm h]
  unfold sw
  show ((L.set i (gt L j)).set j (gt L i)).getD k (0, 0) = _
  rw [hp _ _ _ _ (by simpa using hj)]
  by_cases h1 : k = j
  · simp [h1]
  · rw [if_neg h1, if_neg h1, hp _ _ _ _ hi]
    rfl

/-- The first n of L are a heap. -/
def Hp (L : List It) (n : Nat) : Prop := ∀ c, 0 < c → c < n → Le (gt L ((c - 1) / 2)) (gt L c)

theorem Hp.least {L : List It} {n : Nat} (h : Hp L n) : ∀ c, c < n → Le (gt L 0) (gt L c) := by
  intro c
  induction c using Nat.strongRecOn with
  | ind c ih =>
    intro hc
    rcases Nat.eq_zero_or_pos c with rfl | h0
    · exact Le_refl _
    · exact Le_trans (ih ((c - 1) / 2) (by omega) (by omega)) (h c h0 hc)

/-- A heap but for the place j, that may be ahead of its parent. -/
structure UpInv (L : List It) (n j : Nat) : Prop where
  jn : j < n
  rest : ∀ c, 0 < c → c < n → c ≠ j → Le (gt L ((c - 1) / 2)) (gt L c)
  kids : 0 < j → ∀ c, 0 < c → c < n → (c - 1) / 2 = j → Le (gt L ((j - 1) / 2)) (gt L c)
theorem UpInv.done {L : List It} {n j : Nat} (h : UpInv L n j) (hd : j = 0 ∨ Le (gt L ((j - 1) / 2)) (gt L j)) : Hp L n := by
  intro c h0 hc
  by_cases hcj : c = j
  · subst hcj
    rcases hd with e | e
    · omega
    · exact e
  · exact h.rest c h0 hc hcj
theorem UpInv.step {L : List It} {n j : Nat} (h : UpInv L n j) (hn : n ≤ L.length) (h0 : 0 < j) (hb : bf (gt L j) (gt L ((j - 1) / 2)) = true) : UpInv (sw L ((j - 1) / 2) j) n ((j - 1) / 2) := by
  have hj := h.jn
  have hi : (j - 1) / 2 < L.length := by omega
  have hjl : j < L.length := by omega
  have hle := bf_Le hb
  have hg := gt_sw hi hjl
  refine ⟨by omega, fun c hc0 hcn hci => ?_, fun hi0 c hc0 hcn hpc => ?_⟩
  · rw [hg, hg]
    by_cases hcj : c = j
    · subst hcj
      rw [if_neg (by omega), if_pos rfl, if_pos rfl]
      exact hle
    · rw [if_neg hcj, if_neg hci]
      by_cases hp : (c - 1) / 2 = j
      · rw [if_pos hp]
        exact h.kids h0 c hc0 hcn hp
      · rw [if_neg hp]
        by_cases hp2 : (c - 1) / 2 = (j - 1) / 2
        · rw [if_pos hp2]
          have := h.rest c hc0 hcn hcj
          rw [hp2] at this
          exact Le_trans hle this
        · rw [if_neg hp2]
          exact h.rest c hc0 hcn hcj
  · have hpi := h.rest ((j - 1) / 2) hi0 (by omega) (by omega)
    rw [hg, hg, if_neg (by omega), if_neg (by omega)]
    by_cases hcj : c = j
    · rw [if_pos hcj]; exact hpi
    · rw [if_neg hcj, if_neg (by omega)]
      have := h.rest c hc0 hcn hcj
      rw [hpc] at this
      exact Le_trans hpi this

/-- A heap of n, but for what stands at i (that came from i0): its kids may be ahead of it. -/
structure DownInv (L : List It) (n i0 i : Nat) : Prop where
  i0i : i0 ≤ i
  rest : ∀ c, 0 < c → c < n → (c - 1) / 2 ≠ i → c ≠ i0 → Le (gt L ((c - 1) / 2)) (gt L c)
  kids : 0 < i → ∀ c, 0 < c → c < n → (c - 1) / 2 = i → Le (gt L ((i - 1) / 2)) (gt L c)
  first : i0 < i → 0 < i0 → Le (gt L ((i0 - 1) / 2)) (gt L i0)
theorem DownInv.done {L : List It} {n i0 i : Nat} (h : DownInv L n i0 i) (hd : ∀ c, 0 < c → c < n → (c - 1) / 2 = i → Le (gt L i) (gt L c)) :
    (i0 < i → Hp L n) ∧ (i = i0 → i < n → UpInv L n i0) := by
  refine ⟨fun hlt c h0 hc => ?_, fun e hin => ?_⟩
  · by_cases hp : (c - 1) / 2 = i
    · rw [hp]; exact hd c h0 hc hp
    · by_cases hc0 : c = i0
      · subst hc0; exact h.first hlt h0
      · exact h.rest c h0 hc hp hc0
  · subst e
    refine ⟨hin, fun c h0 hc hci => ?_, h.kids⟩
    by_cases hp : (c - 1) / 2 = i
    · rw [hp]; exact hd c h0 hc hp
    · exact h.rest c h0 hc hp hci
/-- One step down, to the kid j, that is not behind the other. -/
theorem DownInv.step {L : List It} {n i0 i j : Nat} (h : DownInv L n i0 i) (hn : n ≤ L.length) (hj0 : 0 < j) (hj : j < n) (hp : (j - 1) / 2 = i) (hmin : ∀ c, 0 < c → c < n → (c - 1) / 2 = i → Le (gt L j) (gt L c))
    (hb : bf (gt L j) (gt L i) = true) : DownInv (sw L i j) n i0 j := by
  have h00 := h.i0i
  have hi : i < L.length := by omega
  have hjl : j < L.length := by omega
  have hle := bf_Le hb
  have hg := gt_sw hi hjl
  have hij : i < j := by omega
  refine ⟨by omega, fun c hc0 hcn hpc hci => ?_, fun _ c hc0 hcn hpc => ?_, fun _ h0 => ?_⟩
  · rw [hg, hg, if_neg hpc]
    by_cases hcj : c = j
    · subst hcj
      rw [if_pos hp, if_pos rfl]; exact hle
    · rw [if_neg hcj]
      by_cases hpi : (c - 1) / 2 = i
      · rw [if_pos hpi, if_neg (by omega)]
        exact hmin c hc0 hcn hpi
      · rw [if_neg hpi]
        by_cases hc : c = i
        · rw [if_pos hc]
          subst hc
          exact h.kids hc0 j hj0 hj hp
        · rw [if_neg hc]
          exact h.rest c hc0 hcn hpi hci
  · have e1 : gt (sw L i j) ((j - 1) / 2) = gt L j := by rw [hg, if_neg (by omega), if_pos hp]
    have e2 : gt (sw L i j) c = gt L c := by rw [hg, if_neg (by omega), if_neg (by omega)]
    rw [e1, e2]
    have := h.rest c hc0 hcn (by omega) (by omega)
    rw [hpc] at this
    exact this
  · rw [hg, hg, if_neg (by omega), if_neg (by omega)]
    by_cases hii : i0 = i
    · rw [if_pos hii, if_neg (by omega)]
      subst hii
      exact h.kids h0 j hj0 hj hp
    · rw [if_neg hii, if_neg (by omega)]
      exact h.first (by omega) h0
/-- What Remove begins with: the last is put at i. -/
theorem DownInv.start {L : List It} {n i : Nat} (h : Hp L (n + 1)) (hn : n < L.length) (hi : i < n) : DownInv (sw L i n) n i i := by
  have hg := gt_sw (show i < L.length by omega) hn
  refine ⟨Nat.le_refl _, fun c hc0 hcn hpc hci => ?_, fun h0 c hc0 hcn hpc => ?_, fun h _ => absurd h (by omega)⟩
  · rw [hg, hg, if_neg (by omega), if_neg hpc, if_neg (by omega), if_neg hci]
    exact h c hc0 (by omega)
  · rw [hg, hg, if_neg (by omega), if_neg (by omega), if_neg (by omega), if_neg (by omega)]
    have h1 := h i h0 (by omega)
    have h2 := h c hc0 (by omega)
    rw [hpc] at h2
    exact Le_trans h1 h2
theorem gt_snoc_lt {L : List It} {x : It} {k : Nat} (h : k < L.length) : gt (L ++ [x]) k = gt L k := by
  rw [gt_of h, gt_of (by simp; omega), List.getElem_append_left h]
theorem gt_snoc_eq (L : List It) (x : It) : gt (L ++ [x]) L.length = x := by
  rw [gt_of (by simp)]; simp
theorem UpInv.start {L : List It} (h : Hp L L.length) (x : It) : UpInv (L ++ [x]) (L.length + 1) L.length := by
  refine ⟨by omega, fun c h0 hc hne => ?_, fun _ c h0 hc hp => by omega⟩
  rw [gt_snoc_lt (by omega), gt_snoc_lt (by omega)]
  exact h c h0 (by omega)
theorem Hp.take {L : List It} {n : Nat} (h : Hp L n) (hn : n ≤ L.length) : Hp (L.take n) n := by
  have hg : ∀ k, k < n → gt (L.take n) k = gt L k := fun k hk => by
    rw [gt_of (by rw [List.length_take]; omega), gt_of (by omega), List.getElem_take]
  intro c h0 hc
  rw [hg _ (by omega), hg c hc]
  exact h c h0 hc
theorem Hp.less {L : List It} {n m : Nat} (h : Hp L n) (hm : m ≤ n) : Hp L m := fun c h0 hc => h c h0 (by omega)

/-! ### sorted lists -/
def Srt (S : List It) : Prop := S.Pairwise (fun x y => bf x y = true)
theorem Srt.uniq : ∀ {S T : List It}, Srt S → Srt T → S.Perm T → S = T
  | [], T, _, _, hp => (List.nil_perm.1 hp).symm
  | x :: S, [], _, _, hp => absurd hp.length_eq (by simp)
  | x :: S, y :: T, hS, hT, hp => by
    have hS' := List.pairwise_cons.1 hS
    have hT' := List.pairwise_cons.1 hT
    have hx : x ∈ y :: T := hp.mem_iff.1 (by simp)
    have hy : y ∈ x :: S := hp.mem_iff.2 (by simp)
    have e : x = y := by
      rcases List.mem_cons.1 hx with e | hx
      · exact e
      · rcases List.mem_cons.1 hy with e | hy
        · exact e.symm
        · have h1 := hT'.1 x hx
          have h2 := hS'.1 y hy
          exact absurd (bf_trans h1 h2) (by rw [bf_irrefl]; simp)
    subst e
    rw [Srt.uniq hS'.2 hT'.2 (List.Perm.cons_inv hp)]
theorem Srt.head {L S : List It} {n : Nat} (hL : Hp L n) (hn : n = L.length) (hp : L.Perm S) (hS : Srt S) (h0 : 0 < n) : S = gt L 0 :: S.tail := by
  cases S with
  | nil => have := hp.length_eq; rw [List.length_nil] at this; omega
  | cons x r =>
    have hm : gt L 0 ∈ x :: r := hp.mem_iff.1 (gt_mem (by omega))
    have hx : x ∈ L := hp.mem_iff.2 (by simp)
    obtain ⟨k, hk, hxk⟩ := List.getElem_of_mem hx
    have h1 : Le (gt L 0) x := by rw [← hxk, ← gt_of hk]; exact hL.least k (by omega)
    have h2 : Le x (gt L 0) := by
      rcases List.mem_cons.1 hm with e | hm
      · rw [e]; exact Le_refl _
      · exact bf_Le ((List.pairwise_cons.1 hS).1 _ hm)
    rw [Le_antisymm h1 h2]; rfl

def insS (x : It) : List It → List It
  | [] => [x]
  | y :: r => if bf y x then y :: insS x r else x :: y :: r
theorem insS_perm (x : It) : ∀ S, (insS x S).Perm (x :: S)
  | [] => List.Perm.refl _
  | y :: r => by
    unfold insS
    split
    · exact ((insS_perm x r).cons y).trans (List.Perm.swap x y r)
    · exact List.Perm.refl _
theorem insS_srt (x : It) : ∀ {S : List It}, Srt S → (∀ y ∈ S, y ≠ x) → Srt (insS x S)
  | [], _, _ => List.pairwise_singleton _ _
  | y :: r, h, hne => by
    have h' := List.pairwise_cons.1 h
    unfold insS
    split
    · rename_i hb
      refine List.pairwise_cons.2 ⟨fun z hz => ?_, insS_srt x h'.2 (fun z hz => hne z (by simp [hz]))⟩
      rcases List.mem_cons.1 ((insS_perm x r).mem_iff.1 hz) with rfl | hz
      · exact hb
      · exact h'.1 z hz
    · rename_i hb
      have hxy : bf x y = true := by
        have h1 := bf_false.1 (by simpa using hb)
        have h2 := hne y (by simp)
        rw [bf_iff]
        rcases h1 with h1 | ⟨h1, h3⟩
        · exact .inl h1
        · rcases Int.lt_or_eq_of_le h3 with h3 | h3
          · exact .inr ⟨h1.symm, h3⟩
          · exact absurd (Prod.ext h1 h3.symm) h2
      refine List.pairwise_cons.2 ⟨fun z hz => ?_, h⟩
      rcases List.mem_cons.1 hz with rfl | hz
      · exact hxy
      · exact bf_trans hxy (h'.1 z hz)
def delS (id : Int) (S : List It) : List It := S.filter (fun x => decide (x.2 ≠ id))
def I64 (n : Int) : Prop := -9223372036854775808 ≤ n ∧ n ≤ 9223372036854775807
def InR (x : It) : Prop := I64 x.1 ∧ I64 x.2
structure AgOk (S : List It) : Prop where
  srt : Srt S
  ids : (S.map Prod.snd).Nodup
  inr : ∀ x ∈ S, InR x
theorem agOk_nil : AgOk [] := ⟨List.Pairwise.nil, List.nodup_nil, by simp⟩
theorem delS_mem {id : Int} {S : List It} {x : It} : x ∈ delS id S ↔ x ∈ S ∧ x.2 ≠ id := by simp [delS]
theorem AgOk.del {S : List It} (h : AgOk S) (id : Int) : AgOk (delS id S) :=
  ⟨h.srt.filter _, h.ids.sublist ((List.filter_sublist).map _), fun x hx => h.inr x (delS_mem.1 hx).1⟩
theorem AgOk.put {S : List It} (h : AgOk S) (x : It) (hx : InR x) : AgOk (insS x (delS x.2 S)) := by
  have h' := h.del x.2
  have hp := insS_perm x (delS x.2 S)
  refine ⟨insS_srt x h'.srt (fun y hy e => (delS_mem.1 hy).2 (by rw [e])), ?_, fun y hy => ?_⟩
  · refine (List.Perm.nodup_iff (hp.map Prod.snd)).2 ?_
    rw [List.map_cons, List.nodup_cons]
    refine ⟨fun hm => ?_, h'.ids⟩
    obtain ⟨y, hy, e⟩ := List.mem_map.1 hm
    exact (delS_mem.1 hy).2 e
  · rcases List.mem_cons.1 (hp.mem_iff.1 hy) with rfl | hy
    · exact hx
    · exact h'.inr y hy
theorem AgOk.tail {x : It} {S : List It} (h : AgOk (x :: S)) : AgOk S :=
  ⟨(List.pairwise_cons.1 h.srt).2, by have := h.ids; simp at this; exact this.2, fun y hy => h.inr y (by simp [hy])⟩
theorem delS_head {x : It} {S : List It} (h : AgOk (x :: S)) : delS x.2 (x :: S) = S := by
  have := h.ids
  rw [List.map_cons, List.nodup_cons] at this
  unfold delS
  rw [List.filter_cons_of_neg (by simp), List.filter_eq_self]
  intro y hy
  have : y.2 ≠ x.2 := fun e => this.1 (List.mem_map.2 ⟨y, hy, e⟩)
  simp [this]
theorem delS_none {id : Int} {S : List It} (h : ∀ x ∈ S, x.2 ≠ id) : delS id S = S := by
  unfold delS; rw [List.filter_eq_self]; intro y hy; simp [h y hy]
theorem delS_perm {id : Int} {S T : List It} (h : S.Perm T) : (delS id S).Perm (delS id T) := h.filter _
/-- What is left of L without the one of a number. -/
theorem del_of_perm {L L' : List It} {x : It} (h : (x :: L').Perm L) (hn : (L.map Prod.snd).Nodup) : (delS x.2 L).Perm L' := by
  have h2 := (h.map Prod.snd).nodup_iff.2 hn
  rw [List.map_cons, List.nodup_cons] at h2
  have h3 := (h.filter (fun y => decide (y.2 ≠ x.2))).symm
  refine h3.trans ?_
  rw [List.filter_cons_of_neg (by simp), List.filter_eq_self.2]
  intro y hy
  have : y.2 ≠ x.2 := fun e => h2.1 (List.mem_map.2 ⟨y, hy, e⟩)
  simp [this]
def fndS (id : Int) (S : List It) : Option It := S.find? (fun x => decide (x.2 = id))
theorem fndS_some {id : Int} {S : List It} (hn : (S.map Prod.snd).Nodup) {x : It} (hx : x ∈ S) (h : x.2 = id) : fndS id S = some x := by
  induction S with
  | nil => cases hx
  | cons y r ih =>
    rw [List.map_cons, List.nodup_cons] at hn
    unfold fndS
    rcases List.mem_cons.1 hx with rfl | hx
    · rw [List.find?_cons_of_pos (by simpa using h)]
    · rw [List.find?_cons_of_neg]
      · exact ih hn.2 hx
      · have : y.2 ≠ x.2 := fun e => hn.1 (List.mem_map.2 ⟨x, hx, e.symm⟩)
        simp; omega
theorem fndS_none {id : Int} {S : List It} (h : ∀ x ∈ S, x.2 ≠ id) : fndS id S = none := by
  unfold fndS; rw [List.find?_eq_none]; intro x hx; simp [h x hx]
theorem fndS_mem {id : Int} {S : List It} {x : It} (h : fndS id S = some x) : x ∈ S ∧ x.2 = id := by
  unfold fndS at h
  exact ⟨List.mem_of_find?_eq_some h, by simpa using List.find?_some h⟩
theorem fndS_none_iff {id : Int} {S : List It} (h : fndS id S = none) : ∀ x ∈ S, x.2 ≠ id := by
  intro x hx
  unfold fndS at h
  rw [List.find?_eq_none] at h
  simpa using h x hx
def dueS (now : Int) (S : List It) : List It := S.takeWhile (fun x => decide (x.1 ≤ now))
def restS (now : Int) (S : List It) : List It := S.dropWhile (fun x => decide (x.1 ≤ now))
end Go.Proofs.Ytmjgkhjjnfoolaa
