import Derived.Test.YtbidglefddmjhaaGreatDoorMqbJ
/-
  LAYER 3 (wal), plain mathematics: an act of the laws; what is true of a log whatever is saved and reset.
-/
namespace Go.Proofs.YtbidglefddmjhaaGreatDoor
open Go.RowKit
set_option linter.unusedVariables false
set_option maxRecDepth 100000

structure Wa where
  op : Int
  term : Int
  vote : Int
  idx : Int
  n : Int
  data : ByteArray
  keep : List Int
  noise : List Int
structure WaIn (a : Wa) : Prop where
  op : I64 a.op
  term : I64 a.term
  vote : I64 a.vote
  idx : I64 a.idx
  n : I64 a.n
  data : a.data.size ≤ maxLen
  kr : ∀ n ∈ a.keep, I64 n
  nr : ∀ n ∈ a.noise, I64 n
  keep : a.keep.length ≤ maxLen
  noise : a.noise.length ≤ maxLen
structure WaOk (a : Wa) : Prop where
  op : I64 a.op
  term : I64 a.term
  vote : I64 a.vote
  idx : I64 a.idx
  n : I64 a.n
  kr : ∀ n ∈ a.keep, I64 n
  nr : ∀ n ∈ a.noise, I64 n
  data : a.data.size ≤ 700
  keep : a.keep.length ≤ 60
  noise : a.noise.length ≤ 60
def oddA (a : Wa) : Bool := decide (Int.tmod a.idx 37 = 0 ∧ a.idx ≠ 0)
def entI (a : Wa) (i : Nat) : En := if oddA a then ⟨a.idx, pickZ a.term 20, a.n, a.data.data.toList⟩ else ⟨1 + pickZ a.idx 30 + i, pickZ a.term 20, 2, a.data.data.toList⟩
def entA (a : Wa) : List En := (List.range (pickZ a.n 5).toNat).map (entI a)
def oddH (a : Wa) : Bool := decide (Int.tmod a.term 41 = 0 ∧ a.term ≠ 0)
def hdA (a : Wa) : Hd := if oddH a then ⟨a.term, a.vote⟩ else ⟨pickZ a.term 20, pickZ a.vote 4⟩
theorem pkRange (c n : Int) (hn : 0 < n) : 0 ≤ pickZ c n ∧ pickZ c n < n := ⟨Int.emod_nonneg _ (by omega), Int.emod_lt_of_pos _ hn⟩
theorem entA_len (a : Wa) : (entA a).length ≤ 4 := by
  have := pkRange a.n 5 (by omega)
  unfold entA
  rw [List.length_map, List.length_range]; omega
theorem entI_in {a : Wa} (h : WaOk a) {i : Nat} (hi : i < 4) : (entI a i).In ∧ (entI a i).data.length ≤ 700 := by
  have h1 := pkRange a.term 20 (by omega)
  have h2 := pkRange a.idx 30 (by omega)
  have hd := h.data
  unfold entI
  split
  · exact ⟨⟨h.idx, ⟨by show _ ≤ pickZ _ _; omega, by show pickZ _ _ ≤ _; omega⟩, h.n⟩, by show a.data.data.toList.length ≤ 700; rw [str_len]; exact hd⟩
  · exact ⟨⟨⟨by show _ ≤ 1 + pickZ _ _ + (i : Int); omega, by show 1 + pickZ _ _ + (i : Int) ≤ _; omega⟩, ⟨by show _ ≤ pickZ _ _; omega, by show pickZ _ _ ≤ _; omega⟩, ⟨by show _ ≤ (2 : Int); omega, by show (2 : Int) ≤ _; omega⟩⟩, by show a.data.data.toList.length ≤ 700; rw [str_len]; exact hd⟩
theorem entA_in {a : Wa} (h : WaOk a) : ∀ e ∈ entA a, e.In ∧ e.data.length ≤ 700 := by
  intro e he
  have hr := pkRange a.n 5 (by omega)
  obtain ⟨i, hi, rfl⟩ := List.mem_map.1 he
  exact entI_in h (by have := List.mem_range.1 hi; omega)
theorem hdA_in {a : Wa} (h : WaOk a) : I64 (hdA a).term ∧ I64 (hdA a).vote := by
  have h1 := pkRange a.term 20 (by omega)
  have h2 := pkRange a.vote 4 (by omega)
  unfold hdA
  split
  · exact ⟨h.term, h.vote⟩
  · exact ⟨⟨by show _ ≤ pickZ _ _; omega, by show pickZ _ _ ≤ _; omega⟩, ⟨by show _ ≤ pickZ _ _; omega, by show pickZ _ _ ≤ _; omega⟩⟩

theorem putEs_ok : ∀ {l : List En} {L : List En}, Consec L → (∀ e ∈ L, entB e = true ∧ e.In) → (∀ e ∈ l, entB e = true ∧ e.In) → Consec (putEs L l) ∧ ∀ e ∈ putEs L l, entB e = true ∧ e.In
  | [], L, h1, h2, _ => ⟨h1, h2⟩
  | e :: l, L, h1, h2, h3 => by
    obtain ⟨p1, p2⟩ := putE_ok h1 h2 (h3 e (by simp)).1 (h3 e (by simp)).2
    exact putEs_ok (l := l) p1 p2 (fun x hx => h3 x (by simp [hx]))
theorem putE_mem {L : List En} {e x : En} (h : x ∈ putE L e) : x ∈ L ∨ x = e := by
  unfold putE at h
  rcases List.mem_append.1 h with h | h
  · exact .inl (List.mem_of_mem_take h)
  · exact .inr (List.mem_singleton.1 h)
theorem putEs_mem : ∀ {l L : List En} {x : En}, x ∈ putEs L l → x ∈ L ∨ x ∈ l
  | [], L, x, h => .inl h
  | e :: l, L, x, h => by
    rcases putEs_mem (l := l) (L := putE L e) h with h | h
    · rcases putE_mem h with h | h
      · exact .inl h
      · exact .inr (by simp [h])
    · exact .inr (by simp [h])
theorem putE_len (L : List En) (e : En) : (putE L e).length ≤ L.length + 1 := by
  unfold putE
  rw [List.length_append, List.length_take, List.length_singleton]; omega
theorem putEs_len : ∀ (l L : List En), (putEs L l).length ≤ L.length + l.length
  | [], L => Nat.le_refl _
  | e :: l, L => by
    have h1 := putEs_len l (putE L e)
    have h2 := putE_len L e
    show (putEs (putE L e) l).length ≤ _
    simp only [List.length_cons]
    omega

/-- What a log is behind k acts. -/
structure LgIn (k : Nat) (g : Lg) : Prop where
  ok : g.Ok
  idx : ∀ e ∈ g.L, e.idx ≤ 34 ∨ (37 : Int) ∣ e.idx
  len : g.L.length ≤ 4 * k
  dat : ∀ e ∈ g.L, e.data.length ≤ 700
theorem all_entB {l : List En} (h : l.all entB = true) : ∀ e ∈ l, entB e = true := by simpa using h
theorem entA_idx (a : Wa) : ∀ e ∈ entA a, e.idx ≤ 34 ∨ (37 : Int) ∣ e.idx := by
  intro e he
  have hr := pkRange a.n 5 (by omega)
  have h2 := pkRange a.idx 30 (by omega)
  obtain ⟨i, hi, rfl⟩ := List.mem_map.1 he
  have hi := List.mem_range.1 hi
  unfold entI
  split
  · rename_i h
    unfold oddA at h
    rw [decide_eq_true_eq] at h
    right
    exact Int.dvd_of_tmod_eq_zero h.1
  · left
    show 1 + pickZ _ _ + (i : Int) ≤ 34
    omega
theorem LgIn.save {k : Nat} {g : Lg} (h : LgIn k g) {a : Wa} (ha : WaOk a) (he : (entA a).all entB = true) (hh : hdB (hdA a) = true) : LgIn (k + 1) ⟨hdA a, putEs g.L (entA a)⟩ := by
  have hi := entA_in ha
  obtain ⟨p1, p2⟩ := putEs_ok h.ok.row h.ok.ents (fun e hx => ⟨all_entB he e hx, (hi e hx).1⟩)
  obtain ⟨i1, i2⟩ := hdA_in ha
  refine ⟨⟨⟨hh, i1, i2⟩, p1, p2⟩, fun e hx => ?_, ?_, fun e hx => ?_⟩
  · rcases putEs_mem hx with hx | hx
    · exact h.idx e hx
    · exact entA_idx a e hx
  · have h1 := putEs_len (entA a) g.L
    have h2 := entA_len a
    have h3 := h.len
    show (putEs g.L (entA a)).length ≤ _
    omega
  · rcases putEs_mem hx with hx | hx
    · exact h.dat e hx
    · exact (hi e hx).2
theorem LgIn.mono {k m : Nat} {g : Lg} (h : LgIn k g) (hm : k ≤ m) : LgIn m g := ⟨h.ok, h.idx, by have := h.len; omega, h.dat⟩
theorem LgIn.reset {k : Nat} {g : Lg} (h : LgIn k g) : LgIn k ⟨g.hd, []⟩ :=
  ⟨⟨h.ok.hd, fun j hj => by simp at hj, fun e he => by cases he⟩, fun e he => (by cases he), Nat.zero_le _, fun e he => (by cases he)⟩
/-- An entry of number 500 is put in alone. -/
theorem LgIn.five {k : Nat} {g : Lg} (h : LgIn k g) (e : En) (he : e.idx = 500) : putE g.L e = [e] := by
  have key : aheadE g.L e.idx = 0 := by
    obtain ⟨h1, h2⟩ := aheadE_le h.ok.row (fun x hx => (h.ok.ents x hx).2) e.idx
    rcases Nat.eq_zero_or_pos (aheadE g.L e.idx) with h0 | h0
    · exact h0
    · exfalso
      rcases h2 with h2 | h2 | h2
      · rw [h2] at h1 h0; simp at h1; omega
      · omega
      · have hm := h.ok.row (aheadE g.L e.idx - 1) (by omega)
        have hx := h.idx _ (List.getElem_mem (l := g.L) (n := aheadE g.L e.idx - 1) (by omega))
        rw [hm] at hx
        omega
  unfold putE
  rw [key]
  rfl

/-- One act, where power lasts: saves and resets alone. -/
def actW (s : Dk) (g : Lg) (a : Wa) : Dk × Lg × Int := if pickZ a.op 10 = 6 then resetL s g else saveL s g (hdA a) (entA a)
theorem actW_in {s : Dk} {g : Lg} {k : Nat} (h : Good s) (hg : LgIn k g) {a : Wa} (ha : WaOk a) : Good (actW s g a).1 ∧ LgIn (k + 1) (actW s g a).2.1 ∧ (actW s g a).1.most = s.most := by
  unfold actW
  split
  · rcases h.reset g with ⟨e, -⟩ | ⟨e, h2, h3⟩
    · rw [e]; exact ⟨h, hg.mono (by omega), rfl⟩
    · have e1 : (resetL s g).2.1 = ⟨g.hd, []⟩ := by rw [e]
      rw [e1]
      exact ⟨h2, hg.reset.mono (by omega), h3⟩
  · rcases h.save g (hdA a) (entA a) with ⟨e, _⟩ | ⟨e, _⟩ | ⟨e, _⟩ | ⟨e, h2, h3, h4, _, h6⟩
    · rw [e]; exact ⟨h, hg.mono (by omega), rfl⟩
    · rw [e]; exact ⟨h, hg.mono (by omega), rfl⟩
    · rw [e]; exact ⟨h, hg.mono (by omega), rfl⟩
    · have e1 : (saveL s g (hdA a) (entA a)).2.1 = ⟨hdA a, putEs g.L (entA a)⟩ := by rw [e]
      rw [e1]
      exact ⟨h2, hg.save ha h3 h4, h6⟩
theorem rcL_pos (r : Rc) : 8 ≤ (rcL r).length := by unfold rcL; rw [frameL_length]; omega
/-- WalFull's last save. -/
theorem full_save {s : Dk} {g : Lg} {k : Nat} (h : Good s) (hg : LgIn k g) (e : En) (he : e.idx = 500) (hb : entB e = true) :
    saveL s g g.hd [e] = (s, g, 6) ∨ ((saveL s g g.hd [e]).2 = (⟨g.hd, [e]⟩, 0) ∧ sz s.L < sz (saveL s g g.hd [e]).1.L ∧ Good (saveL s g g.hd [e]).1) := by
  rcases h.save g g.hd [e] with ⟨_, h1⟩ | ⟨_, h1, _⟩ | ⟨h1, _⟩ | ⟨h1, h2, _, _, h5, _⟩
  · exfalso
    rcases h1 with h1 | h1
    · simp [hb] at h1
    · rw [hg.ok.hd.1] at h1; cases h1
  · cases h1
  · exact .inl h1
  · right
    refine ⟨?_, ?_, h2⟩
    · rw [h1]
      have : putEs g.L [e] = [e] := hg.five e he
      rw [this]
    · rw [h5, List.length_append]
      have : 8 ≤ (entRecs [e]).length := by
        have := rcL_pos (.entry e)
        simpa [entRecs, rcsL] using this
      omega
end Go.Proofs.YtbidglefddmjhaaGreatDoor

