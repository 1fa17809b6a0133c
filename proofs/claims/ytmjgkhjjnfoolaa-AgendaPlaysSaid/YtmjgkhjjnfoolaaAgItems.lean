/-
  LAYER 5 (agenda): the laws' items: (l[i], i); plain mathematics; one Put more.
-/
import Derived.Test.YtmjgkhjjnfoolaaAgShown
namespace Go.Proofs.Ytmjgkhjjnfoolaa
open Go.RowKit Go.Maps
set_option linter.unusedVariables false
set_option maxRecDepth 100000

def itm (l : List Int) (i : Nat) : It := (l.getD i 0, (i : Int))
def itms (l : List Int) (I : List Nat) : List It := I.map (itm l)
theorem itm_ne {l : List Int} {i j : Nat} (h : i ≠ j) : (itm l i).2 ≠ (itm l j).2 := by unfold itm; simp only; omega
theorem itms_mem {l : List Int} {I : List Nat} {x : It} : x ∈ itms l I ↔ ∃ i ∈ I, itm l i = x := List.mem_map
theorem itms_snoc (l : List Int) (I : List Nat) (i : Nat) : itms l (I ++ [i]) = itms l I ++ [itm l i] := by simp [itms]
theorem put_itms {l : List Int} {I : List Nat} {S : List It} {i : Nat} (h : S.Perm (itms l I)) (hi : i ∉ I) : (insS (itm l i) (delS (itm l i).2 S)).Perm (itms l (I ++ [i])) := by
  have hd : delS (itm l i).2 S = S := delS_none (fun x hx => by
    obtain ⟨j, hj, rfl⟩ := itms_mem.1 (h.mem_iff.1 hx)
    exact itm_ne (fun e => hi (e ▸ hj)))
  rw [hd, itms_snoc]
  exact (insS_perm _ _).trans ((h.cons _).trans (List.perm_append_comm (l₁ := [itm l i]) (l₂ := itms l I)))
theorem itm_in {l : List Int} (hx : ∀ n ∈ l, -9223372036854775808 ≤ n ∧ n ≤ 9223372036854775807) {i : Nat} (hi : i < l.length) (hl : l.length ≤ 100000) : InR (itm l i) := by
  refine ⟨?_, by unfold I64 itm; simp only; omega⟩
  unfold I64 itm
  have : l.getD i 0 = l[i] := by simp [List.getD, hi]
  simp only [this]
  exact hx _ (List.getElem_mem hi)
theorem getD_cell {l : List Int} {i : Nat} (hi : i < l.length) : l[i]? = some (l.getD i 0) := by simp [List.getD, hi]
/-- Where an int of a slice lies. -/
theorem IntsAt.at {w : World} {B : Nat} {v : Value} {xs : List Int} (h : IntsAt w B v xs) : ∃ a cap, v = .slice a xs.length cap ∧ ∀ i, i < xs.length → ∃ sb so, a = some ⟨sb, so, none⟩ ∧ sb < B ∧ w.cell? ⟨sb, so + i, none⟩ = some (.int .i64 (xs.getD i 0)) := by
  obtain ⟨a, cap, rfl, hc⟩ := h
  refine ⟨a, cap, rfl, fun i hi => ?_⟩
  obtain ⟨sb, so, h1, h2, h3⟩ := hc (by intro e; simp [e] at hi)
  exact ⟨sb, so, h1, h2, h3 i _ (getD_cell hi)⟩
/-- What a call that turns an agenda does to the world. -/
structure Turn (w w' : World) (F F' : Nat → Prop) : Prop where
  chg : Chg F w w'
  sub : ∀ b, F' b → grow F w w' b
/-- A law's agenda: it has the items of the numbers of I. -/
structure Has (w wx : World) (p : Nat) (F : Nat → Prop) (l : List Int) (I : List Nat) : Prop where
  own : ∃ S, Own w wx p F S ∧ S.Perm (itms l I)
theorem Has.put {w wx : World} {p : Nat} {F : Nat → Prop} {l : List Int} {I : List Nat} (h : Has w wx p F l I) (hx : ∀ n ∈ l, -9223372036854775808 ≤ n ∧ n ≤ 9223372036854775807) {i : Nat} (hi : i < l.length) (hl : l.length ≤ 1000) (hI : i ∉ I) (hIl : I.length < 1000) :
    Calls Try.prog 16 #[.pointer (some ⟨p, 0, none⟩), .int .i64 (l.getD i 0), .int .i64 (i : Int)] wx fun e wy => e = .returned (.tuple #[]) ∧ ∃ F', Turn wx wy F F' ∧ Has w wy p F' l (I ++ [i]) := by
  obtain ⟨S, hO, hp⟩ := h
  have hlen : S.length = I.length := by rw [hp.length_eq]; simp [itms]
  refine (aput_any hO.is (itm_in hx hi (by omega)) (by omega)).mono fun e wy ⟨he, F', ht⟩ => ⟨he, F', ⟨ht.chg, ht.sub⟩, ⟨_, hO.to ht, put_itms hp hI⟩⟩
theorem Has.later {w wx wy : World} {p : Nat} {F : Nat → Prop} {l : List Int} {I : List Nat} (h : Has w wx p F l I) (hb : Below wx.heap.size wx wy) : Has w wy p F l I := by
  obtain ⟨S, hO, hp⟩ := h
  exact ⟨S, hO.later hb, hp⟩
theorem Has.below {w wx : World} {p : Nat} {F : Nat → Prop} {l : List Int} {I : List Nat} (h : Has w wx p F l I) : Below w.heap.size w wx := by
  obtain ⟨S, hO, hp⟩ := h
  exact hO.below
theorem due_all {S : List It} (h : ∀ x ∈ S, InR x) : dueS 9223372036854775807 S = S ∧ restS 9223372036854775807 S = [] := by
  have := due_split (S := S) (D := S) (R := []) (now := 9223372036854775807) (by simp) (fun x hx => (h x hx).1.2) (fun x r e => by cases e)
  exact this
theorem range_snoc (k : Nat) : List.range (k + 1) = List.range k ++ [k] := List.range_succ
/-- What the k-th of the sorted is. -/
theorem sorted_at {l : List Int} {S : List It} {I : List Nat} (hp : S.Perm (itms l I)) {k : Nat} (hk : k < S.length) : ∃ i ∈ I, S[k] = itm l i := by
  obtain ⟨i, hi, e⟩ := itms_mem.1 (hp.mem_iff.1 (List.getElem_mem hk))
  exact ⟨i, hi, e.symm⟩
theorem sorted_step {S : List It} (h : Srt S) {k : Nat} (hk : k + 1 < S.length) : bf S[k] S[k + 1] = true :=
  List.pairwise_iff_getElem.1 h k (k + 1) (by omega) hk (by omega)
end Go.Proofs.Ytmjgkhjjnfoolaa
