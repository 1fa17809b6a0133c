/-
  LAYER 5 (agenda): rows of ints put behind one another; two agendas in one world; what is due up to one time, and then up to another.
-/
import Derived.Test.YtmjgkhjjnfoolaaAgItems
namespace Go.Proofs.Ytmjgkhjjnfoolaa
open Go.RowKit Go.Maps
set_option linter.unusedVariables false
set_option maxRecDepth 100000

theorem run_nums' {B : Nat} (w : World) (ty : TypeId) (v : Value) (L M : List Int) (u : Value) (hown : NumRow w v L) (hu : IntsAt w B u M) (hb : L.length + M.length ≤ 100000) :
    ∃ v' w', (Builtin.append_ #[33, 33] ty #[v, u]).run Try.prog w = .ok v' w' ∧ NumRow w' v' (L ++ M) ∧ w.grownBy w' v.ownBlock ∧ (v'.ownBlock = v.ownBlock ∨ v'.ownBlock = some w.heap.size) := by
  obtain ⟨a, cap, rfl, hc⟩ := hu
  cases a with
  | some ad =>
    obtain ⟨ao, cap', w', h1, h2, h3, h4⟩ := run_nums w ty v L M ad cap hown (fun j x hx => by
      obtain ⟨sb, so, e, _, hxs⟩ := hc (by intro e; subst e; simp [ncells] at hx)
      cases e
      rw [Go.WideShapes.add_plain]
      unfold ncells at hx
      rw [List.getElem?_map] at hx
      obtain ⟨y, hy, rfl⟩ := Option.map_eq_some_iff.1 hx
      exact hxs j y hy) hb
    exact ⟨_, w', h1, h2, h3, h4⟩
  | none =>
    have hM : M = [] := by
      by_cases h : M = []
      · exact h
      · obtain ⟨_, _, e, _⟩ := hc h
        cases e
    subst hM
    refine ⟨v, w, ?_, by simpa using hown, World.grownBy.refl w _, .inl rfl⟩
    rcases hown.2 with ⟨rfl, h0⟩ | ⟨g, cap, cur, rfl, _, _, hnc, _⟩
    · simp [go_sem, Builtin.append_, run_underlying Try.underlying33]
    · simp [go_sem, Builtin.append_, run_underlying Try.underlying33, hnc]
/-- .. of rows that the call has made: all blocks but the first row's stay. -/
theorem due_turn {w wx : World} {p : Nat} {F : Nat → Prop} {S D R : List It} (h : Own w wx p F S) (hl : S.length ≤ 1000) (now : Int) (e1 : dueS now S = D) (e2 : restS now S = R) :
    Calls Try.prog 15 #[.pointer (some ⟨p, 0, none⟩), .int .i64 now] wx fun e wy => ∃ v F', e = .returned v ∧ Own w wy p F' R ∧ Told wx wy F' v (D.map Prod.snd) ∧ Turn wx wy F F' := by
  subst e1 e2
  exact (adue_any h.is hl now).mono fun e wy ⟨v, F', he, hd⟩ => ⟨v, F', he, h.to hd.ag, ⟨hd.row, hd.ap⟩, hd.ag.chg, hd.ag.sub⟩
theorem drop_le {now1 now2 : Int} (h : now1 ≤ now2) (S : List It) : dueS now1 S ++ dueS now2 (restS now1 S) = dueS now2 S ∧ restS now2 (restS now1 S) = restS now2 S := by
  unfold dueS restS
  induction S with
  | nil => exact ⟨rfl, rfl⟩
  | cons x r ih =>
    by_cases h1 : x.1 ≤ now1
    · have h2 : x.1 ≤ now2 := by omega
      simp only [List.takeWhile_cons, List.dropWhile_cons, h1, h2, decide_true, if_true, List.cons_append]
      exact ⟨by rw [ih.1], ih.2⟩
    · simp only [List.takeWhile_cons, List.dropWhile_cons, h1, decide_false, Bool.false_eq_true, if_false, List.nil_append]
      exact ⟨trivial, trivial⟩
theorem dueS_le (now : Int) (S : List It) : (dueS now S).length ≤ S.length := by
  unfold dueS
  exact (List.takeWhile_sublist _).length_le
theorem restS_le (now : Int) (S : List It) : (restS now S).length ≤ S.length := by
  unfold restS
  exact (List.dropWhile_sublist _).length_le
/-- Two agendas, apart. -/
structure Two (w wx : World) (p q : Nat) (F G : Nat → Prop) (S T : List It) : Prop where
  a : Own w wx p F S
  b : Own w wx q G T
  ap : ∀ x, F x → ¬ G x
theorem Two.swap {w wx : World} {p q : Nat} {F G : Nat → Prop} {S T : List It} (h : Two w wx p q F G S T) : Two w wx q p G F T S := ⟨h.b, h.a, fun x hg hf => h.ap x hf hg⟩
theorem Two.turn {w wx wy : World} {p q : Nat} {F F' G : Nat → Prop} {S S' T : List It} (h : Two w wx p q F G S T) (k : Own w wy p F' S') (t : Turn wx wy F F') : Two w wy p q F' G S' T := by
  refine ⟨k, ⟨h.b.is.same (fun b hb => t.chg.block b (h.b.is.lt b hb) (fun hf => h.ap b hf hb)) t.chg.size, h.b.new, k.below⟩, fun x hf hg => ?_⟩
  rcases t.sub x hf with hf | hf
  · exact h.ap x hf hg
  · have := h.b.is.lt x hg; omega
theorem Two.later {w wx wy : World} {p q : Nat} {F G : Nat → Prop} {S T : List It} (h : Two w wx p q F G S T) (hb : Below wx.heap.size wx wy) : Two w wy p q F G S T := ⟨h.a.later hb, h.b.later hb, h.ap⟩
theorem two_made {w wy wz : World} {p q : Nat} (h : Own w wy p (fun b => b = p) []) (hq : wy.heap.size ≤ q) (hi : AgIs wz q (fun b => b = q) []) (hb : Below wy.heap.size wy wz) : Two w wz p q (fun b => b = p) (fun b => b = q) [] [] :=
  ⟨h.later hb, own_made h.below hq hi hb, fun x e1 e2 => by subst e1; have := h.is.lt x rfl; omega⟩
theorem new_one {w wx : World} (hb : Below w.heap.size w wx) :
    Calls Try.prog 9 #[] wx fun e wy => ∃ p, e = .returned (.pointer (some ⟨p, 0, none⟩)) ∧ Own w wy p (fun b => b = p) [] :=
  (anew_any wx).mono fun e wy ⟨p, he, hp, hi, hb2⟩ => ⟨p, he, own_made hb hp hi hb2⟩
theorem new_two {w wy : World} {p : Nat} (h : Own w wy p (fun b => b = p) []) :
    Calls Try.prog 9 #[] wy fun e wz => ∃ q, e = .returned (.pointer (some ⟨q, 0, none⟩)) ∧ Two w wz p q (fun b => b = p) (fun b => b = q) [] [] :=
  (anew_any wy).mono fun e wz ⟨q, he, hq, hi, hb2⟩ => ⟨q, he, two_made h hq hi hb2⟩
theorem put_turn {w wx : World} {p : Nat} {F : Nat → Prop} {S : List It} (h : Own w wx p F S) (at_ id : Int) (hx : InR (at_, id)) (hl : S.length + 1 ≤ 1000) :
    Calls Try.prog 16 #[.pointer (some ⟨p, 0, none⟩), .int .i64 at_, .int .i64 id] wx fun e wy => e = .returned (.tuple #[]) ∧ ∃ F', Own w wy p F' (insS (at_, id) (delS id S)) ∧ Turn wx wy F F' :=
  (aput_any h.is hx hl).mono fun e wy ⟨he, F', ht⟩ => ⟨he, F', h.to ht, ht.chg, ht.sub⟩
theorem itm_is {l : List Int} {k : Nat} {x : Int} (h : l.getD k 0 = x) : itm l k = (x, (k : Int)) := by unfold itm; rw [h]
theorem itm_put {l : List Int} {I : List Nat} {S : List It} {i : Nat} {x : Int} (h : S.Perm (itms l I)) (hi : i ∉ I) (hx : l.getD i 0 = x) : (insS (x, (i : Int)) (delS (i : Int) S)).Perm (itms l (I ++ [i])) := by
  have := put_itms h hi
  rw [itm_is hx] at this
  exact this
/-- A row that lies apart from an agenda stays when that goes on. -/
theorem Told.turn {w wx wy : World} {F F' : Nat → Prop} {v : Value} {xs : List Int} (h : Told w wx F v xs) (k : Turn wx wy F F') : Told w wy F' v xs :=
  ⟨h.row.same (fun b e => k.chg.block b (h.row.lt b e) (h.new b e).2), fun b e => ⟨(h.new b e).1, fun hf => by
    rcases k.sub b hf with hf | hf
    · exact (h.new b e).2 hf
    · have := h.row.lt b e; omega⟩⟩
theorem Told.apart {w wx : World} {q : Nat} {F G : Nat → Prop} {v : Value} {xs : List Int} (h : Told w wx F v xs) (hG : ∀ x, G x → x < w.heap.size) : Told w wx G v xs :=
  ⟨h.row, fun b e => ⟨(h.new b e).1, fun hg => by have := hG b hg; have := (h.new b e).1; omega⟩⟩
theorem Told.weak {w w0 wx : World} {F : Nat → Prop} {v : Value} {xs : List Int} (h : Told w wx F v xs) (hw : w0.heap.size ≤ w.heap.size) : Told w0 wx F v xs :=
  ⟨h.row, fun b e => ⟨by have := (h.new b e).1; omega, (h.new b e).2⟩⟩
end Go.Proofs.Ytmjgkhjjnfoolaa
