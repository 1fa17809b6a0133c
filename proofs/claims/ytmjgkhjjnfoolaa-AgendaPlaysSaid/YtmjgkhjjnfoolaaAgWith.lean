/-
  LAYER 5 (agenda): with.
-/
import Derived.Test.YtmjgkhjjnfoolaaAgTake
namespace Go.Proofs.Ytmjgkhjjnfoolaa
open Go.RowKit Go.Maps
set_option linter.unusedVariables false
set_option maxRecDepth 100000

abbrev box00 : Obj := .cells #[.int .i64 0, .int .i64 0] 60
/-- What ends at w2, and then stores both cells of a box that was laid ahead. -/
structure BoxEnd (w w2 : World) (a b : Value) : Prop where
  k0 : w2.cell? ⟨w.heap.size, 0, none⟩ = some (.int .i64 0)
  k1 : w2.cell? ⟨w.heap.size, 1, none⟩ = some (.int .i64 0)
  f0 : w2.frozen? ⟨w.heap.size, 0, none⟩ = false
  f1 : w2.frozen? ⟨w.heap.size, 1, none⟩ = false
  e0 : (w2.setCell ⟨w.heap.size, 0, none⟩ a).cell? ⟨w.heap.size, 0, none⟩ = some a
  e1 : ((w2.setCell ⟨w.heap.size, 0, none⟩ a).setCell ⟨w.heap.size, 1, none⟩ b).cell? ⟨w.heap.size, 0, none⟩ = some a
  e2 : ((w2.setCell ⟨w.heap.size, 0, none⟩ a).setCell ⟨w.heap.size, 1, none⟩ b).cell? ⟨w.heap.size, 1, none⟩ = some b
theorem boxEnd_of {w w2 : World} (h : own w2 w.heap.size #[.int .i64 0, .int .i64 0] 60) (a b : Value) : BoxEnd w w2 a b :=
  ⟨(h.cell 0).trans rfl, (h.cell 1).trans rfl, h.frozen 0, h.frozen 1, ((h.set 0 a).cell 0).trans rfl, (((h.set 0 a).set 1 b).cell 0).trans rfl, (((h.set 0 a).set 1 b).cell 1).trans rfl⟩
theorem alenQ {w : World} {p : Nat} {F : Nat → Prop} {L : List It} (h : QIs w p F L) :
    Calls Try.prog 19 #[.pointer (some ⟨p, 0, none⟩)] w fun e w' => e = .returned (.int .i64 (L.length : Int)) ∧ w = w' := by
  have HL := hid (lenQ h)
  clear h
  go_enter Try.func19, Try.ntmps19
  go_wp2_with (go_at_call 28; (with_reducible refine HL.out.mono ?_); rintro e w1 ⟨rfl, rfl⟩)
  go_ret
  exact ⟨rfl, rfl⟩
theorem with_out {w : World} {p : Nat} {F : Nat → Prop} {L : List It} (h : QIs w p F L) {k : Int} (hk : k < 0 ∨ (L.length : Int) ≤ k) (f : Value) :
    Calls Try.prog 23 #[.pointer (some ⟨p, 0, none⟩), .int .i64 k, f] w fun e w' => e = .returned (.tuple #[.agg #[.int .i64 0, .int .i64 0], .bool false]) ∧ Below w.heap.size w w' := by
  have hb0 : Below w.heap.size w (w.alloc box00) := (Below.refl _ _).alloc (Nat.le_refl _) _
  have HL := hid (alenQ (h.below hb0))
  clear h hb0
  by_cases hk0 : k < 0
  · go_enter Try.func23, Try.ntmps23
    go_wp2
    refine bodyPost_ret (v := .tuple #[.agg #[.int .i64 0, .int .i64 0], .bool false]) (by simp [results, Try.results23, go_sem]) rfl ⟨rfl, ?_⟩
    exact (Below.refl _ _).alloc (Nat.le_refl _) _
  · have hk1 : (L.length : Int) ≤ k := by omega
    go_enter Try.func23, Try.ntmps23
    go_wp2_with (go_at_call 19; (with_reducible refine HL.out.mono ?_); rintro e w1 ⟨rfl, rfl⟩)
    refine bodyPost_ret (v := .tuple #[.agg #[.int .i64 0, .int .i64 0], .bool false]) (by simp [results, Try.results23, go_sem]) rfl ⟨rfl, ?_⟩
    exact (Below.refl _ _).alloc (Nat.le_refl _) _
/-- A store into the box that was laid ahead. -/
theorem box_set {w w2 : World} (hb : Below w.heap.size w w2) (a b : Value) : Below w.heap.size w ((w2.setCell ⟨w.heap.size, 0, none⟩ a).setCell ⟨w.heap.size, 1, none⟩ b) :=
  (hb.setCell (p := ⟨w.heap.size, 0, none⟩) (Nat.le_refl _) a).setCell (p := ⟨w.heap.size, 1, none⟩) (Nat.le_refl _) b
theorem rem_box {w w2 : World} {p : Nat} {F : Nat → Prop} {L L' : List It} {x : It} (h : ∀ b, F b → b < w.heap.size) (hr : RemEnd (w.alloc box00) w2 p F L x L') :
    own w2 w.heap.size #[.int .i64 0, .int .i64 0] 60 ∧ ∀ a b : Value, RemEnd w ((w2.setCell ⟨w.heap.size, 0, none⟩ a).setCell ⟨w.heap.size, 1, none⟩ b) p F L x L' := by
  have hz : (w.alloc box00).heap.size = w.heap.size + 1 := by simp
  have hb0 : Below w.heap.size w (w.alloc box00) := (Below.refl _ _).alloc (Nat.le_refl _) _
  have o := own.new w #[.int .i64 0, .int .i64 0] 60
  have hsz := hr.q.chg.size
  have ho : own w2 w.heap.size #[.int .i64 0, .int .i64 0] 60 := o.chg hr.q.chg (fun e => by have := h _ e; omega)
  refine ⟨ho, fun a b => ⟨hr.hp, hr.perm, ?_⟩⟩
  have hq := QTo.of_below hb0 hr.q h
  have hs : ∀ b', b' ≠ w.heap.size → ((w2.setCell ⟨w.heap.size, 0, none⟩ a).setCell ⟨w.heap.size, 1, none⟩ b).heap[b']? = w2.heap[b']? := fun b' hb' => by
    rw [Below.heap_setCell _ _ _ _ hb', Below.heap_setCell _ _ _ _ hb']
  have hz2 : ((w2.setCell ⟨w.heap.size, 0, none⟩ a).setCell ⟨w.heap.size, 1, none⟩ b).heap.size = w2.heap.size := by rw [setCell_size, setCell_size]
  have hg : ∀ b', grow F (w.alloc box00) w2 b' → b' ≠ w.heap.size := fun b' hb' e => by
    rcases hb' with k | k
    · have := h _ k; omega
    · omega
  refine ⟨(hr.q.is.same (fun b' hb' => hs b' (hg b' hb')) (by omega)).mono (fun b' hb' => hb'.imp id (fun k => ⟨by omega, by rw [hz2]; exact k.2⟩)) (grow_lt h (by omega)), ?_⟩
  exact (hq.chg.trans (Chg.setCell w2 ⟨w.heap.size, 0, none⟩ a) (fun x e => .inr (by subst e; exact Nat.le_refl _))).trans (Chg.setCell _ ⟨w.heap.size, 1, none⟩ b) (fun x e => .inr (by subst e; exact Nat.le_refl _))
theorem lookQ {w : World} {p : Nat} {F : Nat → Prop} {L : List It} (h : QIs w p F L) {k : Nat} (hk : k < L.length) :
    Calls Try.prog 26 #[.pointer (some ⟨p, 0, none⟩), .int .i64 (k : Int)] w fun e w' => e = .returned (.agg #[.int .i64 (gt L k).1, .int .i64 (gt L k).2]) ∧ Below w.heap.size w w' := by
  obtain ⟨⟨v, mv, hr, _⟩, _⟩ := h
  exact look_any hr k hk
theorem with_look {w : World} {p : Nat} {F : Nat → Prop} {L : List It} (h : QIs w p F L) {k : Nat} (hk : k < L.length) :
    Calls Try.prog 23 #[.pointer (some ⟨p, 0, none⟩), .int .i64 (k : Int), .func (.func 26) #[] #[]] w fun e w' => e = .returned (.tuple #[.agg #[.int .i64 (gt L k).1, .int .i64 (gt L k).2], .bool true]) ∧ Below w.heap.size w w' := by
  have hb0 : Below w.heap.size w (w.alloc box00) := (Below.refl _ _).alloc (Nat.le_refl _) _
  have hl := h.len
  have HL := hid (alenQ (h.below hb0))
  have HK := hid (lookQ (h.below hb0) hk)
  have hz : (w.alloc box00).heap.size = w.heap.size + 1 := by simp
  have HE : Hid (∀ w2, Below (w.alloc box00).heap.size (w.alloc box00) w2 → own w2 w.heap.size #[.int .i64 0, .int .i64 0] 60 ∧ Below w.heap.size w w2) := hid (fun w2 hb => ⟨(own.new w #[.int .i64 0, .int .i64 0] 60).same (hb.block _ (by rw [hz]; omega)), hb0.trans (hb.mono (by rw [hz]; omega))⟩)
  have hkI : (k : Int) < (L.length : Int) := by omega
  clear h hb0 hz
  generalize gt L k = x at *
  go_enter Try.func23, Try.ntmps23
  go_wp2_with (first
    | (go_at_call 19; (with_reducible refine HL.out.mono ?_); rintro e w1 ⟨rfl, rfl⟩)
    | (go_at_call 26; (with_reducible refine HK.out.mono ?_); rintro e w2 ⟨rfl, hb2⟩; obtain ⟨o2, hb3⟩ := HE.out _ hb2; obtain ⟨k0, k1, f0, f1, e0, e1, e2⟩ := boxEnd_of o2 (.int .i64 x.1) (.int .i64 x.2); clear o2 hb2))
  refine bodyPost_ret (v := .tuple #[.agg #[.int .i64 x.1, .int .i64 x.2], .bool true]) (by simp [results, Try.results23, go_sem, e1, e2]) rfl ⟨rfl, ?_⟩
  exact box_set hb3 _ _
theorem with_take {w : World} {p : Nat} {F : Nat → Prop} {L : List It} (h : QIs w p F L) (hh : Hp L L.length) {k : Nat} (hk : k < L.length) :
    Calls Try.prog 23 #[.pointer (some ⟨p, 0, none⟩), .int .i64 (k : Int), .func (.func 25) #[] #[]] w fun e w' => e = .returned (.tuple #[.agg #[.int .i64 (gt L k).1, .int .i64 (gt L k).2], .bool true]) ∧ ∃ L', RemEnd w w' p F L (gt L k) L' := by
  have hb0 : Below w.heap.size w (w.alloc box00) := (Below.refl _ _).alloc (Nat.le_refl _) _
  have hl := h.len
  have HL := hid (alenQ (h.below hb0))
  have HK := hid (take_any (h.below hb0) hh hk)
  have HE := hid (fun w2 L' (hr : RemEnd (w.alloc box00) w2 p F L (gt L k) L') => rem_box h.lt hr)
  have hkI : (k : Int) < (L.length : Int) := by omega
  clear h hb0 hh
  generalize gt L k = x at *
  go_enter Try.func23, Try.ntmps23
  go_wp2_with (first
    | (go_at_call 19; (with_reducible refine HL.out.mono ?_); rintro e w1 ⟨rfl, rfl⟩)
    | (go_at_call 25; (with_reducible refine HK.out.mono ?_); rintro e w2 ⟨rfl, L', hb2⟩; obtain ⟨o2, hb3⟩ := HE.out _ _ hb2; obtain ⟨k0, k1, f0, f1, e0, e1, e2⟩ := boxEnd_of o2 (.int .i64 x.1) (.int .i64 x.2); have HR := hid hb3; clear o2 hb2 hb3))
  refine bodyPost_ret (v := .tuple #[.agg #[.int .i64 x.1, .int .i64 x.2], .bool true]) (by simp [results, Try.results23, go_sem, e1, e2]) rfl ⟨rfl, L', HR.out _ _⟩
end Go.Proofs.Ytmjgkhjjnfoolaa
