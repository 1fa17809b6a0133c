/-
  LAYER 6 (net): the law's does: each act done by the program's net. Written by wip/tools/gen6_does.py.
-/
import Derived.Test.YtclkhkoappjgdaaNpFlight
import Derived.Test.YtclkhkoappjgdaaNtModelA
namespace Go.Proofs.Ytclkhkoappjgdaa
open Go.RowKit Go.Maps
set_option linter.unusedVariables false
set_option maxRecDepth 100000

section
variable {w0 w : World} {X : Nat → Prop} {r : Nat} {s : Nt}
/-- X, and the two boxes of the call. -/
def with2 (X : Nat → Prop) (n : Nat) : Nat → Prop := fun b => X b ∨ b = n ∨ b = n + 1
theorem does_start (h : PHas w0 w X r s) (o : Obj) : PHas w0 ((w.alloc o).alloc pl0) (with2 X w.heap.size) r s := by
  have hb : Below w.heap.size w ((w.alloc o).alloc pl0) := ((Below.refl _ _).alloc (Nat.le_refl _) _).alloc (by simp) _
  have hz : ((w.alloc o).alloc pl0).heap.size = w.heap.size + 2 := by simp
  refine h.turn (Chg.of_below hb) (h.below.trans (hb.mono h.below.size)) (fun b y => ?_)
  rcases y with y | y | y
  · exact ⟨.inl y, by have := h.lt b y; omega⟩
  · exact ⟨.inr (by omega), by omega⟩
  · exact ⟨.inr (by omega), by omega⟩
/-- A cell stored in a block that the net has no part in. -/
theorem PHas.put {b : Nat} (h : PHas w0 w X r s) (hX : X b) (hb : w0.heap.size ≤ b) (k : Nat) (v : Value) : PHas w0 (w.setCell ⟨b, k, none⟩ v) X r s :=
  h.turn ((Chg.setCell w ⟨b, k, none⟩ v).mono (fun x e => by rw [e]; exact hX)) (h.below.setCell hb _) (fun x y => ⟨.inl y, by rw [setCell_size]; exact h.lt x y⟩)
theorem does_end {o : Obj} {w3 : World} {s1 : Nt} (h : PHas w0 w X r s) (hg : PGo w0 ((w.alloc o).alloc pl0) w3 (with2 X w.heap.size) r s1) (x : Lt) :
    Box3 w3 (w.heap.size + 1) (.int .i64 0) (.int .i64 0) (.string ⟨#[]⟩) (.int .i64 x.fr) (.int .i64 x.to_) (.string x.dt) ∧ Hid (PGo w0 w (((w3.setCell ⟨w.heap.size + 1, 0, none⟩ (.int .i64 x.fr)).setCell ⟨w.heap.size + 1, 1, none⟩ (.int .i64 x.to_)).setCell ⟨w.heap.size + 1, 2, none⟩ (.string x.dt)) X r s1) := by
  have hz1 : (w.alloc o).heap.size = w.heap.size + 1 := by simp
  have h0 := h.below.size
  have hX : with2 X w.heap.size (w.heap.size + 1) := .inr (.inr rfl)
  have o1 : own ((w.alloc o).alloc pl0) (w.heap.size + 1) #[.int .i64 0, .int .i64 0, .string ⟨#[]⟩] 37 := by rw [← hz1]; exact own.new _ _ _
  have hb : Below w.heap.size w ((w.alloc o).alloc pl0) := ((Below.refl _ _).alloc (Nat.le_refl _) _).alloc (by omega) _
  refine ⟨box3_of (o1.same (hg.same _ hX)) _ _ _, hid ⟨(((hg.has.put hX (by omega) 0 _).put hX (by omega) 1 _).put hX (by omega) 2 _).mono (fun b y => .inl y), fun b y => ?_, by rw [setCell_size, setCell_size, setCell_size]; exact Nat.le_trans hb.size hg.size⟩⟩
  have hne : b ≠ w.heap.size + 1 := by have := h.lt b y; omega
  rw [Below.heap_setCell _ _ _ _ hne, Below.heap_setCell _ _ _ _ hne, Below.heap_setCell _ _ _ _ hne, hg.same b (.inl y)]
  exact hb.block b (h.lt b y)
def DoesPost (w0 w : World) (X : Nat → Prop) (r : Nat) (q : Nt × Lt × Bool) (e : Ending) (w' : World) : Prop :=
  e = .returned (.tuple #[.agg #[.int .i64 q.2.1.fr, .int .i64 q.2.1.to_, .string q.2.1.dt], .bool q.2.2]) ∧ PGo w0 w w' X r q.1
set_option maxHeartbeats 8000000 in
theorem does_any (h : PHas w0 w X r s) (hlo : s.lost < 100000) (a : Na) {G : List Int} (hop : I64' a.op) (hfr : I64' a.fr) (hto : I64' a.to_) (hg : RAt numTy w a.gv G) (hx : ∀ n ∈ G, I64' n) (hG : G.length ≤ 1000) :
    Calls Try.prog 14 #[.pointer (some ⟨r, 0, none⟩), .agg #[.int .i64 a.op, .int .i64 a.k, .int .i64 a.fr, .int .i64 a.to_, .string a.dt, a.gv]] w (DoesPost w0 w X r (actN s a G)) := by
  have h0 := does_start h (.cells #[.int .i64 a.op, .int .i64 a.k, .int .i64 a.fr, .int .i64 a.to_, .string a.dt, a.gv] 41)
  have hb : Below w.heap.size w ((w.alloc (.cells #[.int .i64 a.op, .int .i64 a.k, .int .i64 a.fr, .int .i64 a.to_, .string a.dt, a.gv] 41)).alloc pl0) := ((Below.refl _ _).alloc (Nat.le_refl _) _).alloc (by simp) _
  have hg0 := hg.below hb
  have HPk := hid (fun wx => pick_any a.op 10 wx (by omega) (by omega) hop.1 hop.2)
  have hr := pickZ_range a.op 10 (by omega)
  have H := hid h
  have H0 := hid h0
  have HG0 := hid hg0
  have HX := hid hx
  have HFT := hid (And.intro hfr hto)
  obtain ⟨o, ho⟩ : ∃ o, pickZ a.op 10 = o := ⟨_, rfl⟩
  rw [ho] at HPk hr
  have hact : actN s a G = (if o = 3 ∨ o = 4 then takeN s a.k else if o = 5 then ((twiceN s a.k).1, zl, (twiceN s a.k).2) else if o = 6 then ((loseN s a.k).1, zl, (loseN s a.k).2) else if o = 7 then ((lateN s a.k).1, zl, (lateN s a.k).2) else if o = 8 then ({ s with G := G }, zl, true) else if o = 9 then ({ s with G := [] }, zl, true) else (s.send ⟨a.fr, a.to_, a.dt⟩, zl, true)) := by unfold actN; rw [ho]
  rw [hact]
  clear ho hact hop h h0 hb hg hg0 hx hfr hto
  by_cases h34 : o = 3 ∨ o = 4
  · rw [if_pos h34]
    have hC := qTake H0.out a.k
    generalize takeN s a.k = q at *
    obtain ⟨s1, x1, b1⟩ := q
    simp only at hC
    have HC := hid hC
    have HE := hid (fun w3 (ht : PGo w0 ((w.alloc (.cells #[.int .i64 a.op, .int .i64 a.k, .int .i64 a.fr, .int .i64 a.to_, .string a.dt, a.gv] 41)).alloc pl0) w3 (with2 X w.heap.size) r s1) => does_end H.out ht x1)
    clear hC
    rcases h34 with rfl | rfl
    all_goals
      unfold Na.gv pl0 at *
      go_enter Try.func14, Try.ntmps14
      go_wp2_with (first
        | (go_at_call 11; (with_reducible refine (HPk.out _).mono ?_); rintro e w2 ⟨rfl, rfl⟩)
        | (go_at_call 22; (with_reducible refine HC.out.mono ?_); rintro e w3 ⟨rfl, ht⟩; obtain ⟨⟨k0, k1, k2, f0, f1, f2, e0, e1, e2⟩, HT⟩ := HE.out _ ht; clear ht))
      exact bodyPost_ret (v := .tuple #[.agg #[.int .i64 x1.fr, .int .i64 x1.to_, .string x1.dt], .bool b1]) (by simp [results, Try.results14, go_sem, e0, e1, e2]) rfl ⟨rfl, HT.out⟩
  rw [if_neg h34]
  by_cases h5 : o = 5
  · rw [if_pos h5]
    have hC := qTwice H0.out hlo a.k
    generalize twiceN s a.k = q at *
    obtain ⟨s1, b1⟩ := q
    simp only at hC
    have HC := hid hC
    have HE := hid (fun w3 (ht : PGo w0 ((w.alloc (.cells #[.int .i64 a.op, .int .i64 a.k, .int .i64 a.fr, .int .i64 a.to_, .string a.dt, a.gv] 41)).alloc pl0) w3 (with2 X w.heap.size) r s1) => does_end H.out ht zl)
    clear hC
    subst h5
    simp only [zl] at HE
    unfold Na.gv pl0 at *
    go_enter Try.func14, Try.ntmps14
    go_wp2_with (first
      | (go_at_call 11; (with_reducible refine (HPk.out _).mono ?_); rintro e w2 ⟨rfl, rfl⟩)
      | (go_at_call 25; (with_reducible refine HC.out.mono ?_); rintro e w3 ⟨rfl, ht⟩; obtain ⟨⟨k0, k1, k2, f0, f1, f2, e0, e1, e2⟩, HT⟩ := HE.out _ ht; clear ht))
    exact bodyPost_ret (v := .tuple #[.agg #[.int .i64 0, .int .i64 0, .string ⟨#[]⟩], .bool b1]) (by simp [results, Try.results14, go_sem, e0, e1, e2]) rfl ⟨rfl, HT.out⟩
  rw [if_neg h5]
  by_cases h6 : o = 6
  · rw [if_pos h6]
    have hC := qLose H0.out hlo a.k
    generalize loseN s a.k = q at *
    obtain ⟨s1, b1⟩ := q
    simp only at hC
    have HC := hid hC
    have HE := hid (fun w3 (ht : PGo w0 ((w.alloc (.cells #[.int .i64 a.op, .int .i64 a.k, .int .i64 a.fr, .int .i64 a.to_, .string a.dt, a.gv] 41)).alloc pl0) w3 (with2 X w.heap.size) r s1) => does_end H.out ht zl)
    clear hC
    subst h6
    simp only [zl] at HE
    unfold Na.gv pl0 at *
    go_enter Try.func14, Try.ntmps14
    go_wp2_with (first
      | (go_at_call 11; (with_reducible refine (HPk.out _).mono ?_); rintro e w2 ⟨rfl, rfl⟩)
      | (go_at_call 26; (with_reducible refine HC.out.mono ?_); rintro e w3 ⟨rfl, ht⟩; obtain ⟨⟨k0, k1, k2, f0, f1, f2, e0, e1, e2⟩, HT⟩ := HE.out _ ht; clear ht))
    exact bodyPost_ret (v := .tuple #[.agg #[.int .i64 0, .int .i64 0, .string ⟨#[]⟩], .bool b1]) (by simp [results, Try.results14, go_sem, e0, e1, e2]) rfl ⟨rfl, HT.out⟩
  rw [if_neg h6]
  by_cases h7 : o = 7
  · rw [if_pos h7]
    have hC := qLate H0.out hlo a.k
    generalize lateN s a.k = q at *
    obtain ⟨s1, b1⟩ := q
    simp only at hC
    have HC := hid hC
    have HE := hid (fun w3 (ht : PGo w0 ((w.alloc (.cells #[.int .i64 a.op, .int .i64 a.k, .int .i64 a.fr, .int .i64 a.to_, .string a.dt, a.gv] 41)).alloc pl0) w3 (with2 X w.heap.size) r s1) => does_end H.out ht zl)
    clear hC
    subst h7
    simp only [zl] at HE
    unfold Na.gv pl0 at *
    go_enter Try.func14, Try.ntmps14
    go_wp2_with (first
      | (go_at_call 11; (with_reducible refine (HPk.out _).mono ?_); rintro e w2 ⟨rfl, rfl⟩)
      | (go_at_call 24; (with_reducible refine HC.out.mono ?_); rintro e w3 ⟨rfl, ht⟩; obtain ⟨⟨k0, k1, k2, f0, f1, f2, e0, e1, e2⟩, HT⟩ := HE.out _ ht; clear ht))
    exact bodyPost_ret (v := .tuple #[.agg #[.int .i64 0, .int .i64 0, .string ⟨#[]⟩], .bool b1]) (by simp [results, Try.results14, go_sem, e0, e1, e2]) rfl ⟨rfl, HT.out⟩
  rw [if_neg h7]
  by_cases h8 : o = 8
  · rw [if_pos h8]
    have HC := hid (qSplit H0.out HG0.out HX.out hG)
    have HE := hid (fun w3 (ht : PGo w0 ((w.alloc (.cells #[.int .i64 a.op, .int .i64 a.k, .int .i64 a.fr, .int .i64 a.to_, .string a.dt, a.gv] 41)).alloc pl0) w3 (with2 X w.heap.size) r { s with G := G }) => does_end H.out ht zl)
    subst h8
    simp only [zl] at HE
    unfold Na.gv pl0 at *
    go_enter Try.func14, Try.ntmps14
    go_wp2_with (first
      | (go_at_call 11; (with_reducible refine (HPk.out _).mono ?_); rintro e w2 ⟨rfl, rfl⟩)
      | (go_at_call 21; (with_reducible refine HC.out.mono ?_); rintro e w3 ⟨rfl, ht⟩; obtain ⟨⟨k0, k1, k2, f0, f1, f2, e0, e1, e2⟩, HT⟩ := HE.out _ ht; clear ht))
    exact bodyPost_ret (v := .tuple #[.agg #[.int .i64 0, .int .i64 0, .string ⟨#[]⟩], .bool true]) (by simp [results, Try.results14, go_sem, e0, e1, e2]) rfl ⟨rfl, HT.out⟩
  rw [if_neg h8]
  by_cases h9 : o = 9
  · rw [if_pos h9]
    have HC := hid (qWhole H0.out)
    have HE := hid (fun w3 (ht : PGo w0 ((w.alloc (.cells #[.int .i64 a.op, .int .i64 a.k, .int .i64 a.fr, .int .i64 a.to_, .string a.dt, a.gv] 41)).alloc pl0) w3 (with2 X w.heap.size) r { s with G := [] }) => does_end H.out ht zl)
    subst h9
    simp only [zl] at HE
    unfold Na.gv pl0 at *
    go_enter Try.func14, Try.ntmps14
    go_wp2_with (first
      | (go_at_call 11; (with_reducible refine (HPk.out _).mono ?_); rintro e w2 ⟨rfl, rfl⟩)
      | (go_at_call 23; (with_reducible refine HC.out.mono ?_); rintro e w3 ⟨rfl, ht⟩; obtain ⟨⟨k0, k1, k2, f0, f1, f2, e0, e1, e2⟩, HT⟩ := HE.out _ ht; clear ht))
    exact bodyPost_ret (v := .tuple #[.agg #[.int .i64 0, .int .i64 0, .string ⟨#[]⟩], .bool true]) (by simp [results, Try.results14, go_sem, e0, e1, e2]) rfl ⟨rfl, HT.out⟩
  rw [if_neg h9]
  have q3 : (o == 3) = false := beq_eq_false_iff_ne.2 (by omega)
  have q4 : (o == 4) = false := beq_eq_false_iff_ne.2 (by omega)
  have q5 : (o == 5) = false := beq_eq_false_iff_ne.2 h5
  have q6 : (o == 6) = false := beq_eq_false_iff_ne.2 h6
  have q7 : (o == 7) = false := beq_eq_false_iff_ne.2 h7
  have q8 : (o == 8) = false := beq_eq_false_iff_ne.2 h8
  have q9 : (o == 9) = false := beq_eq_false_iff_ne.2 h9
  have HC := hid (qSend H0.out hlo (d := a.dt) HFT.out.1 HFT.out.2)
  have HE := hid (fun w3 (ht : PGo w0 ((w.alloc (.cells #[.int .i64 a.op, .int .i64 a.k, .int .i64 a.fr, .int .i64 a.to_, .string a.dt, a.gv] 41)).alloc pl0) w3 (with2 X w.heap.size) r (s.send ⟨a.fr, a.to_, a.dt⟩)) => does_end H.out ht zl)
  simp only [zl] at HE
  clear h34 h5 h6 h7 h8 h9
  unfold Na.gv pl0 at *
  go_enter Try.func14, Try.ntmps14
  go_wp2_with (first
    | (go_at_call 11; (with_reducible refine (HPk.out _).mono ?_); rintro e w2 ⟨rfl, rfl⟩)
    | (go_at_call 12; (with_reducible refine HC.out.mono ?_); rintro e w3 ⟨rfl, ht⟩; obtain ⟨⟨k0, k1, k2, f0, f1, f2, e0, e1, e2⟩, HT⟩ := HE.out _ ht; clear ht))
  exact bodyPost_ret (v := .tuple #[.agg #[.int .i64 0, .int .i64 0, .string ⟨#[]⟩], .bool true]) (by simp [results, Try.results14, go_sem, e0, e1, e2]) rfl ⟨rfl, HT.out⟩
end
end Go.Proofs.Ytclkhkoappjgdaa
