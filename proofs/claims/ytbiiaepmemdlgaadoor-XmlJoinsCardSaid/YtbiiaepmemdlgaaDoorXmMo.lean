/-
  LAYER 11 (xml), THE PROGRAM: opening: the reader beside the tag that is read.
-/
import Derived.Test.YtbiiaepmemdlgaaDoorXmMn
namespace Go.Proofs.YtbiiaepmemdlgaaDoor
open Go.RowKit
set_option linter.unusedVariables false
set_option maxRecDepth 100000

/-- Since w: the reader, and beside it the box of the tag that is read, with its attributes' row. -/
def OpGo (B : Nat) (F : Nat → Prop) (w w1 : World) (b : Nat) (s : RSt) (tb : Nat) (nm : List UInt8) (a : Option Addr) (m c : Nat) (l : List AtX) : Prop :=
  ∃ F1, RIs w1 F1 b s ∧ Gb B w1 ∧ B ≤ w.heap.size ∧ (∀ x, F1 x → B ≤ x) ∧ Chg F w w1 ∧ (∀ x, F1 x → F x ∨ w.heap.size ≤ x) ∧
    own w1 tb #[.int .i64 1, .string (mk nm), .slice a m c, .string ⟨#[]⟩] 36 ∧ ROwn atTy w1 (.slice a m c) l ∧ ¬ F1 tb ∧ w.heap.size ≤ tb ∧ ∀ g, (Value.slice a m c).ownBlock = some g → ¬ F1 g ∧ g ≠ tb ∧ w.heap.size ≤ g
section
variable {B : Nat} {F : Nat → Prop} {w w1 w2 : World} {b : Nat} {s s' : RSt} {tb : Nat} {nm : List UInt8} {a : Option Addr} {m c : Nat} {l : List AtX}
theorem opGo_start (k : RGo B F w w1 b s) (h : own w2 w1.heap.size #[.int .i64 1, .string (mk nm), .slice none 0 0, .string ⟨#[]⟩] 36) (hb : Below w1.heap.size w1 w2) : OpGo B F w w2 b s w1.heap.size nm none 0 0 [] := by
  obtain ⟨F1, i, G, hB, hF, c1, g1⟩ := k
  have hz := c1.size
  exact ⟨F1, rIs_same i hb.size (fun x hx => hb.block x (i.lt x hx)), G.below (hb.mono (Nat.le_trans hB hz)), hB, hF, c1.trans (Chg.of_below (S := F) hb) (fun x e => .inl e), g1, h, rOwn_nil _, fun e => by have := i.lt _ e; omega, hz, fun g hg => by simp [Value.ownBlock] at hg⟩
theorem opGo_gb (k : OpGo B F w w1 b s tb nm a m c l) : Gb B w1 := k.choose_spec.2.1
theorem opGo_later (k : OpGo B F w w1 b s tb nm a m c l) (hb : Below w1.heap.size w1 w2) : OpGo B F w w2 b s tb nm a m c l := by
  obtain ⟨F1, i, G, hB, hF, c1, g1, o, r, n1, n2, n3⟩ := k
  have hz := c1.size
  exact ⟨F1, rIs_same i hb.size (fun x hx => hb.block x (i.lt x hx)), G.below (hb.mono (Nat.le_trans hB hz)), hB, hF, c1.trans (Chg.of_below (S := F) hb) (fun x e => .inl e), g1, o.same (hb.block _ o.lt), r.below hb, n1, n2, n3⟩
theorem opGo_lift {P : Program} {f : FuncId} {args : Array Value} {Q : Ending → RSt → Prop} (ct : ∀ F1, RIs w1 F1 b s → Gb B w1 → B ≤ w1.heap.size → (∀ x, F1 x → B ≤ x) → Calls P f args w1 fun e w2 => ∃ s', Q e s' ∧ RTo F1 w1 w2 b s') (k : OpGo B F w w1 b s tb nm a m c l) :
    Calls P f args w1 fun e w2 => ∃ s', Q e s' ∧ OpGo B F w w2 b s' tb nm a m c l := by
  obtain ⟨F1, i, G, hB, hF, c1, g1, o, r, n1, n2, n3⟩ := k
  have hz := c1.size
  refine (ct F1 i G (Nat.le_trans hB hz) hF).mono fun e w2 ⟨s', q, F2, i2, c2, g2⟩ => ?_
  have lo := o.lt
  have nf : ∀ x, x < w1.heap.size → ¬ F1 x → ¬ F2 x := fun x hx hn hf => by
    rcases g2 x hf with e | e
    · exact hn e
    · omega
  refine ⟨s', q, F2, i2, G.below (c2.below (Nat.le_trans hB hz) hF), hB, fun x hx => ?_, c1.trans c2 g1, fun x hx => ?_, o.chg c2 n1, ownsRow_same r (fun g hg => c2.block g (ownsRow_lt r g hg) (n3 g hg).1), nf _ lo n1, n2, fun g hg => ⟨nf g (ownsRow_lt r g hg) (n3 g hg).1, (n3 g hg).2⟩⟩
  · rcases g2 x hx with e | e
    · exact hF x e
    · omega
  · rcases g2 x hx with e | e
    · exact g1 x e
    · right; omega
theorem opGo_lift1 {P : Program} {f : FuncId} {args : Array Value} {Q : Ending → Prop} (ct : ∀ F1, RIs w1 F1 b s → Gb B w1 → Calls P f args w1 fun e w2 => Q e ∧ RTo F1 w1 w2 b s') (k : OpGo B F w w1 b s tb nm a m c l) :
    Calls P f args w1 fun e w2 => Q e ∧ OpGo B F w w2 b s' tb nm a m c l :=
  (opGo_lift (Q := fun e s2 => Q e ∧ s2 = s') (fun F1 i G _ _ => (ct F1 i G).mono fun e w2 ⟨q, t⟩ => ⟨s', ⟨q, rfl⟩, t⟩) k).mono fun e w2 ⟨s2, ⟨q, e2⟩, t⟩ => ⟨q, by rw [← e2]; exact t⟩
theorem opGo_quiet {P : Program} {f : FuncId} {args : Array Value} {Q : Ending → Prop} (k : OpGo B F w w1 b s tb nm a m c l) (ct : RAt atTy w1 (.slice a m c) l → Calls P f args w1 fun e w2 => Q e ∧ Below w1.heap.size w1 w2) :
    Calls P f args w1 fun e w2 => Q e ∧ OpGo B F w w2 b s tb nm a m c l ∧ Below w1.heap.size w1 w2 := by
  have hr : RAt atTy w1 (.slice a m c) l := by
    obtain ⟨F1, i, G, hB, hF, c1, g1, o, r, n1, n2, n3⟩ := k
    exact r.rAt
  exact (ct hr).mono fun e w2 ⟨q, hb⟩ => ⟨q, opGo_later k hb, hb⟩
theorem oPast_yes (k : OpGo B F w w1 b s tb nm a m c l) (p : ByteArray) {r : List UInt8} (hp : past p.data.toList s.rest = some r) :
    Calls Tryd.prog 18 #[.pointer (some ⟨b, 0, none⟩), .string p] w1 fun e w2 => e = .returned (.bool true) ∧ OpGo B F w w2 b { s with rest := r } tb nm a m c l := opGo_lift1 (Q := fun e => e = .returned (.bool true)) (fun F1 i _ => rPast_yes i p hp) k
theorem oPast_no (k : OpGo B F w w1 b s tb nm a m c l) (p : ByteArray) (hp : past p.data.toList s.rest = none) :
    Calls Tryd.prog 18 #[.pointer (some ⟨b, 0, none⟩), .string p] w1 fun e w2 => e = .returned (.bool false) ∧ OpGo B F w w2 b s tb nm a m c l := opGo_lift1 (Q := fun e => e = .returned (.bool false)) (fun F1 i _ => rPast_no i p hp) k
theorem oSpace (k : OpGo B F w w1 b s tb nm a m c l) {o : Bool} (ho : decide ((s.rest.dropWhile spcX).length < s.rest.length) = o) :
    Calls Tryd.prog 36 #[.pointer (some ⟨b, 0, none⟩)] w1 fun q w2 => q = .returned (.bool o) ∧ OpGo B F w w2 b { s with rest := s.rest.dropWhile spcX } tb nm a m c l := opGo_lift1 (Q := fun q => q = .returned (.bool o)) (fun F1 i _ => by rw [← ho]; exact rSpace_any i) k
theorem oAttr (k : OpGo B F w w1 b s tb nm a m c l) (hl : s.rest.length ≤ 100000) :
    Calls Tryd.prog 38 #[.pointer (some ⟨b, 0, none⟩)] w1 fun e w2 => ∃ s', GAttr (attrX s.rest) s.rest s' s e ∧ OpGo B F w w2 b s' tb nm a m c l :=
  opGo_lift (Q := fun e s' => GAttr (attrX s.rest) s.rest s' s e) (fun F1 i G hB hF => rAttr_to i G hB hF hl) k
theorem oHas (k : OpGo B F w w1 b s tb nm a m c l) (hl : l.length ≤ 1000000) (n : List UInt8) :
    Calls Tryd.prog 39 #[.slice a m c, .string (mk n)] w1 fun e w2 => e = .returned (.bool (hasX l n)) ∧ OpGo B F w w2 b s tb nm a m c l ∧ Below w1.heap.size w1 w2 :=
  opGo_quiet (Q := fun e => e = .returned (.bool (hasX l n))) k (fun hr => has_any hr hl n)
theorem opGo_box (k : OpGo B F w w1 b s tb nm a m c l) : w1.cell? ⟨tb, 0, none⟩ = some (.int .i64 1) ∧ w1.cell? ⟨tb, 1, none⟩ = some (.string (mk nm)) ∧ w1.cell? ⟨tb, 2, none⟩ = some (.slice a m c) ∧ w1.cell? ⟨tb, 3, none⟩ = some (.string ⟨#[]⟩) ∧ w1.frozen? ⟨tb, 2, none⟩ = false := by
  obtain ⟨F1, i, G, hB, hF, c1, g1, o, r, n1, n2, n3⟩ := k
  exact ⟨(o.cell 0).trans rfl, (o.cell 1).trans rfl, (o.cell 2).trans rfl, (o.cell 3).trans rfl, o.frozen 2⟩
theorem opGo_fail (k : OpGo B F w w1 b s tb nm a m c l) : RGo B F w w1 b s := by
  obtain ⟨F1, i, G, hB, hF, c1, g1, o, r, n1, n2, n3⟩ := k
  exact ⟨F1, i, G, hB, hF, c1, g1⟩
theorem oTag (k : OpGo B F w w1 b s tb nm a m c l) (hl : s.toks.length ≤ 90000) :
    Calls Tryd.prog 37 #[.pointer (some ⟨b, 0, none⟩), .agg #[.int .i64 1, .string (mk nm), .slice a m c, .string ⟨#[]⟩]] w1 fun e w2 => e = .returned (.tuple #[]) ∧ RGo B F w w2 b ⟨s.rest, [], s.toks ++ endW s.words ++ [openT nm l]⟩ := by
  obtain ⟨F1, i, G, hB, hF, c1, g1, o, r, n1, n2, n3⟩ := k
  have hz := c1.size
  refine (rTag_to i hl (openT nm l) a m c r.rAt (fun g hg => ⟨(n3 g hg).1, ownsRow_lt r g hg⟩)).mono fun e w2 ⟨h1, F2, i2, c2, g2⟩ => ⟨h1, F2, i2, ?_, hB, fun x hx => ?_, ?_, fun x hx => ?_⟩
  · refine G.below (c2.below (Nat.le_trans hB hz) (fun x hx => ?_))
    rcases hx with hx | hx
    · exact hF x hx
    · have := (n3 x hx).2.2; omega
  · rcases g2 x hx with (e | e) | e
    · exact hF x e
    · have := (n3 x e).2.2; omega
    · omega
  · refine c1.trans c2 (fun x hx => ?_)
    rcases hx with hx | hx
    · exact g1 x hx
    · right; exact (n3 x hx).2.2
  · rcases g2 x hx with (e | e) | e
    · exact g1 x e
    · right; exact (n3 x e).2.2
    · right; omega
/-- One attribute more. -/
theorem opGo_push (k : OpGo B F w w1 b s tb nm a m c l) (hl : l.length ≤ 100000) (x : AtX) :
    ∃ a2 c2 w6, (Builtin.append_ #[34, 34] 34 #[.slice a m c, .slice (some ⟨w1.heap.size, 0, none⟩) 1 1]).run Tryd.prog (w1.alloc (.cells #[.string (mk x.n), .string (mk x.v)] 38)) = .ok (.slice a2 (l.length + 1) c2) w6 ∧
      w6.cell? ⟨tb, 2, none⟩ = some (.slice a m c) ∧ w6.frozen? ⟨tb, 2, none⟩ = false ∧ OpGo B F w (w6.setCell ⟨tb, 2, none⟩ (.slice a2 (l.length + 1) c2)) b s tb nm a2 (l.length + 1) c2 (l ++ [x]) := by
  have hB0 : Below w1.heap.size w1 (w1.alloc (.cells #[.string (mk x.n), .string (mk x.v)] 38)) := (Below.refl _ _).alloc (Nat.le_refl _) _
  have hz0 : (w1.alloc (.cells #[.string (mk x.n), .string (mk x.v)] 38)).heap.size = w1.heap.size + 1 := by simp
  obtain ⟨F1, i, G, hB, hF, c1, g1, o, r, n1, n2, n3⟩ := opGo_later k hB0
  obtain ⟨_, _, _, _, _, _, _, o', r', _⟩ := k
  have hz := c1.size
  obtain ⟨a2, c2, w6, e, hro, hg, hat⟩ := run_app atTy_ok (w1.alloc (.cells #[.string (mk x.n), .string (mk x.v)] 38)) 34 (.slice a m c) _ l [x] r (rAt_box atTy_ok (own.new w1 _ _) rfl) (by simp; omega)
  simp only [List.length_singleton] at e hro hat
  have hcg : Chg (fun y => (Value.slice a m c).ownBlock = some y) _ w6 := Chg.of_grown hg
  have o6 := o.chg hcg (fun e => (n3 _ e).2.1 rfl)
  have z6 := hcg.size
  have lt1 := o'.lt
  have hnew : ∀ g, (Value.slice a2 (l.length + 1) c2).ownBlock = some g → (Value.slice a m c).ownBlock = some g ∨ g = w1.heap.size + 1 := fun g hg2 => by
    rcases hat with q | q
    · left; rw [← q]; exact hg2
    · right; rw [q, hz0] at hg2; cases hg2; rfl
  have hne : ∀ g, (Value.slice a2 (l.length + 1) c2).ownBlock = some g → ¬ F1 g ∧ g ≠ tb ∧ w.heap.size ≤ g := fun g hg2 => by
    rcases hnew g hg2 with q | q
    · exact n3 g q
    · exact ⟨fun e2 => by have := i.lt g e2; omega, by omega, by omega⟩
  have hS : ∀ y, F1 y → ¬ (y = tb) ∧ ¬ ((Value.slice a m c).ownBlock = some y) := fun y hy => ⟨fun e2 => n1 (by rw [← e2]; exact hy), fun e2 => (n3 y e2).1 hy⟩
  have hsz := setCell_size w6 ⟨tb, 2, none⟩ (.slice a2 (l.length + 1) c2)
  have hbk : ∀ y, y ≠ tb → (w6.setCell ⟨tb, 2, none⟩ (.slice a2 (l.length + 1) c2)).heap[y]? = w6.heap[y]? := fun y hy => Below.heap_setCell _ _ _ _ hy
  refine ⟨a2, c2, w6, e, (o6.cell 2).trans rfl, o6.frozen 2, F1, rIs_same i (by rw [hsz]; exact z6) (fun y hy => (hbk y (hS y hy).1).trans (hcg.block y (i.lt y hy) (hS y hy).2)), ?_, hB, hF, ?_, g1, ?_, ownsRow_same hro (fun g hg2 => hbk g (hne g hg2).2.1), n1, n2, hne⟩
  · have b1 : Below B (w1.alloc (.cells #[.string (mk x.n), .string (mk x.v)] 38)) w6 := hcg.below (Nat.le_trans hB hz) (fun y hy => by have := (n3 y hy).2.2; omega)
    exact (G.below b1).below ((Below.refl _ _).setCell (p := ⟨tb, 2, none⟩) (show B ≤ tb by omega) _)
  · refine (c1.trans hcg (fun y hy => .inr (n3 y hy).2.2)).trans (Chg.setCell w6 ⟨tb, 2, none⟩ _) (fun y hy => .inr (by rw [hy]; exact n2))
  · have := o6.set 2 (.slice a2 (l.length + 1) c2); simpa using this
end
end Go.Proofs.YtbiiaepmemdlgaaDoor
