/-
  LAYER 11 (xml): calls of a reader gathered since a world w: RGo; the contracts so far, in these words.
-/
import Derived.Test.YtbiiaepmemdlgaaDoorXmMg
namespace Go.Proofs.YtbiiaepmemdlgaaDoor
open Go.RowKit
set_option linter.unusedVariables false
set_option maxRecDepth 100000

/-- Since w, where it lay in F, only its own blocks have turned, and new ones; it knows s now. -/
def RGo (B : Nat) (F : Nat → Prop) (w w' : World) (b : Nat) (s : RSt) : Prop :=
  ∃ F', RIs w' F' b s ∧ Gb B w' ∧ B ≤ w.heap.size ∧ (∀ x, F' x → B ≤ x) ∧ Chg F w w' ∧ ∀ x, F' x → F x ∨ w.heap.size ≤ x
section
variable {B : Nat} {F : Nat → Prop} {w w1 w2 : World} {b : Nat} {s s' : RSt}
theorem rGo_start (h : RIs w F b s) (hG : Gb B w) (hB : B ≤ w.heap.size) (hF : ∀ x, F x → B ≤ x) : RGo B F w w b s := ⟨F, h, hG, hB, hF, Chg.refl _ _, fun x hx => .inl hx⟩
theorem rGo_gb (k : RGo B F w w1 b s) : Gb B w1 := k.choose_spec.2.1
theorem rGo_sz (k : RGo B F w w1 b s) : B ≤ w1.heap.size := by
  obtain ⟨F1, i, G, hB, hF, c1, g1⟩ := k
  exact Nat.le_trans hB c1.size
theorem rGo_later (k : RGo B F w w1 b s) (hb : Below w1.heap.size w1 w2) : RGo B F w w2 b s := by
  obtain ⟨F1, i, G, hB, hF, c1, g1⟩ := k
  exact ⟨F1, rIs_same i hb.size (fun x hx => hb.block x (i.lt x hx)), G.below (hb.mono (Nat.le_trans hB c1.size)), hB, hF, c1.trans (Chg.of_below (S := F) hb) (fun x e => .inl e), g1⟩
theorem rGo_lift {P : Program} {f : FuncId} {args : Array Value} {Q : Ending → Prop} (c : ∀ F1, RIs w1 F1 b s → Gb B w1 → Calls P f args w1 fun e w2 => Q e ∧ RTo F1 w1 w2 b s') (k : RGo B F w w1 b s) :
    Calls P f args w1 fun e w2 => Q e ∧ RGo B F w w2 b s' := by
  obtain ⟨F1, i, G, hB, hF, c1, g1⟩ := k
  refine (c F1 i G).mono fun e w2 ⟨q, F2, i2, c2, g2⟩ => ?_
  have hz := c1.size
  refine ⟨q, F2, i2, G.below (c2.below (Nat.le_trans hB hz) hF), hB, fun x hx => ?_, c1.trans c2 g1, fun x hx => ?_⟩
  · rcases g2 x hx with e | e
    · exact hF x e
    · omega
  · rcases g2 x hx with e | e
    · exact g1 x e
    · right; omega
/-- A call that leaves what was there. -/
theorem rGo_quiet {P : Program} {f : FuncId} {args : Array Value} {Q : Ending → Prop} (k : RGo B F w w1 b s) (c : Gb B w1 → B ≤ w1.heap.size → Calls P f args w1 fun e w2 => Q e ∧ Below w1.heap.size w1 w2) :
    Calls P f args w1 fun e w2 => Q e ∧ RGo B F w w2 b s :=
  (c (rGo_gb k) (rGo_sz k)).mono fun e w2 ⟨q, hb⟩ => ⟨q, rGo_later k hb⟩

theorem gPast_yes (k : RGo B F w w1 b s) (p : ByteArray) {r : List UInt8} (hp : past p.data.toList s.rest = some r) :
    Calls Tryd.prog 18 #[.pointer (some ⟨b, 0, none⟩), .string p] w1 fun e w2 => e = .returned (.bool true) ∧ RGo B F w w2 b { s with rest := r } := rGo_lift (fun F1 i _ => rPast_yes i p hp) k
theorem gPast_no (k : RGo B F w w1 b s) (p : ByteArray) (hp : past p.data.toList s.rest = none) :
    Calls Tryd.prog 18 #[.pointer (some ⟨b, 0, none⟩), .string p] w1 fun e w2 => e = .returned (.bool false) ∧ RGo B F w w2 b s := rGo_lift (fun F1 i _ => rPast_no i p hp) k
theorem gUpTo_yes (k : RGo B F w w1 b s) (hl : s.rest.length ≤ 100000) (e : ByteArray) (he : e.data.toList ≠ []) {x y : List UInt8} (hu : upTo e.data.toList s.rest = some (x, y)) :
    Calls Tryd.prog 19 #[.pointer (some ⟨b, 0, none⟩), .string e] w1 fun q w2 => q = .returned (.tuple #[.string (mk x), .bool true]) ∧ RGo B F w w2 b { s with rest := y } := rGo_lift (fun F1 i G => rUpTo_yes i G hl e he hu) k
theorem gUpTo_no (k : RGo B F w w1 b s) (hl : s.rest.length ≤ 100000) (e : ByteArray) (he : e.data.toList ≠ []) (hu : upTo e.data.toList s.rest = none) :
    Calls Tryd.prog 19 #[.pointer (some ⟨b, 0, none⟩), .string e] w1 fun q w2 => q = .returned (.tuple #[.string (mk s.rest), .bool false]) ∧ RGo B F w w2 b { s with rest := [] } := rGo_lift (fun F1 i G => rUpTo_no i G hl e he hu) k
theorem gSpace (k : RGo B F w w1 b s) :
    Calls Tryd.prog 36 #[.pointer (some ⟨b, 0, none⟩)] w1 fun q w2 => q = .returned (.bool (decide ((s.rest.dropWhile spcX).length < s.rest.length))) ∧ RGo B F w w2 b { s with rest := s.rest.dropWhile spcX } := rGo_lift (fun F1 i _ => rSpace_any i) k
theorem gName (k : RGo B F w w1 b s) (hl : s.rest.length ≤ 100000) :
    Calls Tryd.prog 35 #[.pointer (some ⟨b, 0, none⟩)] w1 fun q w2 => q = .returned (.tuple #[.string (mk (nameX s.rest).1), .bool (decide ((nameX s.rest).1 ≠ []))]) ∧ RGo B F w w2 b { s with rest := (nameX s.rest).2 } := rGo_lift (fun F1 i _ => rName_any i hl) k
/-- Words written. -/
theorem rTo_write {p v tv : Value} {V : List TkV} (h1 : RdAt w b (mk s.rest) p v tv s.words) (h2 : ROwn tkTy w tv V) (h3 : TksIs w V s.toks) (h4 : tv.ownBlock ≠ some b) (h5 : ∀ g, tv.ownBlock = some g → v.ownBlock ≠ some g)
    (h6 : ∀ x ∈ V, ∀ g, (Value.slice x.a x.m x.c).ownBlock = some g → F g ∧ g ≠ b ∧ v.ownBlock ≠ some g ∧ tv.ownBlock ≠ some g) (fb : F b) (fv : ∀ g, v.ownBlock = some g → F g) (ft : ∀ g, tv.ownBlock = some g → F g) (hlt : ∀ x, F x → x < w.heap.size)
    {l : List UInt8} (hp : RdPost w b (mk s.rest) v tv l w1) : RTo F w w1 b { s with words := l } := by
  obtain ⟨p', v', k1, k2, k3⟩ := hp
  have hz := k2.size
  refine ⟨fun x => F x ∨ v'.ownBlock = some x, ⟨⟨p', v', tv, V, k1, ownsRow_same h2 (fun g hg => k2.block g (hlt g (ft g hg)) (fun e => ?_)), h3.same (fun x hx g hg hgl => k2.block g hgl (fun e => ?_)) hz, h4, fun g hg e => ?_, fun x hx g hg => ?_, .inl fb, fun g hg => .inr hg, fun g hg => .inl (ft g hg)⟩, fun x hx => ?_⟩, k2.mono (fun x e => ?_), fun x hx => ?_⟩
  · rcases e with e | e
    · exact h4 (by rw [hg, e])
    · exact h5 g hg e
  · rcases e with e | e
    · exact (h6 x hx g hg).2.1 e
    · exact (h6 x hx g hg).2.2.1 e
  · rcases k3 g e with e' | e'
    · exact h5 g hg e'
    · have := hlt g (ft g hg); omega
  · obtain ⟨q1, q2, q3, q4⟩ := h6 x hx g hg
    refine ⟨.inl q1, q2, fun e => ?_, q4⟩
    rcases k3 g e with e' | e'
    · exact q3 e'
    · have := hlt g q1; omega
  · rcases hx with hx | hx
    · have := hlt x hx; omega
    · exact ownsRow_lt k1.row x hx
  · rcases e with e | e
    · rw [e]; exact fb
    · exact fv x e
  · rcases hx with hx | hx
    · exact .inl hx
    · rcases k3 x hx with e | e
      · exact .inl (fv x e)
      · exact .inr e
theorem rWrite_to (h : RIs w F b s) (t : ByteArray) (hl : s.words.length + t.size ≤ 1000000) :
    Calls Tryd.prog 28 #[.pointer (some ⟨b, 1, none⟩), .string t] w fun e w' => e = .returned (.tuple #[.int .i64 t.size, .nilIface]) ∧ RTo F w w' b { s with words := s.words ++ t.data.toList } := by
  obtain ⟨⟨p, v, tv, V, h1, h2, h3, h4, h5, h6, fb, fv, ft⟩, hlt⟩ := h
  exact (rdWrite_any h1 t (by omega)).mono fun e w' ⟨he, hp⟩ => ⟨he, rTo_write h1 h2 h3 h4 h5 h6 fb fv ft hlt hp⟩
theorem gWrite (k : RGo B F w w1 b s) (t : ByteArray) (hl : s.words.length + t.size ≤ 1000000) :
    Calls Tryd.prog 28 #[.pointer (some ⟨b, 1, none⟩), .string t] w1 fun e w2 => e = .returned (.tuple #[.int .i64 t.size, .nilIface]) ∧ RGo B F w w2 b { s with words := s.words ++ t.data.toList } := rGo_lift (fun F1 i _ => rWrite_to i t hl) k
/-- The rest as it is read, and stored. -/
theorem rGo_rest (k : RGo B F w w1 b s) : w1.cell? ⟨b, 0, none⟩ = some (.string (mk s.rest)) ∧ w1.frozen? ⟨b, 0, none⟩ = false := by
  obtain ⟨F1, i, _⟩ := k
  exact ⟨(rIs_rest i).1, (rIs_rest i).2.1⟩
theorem rGo_store (k : RGo B F w w1 b s) (l : List UInt8) : RGo B F w (w1.setCell ⟨b, 0, none⟩ (.string (mk l))) b { s with rest := l } := by
  obtain ⟨F1, i, G, hB, hF, c1, g1⟩ := k
  obtain ⟨F2, i2, c2, g2⟩ := rIs_store i (Below.refl _ _) l
  have hz := c1.size
  refine ⟨F2, i2, G.below (c2.below (Nat.le_trans hB hz) hF), hB, fun x hx => ?_, c1.trans c2 g1, fun x hx => ?_⟩
  · rcases g2 x hx with e | e
    · exact hF x e
    · omega
  · rcases g2 x hx with e | e
    · exact g1 x e
    · right; omega
theorem rGo_drew (k : RGo B F w w1 b s) (n : Nat) : RGo B F w (w1.drewN n) b s := rGo_later k (below_drew (Below.refl _ _) n)
end
end Go.Proofs.YtbiiaepmemdlgaaDoor
