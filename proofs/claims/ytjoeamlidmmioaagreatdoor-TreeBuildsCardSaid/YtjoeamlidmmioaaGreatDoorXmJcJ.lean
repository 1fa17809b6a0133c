import Derived.Test.YtjoeamlidmmioaaGreatDoorXmJbJ
/-
  LAYER 11 (xml): calls of a reader gathered since a world w: RGo; the contracts so far, in these words.
-/
namespace Go.Proofs.YtjoeamlidmmioaaGreatDoor
open Go.RowKit
set_option linter.unusedVariables false
set_option maxRecDepth 100000

/-- Since w, where it lay in F, only its own blocks have turned, and new ones; it knows s now. -/
def RGo (B : Nat) (F : Nat → Prop) (w w' : World) (b : Nat) (s : RSt) : Prop :=
  ∃ F', RIs w' F' b s ∧ Gb B w' ∧ B ≤ w.heap.size ∧ (∀ x, F' x → B ≤ x) ∧ Chg F w w' ∧ ∀ x, F' x → F x ∨ w.heap.size ≤ x
section
variable {B : Nat} {F : Nat → Prop} {w w1 w2 : World} {b : Nat} {s s' : RSt}
theorem rGo_start (h : RIs w F b s) (hG : Gb B w) (hB : B ≤ w.heap.size) (hF : ∀ x, F x → B ≤ x) : RGo B F w w b s := ⟨F, h, hG, hB, hF, Chg.refl _ _, fun x hx => .inl hx⟩
theorem rGo_gb (k : RGo B F w w1 b s) : Gb B w1 := k.choose_spec.2.1
theorem rGo_sz (k : RGo B F w w1 b s) : B ≤ w1.heap.size := by
  obtain ⟨F1, i, G, hB, hF, c1, g1⟩ := k
  exact Nat.le_trans hB c1.size
theorem rGo_later (k : RGo B F w w1 b s) (hb : Below w1.heap.size w1 w2) : RGo B F w w2 b s := by
  obtain ⟨F1, i, G, hB, hF, c1, g1⟩ := k
  exact ⟨F1, rIs_same i hb.size (fun x hx => hb.block x (i.lt x hx)), G.below (hb.mono (Nat.le_trans hB c1.size)), hB, hF, c1.trans (Chg.of_below (S := F) hb) (fun x e => .inl e), g1⟩
theorem rGo_lift {P : Program} {f : FuncId} {args : Array Value} {Q : Ending → Prop} (c : ∀ F1, RIs w1 F1 b s → Gb B w1 → Calls P f args w1 fun e w2 => Q e ∧ RTo F1 w1 w2 b s') (k : RGo B F w w1 b s) :
    Calls P f args w1 fun e w2 => Q e ∧ RGo B F w w2 b s' := by
  obtain ⟨F1, i, G, hB, hF, c1, g1⟩ := k
  refine (c F1 i G).mono fun e w2 ⟨q, F2, i2, c2, g2⟩ => ?_
  have hz := c1.size
  refine ⟨q, F2, i2, G.below (c2.below (Nat.le_trans hB hz) hF), hB, fun x hx => ?_, c1.trans c2 g1, fun x hx => ?_⟩
  · rcases g2 x hx with e | e
    · exact hF x e
    · omega
  · rcases g2 x hx with e | e
    · exact g1 x e
    · right; omega
/-- A call that leaves what was there. -/
theorem rGo_quiet {P : Program} {f : FuncId} {args : Array Value} {Q : Ending → Prop} (k : RGo B F w w1 b s) (c : Gb B w1 → B ≤ w1.heap.size → Calls P f args w1 fun e w2 => Q e ∧ Below w1.heap.size w1 w2) :
    Calls P f args w1 fun e w2 => Q e ∧ RGo B F w w2 b s :=
  (c (rGo_gb k) (rGo_sz k)).mono fun e w2 ⟨q, hb⟩ => ⟨q, rGo_later k hb⟩

theorem gPast_yes (k : RGo B F w w1 b s) (p : ByteArray) {r : List UInt8} (hp : past p.data.toList s.rest = some r) :
    Calls Tryz.prog 24 #[.pointer (some ⟨b, 0, none⟩), .string p] w1 fun e w2 => e = .returned (.bool true) ∧ RGo B F w w2 b { s with rest := r } := rGo_lift (fun F1 i _ => rPast_yes i p hp) k
theorem gPast_no (k : RGo B F w w1 b s) (p : ByteArray) (hp : past p.data.toList s.rest = none) :
    Calls Tryz.prog 24 #[.pointer (some ⟨b, 0, none⟩), .string p] w1 fun e w2 => e = .returned (.bool false) ∧ RGo B F w w2 b s := rGo_lift (fun F1 i _ => rPast_no i p hp) k
theorem gUpTo_yes (k : RGo B F w w1 b s) (hl : s.rest.length ≤ 100000) (e : ByteArray) (he : e.data.toList ≠ []) {x y : List UInt8} (hu : upTo e.data.toList s.rest = some (x, y)) :
    Calls Tryz.prog 25 #[.pointer (some ⟨b, 0, none⟩), .string e] w1 fun q w2 => q = .returned (.tuple #[.string (mk x), .bool true]) ∧ RGo B F w w2 b { s with rest := y } := rGo_lift (fun F1 i G => rUpTo_yes i G hl e he hu) k
theorem gUpTo_no (k : RGo B F w w1 b s) (hl : s.rest.length ≤ 100000) (e : ByteArray) (he : e.data.toList ≠ []) (hu : upTo e.data.toList s.rest = none) :
    Calls Tryz.prog 25 #[.pointer (some ⟨b, 0, none⟩), .string e] w1 fun q w2 => q = .returned (.tuple #[.string (mk s.rest), .bool false]) ∧ RGo B F w w2 b { s with rest := [] } := rGo_lift (fun F1 i G => rUpTo_no i G hl e he hu) k
theorem gSpace (k : RGo B F w w1 b s) :
    Calls Tryz.prog 47 #[.pointer (some ⟨b, 0, none⟩)] w1 fun q w2 => q = .returned (.bool (decide ((s.rest.dropWhile spcX).length < s.rest.length))) ∧ RGo B F w w2 b { s with rest := s.rest.dropWhile spcX } := rGo_lift (fun F1 i _ => rSpace_any i) k
theorem gName (k : RGo B F w w1 b s) (hl : s.rest.length ≤ 100000) :
    Calls Tryz.prog 46 #[.pointer (some ⟨b, 0, none⟩)] w1 fun q w2 => q = .returned (.tuple #[.string (mk (nameX s.rest).1), .bool (decide ((nameX s.rest).1 ≠ []))]) ∧ RGo B F w w2 b { s with rest := (nameX s.rest).2 } := rGo_lift (fun F1 i _ => rName_any i hl) k
/-- Words written. -/
theorem rTo_write {p v tv : Value} {V : List TkV} (h1 : RdAt w b (mk s.rest) p v tv s.words) (h2 : ROwn tkTy w tv V) (h3 : TksIs w V s.toks) (h4 : tv.ownBlock ≠ some b) (h5 : ∀ g, tv.ownBlock = some g → v.ownBlock ≠ some g)
    (h6 : ∀ x ∈ V, ∀ g, (Value.slice x.a x.m x.c).ownBlock = some g → F g ∧ g ≠ b ∧ v.ownBlock ≠ some g ∧ tv.ownBlock ≠ some g) (fb : F b) (fv : ∀ g, v.ownBlock = some g → F g) (ft : ∀ g, tv.ownBlock = some g → F g) (hlt : ∀ x, F x → x < w.heap.size)
    {l : List UInt8} (hp : RdPost w b (mk s.rest) v tv l w1) : RTo F w w1 b { s with words := l } := by
  obtain ⟨p', v', k1, k2, k3⟩ := hp
  have hz := k2.size
  refine ⟨fun x => F x ∨ v'.ownBlock = some x, ⟨⟨p', v', tv, V, k1, ownsRow_same h2 (fun g hg => k2.block g (hlt g (ft g hg)) (fun e => ?_)), h3.same (fun x hx g hg hgl => k2.block g hgl (fun e => ?_)) hz, h4, fun g hg e => ?_, fun x hx g hg => ?_, .inl fb, fun g hg => .inr hg, fun g hg => .inl (ft g hg)⟩, fun x hx => ?_⟩, k2.mono (fun x e => ?_), fun x hx => ?_⟩
  · rcases e with e | e
    · exact h4 (by rw [hg, e])
    · exact h5 g hg e
  · rcases e with e | e
    · exact (h6 x hx g hg).2.1 e
    · exact (h6 x hx g hg).2.2.1 e
  · rcases k3 g e with e' | e'
    · exact h5 g hg e'
    · have := hlt g (ft g hg); omega
  · obtain ⟨q1, q2, q3, q4⟩ := h6 x hx g hg
    refine ⟨.inl q1, q2, fun e => ?_, q4⟩
    rcases k3 g e with e' | e'
    · exact q3 e'
    · have := hlt g q1; omega
  · rcases hx with hx | hx
    · have := hlt x hx; omega
    · exact ownsRow_lt k1.row x hx
  · rcases e with e | e
    · rw [e]; exact fb
    · exact fv x e
  · rcases hx with hx | hx
    · exact .inl hx
    · rcases k3 x hx with e | e
      · exact .inl (fv x e)
      · exact .inr e
theorem rWrite_to (h : RIs w F b s) (t : ByteArray) (hl : s.words.length + t.size ≤ 1000000) :
    Calls Tryz.prog 39 #[.pointer (some ⟨b, 1, none⟩), .string t] w fun e w' => e = .returned (.tuple #[.int .i64 t.size, .nilIface]) ∧ RTo F w w' b { s with words := s.words ++ t.data.toList } := by
  obtain ⟨⟨p, v, tv, V, h1, h2, h3, h4, h5, h6, fb, fv, ft⟩, hlt⟩ := h
  exact (rdWrite_any h1 t (by omega)).mono fun e w' ⟨he, hp⟩ => ⟨he, rTo_write h1 h2 h3 h4 h5 h6 fb fv ft hlt hp⟩
theorem gWrite (k : RGo B F w w1 b s) (t : ByteArray) (hl : s.words.length + t.size ≤ 1000000) :
    Calls Tryz.prog 39 #[.pointer (some ⟨b, 1, none⟩), .string t] w1 fun e w2 => e = .returned (.tuple #[.int .i64 t.size, .nilIface]) ∧ RGo B F w w2 b { s with words := s.words ++ t.data.toList } := rGo_lift (fun F1 i _ => rWrite_to i t hl) k
/-- The rest as it is read, and stored. -/
theorem rGo_rest (k : RGo B F w w1 b s) : w1.cell? ⟨b, 0, none⟩ = some (.string (mk s.rest)) ∧ w1.frozen? ⟨b, 0, none⟩ = false := by
  obtain ⟨F1, i, _⟩ := k
  exact ⟨(rIs_rest i).1, (rIs_rest i).2.1⟩
theorem rGo_store (k : RGo B F w w1 b s) (l : List UInt8) : RGo B F w (w1.setCell ⟨b, 0, none⟩ (.string (mk l))) b { s with rest := l } := by
  obtain ⟨F1, i, G, hB, hF, c1, g1⟩ := k
  obtain ⟨F2, i2, c2, g2⟩ := rIs_store i (Below.refl _ _) l
  have hz := c1.size
  refine ⟨F2, i2, G.below (c2.below (Nat.le_trans hB hz) hF), hB, fun x hx => ?_, c1.trans c2 g1, fun x hx => ?_⟩
  · rcases g2 x hx with e | e
    · exact hF x e
    · omega
  · rcases g2 x hx with e | e
    · exact g1 x e
    · right; omega
theorem rGo_drew (k : RGo B F w w1 b s) (n : Nat) : RGo B F w (w1.drewN n) b s := rGo_later k (below_drew (Below.refl _ _) n)
end
end Go.Proofs.YtjoeamlidmmioaaGreatDoor
/-
  LAYER 11 (xml), THE PROGRAM: quoted, the reader's reference, value, attribute.
-/
namespace Go.Proofs.YtjoeamlidmmioaaGreatDoor
open Go.RowKit
set_option linter.unusedVariables false
set_option maxRecDepth 100000

section
variable {B : Nat} {F : Nat → Prop} {w w1 : World} {b : Nat} {s : RSt}
/-- The call is over with some answer, the reader somewhere. -/
def GFail (B : Nat) (F : Nat → Prop) (w : World) (b : Nat) (v : Value) (e : Ending) (w2 : World) : Prop := e = .returned v ∧ ∃ s', RGo B F w w2 b s'

set_option maxHeartbeats 1000000 in
theorem gQuoted_yes (k : RGo B F w w1 b s) (hl : s.rest.length ≤ 100000) (hw : s.words.length ≤ 200000) {x y : List UInt8} (hu : upTo eData s.rest = some (x, y)) :
    Calls Tryz.prog 27 #[.pointer (some ⟨b, 0, none⟩)] w1 fun e w2 => e = .returned (.bool true) ∧ RGo B F w w2 b ⟨y, s.words ++ x, s.toks⟩ := by
  have hlt := (upTo_lt hu).1
  have HU : Hid (Calls Tryz.prog 25 #[.pointer (some ⟨b, 0, none⟩), .string ⟨#[93, 93, 62]⟩] w1 fun q w2 => q = .returned (.tuple #[.string (mk x), .bool true]) ∧ RGo B F w w2 b ⟨y, s.words, s.toks⟩) := hid (gUpTo_yes k hl ⟨#[93, 93, 62]⟩ (by decide) hu)
  have HW := hid (fun (w2 : World) (k2 : RGo B F w w2 b ⟨y, s.words, s.toks⟩) => gWrite k2 (mk x) (by rw [mk_size]; show s.words.length + x.length ≤ 1000000; omega))
  clear k hu hlt
  go_enter Tryz.func27, Tryz.ntmps27
  go_wp2_with (first
    | (go_at_call 25; (with_reducible refine HU.out.mono ?_); rintro e w2 ⟨rfl, k2⟩)
    | (go_at_call 39; (with_reducible refine (HW.out _ k2).mono ?_); rintro e w3 ⟨rfl, k3⟩))
  go_ret
  exact ⟨rfl, k3⟩
set_option maxHeartbeats 1000000 in
theorem gQuoted_no (k : RGo B F w w1 b s) (hl : s.rest.length ≤ 100000) (hw : s.words.length ≤ 200000) (hu : upTo eData s.rest = none) :
    Calls Tryz.prog 27 #[.pointer (some ⟨b, 0, none⟩)] w1 (GFail B F w b (.bool false)) := by
  have HU : Hid (Calls Tryz.prog 25 #[.pointer (some ⟨b, 0, none⟩), .string ⟨#[93, 93, 62]⟩] w1 fun q w2 => q = .returned (.tuple #[.string (mk s.rest), .bool false]) ∧ RGo B F w w2 b ⟨[], s.words, s.toks⟩) := hid (gUpTo_no k hl ⟨#[93, 93, 62]⟩ (by decide) hu)
  have HW := hid (fun (w2 : World) (k2 : RGo B F w w2 b ⟨[], s.words, s.toks⟩) => gWrite k2 (mk s.rest) (by rw [mk_size]; show s.words.length + s.rest.length ≤ 1000000; omega))
  clear k hu
  go_enter Tryz.func27, Tryz.ntmps27
  go_wp2_with (first
    | (go_at_call 25; (with_reducible refine HU.out.mono ?_); rintro e w2 ⟨rfl, k2⟩)
    | (go_at_call 39; (with_reducible refine (HW.out _ k2).mono ?_); rintro e w3 ⟨rfl, k3⟩))
  go_ret
  exact ⟨rfl, _, k3⟩
set_option maxHeartbeats 1000000 in
theorem gRef_yes (k : RGo B F w w1 b s) (hl : s.rest.length ≤ 100000) (hw : s.words.length ≤ 200000) {t r : List UInt8} (hu : refX s.rest = some (t, r)) :
    Calls Tryz.prog 30 #[.pointer (some ⟨b, 0, none⟩)] w1 fun e w2 => e = .returned (.bool true) ∧ RGo B F w w2 b ⟨r, s.words ++ t, s.toks⟩ := by
  have htl := refX_len hu
  obtain ⟨c0, f0⟩ := rGo_rest k
  have HU : Hid (Calls Tryz.prog 51 #[.string (mk s.rest)] w1 fun q w2 => q = .returned (.tuple #[.string (mk t), .string (mk r), .bool true]) ∧ RGo B F w w2 b s) := hid (rGo_quiet k (fun G hB => (reference_any G hB (mk s.rest) (by rw [mk_size]; omega)).mono fun e w2 ⟨h1, _, h3⟩ => ⟨h1 _ (by rw [mk_data]; exact hu), h3⟩))
  have HW := hid (fun (w2 : World) (k2 : RGo B F w w2 b s) => gWrite k2 (mk t) (by rw [mk_size]; omega))
  clear k hu
  go_enter Tryz.func30, Tryz.ntmps30
  go_wp2_with (first
    | (go_at_call 51; (with_reducible refine HU.out.mono ?_); rintro e w2 ⟨rfl, k2⟩)
    | (go_at_call 39; (with_reducible refine (HW.out _ k2).mono ?_); rintro e w3 ⟨rfl, k3⟩; obtain ⟨d0, g0⟩ := rGo_rest k3))
  go_ret
  exact ⟨rfl, rGo_store k3 r⟩
set_option maxHeartbeats 1000000 in
theorem gRef_no (k : RGo B F w w1 b s) (hl : s.rest.length ≤ 100000) (hw : s.words.length ≤ 200000) (hu : refX s.rest = none) :
    Calls Tryz.prog 30 #[.pointer (some ⟨b, 0, none⟩)] w1 (GFail B F w b (.bool false)) := by
  obtain ⟨c0, f0⟩ := rGo_rest k
  have HU : Hid (Calls Tryz.prog 51 #[.string (mk s.rest)] w1 fun q w2 => (∃ r : List UInt8, q = .returned (.tuple #[.string ⟨#[]⟩, .string (mk r), .bool false])) ∧ RGo B F w w2 b s) := hid (rGo_quiet k (fun G hB => (reference_any G hB (mk s.rest) (by rw [mk_size]; omega)).mono fun e w2 ⟨_, h2, h3⟩ => by
    rw [mk_data] at h2
    obtain ⟨r, _, he⟩ := h2 hu
    exact ⟨⟨r, he⟩, h3⟩))
  have HW := hid (fun (w2 : World) (k2 : RGo B F w w2 b s) => gWrite k2 ⟨#[]⟩ (by show s.words.length + 0 ≤ _; omega))
  clear k hu
  go_enter Tryz.func30, Tryz.ntmps30
  go_wp2_with (first
    | (go_at_call 51; (with_reducible refine HU.out.mono ?_); rintro e w2 ⟨⟨r, rfl⟩, k2⟩)
    | (go_at_call 39; (with_reducible refine (HW.out _ k2).mono ?_); rintro e w3 ⟨rfl, k3⟩; obtain ⟨d0, g0⟩ := rGo_rest k3))
  go_ret
  exact ⟨rfl, _, rGo_store k3 r⟩
end
/-! ### a value -/
def valX : List UInt8 → Option (List UInt8 × List UInt8)
  | q :: r4 => if q = 34 ∨ q = 39 then (upTo [q] r4).bind fun x => if (60 : UInt8) ∈ x.1 then none else (saidX x.1).map fun v => (v, x.2) else none
  | [] => none
theorem attrX_val (s : List UInt8) : attrX s = if (nameX s).1 = [] then none else match past [61] ((nameX s).2.dropWhile spcX) with
    | some r2 => (valX (r2.dropWhile spcX)).map fun x => (⟨(nameX s).1, x.1⟩, x.2)
    | none => none := by
  unfold attrX
  by_cases hn : (nameX s).1 = []
  · rw [if_pos hn, if_pos hn]
  rw [if_neg hn, if_neg hn]
  split
  · rename_i r2 e
    rw [e]
    have : past [61] (61 :: r2) = some r2 := rfl
    rw [this]
    simp only
    cases hd : r2.dropWhile spcX with
    | nil => rfl
    | cons q r4 =>
      simp only [valX]
      by_cases hq : q = 34 ∨ q = 39
      · rw [if_pos hq, if_pos hq]
        cases hu : upTo [q] r4 with
        | none => rfl
        | some x =>
          simp only [Option.bind_some]
          by_cases h6 : (60 : UInt8) ∈ x.1
          · rw [if_pos h6, if_pos h6]; rfl
          · rw [if_neg h6, if_neg h6]
            cases saidX x.1 <;> rfl
      · rw [if_neg hq, if_neg hq]; rfl
  · rename_i h61
    cases hd : (nameX s).2.dropWhile spcX with
    | nil => rfl
    | cons q r =>
      have hq : q ≠ 61 := fun e => h61 r (by rw [hd, e])
      have : past [61] (q :: r) = none := by simp [past, List.isPrefixOf, Ne.symm hq]
      rw [this]
/-- What a quoted text makes. -/
def rawX (x : List UInt8 × List UInt8) : Option (List UInt8 × List UInt8) := if (60 : UInt8) ∈ x.1 then none else (saidX x.1).map fun v => (v, x.2)
theorem valX_cases (l : List UInt8) : (∃ r, past [34] l = some r ∧ valX l = (upTo [34] r).bind rawX) ∨ (∃ r, past [34] l = none ∧ past [39] l = some r ∧ valX l = (upTo [39] r).bind rawX) ∨ (past [34] l = none ∧ past [39] l = none ∧ valX l = none) := by
  cases l with
  | nil => right; right; exact ⟨rfl, rfl, rfl⟩
  | cons q r =>
    by_cases h1 : q = 34
    · left; subst h1; exact ⟨r, rfl, rfl⟩
    · have p1 : past [34] (q :: r) = none := by simp [past, List.isPrefixOf, Ne.symm h1]
      by_cases h2 : q = 39
      · right; left; subst h2; exact ⟨r, rfl, rfl, rfl⟩
      · right; right
        have p2 : past [39] (q :: r) = none := by simp [past, List.isPrefixOf, Ne.symm h2]
        exact ⟨p1, p2, by simp [valX, h1, h2]⟩
end Go.Proofs.YtjoeamlidmmioaaGreatDoor
/-
  LAYER 11 (xml), THE PROGRAM: the reader's value (written by tools/gen11_val.py).
-/
namespace Go.Proofs.YtjoeamlidmmioaaGreatDoor
open Go.RowKit
set_option linter.unusedVariables false
set_option maxRecDepth 100000

section
variable {B : Nat} {F : Nat → Prop} {w w1 : World} {b : Nat} {s : RSt}
def vNo : Value := .tuple #[.string ⟨#[]⟩, .bool false]
def GVal (B : Nat) (F : Nat → Prop) (w : World) (b : Nat) (s : RSt) (o : Option (List UInt8 × List UInt8)) (e : Ending) (w2 : World) : Prop :=
  (∀ x, o = some x → e = .returned (.tuple #[.string (mk x.1), .bool true]) ∧ RGo B F w w2 b { s with rest := x.2 }) ∧ (o = none → e = .returned vNo ∧ ∃ l : List UInt8, l.length ≤ s.rest.length ∧ RGo B F w w2 b { s with rest := l })
theorem gVal_no {e : Ending} {w2 : World} {l : List UInt8} {o : Option (List UInt8 × List UInt8)} (ho : o = none) (he : e = .returned vNo) (hl : l.length ≤ s.rest.length) (k : RGo B F w w2 b { s with rest := l }) : GVal B F w b s o e w2 :=
  ⟨fun x hx => (by rw [ho] at hx; cases hx), fun _ => ⟨he, l, hl, k⟩⟩
set_option maxHeartbeats 2000000 in
theorem gValueA (k : RGo B F w w1 b s) (hl : s.rest.length ≤ 100000) {r : List UInt8} (hp : past [34] s.rest = some r) (hv : valX s.rest = (upTo [34] r).bind rawX) :
    Calls Tryz.prog 80 #[.pointer (some ⟨b, 0, none⟩)] w1 (GVal B F w b s (valX s.rest)) := by
  have hrl := (past_lt hp).2
  have hrs : r.length ≤ s.rest.length := by omega
  have HP1 := hid (gPast_yes k ⟨#[34]⟩ hp)
  rw [hv]
  clear k hp hv hrl
  cases hu : upTo [34] r with
  | none =>
    have HU := hid (fun (w2 : World) (k2 : RGo B F w w2 b { s with rest := r }) => gUpTo_no k2 (by show r.length ≤ _; omega) ⟨#[34]⟩ (by decide) hu)
    clear hu
    go_enter Tryz.func80, Tryz.ntmps80
    go_wp2_with (first
      | (go_at_call 24; (with_reducible refine HP1.out.mono ?_); rintro e w2 ⟨rfl, k2⟩)
      | (go_at_call 25; (with_reducible refine (HU.out _ k2).mono ?_); rintro e w4 ⟨rfl, k3⟩))
    go_ret2
    exact gVal_no rfl rfl (by simp) k3
  | some ay =>
    obtain ⟨a, y⟩ := ay
    have hul := (upTo_lt hu).1
    have HU := hid (fun (w2 : World) (k2 : RGo B F w w2 b { s with rest := r }) => gUpTo_yes k2 (by show r.length ≤ _; omega) ⟨#[34]⟩ (by decide) hu)
    have HC : Hid (∀ w2, RGo B F w w2 b { s with rest := y } → Calls Tryz.prog 100 #[.string (mk a), .string ⟨#[60]⟩] w2 fun e w3 => e = .returned (.bool (decide ((60 : UInt8) ∈ a))) ∧ RGo B F w w3 b { s with rest := y }) := hid (fun w2 k2 => rGo_quiet k2 (fun G _ => contains_any G (mk a) (by rw [mk_size]; omega)))
    have hyl : y.length ≤ s.rest.length := by omega
    have hal : a.length ≤ 100000 := by omega
    clear hu hul
    rw [Option.bind_some]
    by_cases h60 : (60 : UInt8) ∈ a
    · rw [decide_eq_true h60] at HC
      have hr : rawX (a, y) = none := if_pos h60
      rw [hr]
      clear h60 hr
      go_enter Tryz.func80, Tryz.ntmps80
      go_wp2_with (first
        | (go_at_call 24; (with_reducible refine HP1.out.mono ?_); rintro e w2 ⟨rfl, k2⟩)
        | (go_at_call 25; (with_reducible refine (HU.out _ k2).mono ?_); rintro e w4 ⟨rfl, k3⟩)
        | (go_at_call 100; (with_reducible refine (HC.out _ k3).mono ?_); rintro e w5 ⟨rfl, k4⟩))
      go_ret2
      exact gVal_no rfl rfl hyl k4
    · rw [decide_eq_false h60] at HC
      have hr : rawX (a, y) = (saidX a).map fun v => (v, y) := if_neg h60
      rw [hr]
      have HD : Hid (∀ w2, RGo B F w w2 b { s with rest := y } → Calls Tryz.prog 101 #[.string (mk a)] w2 fun e w3 => e = .returned (saidV (saidX a)) ∧ RGo B F w w3 b { s with rest := y }) := hid (fun w2 k2 => rGo_quiet k2 (fun G hB => denoted_any G hB (mk a) (by rw [mk_size]; omega)))
      clear h60 hr
      cases hs : saidX a with
      | none =>
        rw [hs] at HD
        have HE : Hid (∀ w2, RGo B F w w2 b { s with rest := y } → Calls Tryz.prog 101 #[.string (mk a)] w2 fun e w3 => e = .returned (.tuple #[.string ⟨#[]⟩, .bool false]) ∧ RGo B F w w3 b { s with rest := y }) := hid HD.out
        clear HD hs
        go_enter Tryz.func80, Tryz.ntmps80
        go_wp2_with (first
          | (go_at_call 24; (with_reducible refine HP1.out.mono ?_); rintro e w2 ⟨rfl, k2⟩)
          | (go_at_call 25; (with_reducible refine (HU.out _ k2).mono ?_); rintro e w4 ⟨rfl, k3⟩)
          | (go_at_call 100; (with_reducible refine (HC.out _ k3).mono ?_); rintro e w5 ⟨rfl, k4⟩)
          | (go_at_call 101; (with_reducible refine (HE.out _ k4).mono ?_); rintro e w6 ⟨rfl, k5⟩))
        go_ret2
        exact gVal_no rfl rfl hyl k5
      | some v =>
        rw [hs] at HD
        have HE : Hid (∀ w2, RGo B F w w2 b { s with rest := y } → Calls Tryz.prog 101 #[.string (mk a)] w2 fun e w3 => e = .returned (.tuple #[.string (mk v), .bool true]) ∧ RGo B F w w3 b { s with rest := y }) := hid HD.out
        clear HD hs
        go_enter Tryz.func80, Tryz.ntmps80
        go_wp2_with (first
          | (go_at_call 24; (with_reducible refine HP1.out.mono ?_); rintro e w2 ⟨rfl, k2⟩)
          | (go_at_call 25; (with_reducible refine (HU.out _ k2).mono ?_); rintro e w4 ⟨rfl, k3⟩)
          | (go_at_call 100; (with_reducible refine (HC.out _ k3).mono ?_); rintro e w5 ⟨rfl, k4⟩)
          | (go_at_call 101; (with_reducible refine (HE.out _ k4).mono ?_); rintro e w6 ⟨rfl, k5⟩))
        go_ret2
        exact ⟨fun x hx => (by cases hx; exact ⟨rfl, k5⟩), fun hx => (by cases hx)⟩
set_option maxHeartbeats 2000000 in
theorem gValueB (k : RGo B F w w1 b s) (hl : s.rest.length ≤ 100000) {r : List UInt8} (hp0 : past [34] s.rest = none) (hp : past [39] s.rest = some r) (hv : valX s.rest = (upTo [39] r).bind rawX) :
    Calls Tryz.prog 80 #[.pointer (some ⟨b, 0, none⟩)] w1 (GVal B F w b s (valX s.rest)) := by
  have hrl := (past_lt hp).2
  have hrs : r.length ≤ s.rest.length := by omega
  have HP1 := hid (gPast_no k ⟨#[34]⟩ hp0)
  have HP2 := hid (fun (w2 : World) (k2 : RGo B F w w2 b s) => gPast_yes k2 ⟨#[39]⟩ hp)
  rw [hv]
  clear k hp0 hp hv hrl
  cases hu : upTo [39] r with
  | none =>
    have HU := hid (fun (w2 : World) (k2 : RGo B F w w2 b { s with rest := r }) => gUpTo_no k2 (by show r.length ≤ _; omega) ⟨#[39]⟩ (by decide) hu)
    clear hu
    go_enter Tryz.func80, Tryz.ntmps80
    go_wp2_with (first
      | (go_at_call 24; (with_reducible refine HP1.out.mono ?_); rintro e w2 ⟨rfl, k2⟩)
      | (go_at_call 24; (with_reducible refine (HP2.out _ k2).mono ?_); rintro e w3 ⟨rfl, k2⟩)
      | (go_at_call 25; (with_reducible refine (HU.out _ k2).mono ?_); rintro e w4 ⟨rfl, k3⟩))
    go_ret2
    exact gVal_no rfl rfl (by simp) k3
  | some ay =>
    obtain ⟨a, y⟩ := ay
    have hul := (upTo_lt hu).1
    have HU := hid (fun (w2 : World) (k2 : RGo B F w w2 b { s with rest := r }) => gUpTo_yes k2 (by show r.length ≤ _; omega) ⟨#[39]⟩ (by decide) hu)
    have HC : Hid (∀ w2, RGo B F w w2 b { s with rest := y } → Calls Tryz.prog 100 #[.string (mk a), .string ⟨#[60]⟩] w2 fun e w3 => e = .returned (.bool (decide ((60 : UInt8) ∈ a))) ∧ RGo B F w w3 b { s with rest := y }) := hid (fun w2 k2 => rGo_quiet k2 (fun G _ => contains_any G (mk a) (by rw [mk_size]; omega)))
    have hyl : y.length ≤ s.rest.length := by omega
    have hal : a.length ≤ 100000 := by omega
    clear hu hul
    rw [Option.bind_some]
    by_cases h60 : (60 : UInt8) ∈ a
    · rw [decide_eq_true h60] at HC
      have hr : rawX (a, y) = none := if_pos h60
      rw [hr]
      clear h60 hr
      go_enter Tryz.func80, Tryz.ntmps80
      go_wp2_with (first
        | (go_at_call 24; (with_reducible refine HP1.out.mono ?_); rintro e w2 ⟨rfl, k2⟩)
        | (go_at_call 24; (with_reducible refine (HP2.out _ k2).mono ?_); rintro e w3 ⟨rfl, k2⟩)
        | (go_at_call 25; (with_reducible refine (HU.out _ k2).mono ?_); rintro e w4 ⟨rfl, k3⟩)
        | (go_at_call 100; (with_reducible refine (HC.out _ k3).mono ?_); rintro e w5 ⟨rfl, k4⟩))
      go_ret2
      exact gVal_no rfl rfl hyl k4
    · rw [decide_eq_false h60] at HC
      have hr : rawX (a, y) = (saidX a).map fun v => (v, y) := if_neg h60
      rw [hr]
      have HD : Hid (∀ w2, RGo B F w w2 b { s with rest := y } → Calls Tryz.prog 101 #[.string (mk a)] w2 fun e w3 => e = .returned (saidV (saidX a)) ∧ RGo B F w w3 b { s with rest := y }) := hid (fun w2 k2 => rGo_quiet k2 (fun G hB => denoted_any G hB (mk a) (by rw [mk_size]; omega)))
      clear h60 hr
      cases hs : saidX a with
      | none =>
        rw [hs] at HD
        have HE : Hid (∀ w2, RGo B F w w2 b { s with rest := y } → Calls Tryz.prog 101 #[.string (mk a)] w2 fun e w3 => e = .returned (.tuple #[.string ⟨#[]⟩, .bool false]) ∧ RGo B F w w3 b { s with rest := y }) := hid HD.out
        clear HD hs
        go_enter Tryz.func80, Tryz.ntmps80
        go_wp2_with (first
          | (go_at_call 24; (with_reducible refine HP1.out.mono ?_); rintro e w2 ⟨rfl, k2⟩)
          | (go_at_call 24; (with_reducible refine (HP2.out _ k2).mono ?_); rintro e w3 ⟨rfl, k2⟩)
          | (go_at_call 25; (with_reducible refine (HU.out _ k2).mono ?_); rintro e w4 ⟨rfl, k3⟩)
          | (go_at_call 100; (with_reducible refine (HC.out _ k3).mono ?_); rintro e w5 ⟨rfl, k4⟩)
          | (go_at_call 101; (with_reducible refine (HE.out _ k4).mono ?_); rintro e w6 ⟨rfl, k5⟩))
        go_ret2
        exact gVal_no rfl rfl hyl k5
      | some v =>
        rw [hs] at HD
        have HE : Hid (∀ w2, RGo B F w w2 b { s with rest := y } → Calls Tryz.prog 101 #[.string (mk a)] w2 fun e w3 => e = .returned (.tuple #[.string (mk v), .bool true]) ∧ RGo B F w w3 b { s with rest := y }) := hid HD.out
        clear HD hs
        go_enter Tryz.func80, Tryz.ntmps80
        go_wp2_with (first
          | (go_at_call 24; (with_reducible refine HP1.out.mono ?_); rintro e w2 ⟨rfl, k2⟩)
          | (go_at_call 24; (with_reducible refine (HP2.out _ k2).mono ?_); rintro e w3 ⟨rfl, k2⟩)
          | (go_at_call 25; (with_reducible refine (HU.out _ k2).mono ?_); rintro e w4 ⟨rfl, k3⟩)
          | (go_at_call 100; (with_reducible refine (HC.out _ k3).mono ?_); rintro e w5 ⟨rfl, k4⟩)
          | (go_at_call 101; (with_reducible refine (HE.out _ k4).mono ?_); rintro e w6 ⟨rfl, k5⟩))
        go_ret2
        exact ⟨fun x hx => (by cases hx; exact ⟨rfl, k5⟩), fun hx => (by cases hx)⟩
set_option maxHeartbeats 2000000 in
theorem gValueN (k : RGo B F w w1 b s) (hp0 : past [34] s.rest = none) (hp : past [39] s.rest = none) (hv : valX s.rest = none) :
    Calls Tryz.prog 80 #[.pointer (some ⟨b, 0, none⟩)] w1 (GVal B F w b s (valX s.rest)) := by
  have HP1 := hid (gPast_no k ⟨#[34]⟩ hp0)
  have HP2 := hid (fun (w2 : World) (k2 : RGo B F w w2 b s) => gPast_no k2 ⟨#[39]⟩ hp)
  rw [hv]
  clear k hp0 hp hv
  go_enter Tryz.func80, Tryz.ntmps80
  go_wp2_with (first
    | (go_at_call 24; (with_reducible refine HP1.out.mono ?_); rintro e w2 ⟨rfl, k2⟩)
    | (go_at_call 24; (with_reducible refine (HP2.out _ k2).mono ?_); rintro e w3 ⟨rfl, k2⟩))
  go_ret2
  exact gVal_no rfl rfl (Nat.le_refl _) k2
theorem gValue (k : RGo B F w w1 b s) (hl : s.rest.length ≤ 100000) :
    Calls Tryz.prog 80 #[.pointer (some ⟨b, 0, none⟩)] w1 (GVal B F w b s (valX s.rest)) := by
  rcases valX_cases s.rest with ⟨r, h1, h2⟩ | ⟨r, h1, h2, h3⟩ | ⟨h1, h2, h3⟩
  · exact gValueA k hl h1 h2
  · exact gValueB k hl h1 h2 h3
  · exact gValueN k h1 h2 h3
end
end Go.Proofs.YtjoeamlidmmioaaGreatDoor
/-
  LAYER 11 (xml), THE PROGRAM: attribute.
-/
namespace Go.Proofs.YtjoeamlidmmioaaGreatDoor
open Go.RowKit
set_option linter.unusedVariables false
set_option maxRecDepth 100000

section
variable {B : Nat} {F : Nat → Prop} {w w1 w2 w3 : World} {b : Nat} {s s' : RSt}
theorem rGo_lift2 {P : Program} {f : FuncId} {args : Array Value} {Q : Ending → World → Prop} (c : ∀ F1, RIs w1 F1 b s → Gb B w1 → B ≤ w1.heap.size → (∀ x, F1 x → B ≤ x) → Calls P f args w1 fun e w2 => ∃ s', Q e w2 ∧ RTo F1 w1 w2 b s') (k : RGo B F w w1 b s) :
    Calls P f args w1 fun e w2 => ∃ s', Q e w2 ∧ RGo B F w w2 b s' := by
  obtain ⟨F1, i, G, hB, hF, c1, g1⟩ := k
  have hz := c1.size
  refine (c F1 i G (Nat.le_trans hB hz) hF).mono fun e w2 ⟨s', q, F2, i2, c2, g2⟩ => ?_
  refine ⟨s', q, F2, i2, G.below (c2.below (Nat.le_trans hB hz) hF), hB, fun x hx => ?_, c1.trans c2 g1, fun x hx => ?_⟩
  · rcases g2 x hx with e | e
    · exact hF x e
    · omega
  · rcases g2 x hx with e | e
    · exact g1 x e
    · right; omega
theorem rGo_own (k : RGo B F w w2 b s) {g : Nat} {cs : Array Value} {T : TypeId} (h : own w g cs T) (hg : ¬ F g) : own w2 g cs T := by
  obtain ⟨F1, i, G, hB, hF, c1, g1⟩ := k
  exact h.chg c1 hg
/-- Boxes laid ahead of the calls, and turned behind them. -/
theorem rTo_of {S : Nat → Prop} (hb : Below w.heap.size w w1) (hS : ∀ x, S x → w.heap.size ≤ x ∧ x < w1.heap.size) (hF : ∀ x, F x → x < w.heap.size) (k : RGo B F w1 w2 b s') (hc : Chg S w2 w3) : RTo F w w3 b s' := by
  obtain ⟨F1, i, G, hB, _, c1, g1⟩ := k
  have hz := hb.size
  have hn : ∀ x, F1 x → ¬ S x := fun x hx hs => by
    obtain ⟨a1, a2⟩ := hS x hs
    rcases g1 x hx with e | e
    · have := hF x e; omega
    · omega
  refine ⟨F1, rIs_same i hc.size (fun x hx => hc.block x (i.lt x hx) (hn x hx)), ?_, fun x hx => ?_⟩
  · refine ((Chg.of_below (S := F) hb).trans c1 (fun x e => .inl e)).trans hc (fun x hs => ?_)
    right; exact (hS x hs).1
  · rcases g1 x hx with e | e
    · exact .inl e
    · right; omega
def atV (x y : ByteArray) (o : Bool) : Value := .tuple #[.agg #[.string x, .string y], .bool o]
def GAttr (o : Option (AtX × List UInt8)) (rest : List UInt8) (s' : RSt) (s : RSt) (e : Ending) : Prop :=
  (∀ x, o = some x → e = .returned (atV (mk x.1.n) (mk x.1.v) true) ∧ s' = { s with rest := x.2 }) ∧ (o = none → ∃ x y, e = .returned (atV x y false))
theorem gAttr_no {e : Ending} {o : Option (AtX × List UInt8)} {x y : ByteArray} (ho : o = none) (he : e = .returned (atV x y false)) : GAttr o s.rest s' s e := ⟨fun z hz => (by rw [ho] at hz; cases hz), fun _ => ⟨x, y, he⟩⟩
theorem box_two (w : World) (g : Nat) (x y : ByteArray) (T : TypeId) (u v : Value) (h : own w g #[u, v] T) : own ((w.setCell ⟨g, 0, none⟩ (.string x)).setCell ⟨g, 1, none⟩ (.string y)) g #[.string x, .string y] T := by
  have h1 := (h.set 0 (.string x)).set 1 (.string y)
  simpa using h1
theorem chg_two (w : World) (g : Nat) (x y : Value) : Chg (fun z => z = g) w ((w.setCell ⟨g, 0, none⟩ x).setCell ⟨g, 1, none⟩ y) := (Chg.setCell w ⟨g, 0, none⟩ x).trans (Chg.setCell _ ⟨g, 1, none⟩ y) (fun z e => .inl e)
set_option maxHeartbeats 4000000 in
theorem rAttr_to (h : RIs w F b s) (hG : Gb B w) (hB : B ≤ w.heap.size) (hF : ∀ x, F x → B ≤ x) (hl : s.rest.length ≤ 100000) :
    Calls Tryz.prog 49 #[.pointer (some ⟨b, 0, none⟩)] w fun e w' => ∃ s', GAttr (attrX s.rest) s.rest s' s e ∧ RTo F w w' b s' := by
  have hb0 : Below w.heap.size w (w.alloc (.cells #[.string ⟨#[]⟩, .string ⟨#[]⟩] 51)) := (Below.refl _ _).alloc (Nat.le_refl _) _
  have hz0 : (w.alloc (.cells #[.string ⟨#[]⟩, .string ⟨#[]⟩] 51)).heap.size = w.heap.size + 1 := by simp
  have ho0 : own (w.alloc (.cells #[.string ⟨#[]⟩, .string ⟨#[]⟩] 51)) w.heap.size #[.string ⟨#[]⟩, .string ⟨#[]⟩] 51 := own.new w _ _
  have hlt := h.lt
  have hng : ¬ F w.heap.size := fun e => by have := hlt _ e; omega
  have k0 : RGo B F (w.alloc (.cells #[.string ⟨#[]⟩, .string ⟨#[]⟩] 51)) (w.alloc (.cells #[.string ⟨#[]⟩, .string ⟨#[]⟩] 51)) b s :=
    rGo_start (rIs_same h hb0.size (fun x hx => hb0.block x (hlt x hx))) (hG.below (hb0.mono hB)) (by omega) hF
  generalize hW : w.alloc (.cells #[.string ⟨#[]⟩, .string ⟨#[]⟩] 51) = W at *
  have HK := hid (fun (w2 : World) (s2 : RSt) (k : RGo B F W w2 b s2) => rGo_own k ho0 hng)
  have HE := hid (fun (w2 w3 : World) (s2 : RSt) (k : RGo B F W w2 b s2) (hc : Chg (fun x => x = w.heap.size) w2 w3) => rTo_of hb0 (fun x e => ⟨by omega, by omega⟩) hlt k hc)
  have HN := hid (gName k0 hl)
  have hnl := nameX_len s.rest
  have ha := attrX_val s.rest
  have HS := hid (fun (w2 : World) (k : RGo B F W w2 b { s with rest := (nameX s.rest).2 }) => gSpace k)
  have hdl := dropW_len spcX (nameX s.rest).2
  have HNL : Hid ((nameX s.rest).2.length ≤ s.rest.length) := hid (by omega)
  clear k0 h ho0 hng hb0 hz0 hlt hG hB hF hnl
  by_cases hn : (nameX s.rest).1 = []
  · rw [if_pos hn] at ha
    have hd : decide ((nameX s.rest).1 ≠ []) = false := by simp [hn]
    rw [hd] at HN
    have HA := hid ha
    clear ha hn hd hdl
    go_enter Tryz.func49, Tryz.ntmps49
    go_wp2_with (first
      | (go_at_call 46; (with_reducible refine HN.out.mono ?_); rintro e w2 ⟨rfl, k2⟩)
      | (go_at_call 47; (with_reducible refine (HS.out _ k2).mono ?_); rintro e w3 ⟨rfl, k3⟩; have o3 := HK.out _ _ k3; have d0 : w3.cell? ⟨w.heap.size, 0, none⟩ = some (.string ⟨#[]⟩) := (by rw [o3.cell]; rfl); have d1 : w3.cell? ⟨w.heap.size, 1, none⟩ = some (.string ⟨#[]⟩) := (by rw [o3.cell]; rfl); have g0 := o3.frozen 0; have g1 := o3.frozen 1))
    have hbx := box_two w3 w.heap.size ⟨#[]⟩ ⟨#[]⟩ _ _ _ o3
    have e0 := hbx.cell 0
    have e1 := hbx.cell 1
    simp at e0 e1
    exact bodyPost_ret (v := atV ⟨#[]⟩ ⟨#[]⟩ false) (by simp [results, Tryz.results49, go_sem, atV, e0, e1]) rfl ⟨_, gAttr_no HA.out rfl, HE.out _ _ _ k3 (chg_two _ _ _ _)⟩
  · rw [if_neg hn] at ha
    have hd : decide ((nameX s.rest).1 ≠ []) = true := by simp [hn]
    rw [hd] at HN
    clear hd hn
    generalize hnm : (nameX s.rest).1 = nm at *
    clear hnm
    cases hp : past [61] ((nameX s.rest).2.dropWhile spcX) with
    | none =>
      rw [hp] at ha
      have HA := hid ha
      have HP := hid (fun (w2 : World) (k : RGo B F W w2 b { s with rest := (nameX s.rest).2.dropWhile spcX }) => gPast_no k ⟨#[61]⟩ hp)
      clear ha hdl hp
      go_enter Tryz.func49, Tryz.ntmps49
      go_wp2_with (first
        | (go_at_call 46; (with_reducible refine HN.out.mono ?_); rintro e w2 ⟨rfl, k2⟩)
        | (go_at_call 47; (with_reducible refine (HS.out _ k2).mono ?_); rintro e w3 ⟨rfl, k3⟩)
        | (go_at_call 24; (with_reducible refine (HP.out _ k3).mono ?_); rintro e w4 ⟨rfl, k4⟩; have o3 := HK.out _ _ k4; have d0 : w4.cell? ⟨w.heap.size, 0, none⟩ = some (.string ⟨#[]⟩) := (by rw [o3.cell]; rfl); have d1 : w4.cell? ⟨w.heap.size, 1, none⟩ = some (.string ⟨#[]⟩) := (by rw [o3.cell]; rfl); have g0 := o3.frozen 0; have g1 := o3.frozen 1))
      have hbx := box_two w4 w.heap.size ⟨#[]⟩ ⟨#[]⟩ _ _ _ o3
      have e0 := hbx.cell 0
      have e1 := hbx.cell 1
      simp at e0 e1
      exact bodyPost_ret (v := atV ⟨#[]⟩ ⟨#[]⟩ false) (by simp [results, Tryz.results49, go_sem, atV, e0, e1]) rfl ⟨_, gAttr_no HA.out rfl, HE.out _ _ _ k4 (chg_two _ _ _ _)⟩
    | some r2 =>
      rw [hp] at ha
      have hpl := (past_lt hp).2
      have HA : Hid (attrX s.rest = (valX (r2.dropWhile spcX)).map fun x => (⟨nm, x.1⟩, x.2)) := hid ha
      have HP := hid (fun (w2 : World) (k : RGo B F W w2 b { s with rest := (nameX s.rest).2.dropWhile spcX }) => gPast_yes k ⟨#[61]⟩ hp)
      have HS2 := hid (fun (w2 : World) (k : RGo B F W w2 b { s with rest := r2 }) => gSpace k)
      have hd2 := dropW_len spcX r2
      have HV := hid (fun (w2 : World) (k : RGo B F W w2 b { s with rest := r2.dropWhile spcX }) => gValue k (by show (r2.dropWhile spcX).length ≤ _; have := HNL.out; omega))
      clear ha hdl hp hpl hd2
      cases hv : valX (r2.dropWhile spcX) with
      | none =>
        have HV2 : Hid (∀ w2, RGo B F W w2 b { s with rest := r2.dropWhile spcX } → Calls Tryz.prog 80 #[.pointer (some ⟨b, 0, none⟩)] w2 fun e w3 => e = .returned (.tuple #[.string ⟨#[]⟩, .bool false]) ∧ ∃ l, RGo B F W w3 b { s with rest := l }) := hid (fun w2 k => (HV.out w2 k).mono fun e w3 ⟨_, h2⟩ => by
          obtain ⟨he, l, _, k3⟩ := h2 hv
          exact ⟨he, l, k3⟩)
        rw [hv] at HA
        clear HV hv
        go_enter Tryz.func49, Tryz.ntmps49
        go_wp2_with (first
          | (go_at_call 46; (with_reducible refine HN.out.mono ?_); rintro e w2 ⟨rfl, k2⟩)
          | (go_at_call 47; (with_reducible refine (HS.out _ k2).mono ?_); rintro e w3 ⟨rfl, k3⟩)
          | (go_at_call 24; (with_reducible refine (HP.out _ k3).mono ?_); rintro e w4 ⟨rfl, k4⟩)
          | (go_at_call 47; (with_reducible refine (HS2.out _ k4).mono ?_); rintro e w5 ⟨rfl, k5⟩)
          | (go_at_call 80; (with_reducible refine (HV2.out _ k5).mono ?_); rintro e w6 ⟨rfl, l6, k6⟩; have o3 := HK.out _ _ k6; have d0 : w6.cell? ⟨w.heap.size, 0, none⟩ = some (.string ⟨#[]⟩) := (by rw [o3.cell]; rfl); have d1 : w6.cell? ⟨w.heap.size, 1, none⟩ = some (.string ⟨#[]⟩) := (by rw [o3.cell]; rfl); have g0 := o3.frozen 0; have g1 := o3.frozen 1))
        have hbx := box_two w6 w.heap.size (mk nm) ⟨#[]⟩ _ _ _ o3
        have e0 := hbx.cell 0
        have e1 := hbx.cell 1
        simp at e0 e1
        exact bodyPost_ret (v := atV (mk nm) ⟨#[]⟩ false) (by simp [results, Tryz.results49, go_sem, atV, e0, e1]) rfl ⟨_, gAttr_no HA.out rfl, HE.out _ _ _ k6 (chg_two _ _ _ _)⟩
      | some x =>
        have HV2 : Hid (∀ w2, RGo B F W w2 b { s with rest := r2.dropWhile spcX } → Calls Tryz.prog 80 #[.pointer (some ⟨b, 0, none⟩)] w2 fun e w3 => e = .returned (.tuple #[.string (mk x.1), .bool true]) ∧ RGo B F W w3 b { s with rest := x.2 }) := hid (fun w2 k => (HV.out w2 k).mono fun e w3 ⟨h1, _⟩ => h1 x hv)
        rw [hv] at HA
        clear HV hv
        go_enter Tryz.func49, Tryz.ntmps49
        go_wp2_with (first
          | (go_at_call 46; (with_reducible refine HN.out.mono ?_); rintro e w2 ⟨rfl, k2⟩)
          | (go_at_call 47; (with_reducible refine (HS.out _ k2).mono ?_); rintro e w3 ⟨rfl, k3⟩)
          | (go_at_call 24; (with_reducible refine (HP.out _ k3).mono ?_); rintro e w4 ⟨rfl, k4⟩)
          | (go_at_call 47; (with_reducible refine (HS2.out _ k4).mono ?_); rintro e w5 ⟨rfl, k5⟩)
          | (go_at_call 80; (with_reducible refine (HV2.out _ k5).mono ?_); rintro e w6 ⟨rfl, k6⟩; have o3 := HK.out _ _ k6; have d0 : w6.cell? ⟨w.heap.size, 0, none⟩ = some (.string ⟨#[]⟩) := (by rw [o3.cell]; rfl); have d1 : w6.cell? ⟨w.heap.size, 1, none⟩ = some (.string ⟨#[]⟩) := (by rw [o3.cell]; rfl); have g0 := o3.frozen 0; have g1 := o3.frozen 1))
        have hbx := box_two w6 w.heap.size (mk nm) (mk x.1) _ _ _ o3
        have e0 := hbx.cell 0
        have e1 := hbx.cell 1
        simp at e0 e1
        exact bodyPost_ret (v := atV (mk nm) (mk x.1) true) (by simp [results, Tryz.results49, go_sem, atV, e0, e1]) rfl ⟨_, ⟨fun z hz => (by rw [HA.out] at hz; cases hz; exact ⟨rfl, rfl⟩), fun hz => (by rw [HA.out] at hz; cases hz)⟩, HE.out _ _ _ k6 (chg_two _ _ _ _)⟩
end
end Go.Proofs.YtjoeamlidmmioaaGreatDoor
/-
  LAYER 11 (xml), THE PROGRAM: has.
-/
namespace Go.Proofs.YtjoeamlidmmioaaGreatDoor
open Go.RowKit
set_option linter.unusedVariables false
set_option maxRecDepth 100000

/-- Where the cells of the k-th attribute lie, as the walk spells them. -/
theorem ats_at {w : World} {v : Value} {L : List AtX} (h : RAt atTy w v L) : ∃ a cap, v = .slice a L.length cap ∧ ∀ (k : Nat) x, L[k]? = some x → ∃ sb so, a = some ⟨sb, so, none⟩ ∧ ∀ wx, Below w.heap.size w wx → wx.cell? ⟨sb, so + k * 2, none⟩ = some (.string (mk x.n)) ∧ wx.cell? ⟨sb, so + k * 2 + 1, none⟩ = some (.string (mk x.v)) := by
  obtain ⟨a, cap, rfl, _, _, hc⟩ := h.at atTy_ok
  refine ⟨a, cap, rfl, fun k x hk => ?_⟩
  obtain ⟨sb, so, e, hlt, hcs⟩ := hc k x hk
  exact ⟨sb, so, e, fun wx hb => ⟨(hb.cell (p := ⟨sb, _, none⟩) hlt).trans (hcs 0 _ rfl), (hb.cell (p := ⟨sb, _, none⟩) hlt).trans (hcs 1 _ rfl)⟩⟩
theorem mk_eqb (l m : List UInt8) : ((mk l).toList == (mk m).toList) = (l == m) := by
  rw [str_eqb, Bool.eq_iff_iff]
  simp only [decide_eq_true_eq, beq_iff_eq]
  exact ⟨mk_inj, fun h => by rw [h]⟩
set_option maxHeartbeats 1000000 in
theorem hasFn_any (x y n : List UInt8) (q : Nat) (w : World) (hq : w.cell? ⟨q, 0, none⟩ = some (.string (mk n))) :
    Calls Tryz.prog 82 #[.agg #[.string (mk x), .string (mk y)], .pointer (some ⟨q, 0, none⟩)] w fun e w' => e = .returned (.bool (x == n)) ∧ Below w.heap.size w w' := by
  have hql : q < w.heap.size := World.block_lt_of_cell? w _ hq
  have hb : Below w.heap.size w (w.alloc (.cells #[.string (mk x), .string (mk y)] 51)) := (Below.refl _ _).alloc (Nat.le_refl _) _
  have hq2 : (w.alloc (.cells #[.string (mk x), .string (mk y)] 51)).cell? ⟨q, 0, none⟩ = some (.string (mk n)) := (hb.cell (p := ⟨q, 0, none⟩) hql).trans hq
  have HE : Hid (((mk x).toList == (mk n).toList) = (x == n)) := hid (mk_eqb x n)
  clear hq hql hb
  go_enter Tryz.func82, Tryz.ntmps82
  go_wp2
  go_ret
  exact ⟨ret_bool HE.out, (Below.refl _ _).alloc (Nat.le_refl _) _⟩
/-- The place of the first attribute of a name, or -1. -/
def IxPost (w : World) (l : List AtX) (n : List UInt8) (e : Ending) (w' : World) : Prop := (∃ i : Int, e = .returned (.int .i64 i) ∧ -1 ≤ i ∧ decide (0 ≤ i) = hasX l n) ∧ Below w.heap.size w w'
theorem hasX_take {l : List AtX} {n : List UInt8} {k : Nat} {x : AtX} (hk : l[k]? = some x) : hasX (l.take (k + 1)) n = (hasX (l.take k) n || x.n == n) := by
  unfold hasX
  rw [List.take_add_one, hk, List.any_append]
  simp
theorem hasX_of {l : List AtX} {n : List UInt8} {k : Nat} {x : AtX} (hk : l[k]? = some x) (h : (x.n == n) = true) : hasX l n = true := by
  unfold hasX
  rw [List.any_eq_true]
  exact ⟨x, List.mem_of_getElem? hk, h⟩
set_option maxHeartbeats 2000000 in
theorem hasIx_any {w : World} {v : Value} {l : List AtX} (hv : RAt atTy w v l) (hl : l.length ≤ 1000000) (n : List UInt8) (q : Nat) (hq : w.cell? ⟨q, 0, none⟩ = some (.string (mk n))) :
    Calls Tryz.prog 102 #[v, .func (.func 82) #[] #[.pointer (some ⟨q, 0, none⟩)]] w (IxPost w l n) := by
  have hql : q < w.heap.size := World.block_lt_of_cell? w _ hq
  obtain ⟨a, cap, rfl, hat⟩ := ats_at hv
  have HA := hid hat
  have HQ := hid (fun wx (h : Below w.heap.size w wx) => (h.cell (p := ⟨q, 0, none⟩) hql).trans hq)
  clear hat hv hq hql
  go_enter Tryz.func102, Tryz.ntmps102
  go_wp2
  go_loopw [8] (fun i wr => ∃ k : Nat, k ≤ l.length ∧ i = .int .i64 k ∧ Below w.heap.size w wr ∧ Hid (hasX (l.take k) n = false)) (fun i _ => l.length - (intOf i).toNat)
  case atStart => exact ⟨0, Nat.zero_le _, rfl, Below.refl _ _, hid rfl⟩
  case round =>
    obtain ⟨k, hk, rfl, hb, hN⟩ := hrel
    by_cases hlt : k < l.length
    · have hx : l[k]? = some l[k] := by simp [hlt]
      generalize l[k] = x at hx
      obtain ⟨sb, so, rfl, hcs⟩ := HA.out k x hx
      obtain ⟨c0, c1⟩ := hcs _ hb
      have HF := hid (hasFn_any x.n x.v n q wr (HQ.out _ hb))
      have ht := hasX_take (n := n) hx
      rw [hN.out] at ht
      have HO := hid (fun h => hasX_of (n := n) hx h)
      have hw := hb.size
      clear hcs hx
      cases he : (x.n == n) with
      | true =>
        rw [he] at HF
        have HT := hid (HO.out he)
        clear he ht
        go_wp2_with (go_at_call 82; (with_reducible refine HF.out.mono ?_); rintro e w2 ⟨rfl, hb2⟩)
        go_ret
        exact ⟨⟨_, rfl, by omega, by rw [HT.out]; simp⟩, hb.trans (hb2.mono hw)⟩
      | false =>
        rw [he] at HF
        have HT : Hid (hasX (l.take (k + 1)) n = false) := hid (by rw [ht, he]; rfl)
        clear he ht
        go_wp2_with (go_at_call 82; (with_reducible refine HF.out.mono ?_); rintro e w2 ⟨rfl, hb2⟩)
        go_roundw
        case rel => exact ⟨k + 1, by omega, by go_num, hb.trans (hb2.mono hw), HT⟩
        case measure => simp [intOf]; omega
    · have HT : Hid (hasX l n = false) := hid (by have := hN.out; rw [List.take_of_length_le (by omega)] at this; exact this)
      go_wp2
      go_ret
      exact ⟨⟨-1, rfl, by omega, by rw [HT.out]; rfl⟩, hb⟩
set_option maxHeartbeats 1000000 in
theorem hasCf_any {w : World} {v : Value} {l : List AtX} (hv : RAt atTy w v l) (hl : l.length ≤ 1000000) (n : List UInt8) (q : Nat) (hq : w.cell? ⟨q, 0, none⟩ = some (.string (mk n))) :
    Calls Tryz.prog 81 #[v, .func (.func 82) #[] #[.pointer (some ⟨q, 0, none⟩)]] w fun e w' => e = .returned (.bool (hasX l n)) ∧ Below w.heap.size w w' := by
  have H := hid (hasIx_any hv hl n q hq)
  clear hv hq
  go_enter Tryz.func81, Tryz.ntmps81
  go_wp2_with (go_at_call 102; (with_reducible refine H.out.mono ?_); rintro e w2 ⟨⟨i, rfl, hi, hd⟩, hb2⟩; have HD := hid hd; clear hd)
  go_ret
  exact ⟨ret_bool HD.out, hb2⟩
set_option maxHeartbeats 1000000 in
theorem has_any {w : World} {v : Value} {l : List AtX} (hv : RAt atTy w v l) (hl : l.length ≤ 1000000) (n : List UInt8) :
    Calls Tryz.prog 50 #[v, .string (mk n)] w fun e w' => e = .returned (.bool (hasX l n)) ∧ Below w.heap.size w w' := by
  have hb : Below w.heap.size w (w.alloc (.cells #[.string (mk n)] 9)) := (Below.refl _ _).alloc (Nat.le_refl _) _
  have ho : own (w.alloc (.cells #[.string (mk n)] 9)) w.heap.size #[.string (mk n)] 9 := own.new w _ _
  have H := hid (hasCf_any (hv.below hb) hl n w.heap.size (by rw [ho.cell]; rfl))
  have HB := hid hb
  clear hv hb ho
  go_enter Tryz.func50, Tryz.ntmps50
  go_wp2_with (go_at_call 81; (with_reducible refine H.out.mono ?_); rintro e w2 ⟨rfl, hb2⟩)
  go_ret
  exact ⟨rfl, HB.out.trans (hb2.mono HB.out.size)⟩
end Go.Proofs.YtjoeamlidmmioaaGreatDoor

