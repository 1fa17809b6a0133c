/-
  LAYER 6 (net), THE PROGRAM: a net in a set of blocks that has grown since the law began (PHas), apart from other blocks (X); every call of it, in those words; New, Flight.
-/
import Derived.Test.YtclkhkoappjgdaaNpOps
import Derived.Test.YtclkhkoappjgdaaNpTake
namespace Go.Proofs.Ytclkhkoappjgdaa
open Go.RowKit Go.Maps
set_option linter.unusedVariables false
set_option maxRecDepth 100000

/-- The net lies in the blocks F. -/
def PIs (w : World) (F : Nat → Prop) (r : Nat) (s : Nt) : Prop :=
  ∃ T lv fv, PNet w T r lv fv s ∧ F r ∧ (∀ b, lv.ownBlock = some b → F b) ∧ (∀ b, T b → F b) ∧ ∀ b, F b → b < w.heap.size
theorem PIs.same {w w' : World} {F : Nat → Prop} {r : Nat} {s : Nt} (h : PIs w F r s) (hz : w.heap.size ≤ w'.heap.size) (hs : ∀ b, F b → w'.heap[b]? = w.heap[b]?) : PIs w' F r s := by
  obtain ⟨T, lv, fv, hp, h1, h2, h3, h4⟩ := h
  exact ⟨T, lv, fv, hp.same hz (fun b e _ => by
    rcases e with e | e | e
    · exact hs b (by rw [e]; exact h1)
    · exact hs b (h2 b e)
    · exact hs b (h3 b e)), h1, h2, h3, fun b e => Nat.lt_of_lt_of_le (h4 b e) hz⟩
def Same (X : Nat → Prop) (w w' : World) : Prop := ∀ b, X b → w'.heap[b]? = w.heap[b]?
theorem Same.refl (X : Nat → Prop) (w : World) : Same X w w := fun _ _ => rfl
theorem Same.trans {X : Nat → Prop} {a b c : World} (h : Same X a b) (k : Same X b c) : Same X a c := fun x hx => (k x hx).trans (h x hx)
theorem Same.mono {X Y : Nat → Prop} {a b : World} (h : Same X a b) (k : ∀ b, Y b → X b) : Same Y a b := fun x hx => h x (k x hx)
/-- A net that was made since w0, apart from the blocks X. -/
structure PHas (w0 w : World) (X : Nat → Prop) (r : Nat) (s : Nt) : Prop where
  ex : ∃ F, PIs w F r s ∧ ∀ b, F b → w0.heap.size ≤ b ∧ ¬ X b
  below : Below w0.heap.size w0 w
  lt : ∀ b, X b → b < w.heap.size
theorem PHas.mono {w0 w : World} {X Y : Nat → Prop} {r : Nat} {s : Nt} (h : PHas w0 w X r s) (k : ∀ b, Y b → X b) : PHas w0 w Y r s := by
  obtain ⟨F, h1, h2⟩ := h.ex
  exact ⟨⟨F, h1, fun b e => ⟨(h2 b e).1, fun y => (h2 b e).2 (k b y)⟩⟩, h.below, fun b y => h.lt b (k b y)⟩
/-- Other blocks have turned, or were laid. -/
theorem PHas.turn {w0 w w' : World} {X Y : Nat → Prop} {r : Nat} {s : Nt} (h : PHas w0 w X r s) (hc : Chg X w w') (hb : Below w0.heap.size w0 w') (hY : ∀ b, Y b → (X b ∨ w.heap.size ≤ b) ∧ b < w'.heap.size) : PHas w0 w' Y r s := by
  obtain ⟨F, h1, h2⟩ := h.ex
  obtain ⟨T, lv, fv, hp, g1, g2, g3, g4⟩ := id h1
  refine ⟨⟨F, h1.same hc.size (fun b e => hc.block b (g4 b e) (h2 b e).2), fun b e => ⟨(h2 b e).1, fun y => ?_⟩⟩, hb, fun b y => (hY b y).2⟩
  rcases (hY b y).1 with k | k
  · exact (h2 b e).2 k
  · have := g4 b e; omega
theorem PHas.later {w0 w w' : World} {X : Nat → Prop} {r : Nat} {s : Nt} (h : PHas w0 w X r s) (hb : Below w.heap.size w w') : PHas w0 w' X r s :=
  h.turn (Chg.of_below hb) (h.below.trans (hb.mono h.below.size)) (fun b y => ⟨.inl y, Nat.lt_of_lt_of_le (h.lt b y) hb.size⟩)
theorem Same.of_below {w w' : World} {X : Nat → Prop} (hX : ∀ b, X b → b < w.heap.size) (hb : Below w.heap.size w w') : Same X w w' := fun b y => hb.block b (hX b y)
/-- What a call leaves. -/
structure PGo (w0 w w' : World) (X : Nat → Prop) (r : Nat) (s' : Nt) : Prop where
  has : PHas w0 w' X r s'
  same : Same X w w'
  size : w.heap.size ≤ w'.heap.size
theorem PHas.go {w0 w w' : World} {X : Nat → Prop} {r : Nat} {s : Nt} (h : PHas w0 w X r s) (hb : Below w.heap.size w w') : PGo w0 w w' X r s := ⟨h.later hb, Same.of_below h.lt hb, hb.size⟩
theorem PHas.call {w0 w : World} {X : Nat → Prop} {r : Nat} {s s' : Nt} {f : FuncId} {args : Array Value} {R : Ending → Prop} (h : PHas w0 w X r s)
    (hc : ∀ T lv fv, PNet w T r lv fv s → Calls Try.prog f args w fun e w' => R e ∧ ∃ T' lv' fv', PNet w' T' r lv' fv' s' ∧ Chg (fun b => b = r ∨ lv.ownBlock = some b) w w' ∧ (∀ b, lv'.ownBlock = some b → lv.ownBlock = some b ∨ (w.heap.size ≤ b ∧ b < w'.heap.size)) ∧ ∀ b, T' b → T b ∨ (w.heap.size ≤ b ∧ b < w'.heap.size)) :
    Calls Try.prog f args w fun e w' => R e ∧ PGo w0 w w' X r s' := by
  obtain ⟨F, ⟨T, lv, fv, hp, g1, g2, g3, g4⟩, h2⟩ := h.ex
  refine (hc T lv fv hp).mono ?_
  rintro e w' ⟨hR, T', lv', fv', hp', hch, hn1, hn2⟩
  have hz := hch.size
  have hcF : Chg F w w' := hch.mono (fun b e => by
    rcases e with e | e
    · rw [e]; exact g1
    · exact g2 b e)
  refine ⟨hR, ⟨⟨grow F w w', ⟨T', lv', fv', hp', .inl g1, fun b e => ?_, fun b e => ?_, grow_lt g4 hz⟩, fun b e => ?_⟩, ?_, fun b y => Nat.lt_of_lt_of_le (h.lt b y) hz⟩, fun b y => hcF.block b (h.lt b y) (fun hF => (h2 b hF).2 y), hz⟩
  · rcases hn1 b e with k | k
    · exact .inl (g2 b k)
    · exact .inr k
  · rcases hn2 b e with k | k
    · exact .inl (g3 b k)
    · exact .inr k
  · rcases e with e | e
    · exact h2 b e
    · exact ⟨by have := h.below.size; omega, fun y => by have := h.lt b y; omega⟩
  · exact h.below.trans (hcF.below h.below.size (fun b e => (h2 b e).1))
theorem PTurn.ex {w w' : World} {T : Nat → Prop} {r : Nat} {lv lv' fv : Value} {s' : Nt} (h : PTurn w w' T r lv lv' fv s') : ∃ T' lv' fv', PNet w' T' r lv' fv' s' ∧ Chg (fun b => b = r ∨ lv.ownBlock = some b) w w' ∧ (∀ b, lv'.ownBlock = some b → lv.ownBlock = some b ∨ (w.heap.size ≤ b ∧ b < w'.heap.size)) ∧ ∀ b, T' b → T b ∨ (w.heap.size ≤ b ∧ b < w'.heap.size) :=
  ⟨T, lv', fv, h.is, h.chg, h.new, fun b e => .inl e⟩
section
variable {w0 w : World} {X : Nat → Prop} {r : Nat} {s : Nt}
theorem PHas.net (h : PHas w0 w X r s) : ∃ T lv fv, PNet w T r lv fv s := by
  obtain ⟨F, ⟨T, lv, fv, hp, _⟩, _⟩ := h.ex
  exact ⟨T, lv, fv, hp⟩
theorem PHas.few (h : PHas w0 w X r s) : s.L.length ≤ 300 := by
  obtain ⟨T, lv, fv, hp⟩ := h.net
  exact hp.ll
theorem PHas.sane (h : PHas w0 w X r s) : ∀ x ∈ s.L, I64' x.fr ∧ I64' x.to_ := by
  obtain ⟨T, lv, fv, hp⟩ := h.net
  exact hp.sane
theorem PHas.rlt (h : PHas w0 w X r s) : w0.heap.size ≤ r ∧ r < w.heap.size ∧ ¬ X r := by
  obtain ⟨F, ⟨T, lv, fv, hp, g1, _, _, g4⟩, h2⟩ := h.ex
  exact ⟨(h2 r g1).1, g4 r g1, (h2 r g1).2⟩
theorem qSend (h : PHas w0 w X r s) (hlo : s.lost < 100000) {a b : Int} {d : ByteArray} (ha : I64' a) (hb : I64' b) :
    Calls Try.prog 12 #[.pointer (some ⟨r, 0, none⟩), .int .i64 a, .int .i64 b, .string d] w fun e w' => e = .returned (.tuple #[]) ∧ PGo w0 w w' X r (s.send ⟨a, b, d⟩) :=
  h.call (R := fun e => e = .returned (.tuple #[])) fun T lv fv hp => (pSend_any hp hlo a b d ⟨ha, hb⟩).mono fun e w' ⟨he, lv', ht⟩ => ⟨he, ht.ex⟩
theorem qTake (h : PHas w0 w X r s) (k : Int) :
    Calls Try.prog 22 #[.pointer (some ⟨r, 0, none⟩), .int .i64 k] w fun e w' => e = .returned (.tuple #[.agg #[.int .i64 (takeN s k).2.1.fr, .int .i64 (takeN s k).2.1.to_, .string (takeN s k).2.1.dt], .bool (takeN s k).2.2]) ∧ PGo w0 w w' X r (takeN s k).1 := by
  refine h.call (R := fun e => e = .returned (.tuple #[.agg #[.int .i64 (takeN s k).2.1.fr, .int .i64 (takeN s k).2.1.to_, .string (takeN s k).2.1.dt], .bool (takeN s k).2.2])) fun T lv fv hp => ?_
  unfold takeN
  cases hk : ltAt s k with
  | none => exact (pTake_no hp (ltAt_none hk)).mono fun e w' ⟨he, hb⟩ => ⟨he, (PTurn.of_below hp hb).ex⟩
  | some q =>
    obtain ⟨n, x⟩ := q
    obtain ⟨hn, hx, rfl⟩ := ltAt_some hk
    by_cases ha : s.apart x.fr x.to_ = true
    · simp only [ha, if_true]
      exact (pTake_apart hp hn hx ha).mono fun e w' ⟨he, hb⟩ => ⟨he, (PTurn.of_below hp hb).ex⟩
    · simp only [ha]
      exact (pTake_yes hp hn hx (by simpa using ha)).mono fun e w' ⟨he, lv', ht⟩ => ⟨he, ht.ex⟩
theorem qTwice (h : PHas w0 w X r s) (hlo : s.lost < 100000) (k : Int) :
    Calls Try.prog 25 #[.pointer (some ⟨r, 0, none⟩), .int .i64 k] w fun e w' => e = .returned (.bool (twiceN s k).2) ∧ PGo w0 w w' X r (twiceN s k).1 := by
  refine h.call (R := fun e => e = .returned (.bool (twiceN s k).2)) fun T lv fv hp => ?_
  unfold twiceN
  cases hk : ltAt s k with
  | none => exact (pTwice_no hp (ltAt_none hk)).mono fun e w' ⟨he, hb⟩ => ⟨he, (PTurn.of_below hp hb).ex⟩
  | some q =>
    obtain ⟨n, x⟩ := q
    obtain ⟨hn, hx, rfl⟩ := ltAt_some hk
    exact (pTwice_yes hp hn hx hlo).mono fun e w' ⟨he, lv', ht⟩ => ⟨he, ht.ex⟩
theorem qLose (h : PHas w0 w X r s) (hlo : s.lost < 100000) (k : Int) :
    Calls Try.prog 26 #[.pointer (some ⟨r, 0, none⟩), .int .i64 k] w fun e w' => e = .returned (.bool (loseN s k).2) ∧ PGo w0 w w' X r (loseN s k).1 := by
  refine h.call (R := fun e => e = .returned (.bool (loseN s k).2)) fun T lv fv hp => ?_
  unfold loseN
  cases hk : ltAt s k with
  | none => exact (pLose_no hp (ltAt_none hk)).mono fun e w' ⟨he, hb⟩ => ⟨he, (PTurn.of_below hp hb).ex⟩
  | some q =>
    obtain ⟨n, x⟩ := q
    obtain ⟨hn, hx, rfl⟩ := ltAt_some hk
    exact (pLose_yes hp hn hlo).mono fun e w' ⟨he, lv', ht⟩ => ⟨he, ht.ex⟩
theorem qLate (h : PHas w0 w X r s) (hlo : s.lost < 100000) (k : Int) :
    Calls Try.prog 24 #[.pointer (some ⟨r, 0, none⟩), .int .i64 k] w fun e w' => e = .returned (.bool (lateN s k).2) ∧ PGo w0 w w' X r (lateN s k).1 := by
  refine h.call (R := fun e => e = .returned (.bool (lateN s k).2)) fun T lv fv hp => ?_
  unfold lateN
  cases hk : ltAt s k with
  | none => exact (pLate_no hp (ltAt_none hk)).mono fun e w' ⟨he, hb⟩ => ⟨he, (PTurn.of_below hp hb).ex⟩
  | some q =>
    obtain ⟨n, x⟩ := q
    obtain ⟨hn, hx, rfl⟩ := ltAt_some hk
    exact (pLate_yes hp hn hx hlo).mono fun e w' ⟨he, lv', ht⟩ => ⟨he, ht.ex⟩
theorem qWhole (h : PHas w0 w X r s) :
    Calls Try.prog 23 #[.pointer (some ⟨r, 0, none⟩)] w fun e w' => e = .returned (.tuple #[]) ∧ PGo w0 w w' X r { s with G := [] } :=
  h.call (R := fun e => e = .returned (.tuple #[])) fun T lv fv hp => (pWhole_any hp).mono fun e w' ⟨he, ht⟩ => ⟨he, ht.ex⟩
theorem qSplit (h : PHas w0 w X r s) {gv : Value} {G : List Int} (hg : RAt numTy w gv G) (hx : ∀ n ∈ G, I64' n) (hl : G.length ≤ 1000) :
    Calls Try.prog 21 #[.pointer (some ⟨r, 0, none⟩), gv] w fun e w' => e = .returned (.tuple #[]) ∧ PGo w0 w w' X r { s with G := G } :=
  h.call (R := fun e => e = .returned (.tuple #[])) fun T lv fv hp => (pSplit_any hp hg hx hl).mono fun e w' ⟨he, T', fv', h1, h2, h3⟩ => ⟨he, T', lv, fv', h1, h2.mono (fun b e => .inl e), fun b e => .inl e, fun b e => .inr (h3 b e)⟩
theorem qApart (h : PHas w0 w X r s) {a b : Int} (ha : I64' a) (hb : I64' b) :
    Calls Try.prog 19 #[.pointer (some ⟨r, 0, none⟩), .int .i64 a, .int .i64 b] w fun e w' => e = .returned (.bool (s.apart a b)) ∧ PGo w0 w w' X r s := by
  obtain ⟨T, lv, fv, hp⟩ := h.net
  exact (pApart_any hp ha hb).mono fun e w' ⟨he, hb⟩ => ⟨he, h.go hb⟩
theorem qLost (h : PHas w0 w X r s) :
    Calls Try.prog 17 #[.pointer (some ⟨r, 0, none⟩)] w fun e w' => e = .returned (.int .i64 (s.lost : Int)) ∧ w = w' := by
  obtain ⟨T, lv, fv, hp⟩ := h.net
  exact pLost_any hp
end
end Go.Proofs.Ytclkhkoappjgdaa
