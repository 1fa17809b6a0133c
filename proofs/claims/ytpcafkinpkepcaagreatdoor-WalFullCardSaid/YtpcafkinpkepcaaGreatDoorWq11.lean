import Derived.Test.YtpcafkinpkepcaaGreatDoorWq10
/-
  Wq11: WlMath, in one text.
-/
/-
  LAYER 3 (wal), THE PLAIN MATHEMATICS: entries, records and their bytes, what is read of bytes, what records make of a log.
-/
namespace Go.Proofs.YtpcafkinpkepcaaGreatDoor
open Go.RowKit
set_option linter.unusedVariables false
set_option maxRecDepth 100000

structure En where
  idx : Int
  term : Int
  kind : Int
  data : List UInt8
  deriving DecidableEq
structure Hd where
  term : Int
  vote : Int
  deriving DecidableEq
def I64 (n : Int) : Prop := -9223372036854775808 ≤ n ∧ n ≤ 9223372036854775807
structure En.In (e : En) : Prop where
  idx : I64 e.idx
  term : I64 e.term
  kind : I64 e.kind
def entB (e : En) : Bool := decide (1 ≤ e.idx ∧ 0 ≤ e.term ∧ 1 ≤ e.kind ∧ e.kind ≤ 3)
def hdB (h : Hd) : Bool := decide (0 ≤ h.term ∧ 0 ≤ h.vote)

inductive Rc where
  | hard (h : Hd)
  | entry (e : En)
  | reset

/-! ### bytes -/
def payL : Rc → List UInt8
  | .hard h => encs [1, h.term, h.vote]
  | .entry e => encs [2, e.idx, e.term, e.kind] ++ txt e.data
  | .reset => encs [3]
def rcL (r : Rc) : List UInt8 := frameL (payL r)
def rcsL (l : List Rc) : List UInt8 := l.flatMap rcL

/-- Numbers off the beginning. -/
def cutN : Nat → List UInt8 → Option (List Int × List UInt8)
  | 0, l => some ([], l)
  | n + 1, l => match toInt l with
    | none => none
    | some (v, r) => match cutN n r with
      | none => none
      | some (vs, r2) => some (unz v :: vs, r2)
def decH (l : List UInt8) : Option Hd := match cutN 2 l with
  | some ([a, b], r) => if r = [] ∧ hdB ⟨a, b⟩ = true then some ⟨a, b⟩ else none
  | _ => none
def decE (l : List UInt8) : Option En := match cutN 3 l with
  | some ([a, b, c], r) => match toText r with
    | some (t, r2) => if r2 = [] ∧ entB ⟨a, b, c, t⟩ = true then some ⟨a, b, c, t⟩ else none
    | none => none
  | _ => none
def decR (p : List UInt8) : Option Rc := match toInt p with
  | none => none
  | some (k, r) => if unz k = 1 then (decH r).map .hard else if unz k = 2 then (decE r).map .entry else if unz k = 3 then (if r = [] then some .reset else none) else none

theorem cutN_length : ∀ {n : Nat} {l : List UInt8} {vs : List Int} {r : List UInt8}, cutN n l = some (vs, r) → vs.length = n
  | 0, l, vs, r, h => by simp only [cutN, Option.some.injEq, Prod.mk.injEq] at h; rw [← h.1]; rfl
  | n + 1, l, vs, r, h => by
    unfold cutN at h
    split at h
    · cases h
    · split at h
      · cases h
      · rename_i vs' r2 h2
        simp only [Option.some.injEq, Prod.mk.injEq] at h
        rw [← h.1, List.length_cons, cutN_length h2]
theorem cutN_encs : ∀ (vs : List Int) (t : List UInt8), (∀ v ∈ vs, I64 v) → cutN vs.length (encs vs ++ t) = some (vs, t)
  | [], t, _ => by simp [cutN, encs]
  | v :: vs, t, h => by
    have h1 := h v (by simp)
    have e : encs (v :: vs) ++ t = enc (nat64 v) ++ (encs vs ++ t) := by simp [encs]
    simp only [List.length_cons, cutN]
    rw [e, toInt_enc (nat64_lt h1.1 h1.2)]
    simp only
    rw [cutN_encs vs t (fun x hx => h x (by simp [hx]))]
    simp [unz_nat64]
theorem cutN_sound : ∀ {n : Nat} {l : List UInt8} {vs : List Int} {r : List UInt8}, cutN n l = some (vs, r) → l = encs vs ++ r ∧ ∀ v ∈ vs, I64 v
  | 0, l, vs, r, h => by simp only [cutN, Option.some.injEq, Prod.mk.injEq] at h; obtain ⟨rfl, rfl⟩ := h; exact ⟨rfl, fun v hv => by cases hv⟩
  | n + 1, l, vs, r, h => by
    unfold cutN at h
    split at h
    · cases h
    · rename_i v r1 h1
      split at h
      · cases h
      · rename_i vs' r2 h2
        simp only [Option.some.injEq, Prod.mk.injEq] at h
        obtain ⟨rfl, rfl⟩ := h
        obtain ⟨s1, s2⟩ := toInt_sound h1
        obtain ⟨s3, s4⟩ := cutN_sound h2
        refine ⟨?_, fun x hx => ?_⟩
        · rw [s2, s3]; simp [encs, nat64_unz]
        · rcases List.mem_cons.1 hx with rfl | hx
          · exact unz_lo s1
          · exact s4 x hx

def Rc.Fits : Rc → Prop
  | .hard h => hdB h = true ∧ I64 h.term ∧ I64 h.vote
  | .entry e => entB e = true ∧ e.In ∧ e.data.length ≤ 9223372036854775807
  | .reset => True
theorem decH_enc (h : Hd) (hb : hdB h = true) (ht : I64 h.term) (hv : I64 h.vote) : decH (encs [h.term, h.vote]) = some h := by
  unfold decH
  have := cutN_encs [h.term, h.vote] [] (by simp [ht, hv])
  simp only [List.append_nil, List.length_cons, List.length_nil] at this
  rw [this]
  simp [hb]
theorem decE_enc (e : En) (hb : entB e = true) (hi : e.In) (hd : e.data.length ≤ 9223372036854775807) : decE (encs [e.idx, e.term, e.kind] ++ txt e.data) = some e := by
  unfold decE
  have := cutN_encs [e.idx, e.term, e.kind] (txt e.data) (by simp [hi.idx, hi.term, hi.kind])
  simp only [List.length_cons, List.length_nil] at this
  rw [this]
  simp only
  have h2 := toText_txt e.data [] hd
  rw [List.append_nil] at h2
  rw [h2]
  simp [hb]
theorem decR_pay (r : Rc) (h : r.Fits) : decR (payL r) = some r := by
  have key : ∀ (k : Int) (t : List UInt8), I64 k → toInt (enc (nat64 k) ++ t) = some (nat64 k, t) := fun k t hk => toInt_enc (nat64_lt hk.1 hk.2) t
  cases r with
  | hard h' =>
    obtain ⟨h1, h2, h3⟩ := h
    have e : payL (.hard h') = enc (nat64 1) ++ encs [h'.term, h'.vote] := by simp [payL, encs]
    unfold decR
    rw [e, key 1 _ ⟨by omega, by omega⟩]
    simp only [unz_nat64, if_true]
    rw [decH_enc h' h1 h2 h3]; rfl
  | entry e' =>
    obtain ⟨h1, h2, h3⟩ := h
    have e : payL (.entry e') = enc (nat64 2) ++ (encs [e'.idx, e'.term, e'.kind] ++ txt e'.data) := by simp [payL, encs]
    unfold decR
    rw [e, key 2 _ ⟨by omega, by omega⟩]
    simp only [unz_nat64]
    rw [if_neg (by omega), if_pos trivial, decE_enc e' h1 h2 h3]; rfl
  | reset =>
    have e : payL .reset = enc (nat64 3) ++ [] := by simp [payL, encs]
    unfold decR
    rw [e, key 3 _ ⟨by omega, by omega⟩]
    simp only [unz_nat64]
    rw [if_neg (by omega), if_neg (by omega), if_pos trivial, if_pos trivial]
/-- Bytes that are read as a record are that record's. -/
theorem decR_sound {p : List UInt8} {r : Rc} (hp : p.length ≤ 65536) (h : decR p = some r) : p = payL r ∧ r.Fits := by
  unfold decR at h
  split at h
  · cases h
  · rename_i k rest hk
    obtain ⟨s1, s2⟩ := toInt_sound hk
    have hke : enc k = enc (nat64 (unz k)) := by rw [nat64_unz]
    split at h
    · rename_i h1
      cases hd : decH rest with
      | none => rw [hd] at h; cases h
      | some h' =>
        rw [hd] at h
        obtain rfl := Option.some.inj h
        unfold decH at hd
        split at hd
        · rename_i a b r2 hc
          split at hd
          · rename_i hcond
            obtain rfl := Option.some.inj hd
            obtain ⟨c1, c2⟩ := cutN_sound hc
            rw [hcond.1, List.append_nil] at c1
            refine ⟨?_, hcond.2, c2 a (by simp), c2 b (by simp)⟩
            rw [s2, hke, h1, c1]; simp [payL, encs]
          · cases hd
        · cases hd
    · split at h
      · rename_i h1 h2
        cases hd : decE rest with
        | none => rw [hd] at h; cases h
        | some e' =>
          rw [hd] at h
          obtain rfl := Option.some.inj h
          unfold decE at hd
          split at hd
          · rename_i a b c r2 hc
            split at hd
            · rename_i t r3 ht
              split at hd
              · rename_i hcond
                obtain rfl := Option.some.inj hd
                obtain ⟨c1, c2⟩ := cutN_sound hc
                have htx : r2 = txt t ++ r3 ∧ t.length ≤ r2.length := by
                  unfold toText at ht
                  split at ht
                  · cases ht
                  · rename_i v rr hv
                    split at ht
                    · cases ht
                    · rename_i hcc
                      simp only [Option.some.injEq, Prod.mk.injEq] at ht
                      obtain ⟨q1, q2⟩ := toInt_sound hv
                      obtain ⟨rfl, rfl⟩ := ht
                      have hl : (rr.take (unz v).toNat).length = (unz v).toNat := by rw [List.length_take]; omega
                      refine ⟨?_, ?_⟩
                      · rw [q2]
                        unfold txt
                        rw [hl, List.append_assoc, List.take_append_drop]
                        rw [show (((unz v).toNat : Nat) : Int) = unz v by omega, nat64_unz]
                      · rw [hl, q2, List.length_append]; omega
                rw [hcond.1, List.append_nil] at htx
                have hl : t.length ≤ 65536 := by
                  have : r2.length ≤ p.length := by rw [s2, c1, List.length_append, List.length_append]; omega
                  omega
                refine ⟨?_, hcond.2, ⟨c2 a (by simp), c2 b (by simp), c2 c (by simp)⟩, by show t.length ≤ _; omega⟩
                rw [s2, hke, h2, c1, htx.1]; simp [payL, encs]
              · cases hd
            · cases hd
          · cases hd
      · split at h
        · rename_i h1 h2 h3
          split at h
          · rename_i h4
            obtain rfl := Option.some.inj h
            refine ⟨?_, trivial⟩
            rw [s2, hke, h3, h4]; simp [payL, encs]
          · cases h
        · cases h

/-! ### what is read of a segment -/
def scanL (l : List UInt8) : List Rc × Nat × Int :=
  if l = [] then ([], 0, 0) else
  if (unframe l).2.2 = 9 then ([], 0, 9) else
  match decR (unframe l).1 with
  | none => ([], 0, 8)
  | some r => if h : 0 < (unframe l).2.1 ∧ l ≠ [] then (r :: (scanL (l.drop (unframe l).2.1)).1, (unframe l).2.1 + (scanL (l.drop (unframe l).2.1)).2.1, (scanL (l.drop (unframe l).2.1)).2.2) else ([], 0, 8)
termination_by l.length
decreasing_by all_goals (simp; have := List.length_pos_iff.2 h.2; omega)
theorem scanL_nil : scanL [] = ([], 0, 0) := by rw [scanL]; simp
theorem scanL_sum {l : List UInt8} (h0 : l ≠ []) (h : (unframe l).2.2 = 9) : scanL l = ([], 0, 9) := by rw [scanL, if_neg h0, if_pos h]
theorem scanL_none {l : List UInt8} (h0 : l ≠ []) (h : (unframe l).2.2 ≠ 9) (hd : decR (unframe l).1 = none) : scanL l = ([], 0, 8) := by rw [scanL, if_neg h0, if_neg h, hd]
theorem decR_nil : decR [] = none := by decide
/-- A record that is read has bytes. -/
theorem decR_frame {l : List UInt8} {r : Rc} (hd : decR (unframe l).1 = some r) : ∃ p, unframe l = (p, 8 + p.length, 0) ∧ 8 + p.length ≤ l.length ∧ rcL r = l.take (8 + p.length) ∧ p = payL r ∧ r.Fits ∧ p.length ≤ 65536 := by
  rcases unframe_cases l with ⟨e, h1, _⟩ | ⟨p, h1, h2, h3, h4⟩
  · rw [h1, decR_nil] at hd; cases hd
  · rw [h1] at hd
    obtain ⟨h5, h6⟩ := decR_sound h2 hd
    exact ⟨p, h1, h3, by rw [← h4, h5]; rfl, h5, h6, h2⟩
theorem scanL_some {l : List UInt8} {r : Rc} (hd : decR (unframe l).1 = some r) : ∃ n, (unframe l).2.1 = n ∧ 8 ≤ n ∧ n ≤ l.length ∧ rcL r = l.take n ∧ r.Fits ∧ (unframe l).2.2 = 0 ∧ scanL l = (r :: (scanL (l.drop n)).1, n + (scanL (l.drop n)).2.1, (scanL (l.drop n)).2.2) := by
  obtain ⟨p, h1, h2, h3, h4, h5, _⟩ := decR_frame hd
  have hne : l ≠ [] := fun e => by rw [e] at h2; simp at h2
  refine ⟨8 + p.length, by rw [h1], by omega, h2, h3, h5, by rw [h1], ?_⟩
  rw [scanL, if_neg hne, if_neg (by rw [h1]; show (0 : Nat) ≠ 9; decide), hd, h1]
  simp only
  rw [dif_pos ⟨by omega, hne⟩]
theorem scanL_le : ∀ (n : Nat) (l : List UInt8), l.length ≤ n → (scanL l).2.1 ≤ l.length ∧ rcsL (scanL l).1 = l.take (scanL l).2.1 ∧ (∀ r ∈ (scanL l).1, r.Fits) ∧ ((scanL l).2.2 = 0 → (scanL l).2.1 = l.length) ∧ ((scanL l).2.2 = 0 ∨ (scanL l).2.2 = 8 ∨ (scanL l).2.2 = 9) ∧ ((scanL l).2.2 ≠ 0 → (scanL l).2.1 < l.length)
  | 0, l, h => by
    have : l = [] := List.length_eq_zero_iff.1 (by omega)
    subst this
    rw [scanL_nil]; simp [rcsL]
  | n + 1, l, h => by
    by_cases h0 : l = []
    · subst h0; rw [scanL_nil]; simp [rcsL]
    · have hpos := List.length_pos_iff.2 h0
      by_cases h9 : (unframe l).2.2 = 9
      · rw [scanL_sum h0 h9]; simp [rcsL]; exact hpos
      · cases hd : decR (unframe l).1 with
        | none => rw [scanL_none h0 h9 hd]; simp [rcsL]; exact hpos
        | some r =>
          obtain ⟨m, _, h8, hm, hr, hf, _, hs⟩ := scanL_some hd
          have hlen : (l.drop m).length = l.length - m := List.length_drop
          obtain ⟨i1, i2, i3, i4, i5, i6⟩ := scanL_le n (l.drop m) (by omega)
          rw [hs]
          simp only
          refine ⟨by omega, ?_, ?_, fun e => by have := i4 e; omega, i5, fun e => by have := i6 e; omega⟩
          · show rcL r ++ rcsL _ = _
            rw [hr, i2, List.take_add]
          · intro x hx
            rcases List.mem_cons.1 hx with rfl | hx
            · exact hf
            · exact i3 x hx
/-- Records behind one another are read one by one, whatever stands behind them. -/
theorem scanL_rc {r : Rc} (hf : r.Fits) (hl : (payL r).length ≤ 65536) (t : List UInt8) : scanL (rcL r ++ t) = (r :: (scanL t).1, (rcL r).length + (scanL t).2.1, (scanL t).2.2) := by
  have h1 := unframe_frame (payL r) t hl
  have hd : decR (unframe (rcL r ++ t)).1 = some r := by rw [show rcL r = frameL (payL r) from rfl, h1]; exact decR_pay r hf
  obtain ⟨n, hn, _, _, _, _, _, hs⟩ := scanL_some hd
  have hn2 : n = (rcL r).length := by rw [← hn, show rcL r = frameL (payL r) from rfl, h1, frameL_length]
  rw [hs, hn2, List.drop_left]
theorem scanL_rcs : ∀ (l : List Rc) (t : List UInt8), (∀ r ∈ l, r.Fits ∧ (payL r).length ≤ 65536) → scanL (rcsL l ++ t) = (l ++ (scanL t).1, (rcsL l).length + (scanL t).2.1, (scanL t).2.2)
  | [], t, _ => by simp [rcsL]
  | r :: l, t, h => by
    have e : rcsL (r :: l) ++ t = rcL r ++ (rcsL l ++ t) := by simp [rcsL]
    obtain ⟨h1, h2⟩ := h r (by simp)
    rw [e, scanL_rc h1 h2, scanL_rcs l t (fun x hx => h x (by simp [hx]))]
    simp [rcsL]
    omega

/-! ### what records make of a log -/
structure Lg where
  hd : Hd
  L : List En
def lastI (L : List En) : Int := (L.getLast?.map En.idx).getD 0
def firstI (L : List En) : Int := (L.head?.map En.idx).getD 0
/-- How many entries stay ahead of one that is put in. -/
def aheadE (L : List En) (i : Int) : Nat := if L = [] ∨ IntKind.i64.wrap (lastI L + 1) < i ∨ i < firstI L then 0 else (i - firstI L).toNat
def putE (L : List En) (e : En) : List En := L.take (aheadE L e.idx) ++ [e]
def takeR (s : Lg) : Rc → Lg
  | .hard h => { s with hd := h }
  | .entry e => { s with L := putE s.L e }
  | .reset => { s with L := [] }
def takeRs (s : Lg) (l : List Rc) : Lg := l.foldl takeR s
/-- Entries without gaps. -/
def Consec (L : List En) : Prop := ∀ k (h : k < L.length), (L[k]'h).idx = firstI L + k
structure Lg.Ok (s : Lg) : Prop where
  hd : hdB s.hd = true ∧ I64 s.hd.term ∧ I64 s.hd.vote
  row : Consec s.L
  ents : ∀ e ∈ s.L, entB e = true ∧ e.In
theorem firstI_cons (e : En) (L : List En) : firstI (e :: L) = e.idx := rfl
theorem lastI_get {L : List En} (h : L ≠ []) : lastI L = (L[L.length - 1]'(by have := List.length_pos_iff.2 h; omega)).idx := by
  unfold lastI
  rw [List.getLast?_eq_getElem?, List.getElem?_eq_getElem (by have := List.length_pos_iff.2 h; omega)]
  rfl
theorem Consec.last {L : List En} (h : Consec L) (h0 : L ≠ []) : lastI L = firstI L + (L.length : Int) - 1 := by
  have hp := List.length_pos_iff.2 h0
  rw [lastI_get h0, h _ (by omega)]; omega
theorem wrap_succ {n : Int} (h : I64 n) : IntKind.i64.wrap (n + 1) = if n = 9223372036854775807 then -9223372036854775808 else n + 1 := by
  obtain ⟨h1, h2⟩ := h
  by_cases he : n = 9223372036854775807
  · subst he; decide
  · rw [if_neg he]
    exact IntWalk.i64_in _ (by omega)
theorem aheadE_le {L : List En} (hc : Consec L) (hi : ∀ e ∈ L, e.In) (i : Int) : aheadE L i ≤ L.length ∧ (L = [] ∨ aheadE L i = 0 ∨ i = firstI L + (aheadE L i : Int)) := by
  unfold aheadE
  by_cases h0 : L = []
  · rw [if_pos (.inl h0)]; exact ⟨Nat.zero_le _, .inl h0⟩
  · have hl := hc.last h0
    have hp := List.length_pos_iff.2 h0
    have hin : I64 (lastI L) := by rw [lastI_get h0]; exact (hi _ (List.getElem_mem _)).idx
    split
    · exact ⟨Nat.zero_le _, .inr (.inl rfl)⟩
    · rename_i h
      rw [wrap_succ hin] at h
      have h1 : ¬ i < firstI L := fun e => h (.inr (.inr e))
      have h2 : i ≤ lastI L + 1 := by
        by_cases he : lastI L = 9223372036854775807
        · rw [if_pos he] at h
          have : ¬ -9223372036854775808 < i := fun e => h (.inr (.inl e))
          have := hin.1
          omega
        · rw [if_neg he] at h
          have : ¬ lastI L + 1 < i := fun e => h (.inr (.inl e))
          omega
      exact ⟨by omega, .inr (.inr (by omega))⟩
theorem firstI_take {L : List En} {k : Nat} (hk : 0 < k) : firstI (L.take k) = firstI L := by
  cases L with
  | nil => simp
  | cons e r => cases k with
    | zero => omega
    | succ k => rfl
theorem putE_ok {L : List En} (hc : Consec L) (hi : ∀ e ∈ L, entB e = true ∧ e.In) {e : En} (he : entB e = true) (hei : e.In) : Consec (putE L e) ∧ ∀ x ∈ putE L e, entB x = true ∧ x.In := by
  obtain ⟨h1, h2⟩ := aheadE_le hc (fun x hx => (hi x hx).2) e.idx
  refine ⟨fun k hk => ?_, fun x hx => ?_⟩
  · unfold putE at hk ⊢
    have hlt : (L.take (aheadE L e.idx)).length = aheadE L e.idx := by rw [List.length_take]; omega
    by_cases h0 : aheadE L e.idx = 0
    · simp only [h0, List.take_zero, List.nil_append, List.length_singleton] at hk ⊢
      have hk0 : k = 0 := by omega
      subst hk0
      simp [firstI]
    · have hne : L ≠ [] := fun h => h0 (by rw [h] at h1 ⊢; exact Nat.le_zero.1 h1)
      have h3 : e.idx = firstI L + (aheadE L e.idx : Int) := by
        rcases h2 with h2 | h2 | h2
        · exact absurd h2 hne
        · exact absurd h2 h0
        · exact h2
      have hf : firstI (L.take (aheadE L e.idx) ++ [e]) = firstI L := by
        rw [← firstI_take (L := L) (k := aheadE L e.idx) (by omega)]
        unfold firstI
        rw [List.head?_append]
        cases hh : (L.take (aheadE L e.idx)).head? with
        | none =>
          rw [List.head?_eq_none_iff] at hh
          rw [hh] at hlt; simp at hlt; omega
        | some x => rfl
      rw [hf]
      by_cases hk2 : k < aheadE L e.idx
      · rw [List.getElem_append_left (by omega), List.getElem_take]
        exact hc k (by omega)
      · have hke : k = aheadE L e.idx := by simp at hk; omega
        subst hke
        rw [List.getElem_append_right (by omega)]
        simp only [hlt, Nat.sub_self, List.getElem_cons_zero]
        exact h3
  · unfold putE at hx
    rcases List.mem_append.1 hx with hx | hx
    · exact hi x (List.mem_of_mem_take hx)
    · rw [List.mem_singleton.1 hx]; exact ⟨he, hei⟩
theorem takeR_ok {s : Lg} (h : s.Ok) {r : Rc} (hf : r.Fits) : (takeR s r).Ok := by
  cases r with
  | hard h' => exact ⟨⟨hf.1, hf.2.1, hf.2.2⟩, h.row, h.ents⟩
  | entry e =>
    obtain ⟨h1, h2⟩ := putE_ok h.row h.ents hf.1 hf.2.1
    exact ⟨h.hd, h1, h2⟩
  | reset => exact ⟨h.hd, fun k hk => by simp [takeR] at hk, fun e he => by simp [takeR] at he⟩
theorem takeRs_ok : ∀ {l : List Rc} {s : Lg}, s.Ok → (∀ r ∈ l, r.Fits) → (takeRs s l).Ok
  | [], _, h, _ => h
  | r :: l, s, h, hf => takeRs_ok (l := l) (takeR_ok h (hf r (by simp))) (fun x hx => hf x (by simp [hx]))
end Go.Proofs.YtpcafkinpkepcaaGreatDoor

