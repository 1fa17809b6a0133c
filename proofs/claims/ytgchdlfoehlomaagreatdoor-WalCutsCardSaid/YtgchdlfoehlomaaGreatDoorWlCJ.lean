import Derived.Test.YtgchdlfoehlomaaGreatDoorWlAJ
/-
  LAYER 3 (wal): records read: numbers cut off through pointers.
-/
namespace Go.Proofs.YtgchdlfoehlomaaGreatDoor
open Go.RowKit
set_option linter.unusedVariables false
set_option maxRecDepth 100000

def ptrs (b n : Nat) : Array Value := ((List.range n).map fun k => Value.pointer (some ⟨b, k, none⟩)).toArray
def intsV (is : List Int) (tl : List Value) : Array Value := (is.map (Value.int .i64) ++ tl).toArray
def cutV : Option (List Int × List UInt8) → Value
  | none => .tuple #[.string ⟨#[]⟩, .bool false]
  | some (_, r) => .tuple #[.string (mk r), .bool true]
def CutPost (w : World) (b : Nat) (tl : List Value) (T : TypeId) (n : Nat) (q : Option (List Int × List UInt8)) (e : Ending) (w' : World) : Prop :=
  e = .returned (cutV q) ∧ ∃ is : List Int, is.length = n ∧ (∀ vs r, q = some (vs, r) → is = vs) ∧ own w' b (intsV is tl) T ∧ Chg (fun x => x = b) w w'
theorem ptrs_get {b n k : Nat} (h : k < n) : (ptrs b n)[k]? = some (.pointer (some ⟨b, k, none⟩)) := by
  simp [ptrs, h]
theorem intsV_get {is : List Int} {tl : List Value} {k : Nat} (h : k < is.length) : (intsV is tl)[k]? = some (.int .i64 is[k]) := by
  simp [intsV, List.getElem?_append_left, h]
theorem intsV_set {is : List Int} {tl : List Value} {k : Nat} (h : k < is.length) (x : Int) : (intsV is tl).setIfInBounds k (.int .i64 x) = intsV (is.set k x) tl := by
  unfold intsV
  rw [List.setIfInBounds_toArray, List.set_append_left _ _ (by simpa using h), List.map_set]
/-- What is left to be cut. -/
def CutAt (q : Option (List Int × List UInt8)) (n k : Nat) (is : List Int) (rest : List UInt8) : Prop :=
  q = (match cutN (n - k) rest with | none => none | some (vs, r) => some (is.take k ++ vs, r))
theorem CutAt.done {q : Option (List Int × List UInt8)} {n : Nat} {is : List Int} {rest : List UInt8} (h : CutAt q n n is rest) (hl : is.length = n) : q = some (is, rest) := by
  unfold CutAt at h
  rw [Nat.sub_self] at h
  rw [h]
  simp only [cutN, List.append_nil]
  rw [List.take_of_length_le (by omega)]
theorem CutAt.fail {q : Option (List Int × List UInt8)} {n k : Nat} {is : List Int} {rest : List UInt8} (h : CutAt q n k is rest) (hk : k < n) (h0 : toInt rest = none) : q = none := by
  unfold CutAt at h
  obtain ⟨m, hm⟩ : ∃ m, n - k = m + 1 := ⟨n - k - 1, by omega⟩
  rw [hm] at h
  rw [h]; simp [cutN, h0]
theorem CutAt.step {q : Option (List Int × List UInt8)} {n k : Nat} {is : List Int} {rest r : List UInt8} {v : Nat} (h : CutAt q n k is rest) (hk : k < n) (hl : is.length = n) (h0 : toInt rest = some (v, r)) : CutAt q n (k + 1) (is.set k (unz v)) r := by
  unfold CutAt at *
  obtain ⟨m, hm⟩ : ∃ m, n - k = m + 1 := ⟨n - k - 1, by omega⟩
  rw [hm] at h
  rw [h, show n - (k + 1) = m by omega]
  simp only [cutN, h0]
  have ht : (is.set k (unz v)).take (k + 1) = is.take k ++ [unz v] := by
    rw [List.take_succ_eq_append_getElem (by rw [List.length_set]; omega), List.take_set_of_le (Nat.le_refl k)]
    simp
  cases cutN m r with
  | none => rfl
  | some p => obtain ⟨vs, r2⟩ := p; simp only; rw [ht]; simp

def CutRel (w : World) (b : Nat) (tl : List Value) (T : TypeId) (n : Nat) (q : Option (List Int × List UInt8)) (u0 u13 : Value) (wr : World) : Prop :=
  ∃ (k : Nat) (is : List Int) (rest : List UInt8), k ≤ n ∧ u13 = .int .i64 (k : Int) ∧ u0 = .string (mk rest) ∧ rest.length ≤ maxLen ∧ is.length = n ∧ CutAt q n k is rest ∧ own wr b (intsV is tl) T ∧ Chg (fun x => x = b) w wr
set_option maxHeartbeats 4000000 in
theorem cutNums_any (s : ByteArray) (n : Nat) (hn : n ≤ 100) (b gp : Nat) (T T2 : TypeId) (is0 : List Int) (tl : List Value) (w : World) (hgp : own w gp (ptrs b n) T2) (hb : own w b (intsV is0 tl) T) (hne : gp ≠ b) (hl : is0.length = n) (hs : s.size ≤ maxLen) :
    Calls Tryz.prog 146 #[.string s, .slice (some ⟨gp, 0, none⟩) n n] w (CutPost w b tl T n (cutN n s.data.toList)) := by
  have hst : CutAt (cutN n s.data.toList) n 0 is0 s.data.toList := by
    unfold CutAt
    rw [Nat.sub_zero]
    cases cutN n s.data.toList with
    | none => rfl
    | some p => rfl
  have HSt := hid hst
  have HGp := hid hgp
  have HB := hid hb
  have hsl : s.data.toList.length ≤ maxLen := hs
  clear hst hgp hb
  generalize cutN n s.data.toList = q at *
  go_enter Tryz.func146, Tryz.ntmps146
  go_wp2
  go_loopw [0, 13] (CutRel w b tl T n q) (fun _ i _ => n - (intOf i).toNat)
  case atStart => exact ⟨0, is0, s.data.toList, Nat.zero_le _, rfl, rfl, hsl, hl, HSt.out, HB.out, Chg.refl _ _⟩
  case round =>
    obtain ⟨k, is, rest, hk, rfl, rfl, hrl, hil, hC, hO, hc⟩ := hrel
    by_cases hlt : k < n
    · have hp : wr.cell? ⟨gp, k, none⟩ = some (.pointer (some ⟨b, k, none⟩)) := ((HGp.out.chg hc hne).cell k).trans (ptrs_get hlt)
      have ci : wr.cell? ⟨b, k, none⟩ = some (.int .i64 (is[k]'(by omega))) := (hO.cell k).trans (intsV_get (by omega))
      have fi := hO.frozen k
      have hT := toInt_any (mk rest) wr (by rw [mk_size]; exact hrl)
      rw [mk_data] at hT
      have hkI : (k : Int) < (n : Int) := by omega
      have hO' := hid hO
      have hc' := hid hc
      generalize (is[k]'(by omega)) = old at *
      clear hO hc
      cases h0 : toInt rest with
      | none =>
        rw [h0] at hT
        have hq := hC.fail hlt h0
        have hfin : ∀ m, CutPost w b tl T n q (.returned (.tuple #[.string ⟨#[]⟩, .bool false])) (wr.drewN m) := fun m => ⟨by rw [hq]; rfl, is, hil, (fun vs r e => (by rw [hq] at e; cases e)), hO'.out, hc'.out.drewN m⟩
        have HF := hid hfin
        have HT : Hid (Calls Tryz.prog 105 #[.string (mk rest)] wr fun e w' => e = .returned (.tuple #[.int .i64 0, .string ⟨#[]⟩, .bool false]) ∧ ∃ m, w' = wr.drewN m) := hid hT
        clear hT hfin hq h0 hC
        generalize mk rest = rb at *
        go_wp2_with (go_at_call 105; (with_reducible refine HT.out.mono ?_); rintro e w1 ⟨rfl, m, rfl⟩)
        go_ret2
        exact HF.out _
      | some p =>
        obtain ⟨v, r⟩ := p
        rw [h0] at hT
        have hC' := hC.step hlt hil h0
        have hrr : r.length ≤ maxLen := by have := toInt_rest h0; omega
        have hfin : ∀ m, CutRel w b tl T n q (.string (mk r)) (.int .i64 ((k + 1 : Nat) : Int)) ((wr.drewN m).setCell ⟨b, k, none⟩ (.int .i64 (unz v))) := fun m => by
          refine ⟨k + 1, is.set k (unz v), r, hlt, rfl, rfl, hrr, by rw [List.length_set]; exact hil, hC', ?_, (hc'.out.drewN m).trans (Chg.setCell _ ⟨b, k, none⟩ _) (fun x e => .inl e)⟩
          have h1 : own (wr.drewN m) b (intsV is tl) T := hO'.out
          have := h1.set k (.int .i64 (unz v))
          rw [intsV_set (by omega)] at this
          exact this
        have HF := hid hfin
        have HT : Hid (Calls Tryz.prog 105 #[.string (mk rest)] wr fun e w' => e = .returned (.tuple #[.int .i64 (unz v), .string (mk r), .bool true]) ∧ ∃ m, w' = wr.drewN m) := hid hT
        clear hT hfin h0 hC hC' hrr
        generalize mk rest = rb at *
        generalize mk r = r' at *
        generalize unz v = z at *
        go_wp2_with (go_at_call 105; (with_reducible refine HT.out.mono ?_); rintro e w1 ⟨rfl, m, rfl⟩)
        go_roundw
        case rel => exact HF.out _
        case measure => simp [intOf]; omega
    · obtain rfl : k = n := by omega
      have hq := hC.done hil
      have hfin : CutPost w b tl T k q (.returned (.tuple #[.string (mk rest), .bool true])) wr := ⟨by rw [hq]; rfl, is, hil, (fun vs r e => (by rw [hq] at e; cases e; rfl)), hO, hc⟩
      have HF := hid hfin
      clear hfin hq hC hO hc
      generalize mk rest = rb at *
      go_wp2
      go_ret2
      exact HF.out
end Go.Proofs.YtgchdlfoehlomaaGreatDoor

