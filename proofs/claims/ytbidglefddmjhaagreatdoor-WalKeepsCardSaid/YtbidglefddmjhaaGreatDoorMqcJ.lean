import Derived.Test.YtbidglefddmjhaaGreatDoorMq5J
import Derived.Deep.RegionHeld3
import Derived.StillTailTactics
import Derived.RegionTactic
import Derived.BigRegion
/-
  LAYER 3 (wal): records read: numbers cut off through pointers.
-/
namespace Go.Proofs.YtbidglefddmjhaaGreatDoor
open Go.RowKit
set_option linter.unusedVariables false
set_option maxRecDepth 100000

def ptrs (b n : Nat) : Array Value := ((List.range n).map fun k => Value.pointer (some ⟨b, k, none⟩)).toArray
def intsV (is : List Int) (tl : List Value) : Array Value := (is.map (Value.int .i64) ++ tl).toArray
def cutV : Option (List Int × List UInt8) → Value
  | none => .tuple #[.string ⟨#[]⟩, .bool false]
  | some (_, r) => .tuple #[.string (mk r), .bool true]
def CutPost (w : World) (b : Nat) (tl : List Value) (T : TypeId) (n : Nat) (q : Option (List Int × List UInt8)) (e : Ending) (w' : World) : Prop :=
  e = .returned (cutV q) ∧ ∃ is : List Int, is.length = n ∧ (∀ vs r, q = some (vs, r) → is = vs) ∧ own w' b (intsV is tl) T ∧ Chg (fun x => x = b) w w'
theorem ptrs_get {b n k : Nat} (h : k < n) : (ptrs b n)[k]? = some (.pointer (some ⟨b, k, none⟩)) := by
  simp [ptrs, h]
theorem intsV_get {is : List Int} {tl : List Value} {k : Nat} (h : k < is.length) : (intsV is tl)[k]? = some (.int .i64 is[k]) := by
  simp [intsV, List.getElem?_append_left, h]
theorem intsV_set {is : List Int} {tl : List Value} {k : Nat} (h : k < is.length) (x : Int) : (intsV is tl).setIfInBounds k (.int .i64 x) = intsV (is.set k x) tl := by
  unfold intsV
  rw [List.setIfInBounds_toArray, List.set_append_left _ _ (by simpa using h), List.map_set]
/-- What is left to be cut. -/
def CutAt (q : Option (List Int × List UInt8)) (n k : Nat) (is : List Int) (rest : List UInt8) : Prop :=
  q = (match cutN (n - k) rest with | none => none | some (vs, r) => some (is.take k ++ vs, r))
theorem CutAt.done {q : Option (List Int × List UInt8)} {n : Nat} {is : List Int} {rest : List UInt8} (h : CutAt q n n is rest) (hl : is.length = n) : q = some (is, rest) := by
  unfold CutAt at h
  rw [Nat.sub_self] at h
  rw [h]
  simp only [cutN, List.append_nil]
  rw [List.take_of_length_le (by omega)]
theorem CutAt.fail {q : Option (List Int × List UInt8)} {n k : Nat} {is : List Int} {rest : List UInt8} (h : CutAt q n k is rest) (hk : k < n) (h0 : toInt rest = none) : q = none := by
  unfold CutAt at h
  obtain ⟨m, hm⟩ : ∃ m, n - k = m + 1 := ⟨n - k - 1, by omega⟩
  rw [hm] at h
  rw [h]; simp [cutN, h0]
theorem CutAt.step {q : Option (List Int × List UInt8)} {n k : Nat} {is : List Int} {rest r : List UInt8} {v : Nat} (h : CutAt q n k is rest) (hk : k < n) (hl : is.length = n) (h0 : toInt rest = some (v, r)) : CutAt q n (k + 1) (is.set k (unz v)) r := by
  unfold CutAt at *
  obtain ⟨m, hm⟩ : ∃ m, n - k = m + 1 := ⟨n - k - 1, by omega⟩
  rw [hm] at h
  rw [h, show n - (k + 1) = m by omega]
  simp only [cutN, h0]
  have ht : (is.set k (unz v)).take (k + 1) = is.take k ++ [unz v] := by
    rw [List.take_succ_eq_append_getElem (by rw [List.length_set]; omega), List.take_set_of_le (Nat.le_refl k)]
    simp
  cases cutN m r with
  | none => rfl
  | some p => obtain ⟨vs, r2⟩ := p; simp only; rw [ht]; simp

def CutRel (w : World) (b : Nat) (tl : List Value) (T : TypeId) (n : Nat) (q : Option (List Int × List UInt8)) (u0 u13 : Value) (wr : World) : Prop :=
  ∃ (k : Nat) (is : List Int) (rest : List UInt8), k ≤ n ∧ u13 = .int .i64 (k : Int) ∧ u0 = .string (mk rest) ∧ rest.length ≤ maxLen ∧ is.length = n ∧ CutAt q n k is rest ∧ own wr b (intsV is tl) T ∧ Chg (fun x => x = b) w wr
set_option maxHeartbeats 4000000 in
theorem cutNums_any (s : ByteArray) (n : Nat) (hn : n ≤ 100) (b gp : Nat) (T T2 : TypeId) (is0 : List Int) (tl : List Value) (w : World) (hgp : own w gp (ptrs b n) T2) (hb : own w b (intsV is0 tl) T) (hne : gp ≠ b) (hl : is0.length = n) (hs : s.size ≤ maxLen) :
    Calls Tryz.prog 208 #[.string s, .slice (some ⟨gp, 0, none⟩) n n] w (CutPost w b tl T n (cutN n s.data.toList)) := by
  have hst : CutAt (cutN n s.data.toList) n 0 is0 s.data.toList := by
    unfold CutAt
    rw [Nat.sub_zero]
    cases cutN n s.data.toList with
    | none => rfl
    | some p => rfl
  have HSt := hid hst
  have HGp := hid hgp
  have HB := hid hb
  have hsl : s.data.toList.length ≤ maxLen := hs
  clear hst hgp hb
  generalize cutN n s.data.toList = q at *
  go_enter Tryz.func208, Tryz.ntmps208
  go_wp2
  go_loopw [0, 13] (CutRel w b tl T n q) (fun _ i _ => n - (intOf i).toNat)
  case atStart => exact ⟨0, is0, s.data.toList, Nat.zero_le _, rfl, rfl, hsl, hl, HSt.out, HB.out, Chg.refl _ _⟩
  case round =>
    obtain ⟨k, is, rest, hk, rfl, rfl, hrl, hil, hC, hO, hc⟩ := hrel
    by_cases hlt : k < n
    · have hp : wr.cell? ⟨gp, k, none⟩ = some (.pointer (some ⟨b, k, none⟩)) := ((HGp.out.chg hc hne).cell k).trans (ptrs_get hlt)
      have ci : wr.cell? ⟨b, k, none⟩ = some (.int .i64 (is[k]'(by omega))) := (hO.cell k).trans (intsV_get (by omega))
      have fi := hO.frozen k
      have hT := toInt_any (mk rest) wr (by rw [mk_size]; exact hrl)
      rw [mk_data] at hT
      have hkI : (k : Int) < (n : Int) := by omega
      have hO' := hid hO
      have hc' := hid hc
      generalize (is[k]'(by omega)) = old at *
      clear hO hc
      cases h0 : toInt rest with
      | none =>
        rw [h0] at hT
        have hq := hC.fail hlt h0
        have hfin : ∀ m, CutPost w b tl T n q (.returned (.tuple #[.string ⟨#[]⟩, .bool false])) (wr.drewN m) := fun m => ⟨by rw [hq]; rfl, is, hil, (fun vs r e => (by rw [hq] at e; cases e)), hO'.out, hc'.out.drewN m⟩
        have HF := hid hfin
        have HT : Hid (Calls Tryz.prog 181 #[.string (mk rest)] wr fun e w' => e = .returned (.tuple #[.int .i64 0, .string ⟨#[]⟩, .bool false]) ∧ ∃ m, w' = wr.drewN m) := hid hT
        clear hT hfin hq h0 hC
        generalize mk rest = rb at *
        go_wp2_with (go_at_call 181; (with_reducible refine HT.out.mono ?_); rintro e w1 ⟨rfl, m, rfl⟩)
        go_ret2
        exact HF.out _
      | some p =>
        obtain ⟨v, r⟩ := p
        rw [h0] at hT
        have hC' := hC.step hlt hil h0
        have hrr : r.length ≤ maxLen := by have := toInt_rest h0; omega
        have hfin : ∀ m, CutRel w b tl T n q (.string (mk r)) (.int .i64 ((k + 1 : Nat) : Int)) ((wr.drewN m).setCell ⟨b, k, none⟩ (.int .i64 (unz v))) := fun m => by
          refine ⟨k + 1, is.set k (unz v), r, hlt, rfl, rfl, hrr, by rw [List.length_set]; exact hil, hC', ?_, (hc'.out.drewN m).trans (Chg.setCell _ ⟨b, k, none⟩ _) (fun x e => .inl e)⟩
          have h1 : own (wr.drewN m) b (intsV is tl) T := hO'.out
          have := h1.set k (.int .i64 (unz v))
          rw [intsV_set (by omega)] at this
          exact this
        have HF := hid hfin
        have HT : Hid (Calls Tryz.prog 181 #[.string (mk rest)] wr fun e w' => e = .returned (.tuple #[.int .i64 (unz v), .string (mk r), .bool true]) ∧ ∃ m, w' = wr.drewN m) := hid hT
        clear hT hfin h0 hC hC' hrr
        generalize mk rest = rb at *
        generalize mk r = r' at *
        generalize unz v = z at *
        go_wp2_with (go_at_call 181; (with_reducible refine HT.out.mono ?_); rintro e w1 ⟨rfl, m, rfl⟩)
        go_roundw
        case rel => exact HF.out _
        case measure => simp [intOf]; omega
    · obtain rfl : k = n := by omega
      have hq := hC.done hil
      have hfin : CutPost w b tl T k q (.returned (.tuple #[.string (mk rest), .bool true])) wr := ⟨by rw [hq]; rfl, is, hil, (fun vs r e => (by rw [hq] at e; cases e; rfl)), hO, hc⟩
      have HF := hid hfin
      clear hfin hq hC hO hc
      generalize mk rest = rb at *
      go_wp2
      go_ret2
      exact HF.out
end Go.Proofs.YtbidglefddmjhaaGreatDoor

/-
  LAYER 3 (wal): records read: a hard state, an entry.
-/
namespace Go.Proofs.YtbidglefddmjhaaGreatDoor
open Go.RowKit
set_option linter.unusedVariables false
set_option maxRecDepth 100000

def HardOut (w : World) (q : Option Hd) (e : Ending) (w' : World) : Prop := ∃ h : Hd, e = .returned (.tuple #[.agg #[.int .i64 h.term, .int .i64 h.vote], .bool q.isSome]) ∧ (∀ h', q = some h' → h = h') ∧ Below w.heap.size w w'
theorem two_of {is : List Int} (h : is.length = 2) : ∃ a b, is = [a, b] := by
  match is, h with
  | [a, b], _ => exact ⟨a, b, rfl⟩
/-- What cutting leaves, as toHard's own words need it. -/
def HardCut (w : World) (q : Option Hd) (H : Nat) (e : Ending) (w' : World) : Prop :=
  ∃ a b : Int, own w' (H + 1) #[.int .i64 a, .int .i64 b] 50 ∧ own w' H #[.int .i64 0, .int .i64 0] 50 ∧ Below H w w' ∧ H + 2 < w'.heap.size ∧
    ((e = .returned (.tuple #[.string ⟨#[]⟩, .bool false]) ∧ q = none) ∨
     (∃ r : List UInt8, r ≠ [] ∧ e = .returned (.tuple #[.string (mk r), .bool true]) ∧ q = none) ∨
     (e = .returned (.tuple #[.string ⟨#[]⟩, .bool true]) ∧ q = if hdB ⟨a, b⟩ = true then some ⟨a, b⟩ else none))
theorem hardCut_any (s : ByteArray) (w : World) (hs : s.size ≤ maxLen) :
    Calls Tryz.prog 208 #[.string s, .slice (some ⟨w.heap.size + 1 + 1, 0, none⟩) 2 2]
      (((w.alloc (.cells #[.int .i64 0, .int .i64 0] 50)).alloc (.cells #[.int .i64 0, .int .i64 0] 50)).alloc (.cells #[.pointer (some ⟨w.heap.size + 1, 0, none⟩), .pointer (some ⟨w.heap.size + 1, 1, none⟩)] 237))
      (HardCut w (decH s.data.toList) w.heap.size) := by
  have z1 : (w.alloc (.cells #[.int .i64 0, .int .i64 0] 50)).heap.size = w.heap.size + 1 := by simp
  have z2 : ((w.alloc (.cells #[.int .i64 0, .int .i64 0] 50)).alloc (.cells #[.int .i64 0, .int .i64 0] 50)).heap.size = w.heap.size + 1 + 1 := by simp
  have o0 := own.new w #[.int .i64 0, .int .i64 0] 50
  have o1 := own.new (w.alloc (.cells #[.int .i64 0, .int .i64 0] 50)) #[.int .i64 0, .int .i64 0] 50
  rw [z1] at o1
  have o2 := own.new ((w.alloc (.cells #[.int .i64 0, .int .i64 0] 50)).alloc (.cells #[.int .i64 0, .int .i64 0] 50)) #[.pointer (some ⟨w.heap.size + 1, 0, none⟩), .pointer (some ⟨w.heap.size + 1, 1, none⟩)] 237
  rw [z2] at o2
  have b1 : Below w.heap.size w (w.alloc (.cells #[.int .i64 0, .int .i64 0] 50)) := Below.alloc (Below.refl _ _) (Nat.le_refl _) _
  have b12 : Below (w.heap.size + 1) (w.alloc (.cells #[.int .i64 0, .int .i64 0] 50)) ((w.alloc (.cells #[.int .i64 0, .int .i64 0] 50)).alloc (.cells #[.int .i64 0, .int .i64 0] 50)) := Below.alloc (Below.refl _ _) (by rw [z1]; exact Nat.le_refl _) _
  have b23 : Below (w.heap.size + 1 + 1) ((w.alloc (.cells #[.int .i64 0, .int .i64 0] 50)).alloc (.cells #[.int .i64 0, .int .i64 0] 50)) (((w.alloc (.cells #[.int .i64 0, .int .i64 0] 50)).alloc (.cells #[.int .i64 0, .int .i64 0] 50)).alloc (.cells #[.pointer (some ⟨w.heap.size + 1, 0, none⟩), .pointer (some ⟨w.heap.size + 1, 1, none⟩)] 237)) := Below.alloc (Below.refl _ _) (by rw [z2]; exact Nat.le_refl _) _
  have o1' := o1.same (b23.block _ (by omega))
  have o0' := (o0.same (b12.block _ (by omega))).same (b23.block _ (by omega))
  have z3 : (((w.alloc (.cells #[.int .i64 0, .int .i64 0] 50)).alloc (.cells #[.int .i64 0, .int .i64 0] 50)).alloc (.cells #[.pointer (some ⟨w.heap.size + 1, 0, none⟩), .pointer (some ⟨w.heap.size + 1, 1, none⟩)] 237)).heap.size = w.heap.size + 3 := by simp
  have hb3 : Below w.heap.size w (((w.alloc (.cells #[.int .i64 0, .int .i64 0] 50)).alloc (.cells #[.int .i64 0, .int .i64 0] 50)).alloc (.cells #[.pointer (some ⟨w.heap.size + 1, 0, none⟩), .pointer (some ⟨w.heap.size + 1, 1, none⟩)] 237)) := (b1.trans (b12.mono (by omega))).trans (b23.mono (by omega))
  refine (cutNums_any s 2 (by omega) (w.heap.size + 1) (w.heap.size + 1 + 1) 50 237 [0, 0] [] _ o2 o1' (by omega) rfl hs).mono ?_
  rintro e w' ⟨he, is, hil, hq, ho, hc⟩
  obtain ⟨a, b, rfl⟩ := two_of hil
  have hoH : own w' w.heap.size #[.int .i64 0, .int .i64 0] 50 := o0'.chg hc (by omega)
  have hbw : Below w.heap.size w w' := hb3.trans (hc.below (by omega) (fun b e => by omega))
  have hsz : w.heap.size + 2 < w'.heap.size := by have := hc.size; rw [z3] at this; omega
  refine ⟨a, b, ho, hoH, hbw, hsz, ?_⟩
  unfold decH
  cases h : cutN 2 s.data.toList with
  | none => rw [h] at he; exact .inl ⟨he, rfl⟩
  | some p =>
    obtain ⟨vs, r⟩ := p
    have hv := hq vs r h
    subst hv
    rw [h] at he
    by_cases hr : r = []
    · subst hr
      refine .inr (.inr ⟨he, ?_⟩)
      simp
    · refine .inr (.inl ⟨r, hr, he, ?_⟩)
      simp [hr]
set_option maxHeartbeats 4000000 in
theorem toHard_any (s : ByteArray) (w : World) (hs : s.size ≤ maxLen) : Calls Tryz.prog 182 #[.string s] w (HardOut w (decH s.data.toList)) := by
  have HC := hid (hardCut_any s w hs)
  generalize decH s.data.toList = q at *
  go_enter Tryz.func182, Tryz.ntmps182
  go_wp2_with (go_at_call 208; (with_reducible refine HC.out.mono ?_); rintro e w1 ⟨a, b, ho1, ho0, hb1, hsz, hcase⟩; rcases hcase with ⟨rfl, hq⟩ | ⟨r, hr0, rfl, hq⟩ | ⟨rfl, hq⟩)
  · have c0 := ho1.cell 0
    have c1 := ho1.cell 1
    have d0 := ho0.cell 0
    have d1 := ho0.cell 1
    have g0 := ho0.frozen 0
    have g1 := ho0.frozen 1
    simp at c0 c1 d0 d1
    have hr := (ho0.set 0 (.int .i64 a)).set 1 (.int .i64 b)
    have r0 : ((w1.setCell ⟨w.heap.size, 0, none⟩ (.int .i64 a)).setCell ⟨w.heap.size, 1, none⟩ (.int .i64 b)).drew.cell? ⟨w.heap.size, 0, none⟩ = some (.int .i64 a) := by have := hr.cell 0; simpa using this
    have r1 : ((w1.setCell ⟨w.heap.size, 0, none⟩ (.int .i64 a)).setCell ⟨w.heap.size, 1, none⟩ (.int .i64 b)).drew.cell? ⟨w.heap.size, 1, none⟩ = some (.int .i64 b) := by have := hr.cell 1; simpa using this
    have hbf : Below w.heap.size w ((w1.setCell ⟨w.heap.size, 0, none⟩ (.int .i64 a)).setCell ⟨w.heap.size, 1, none⟩ (.int .i64 b)).drew := ((hb1.setCell (p := ⟨w.heap.size, 0, none⟩) (Nat.le_refl _) _).setCell (p := ⟨w.heap.size, 1, none⟩) (Nat.le_refl _) _).drew
    subst hq
    have hfin : HardOut w none (.returned (.tuple #[.agg #[.int .i64 a, .int .i64 b], .bool false])) ((w1.setCell ⟨w.heap.size, 0, none⟩ (.int .i64 a)).setCell ⟨w.heap.size, 1, none⟩ (.int .i64 b)).drew := ⟨⟨a, b⟩, rfl, (fun h' e => (by cases e)), hbf⟩
    have HF := hid hfin
    clear hfin hbf hr
    go_region
    all_goals
      go_wp2
      exact bodyPost_ret (v := .tuple #[.agg #[.int .i64 a, .int .i64 b], .bool false]) (by simp [results, Tryz.results182, go_sem, r0, r1]) rfl HF.out
  · have c0 := ho1.cell 0
    have c1 := ho1.cell 1
    have d0 := ho0.cell 0
    have d1 := ho0.cell 1
    have g0 := ho0.frozen 0
    have g1 := ho0.frozen 1
    simp at c0 c1 d0 d1
    have hr := (ho0.set 0 (.int .i64 a)).set 1 (.int .i64 b)
    have r0 : ((w1.setCell ⟨w.heap.size, 0, none⟩ (.int .i64 a)).setCell ⟨w.heap.size, 1, none⟩ (.int .i64 b)).drew.cell? ⟨w.heap.size, 0, none⟩ = some (.int .i64 a) := by have := hr.cell 0; simpa using this
    have r1 : ((w1.setCell ⟨w.heap.size, 0, none⟩ (.int .i64 a)).setCell ⟨w.heap.size, 1, none⟩ (.int .i64 b)).drew.cell? ⟨w.heap.size, 1, none⟩ = some (.int .i64 b) := by have := hr.cell 1; simpa using this
    have hbf : Below w.heap.size w ((w1.setCell ⟨w.heap.size, 0, none⟩ (.int .i64 a)).setCell ⟨w.heap.size, 1, none⟩ (.int .i64 b)).drew := ((hb1.setCell (p := ⟨w.heap.size, 0, none⟩) (Nat.le_refl _) _).setCell (p := ⟨w.heap.size, 1, none⟩) (Nat.le_refl _) _).drew
    subst hq
    have hfin : HardOut w none (.returned (.tuple #[.agg #[.int .i64 a, .int .i64 b], .bool false])) ((w1.setCell ⟨w.heap.size, 0, none⟩ (.int .i64 a)).setCell ⟨w.heap.size, 1, none⟩ (.int .i64 b)).drew := ⟨⟨a, b⟩, rfl, (fun h' e => (by cases e)), hbf⟩
    have HF := hid hfin
    clear hfin hbf hr
    have hne : (mk r).toList ≠ [] := by rw [Lib.toList_data, mk_data]; exact hr0
    have hne2 : ((mk r).toList == []) = false := by simpa using hne
    have hne3 : (mk r).toList.isEmpty = false := by simpa using hne
    clear hr0
    generalize mk r = rb at *
    go_region
    all_goals
      go_wp2
      exact bodyPost_ret (v := .tuple #[.agg #[.int .i64 a, .int .i64 b], .bool false]) (by simp [results, Tryz.results182, go_sem, r0, r1]) rfl HF.out
  · have c0 := ho1.cell 0
    have c1 := ho1.cell 1
    have d0 := ho0.cell 0
    have d1 := ho0.cell 1
    have g0 := ho0.frozen 0
    have g1 := ho0.frozen 1
    simp at c0 c1 d0 d1
    have hw : ∀ w2, Below w1.drew.heap.size w1.drew w2 → (w2.cell? ⟨w.heap.size + 1, 0, none⟩ = some (.int .i64 a) ∧ w2.cell? ⟨w.heap.size + 1, 1, none⟩ = some (.int .i64 b) ∧ w2.cell? ⟨w.heap.size, 0, none⟩ = some (.int .i64 0) ∧ w2.cell? ⟨w.heap.size, 1, none⟩ = some (.int .i64 0) ∧ w2.frozen? ⟨w.heap.size, 0, none⟩ = false ∧ w2.frozen? ⟨w.heap.size, 1, none⟩ = false) ∧
        (((w2.setCell ⟨w.heap.size, 0, none⟩ (.int .i64 a)).setCell ⟨w.heap.size, 1, none⟩ (.int .i64 b)).cell? ⟨w.heap.size, 0, none⟩ = some (.int .i64 a) ∧ ((w2.setCell ⟨w.heap.size, 0, none⟩ (.int .i64 a)).setCell ⟨w.heap.size, 1, none⟩ (.int .i64 b)).cell? ⟨w.heap.size, 1, none⟩ = some (.int .i64 b)) ∧
        HardOut w q (.returned (.tuple #[.agg #[.int .i64 a, .int .i64 b], .bool (hdB ⟨a, b⟩)])) ((w2.setCell ⟨w.heap.size, 0, none⟩ (.int .i64 a)).setCell ⟨w.heap.size, 1, none⟩ (.int .i64 b)) := fun w2 hb2 => by
      have o1 : own w2 (w.heap.size + 1) _ _ := ho1.same (hb2.block _ (by show _ < w1.heap.size; omega))
      have o0 : own w2 w.heap.size _ _ := ho0.same (hb2.block _ (by show _ < w1.heap.size; omega))
      have hr := (o0.set 0 (.int .i64 a)).set 1 (.int .i64 b)
      refine ⟨⟨(o1.cell 0).trans rfl, (o1.cell 1).trans rfl, (o0.cell 0).trans rfl, (o0.cell 1).trans rfl, o0.frozen 0, o0.frozen 1⟩, ⟨(hr.cell 0).trans rfl, (hr.cell 1).trans rfl⟩, ⟨a, b⟩, ?_, fun h' e => ?_, ?_⟩
      · rw [hq]; cases hdB ⟨a, b⟩ <;> rfl
      · rw [hq] at e
        split at e
        · cases e; rfl
        · cases e
      · have hb : Below w.heap.size w w2 := hb1.drew.trans (hb2.mono hb1.drew.size)
        exact (hb.setCell (p := ⟨w.heap.size, 0, none⟩) (Nat.le_refl _) _).setCell (p := ⟨w.heap.size, 1, none⟩) (Nat.le_refl _) _
    have HW := hid hw
    have HFt := hid (fun wx => hardFits_any ⟨a, b⟩ wx)
    clear hw hq
    generalize hdB ⟨a, b⟩ = qb at *
    go_region_with (go_at_call 107; (with_reducible refine (HFt.out _).mono ?_); rintro e w2 ⟨rfl, hb2⟩; obtain ⟨⟨c0', c1', d0', d1', g0', g1'⟩, ⟨r0, r1⟩, hp⟩ := HW.out _ hb2; have HP := hid hp; clear hp)
    all_goals
      go_wp2
      exact bodyPost_ret (v := .tuple #[.agg #[.int .i64 a, .int .i64 b], .bool qb]) (by simp [results, Tryz.results182, go_sem, r0, r1]) rfl HP.out
end Go.Proofs.YtbidglefddmjhaaGreatDoor

