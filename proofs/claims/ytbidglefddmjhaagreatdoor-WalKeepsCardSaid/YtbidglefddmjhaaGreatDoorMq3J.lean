import Derived.Test.YtbidglefddmjhaaGreatDoorMq2J
import Derived.Maps.AppendAt
import Derived.WalkLawsBesides
import Derived.Deep.RegionLaw
/-
  LAYER 2 (disk), THE DOCUMENT's ANSWER: how its disk lies in memory: a struct, and a row of structs of three cells.
-/
namespace Go.Proofs.YtbidglefddmjhaaGreatDoor
open Go.RowKit Go.Maps
set_option linter.unusedVariables false
set_option maxRecDepth 100000

def fcells (f : AF) : List Value := [.string (mk f.name), .string (mk f.data), .int .i64 (f.synced : Int)]
def flat (L : List AF) : List Value := L.flatMap fcells
theorem flat_length (L : List AF) : (flat L).length = L.length * 3 := by
  induction L with
  | nil => rfl
  | cons f r ih => simp only [flat, List.flatMap_cons, List.length_append, List.length_cons] at *; rw [ih]; simp [fcells]; omega
theorem flat_cons (f : AF) (r : List AF) : flat (f :: r) = fcells f ++ flat r := rfl
theorem flat_append (A C : List AF) : flat (A ++ C) = flat A ++ flat C := by simp [flat]
theorem flat_get : ∀ {L : List AF} {i k : Nat} (hi : i < L.length), k < 3 → (flat L)[i * 3 + k]? = (fcells L[i])[k]?
  | f :: r, 0, k, hi, hk => by
    rw [flat_cons, Nat.zero_mul, Nat.zero_add, List.getElem?_append_left (by simp [fcells]; omega)]; rfl
  | f :: r, i + 1, k, hi, hk => by
    rw [flat_cons, List.getElem?_append_right (by simp [fcells]; omega)]
    have : (i + 1) * 3 + k - (fcells f).length = i * 3 + k := by simp [fcells]; omega
    rw [this, flat_get (by simpa using hi) hk]
    rfl
theorem flat_set : ∀ {L : List AF} {i k : Nat} {v : Value} {f' : AF} (hi : i < L.length), k < 3 → (fcells L[i]).set k v = fcells f' → (flat L).set (i * 3 + k) v = flat (L.set i f')
  | f :: r, 0, k, v, f', hi, hk, h => by
    rw [flat_cons, Nat.zero_mul, Nat.zero_add, List.set_append, if_pos (by simp [fcells]; omega)]
    rw [List.set_cons_zero, flat_cons]
    congr 1
  | f :: r, i + 1, k, v, f', hi, hk, h => by
    rw [flat_cons, List.set_append, if_neg (by simp [fcells]; omega)]
    have : (i + 1) * 3 + k - (fcells f).length = i * 3 + k := by simp [fcells]; omega
    rw [this, flat_set (L := r) (i := i) (f' := f') (by simpa using hi) hk (by simpa using h)]
    rfl
theorem flat_one (L : List AF) : ∀ u ∈ flat L, u.oneCell' = true := by
  intro u hu
  obtain ⟨f, _, hf⟩ := List.mem_flatMap.1 hu
  simp [fcells] at hf
  rcases hf with rfl | rfl | rfl <;> rfl

theorem ownsRow_set {w : World} {B : Nat} {e : TypeId} {size : Nat} {v : Value} {n : Nat} {xs : List Value} (h : w.ownsRow B e size v n xs) {g : Nat} (hg : v.ownBlock = some g) {j : Nat} (hj : j < xs.length) (u : Value) :
    (w.setCell ⟨g, j, none⟩ u).ownsRow B e size v n (xs.set j u) := by
  obtain ⟨h1, h2⟩ := h
  refine ⟨by simpa using h1, ?_⟩
  rcases h2 with ⟨rfl, _⟩ | ⟨g', cap, cur, rfl, hB, hgc, hnc, hcm, hcs, htake⟩
  · cases hg
  · obtain rfl : g' = g := by simpa [Value.ownBlock] using hg
    refine .inr ⟨g', cap, cur.setIfInBounds j u, rfl, hB, ?_, hnc, hcm, by simpa using hcs, ?_⟩
    · simp [World.setCell, Array.getElem?_modify, hgc]
    · rw [Array.toList_setIfInBounds, List.take_set, htake]
def RefRow (w : World) (v : Value) (L : List AF) : Prop := w.ownsRow 0 104 3 v L.length (flat L)
theorem RefRow.slice {w : World} {v : Value} {L : List AF} (h : RefRow w v L) : ∃ ao cap, v = .slice ao L.length cap ∧ L.length ≤ cap ∧ (ao = none → cap = 0) ∧ (∀ q, ao = some q → q = ⟨q.block, 0, none⟩ ∧ q.block < w.heap.size) := by
  have hlt := World.ownsRow.lt h
  rcases h.2 with ⟨hv, hz⟩ | ⟨g, cap, cur, rfl, _, _, hnc, _⟩
  · exact ⟨none, 0, by rw [hv, hz], by omega, fun _ => rfl, fun q hq => by cases hq⟩
  · exact ⟨_, cap, rfl, hnc, fun e => (by cases e), fun q hq => by cases hq; exact ⟨rfl, (hlt g rfl).2⟩⟩
theorem RefRow.at {w : World} {ao : Option Addr} {cap : Nat} {L : List AF} (h : RefRow w (.slice ao L.length cap) L) {i : Nat} (hi : i < L.length) : ∃ g, ao = some ⟨g, 0, none⟩ ∧ g < w.heap.size ∧
    (∀ (k : Nat) (hk : k < L.length), w.cell? ⟨g, k * 3, none⟩ = some (.string (mk L[k].name)) ∧ w.cell? ⟨g, k * 3 + 1, none⟩ = some (.string (mk L[k].data)) ∧ w.cell? ⟨g, k * 3 + 2, none⟩ = some (.int .i64 (L[k].synced : Int))) ∧ ∀ j, w.frozen? ⟨g, j, none⟩ = false := by
  have hlt := World.ownsRow.lt h
  have hcs := fun g hg => World.ownsRow.cells h (g := g) hg
  rcases h.2 with ⟨hv, hz⟩ | ⟨g, cap', cur, hv, _, hg, _⟩
  · omega
  · simp only [Value.slice.injEq] at hv
    obtain ⟨rfl, _, _⟩ := hv
    have hadd : ∀ j, (⟨g, 0, none⟩ : Addr).add j = ⟨g, j, none⟩ := fun j => by unfold Addr.add; split <;> simp_all
    refine ⟨g, rfl, (hlt g rfl).2, fun k hk => ⟨?_, ?_, ?_⟩, fun j => Lib.frozen_of_heap hg j⟩
    · have := hcs g rfl (k * 3 + 0) _ ((flat_get hk (by omega)).trans rfl)
      rw [hadd] at this; exact this
    · have := hcs g rfl (k * 3 + 1) _ ((flat_get hk (by omega)).trans rfl)
      rw [hadd] at this; exact this
    · have := hcs g rfl (k * 3 + 2) _ ((flat_get hk (by omega)).trans rfl)
      rw [hadd] at this; exact this

/-- The document's disk. -/
structure RefRep (w : World) (S : Nat → Prop) (r : Nat) (v : Value) (s : Dk) : Prop where
  head : own w r #[v, .int .i64 s.most, .int .i64 s.fuse, .bool s.dead] 41
  row : RefRow w v s.L
  apart : v.ownBlock ≠ some r
  inS : S r ∧ ∀ b, v.ownBlock = some b → S b
  lt : ∀ b, S b → b < w.heap.size
  ok : s.Ok
def RefIs (w : World) (S : Nat → Prop) (r : Nat) (s : Dk) : Prop := ∃ v, RefRep w S r v s
section
variable {w w' : World} {S : Nat → Prop} {r : Nat} {v : Value} {s : Dk}
theorem RefRep.same (h : RefRep w S r v s) (hz : w.heap.size ≤ w'.heap.size) (hs : ∀ b, S b → w'.heap[b]? = w.heap[b]?) : RefRep w' S r v s :=
  ⟨h.head.same (hs r h.inS.1), ownsRow_same h.row (fun b hb => hs b (h.inS.2 b hb)), h.apart, h.inS, fun b hb => by have := h.lt b hb; omega, h.ok⟩
theorem RefRep.below (h : RefRep w S r v s) (hb : Below w.heap.size w w') : RefRep w' S r v s := h.same hb.size (fun b hs => hb.block b (h.lt b hs))
theorem RefIs.below (h : RefIs w S r s) (hb : Below w.heap.size w w') : RefIs w' S r s := by obtain ⟨v, h⟩ := h; exact ⟨v, h.below hb⟩
theorem RefIs.same (h : RefIs w S r s) (hz : w.heap.size ≤ w'.heap.size) (hs : ∀ b, S b → w'.heap[b]? = w.heap[b]?) : RefIs w' S r s := by obtain ⟨v, h⟩ := h; exact ⟨v, h.same hz hs⟩
theorem RefRep.widen (h : RefRep w S r v s) {T : Nat → Prop} (hT : ∀ b, S b → T b) (hlt : ∀ b, T b → b < w.heap.size) : RefRep w T r v s :=
  ⟨h.head, h.row, h.apart, ⟨hT _ h.inS.1, fun b hb => hT b (h.inS.2 b hb)⟩, hlt, h.ok⟩
/-- The head's numbers turned. -/
theorem RefRep.turn (h : RefRep w S r v s) {fu : Int} {dd : Bool} (hw : own w' r #[v, .int .i64 s.most, .int .i64 fu, .bool dd] 41) (hc : Chg (fun b => b = r) w w') (hf : -1 ≤ fu ∧ fu ≤ 9223372036854775807) : RefRep w' S r v { s with fuse := fu, dead := dd } :=
  ⟨hw, ownsRow_same h.row (fun b hb => hc.block b (h.lt b (h.inS.2 b hb)) (fun e => h.apart (by rw [hb, e]))), h.apart, h.inS, fun b hb => by have := h.lt b hb; have := hc.size; omega, ⟨h.ok.rise, h.ok.names, h.ok.sync, h.ok.many, h.ok.room, h.ok.most, hf⟩⟩
/-- Another row of files. -/
theorem RefRep.newRow (h : RefRep w S r v s) {v' : Value} {L : List AF} (hrow : RefRow w v' L) (hv : ∀ b, v'.ownBlock = some b → w.heap.size ≤ b ∨ (S b ∧ b ≠ r)) (hok : ({ s with L := L } : Dk).Ok) {w0 : World} (hz : w0.heap.size ≤ w.heap.size)
    (hnew : ∀ b, v'.ownBlock = some b → w0.heap.size ≤ b ∨ S b) (hS : ∀ b, S b → b < w0.heap.size) (hne : ∀ b, v'.ownBlock = some b → b ≠ r) :
    RefRep (w.setCell ⟨r, 0, none⟩ v') (grow S w0 (w.setCell ⟨r, 0, none⟩ v')) r v' { s with L := L } := by
  refine ⟨by simpa using h.head.set 0 v', ownsRow_same hrow (fun b hb => Below.heap_setCell _ _ _ _ (hne b hb)), fun e => hne r e rfl, ⟨.inl h.inS.1, fun b hb => ?_⟩, grow_lt hS (by rw [setCell_size]; exact hz), hok⟩
  rcases hnew b hb with h1 | h1
  · exact .inr ⟨h1, by rw [setCell_size]; exact (World.ownsRow.lt hrow b hb).2⟩
  · exact .inl h1
def RefPost (w : World) (S : Nat → Prop) (r : Nat) (q : Dk × Int) (e : Ending) (w' : World) : Prop := e = .returned (.int .i64 q.2) ∧ RefIs w' (grow S w w') r q.1 ∧ Chg S w w'
def RefTail (w : World) (S : Nat → Prop) (r : Nat) (s : Dk) (e : Ending) (w' : World) : Prop := e = .returned (.tuple #[]) ∧ RefIs w' (grow S w w') r s ∧ Chg S w w'
theorem RefRep.growBelow (h : RefRep w S r v s) (hb : Below w.heap.size w w') : RefRep w' (grow S w w') r v s := (h.below hb).widen grow_mono (grow_lt h.lt hb.size)
theorem RefPost.none (h : RefRep w S r v s) {k : Int} {w' : World} (hb : Below w.heap.size w w') : RefPost w S r (s, k) (.returned (.int .i64 k)) w' := ⟨rfl, ⟨v, h.growBelow hb⟩, Chg.of_below hb⟩

/-! ### find, Size, turn, there -/
def FoundV (s : Dk) (n : List UInt8) : Value := .tuple #[.int .i64 (ahead AF.key n s.L : Int), .bool (fndK AF.key n s.L).isSome]
theorem lss_eq (a : List UInt8) (n : ByteArray) : Op.bytesLess (mk a).toList n.toList = decide (a < n.data.toList) := by rw [Lib.toList_data, Lib.toList_data, mk_data, bytesLess_lt]
theorem ahead_step {n : List UInt8} {L : List AF} {k : Nat} (hk : k < L.length) (h : k < ahead AF.key n L) : L[k].name < n := by
  obtain ⟨x, hx, hlt⟩ := ahead_lt h
  rw [List.getElem?_eq_getElem hk] at hx
  rw [Option.some.inj hx]; exact hlt
theorem ahead_stop {n : List UInt8} {L : List AF} {k : Nat} (hk : k < L.length) (h : k = ahead AF.key n L) : ¬ L[k].name < n := by
  subst h
  exact ahead_at (key := AF.key) (List.getElem?_eq_getElem hk)

set_option maxHeartbeats 4000000 in
theorem refFind_any (h : RefRep w S r v s) (n : ByteArray) : Calls Tryz.prog 70 #[.pointer (some ⟨r, 0, none⟩), .string n] w fun e w' => e = .returned (FoundV s n.data.toList) ∧ Below w.heap.size w w' := by
  have c0 := h.head.cell 0
  simp at c0
  obtain ⟨ao, cap, rfl, hcap, hnone, hsome⟩ := h.row.slice
  have hrow := hid h.row
  have hmany := h.ok.many
  have hal := ahead_le (key := AF.key) n.data.toList s.L
  have hfd := hid (ahead_fnd (key := AF.key) (n := n.data.toList) h.ok.rise)
  have hFV : FoundV s n.data.toList = .tuple #[.int .i64 (ahead AF.key n.data.toList s.L : Int), .bool (fndK AF.key n.data.toList s.L).isSome] := rfl
  have HFV := hid hFV
  have hst := hid (fun k (hk : k < s.L.length) h => ahead_step (n := n.data.toList) hk h)
  have hsp := hid (fun k (hk : k < s.L.length) h => ahead_stop (n := n.data.toList) hk h)
  clear h hFV hsome hnone
  generalize ahead AF.key n.data.toList s.L = A at *
  go_enter Tryz.func70, Tryz.ntmps70
  go_wp2
  go_loop [6] (fun i => ∃ k : Nat, k ≤ A ∧ i = .int .i64 k) (fun i => s.L.length - (intOf i).toNat)
  case atStart => exact ⟨0, Nat.zero_le _, rfl⟩
  case round =>
    obtain ⟨k, hk, rfl⟩ := hrel
    by_cases hlt : k < s.L.length
    · obtain ⟨g, rfl, hg, hcells, hfz⟩ := hrow.out.at hlt
      have cn := (hcells k hlt).1
      have hkI : (k : Int) < (s.L.length : Int) := by omega
      have hmI : (s.L.length : Int) ≤ 40 := by omega
      by_cases hkA : k < A
      · have q1 : Op.bytesLess (mk s.L[k].name).toList n.toList = true := by rw [lss_eq]; exact decide_eq_true (hst.out k hlt hkA)
        clear hcells hfz
        generalize mk s.L[k].name = nb at *
        go_wp2
        go_round
        case rel => exact ⟨k + 1, by omega, by go_num⟩
        case measure => simp [intOf]; omega
      · obtain rfl : k = A := by omega
        have q1 : Op.bytesLess (mk s.L[k].name).toList n.toList = false := by rw [lss_eq]; exact decide_eq_false (hsp.out k hlt rfl)
        have hfo : (fndK AF.key n.data.toList s.L).isSome = decide (s.L[k].name = n.data.toList) := by
          rw [hfd.out, List.getElem?_eq_getElem hlt]
          simp only [Option.bind_some]
          by_cases he : s.L[k].name = n.data.toList
          · rw [if_pos (show AF.key s.L[k] = n.data.toList from he)]; simp [he]
          · rw [if_neg (show ¬ AF.key s.L[k] = n.data.toList from he)]; simp [he]
        have q2 : ((mk s.L[k].name).toList == n.toList) = decide (s.L[k].name = n.data.toList) := by rw [Lib.toList_data, Lib.toList_data, mk_data, Bool.eq_iff_iff]; simp
        have HV := hid (HFV.out.trans (by rw [hfo]))
        generalize decide (s.L[k].name = n.data.toList) = q at *
        clear hcells hfz hfo
        generalize mk s.L[k].name = nb at *
        go_wp2
        go_quiet (fail)
        go_wp2
        go_ret2
        exact ⟨by rw [HV.out]; rfl, below_drew (Below.refl _ _) _⟩
    · have hkA : k = A := by omega
      subst hkA
      have hkl : k = s.L.length := by omega
      have hfo : (fndK AF.key n.data.toList s.L).isSome = false := by
        rw [hfd.out, List.getElem?_eq_none (by omega)]; rfl
      have HV := hid (HFV.out.trans (by rw [hfo]))
      have hq : decide ((k : Int) < (s.L.length : Int)) = false := by simp; omega
      have hq' : decide (k < s.L.length) = false := by simp; omega
      clear hfo hkl hlt
      go_wp2
      go_quiet (fail)
      go_wp2
      go_ret2
      exact ⟨by rw [HV.out]; rfl, below_drew (Below.refl _ _) _⟩
end
end Go.Proofs.YtbidglefddmjhaaGreatDoor

/-
  LAYER 2 (disk), THE DOCUMENT's ANSWER: Size, turn, there, Read, Fuse, Sync.
-/
namespace Go.Proofs.YtbidglefddmjhaaGreatDoor
open Go.RowKit Go.Maps
set_option linter.unusedVariables false
set_option maxRecDepth 100000
section
variable {w w' : World} {S : Nat → Prop} {r : Nat} {v : Value} {s : Dk}

set_option maxHeartbeats 4000000 in
theorem refSize_any (h : RefRep w S r v s) : Calls Tryz.prog 71 #[.pointer (some ⟨r, 0, none⟩)] w fun e w' => e = .returned (.int .i64 (sz s.L)) ∧ w = w' := by
  have c0 := h.head.cell 0
  simp at c0
  obtain ⟨ao, cap, rfl, hcap, hnone, hsome⟩ := h.row.slice
  have hrow := hid h.row
  have hmany : (s.L.length : Int) ≤ 40 := by have := h.ok.many; omega
  have hroom : (sz s.L : Int) ≤ 10000000 := by have := h.ok.room; have := h.ok.most; omega
  clear h hsome hnone
  go_enter Tryz.func71, Tryz.ntmps71
  go_wp2
  go_loop [3, 4] (fun u i => ∃ k : Nat, k ≤ s.L.length ∧ u = .int .i64 (sz (s.L.take k) : Int) ∧ i = .int .i64 k) (fun _ i => s.L.length - (intOf i).toNat)
  case atStart => exact ⟨0, Nat.zero_le _, by simp [sz], rfl⟩
  case round =>
    obtain ⟨k, hk, rfl, rfl⟩ := hrel
    by_cases hlt : k < s.L.length
    · obtain ⟨g, rfl, hg, hcells, hfz⟩ := hrow.out.at hlt
      have cn := (hcells k hlt).2.1
      have hst := sz_take hlt
      have hle := sz_take_le s.L (k + 1)
      have hz0 : 0 ≤ (sz (s.L.take k) : Int) := by omega
      have hz1 : (sz (s.L.take k) : Int) + ((mk s.L[k].data).size : Int) = (sz (s.L.take (k + 1)) : Int) := by rw [mk_size]; omega
      have hz2 : (sz (s.L.take k) : Int) + ((mk s.L[k].data).size : Int) ≤ 10000000 := by rw [hz1]; omega
      have HZ := hid hz1
      have hkI : (k : Int) < (s.L.length : Int) := by omega
      clear hcells hfz hst hle hz1
      generalize mk s.L[k].data = db at *
      generalize (sz (s.L.take k) : Int) = Z at *
      go_wp2
      go_round
      case rel => exact ⟨k + 1, by omega, by rw [← HZ.out], by go_num⟩
      case measure => simp [intOf]; omega
    · obtain rfl : k = s.L.length := by omega
      rw [List.take_of_length_le (Nat.le_refl _)]
      go_wp2
      go_ret
      exact ⟨rfl, rfl⟩

theorem refTurn_any (h : RefRep w S r v s) : Calls Tryz.prog 72 #[.pointer (some ⟨r, 0, none⟩)] w fun e w' =>
    e = .returned (.int .i64 (spendV s.fuse)) ∧ RefRep w' S r v (spendTo s) ∧ Chg (fun b => b = r) w w' ∧ w'.heap.size = w.heap.size := by
  have hf := h.ok.fuse
  have c2 := h.head.cell 2
  have c3 := h.head.cell 3
  have f2 := h.head.frozen 2
  have f3 := h.head.frozen 3
  simp at c2 c3
  by_cases h1 : s.fuse = 0
  · have hset := h.head.set 3 (.bool true)
    have hc := Chg.setCell w ⟨r, 3, none⟩ (.bool true)
    have hz := setCell_size w ⟨r, 3, none⟩ (.bool true)
    have hD : RefRep (w.setCell ⟨r, 3, none⟩ (.bool true)) S r v { s with dead := true } := h.turn (fu := s.fuse) (dd := true) (by simpa using hset) hc hf
    have hv : spendTo s = { s with dead := true } := if_pos h1
    have hv2 : spendV s.fuse = 7 := if_pos h1
    rw [← hv] at hD
    rw [h1] at c2
    have H := hid (show _ ∧ _ ∧ _ from ⟨hD, hc, hz⟩)
    have H1 := hid hv2
    clear hset hc hz hD h1 h hf hv hv2
    generalize spendTo s = s' at *
    go_enter Tryz.func72, Tryz.ntmps72
    go_wp2
    go_ret
    rw [H1.out]
    exact ⟨rfl, H.out.1, H.out.2.1, H.out.2.2⟩
  · by_cases h2 : 0 < s.fuse
    · have hset := h.head.set 2 (.int .i64 (s.fuse - 1))
      have hc := Chg.setCell w ⟨r, 2, none⟩ (.int .i64 (s.fuse - 1))
      have hz := setCell_size w ⟨r, 2, none⟩ (.int .i64 (s.fuse - 1))
      have hD : RefRep (w.setCell ⟨r, 2, none⟩ (.int .i64 (s.fuse - 1))) S r v { s with fuse := s.fuse - 1 } := h.turn (fu := s.fuse - 1) (dd := s.dead) (by simpa using hset) hc (by omega)
      have hv : spendTo s = { s with fuse := s.fuse - 1 } := by unfold spendTo ticked; rw [if_neg h1, if_pos h2]
      have hv2 : spendV s.fuse = 0 := if_neg h1
      rw [← hv] at hD
      have H := hid (show _ ∧ _ ∧ _ from ⟨hD, hc, hz⟩)
      have H1 := hid hv2
      have hq : s.fuse ≤ 9223372036854775807 := hf.2
      have hq0 : (s.fuse == 0) = false := beq_eq_false_iff_ne.2 h1
      clear hset hc hz hD h1 h hf hv hv2
      generalize spendTo s = s' at *
      generalize s.fuse = z at *
      go_enter Tryz.func72, Tryz.ntmps72
      go_wp2
      go_ret
      rw [H1.out]
      exact ⟨rfl, H.out.1, H.out.2.1, H.out.2.2⟩
    · have hv : spendTo s = s := by unfold spendTo ticked; rw [if_neg h1, if_neg h2]
      have hv2 : spendV s.fuse = 0 := if_neg h1
      rw [hv, hv2]
      have H := hid h
      have hq0 : (s.fuse == 0) = false := beq_eq_false_iff_ne.2 h1
      clear h hv hv2 h1 hf
      generalize s.fuse = z at *
      go_enter Tryz.func72, Tryz.ntmps72
      go_wp2
      go_ret
      exact ⟨rfl, H.out, Chg.refl _ _, rfl⟩

def ThereV (s : Dk) (n : List UInt8) : Value := if s.dead then .tuple #[.int .i64 0, .int .i64 7] else if (fndK AF.key n s.L).isSome then .tuple #[.int .i64 (ahead AF.key n s.L : Int), .int .i64 0] else .tuple #[.int .i64 0, .int .i64 4]
theorem refThere_any (h : RefRep w S r v s) (n : ByteArray) : Calls Tryz.prog 135 #[.pointer (some ⟨r, 0, none⟩), .string n] w fun e w' => e = .returned (ThereV s n.data.toList) ∧ Below w.heap.size w w' := by
  have c3 := h.head.cell 3
  simp at c3
  have hF := refFind_any h n
  unfold FoundV at hF
  cases hd : s.dead with
  | true =>
    have hv : ThereV s n.data.toList = .tuple #[.int .i64 0, .int .i64 7] := by unfold ThereV; rw [hd]; rfl
    rw [hv]
    rw [hd] at c3
    clear hv hF hd h
    go_enter Tryz.func135, Tryz.ntmps135
    go_wp2
    go_ret2
    exact ⟨rfl, Below.refl _ _⟩
  | false =>
    rw [hd] at c3
    cases hq : (fndK AF.key n.data.toList s.L).isSome with
    | true =>
      have hv : ThereV s n.data.toList = .tuple #[.int .i64 (ahead AF.key n.data.toList s.L : Int), .int .i64 0] := by unfold ThereV; rw [hd, hq]; rfl
      rw [hv]
      rw [hq] at hF
      have HF := hid hF
      clear hv hF hd h hq
      generalize (ahead AF.key n.data.toList s.L : Int) = A at *
      go_enter Tryz.func135, Tryz.ntmps135
      go_wp2_with (go_at_call 70; (with_reducible refine HF.out.mono ?_); rintro e w1 ⟨rfl, hb1⟩)
      go_ret2
      exact ⟨rfl, hb1⟩
    | false =>
      have hv : ThereV s n.data.toList = .tuple #[.int .i64 0, .int .i64 4] := by unfold ThereV; rw [hd, hq]; rfl
      rw [hv]
      rw [hq] at hF
      have HF := hid hF
      clear hv hF hd h hq
      generalize (ahead AF.key n.data.toList s.L : Int) = A at *
      go_enter Tryz.func135, Tryz.ntmps135
      go_wp2_with (go_at_call 70; (with_reducible refine HF.out.mono ?_); rintro e w1 ⟨rfl, hb1⟩)
      go_ret2
      exact ⟨rfl, hb1⟩

theorem there_fail (n : ByteArray) (hx : s.dead = true ∨ fndK AF.key n.data.toList s.L = none) :
    ∃ k : Int, (k = 7 ∨ k = 4) ∧ ThereV s n.data.toList = .tuple #[.int .i64 0, .int .i64 k] ∧ (∀ K, need s n.data.toList K = (s, k)) ∧ rd s n.data.toList = ([], k) := by
  cases hd : s.dead with
  | true => exact ⟨7, .inl rfl, by unfold ThereV; rw [hd]; rfl, fun K => by unfold need; rw [if_pos hd], by unfold rd; rw [if_pos hd]⟩
  | false =>
    have hx' : fndK AF.key n.data.toList s.L = none := by
      rcases hx with hx | hx
      · rw [hd] at hx; cases hx
      · exact hx
    exact ⟨4, .inr rfl, by unfold ThereV; rw [hd, hx']; rfl, fun K => by unfold need; rw [hd, hx']; rfl, by unfold rd; rw [hd, hx']; rfl⟩
/-- Where a file stands. -/
theorem there_ok (h : s.Ok) {n : List UInt8} {f : AF} (hd : s.dead = false) (hf : fndK AF.key n s.L = some f) :
    ∃ (i : Nat) (hi : i < s.L.length), ThereV s n = .tuple #[.int .i64 (i : Int), .int .i64 0] ∧ s.L[i] = f ∧ i = ahead AF.key n s.L ∧ f.name = n ∧ (∀ K, need s n K = K f) ∧ rd s n = (f.data, 0) := by
  have h1 := ahead_fnd (key := AF.key) (n := n) h.rise
  rw [hf] at h1
  have h2 : ahead AF.key n s.L < s.L.length := by
    rcases Nat.lt_or_ge (ahead AF.key n s.L) s.L.length with h | h
    · exact h
    · rw [List.getElem?_eq_none h] at h1; cases h1
  rw [List.getElem?_eq_getElem h2] at h1
  simp only [Option.bind_some] at h1
  split at h1
  · rename_i hk
    have he := Option.some.inj h1
    exact ⟨_, h2, by unfold ThereV; rw [hd, hf]; rfl, he.symm, rfl, (fndK_some hf).2, fun K => by unfold need; rw [hd, hf]; rfl, by unfold rd; rw [hd, hf]; rfl⟩
  · cases h1

theorem refRead_any (h : RefRep w S r v s) (n : ByteArray) : Calls Tryz.prog 80 #[.pointer (some ⟨r, 0, none⟩), .string n] w fun e w' => e = .returned (ReadV (rd s n.data.toList)) ∧ Below w.heap.size w w' := by
  have hT := refThere_any h n
  cases hf : (if s.dead then none else fndK AF.key n.data.toList s.L) with
  | none =>
    have hx : s.dead = true ∨ fndK AF.key n.data.toList s.L = none := by
      cases hd : s.dead with
      | true => exact .inl rfl
      | false => rw [hd] at hf; exact .inr hf
    obtain ⟨k, hk, e1, _, e2⟩ := there_fail n hx
    rw [e1] at hT
    rw [e2]
    have hv : ReadV (([], k) : List UInt8 × Int) = .tuple #[.string ⟨#[]⟩, .int .i64 k] := rfl
    rw [hv]
    have HT := hid hT
    clear hf hx e1 e2 hT h hv
    rcases hk with rfl | rfl
    all_goals
      go_enter Tryz.func80, Tryz.ntmps80
      go_wp2_with (go_at_call 135; (with_reducible refine HT.out.mono ?_); rintro e w1 ⟨rfl, hb1⟩)
      go_ret2
      exact ⟨rfl, hb1⟩
  | some f =>
    have hd : s.dead = false := by
      cases hd : s.dead with
      | true => rw [hd] at hf; cases hf
      | false => rfl
    rw [hd] at hf
    have hf : fndK AF.key n.data.toList s.L = some f := hf
    obtain ⟨i, hi, e1, e2, -, -, -, e3⟩ := there_ok h.ok hd hf
    rw [e1] at hT
    rw [e3]
    have hv : ReadV ((f.data, 0) : List UInt8 × Int) = .tuple #[.string (mk f.data), .int .i64 0] := rfl
    rw [hv]
    have HT := hid hT
    obtain ⟨ao, cap, rfl, hcap, -⟩ := h.row.slice
    have c0 := h.head.cell 0
    simp at c0
    obtain ⟨g, rfl, hg, hcells, hfz⟩ := h.row.at hi
    have cn := (hcells i hi).2.1
    rw [e2] at cn
    have hrl : r < w.heap.size := h.head.lt
    have hcI : (i : Int) < (s.L.length : Int) := by omega
    have hmI : (s.L.length : Int) ≤ 40 := by have := h.ok.many; omega
    clear hf e1 e2 e3 hT hv hcells hfz h hd
    generalize mk f.data = db at *
    go_enter Tryz.func80, Tryz.ntmps80
    go_wp2_with (go_at_call 135; (with_reducible refine HT.out.mono ?_); rintro e w1 ⟨rfl, hb1⟩; have c0' := (hb1.cell (p := ⟨r, 0, none⟩) hrl).trans c0; have cn' := (hb1.cell (p := ⟨g, i * 3 + 1, none⟩) hg).trans cn)
    go_ret2
    exact ⟨rfl, hb1⟩
end
end Go.Proofs.YtbidglefddmjhaaGreatDoor

/-
  LAYER 2 (disk), THE DOCUMENT's ANSWER: without and with: rows of files made anew.
-/
namespace Go.Proofs.YtbidglefddmjhaaGreatDoor
open Go.RowKit Go.Maps
set_option linter.unusedVariables false
set_option maxRecDepth 100000

theorem infoFile : (Tryz.prog.info? 104).map (fun i => (i.zero, i.size, i.bytes)) = some (some (.agg #[.string ⟨#[]⟩, .string ⟨#[]⟩, .int .i64 0]), 3, 40) := by kernel_rfl
theorem infoFile_parts : ∃ i, Tryz.prog.info? 104 = some i ∧ i.zero = some (.agg #[.string ⟨#[]⟩, .string ⟨#[]⟩, .int .i64 0]) ∧ i.size = 3 ∧ i.bytes = 40 := by
  obtain ⟨i, hi, hz⟩ := Option.map_eq_some_iff.1 infoFile
  simp only [Prod.mk.injEq] at hz
  exact ⟨i, hi, hz.1, hz.2.1, hz.2.2⟩
/-- A slice of files that reads as a list. -/
def FilesAt (w : World) (A : Option Addr) (L : List AF) : Prop := L ≠ [] → ∃ g o, A = some ⟨g, o, none⟩ ∧ ∀ j u, (flat L)[j]? = some u → w.cell? ⟨g, o + j, none⟩ = some u
theorem FilesAt.below {w w' : World} {A : Option Addr} {L : List AF} (h : FilesAt w A L) (hb : Below w.heap.size w w') : FilesAt w' A L := by
  intro hne
  obtain ⟨g, o, hA, hc⟩ := h hne
  refine ⟨g, o, hA, fun j u hj => ?_⟩
  have := hc j u hj
  have hlt := World.block_lt_of_cell? w _ this
  exact (hb.cell (p := ⟨g, o + j, none⟩) hlt).trans this
theorem run_files (w : World) (ty : TypeId) (v : Value) (L1 L2 : List AF) (A : Option Addr) (c : Nat) (hown : RefRow w v L1) (hr : FilesAt w A L2) (hb : L1.length + L2.length ≤ 1000) :
    ∃ v' w', (Builtin.append_ #[39, 39] ty #[v, .slice A L2.length c]).run Tryz.prog w = .ok v' w' ∧ RefRow w' v' (L1 ++ L2) ∧ w.grownBy w' v.ownBlock ∧ (v'.ownBlock = v.ownBlock ∨ v'.ownBlock = some w.heap.size) := by
  obtain ⟨i0, hi, hz0, hz1, hz2⟩ := infoFile_parts
  have hne : ∀ ad, A = some ad → ∃ v' w', (Builtin.append_ #[39, 39] ty #[v, .slice A L2.length c]).run Tryz.prog w = .ok v' w' ∧ RefRow w' v' (L1 ++ L2) ∧ w.grownBy w' v.ownBlock ∧ (v'.ownBlock = v.ownBlock ∨ v'.ownBlock = some w.heap.size) := by
    intro ad hA
    subst hA
    have hcells : ∀ j u, (flat L2)[j]? = some u → w.cell? (ad.add j) = some u := by
      intro j u hu
      have hL : L2 ≠ [] := fun e => by rw [e] at hu; simp [flat] at hu
      obtain ⟨g, o, hA, hc⟩ := hr hL
      cases hA
      rw [show (⟨g, o, none⟩ : Addr).add j = ⟨g, o + j, none⟩ from Go.WideShapes.add_plain ..]
      exact hc j u hu
    obtain ⟨v', w', hrun, h2, h3, _, h5⟩ := run_append_own_at (P := Tryz.prog) w 0 39 ty 104 i0 _ 3 40 Tryz.underlying39 hi hz0 hz1 hz2 rfl (by omega) v L1.length (flat L1) hown ad L2.length c (flat L2) (flat_length L2) hcells (flat_one L2) (by unfold maxLen; omega) (by omega) (Nat.zero_le _)
    refine ⟨v', w', hrun, ?_, h3, h5⟩
    unfold RefRow
    rw [List.length_append, flat_append]
    exact h2
  cases A with
  | some ad => exact hne ad rfl
  | none =>
    have hL : L2 = [] := by
      rcases L2 with _ | ⟨f, l⟩
      · rfl
      · obtain ⟨g, o, hA, _⟩ := hr (by simp)
        cases hA
    subst hL
    refine ⟨v, w, ?_, by simpa using hown, World.grownBy.refl w _, .inl rfl⟩
    rcases hown.2 with ⟨rfl, h0⟩ | ⟨g, cap, cur, rfl, _, _, hnc, _⟩
    · simp [Builtin.append_, run_underlying Tryz.underlying39, sizeOf, typeInfo, hi, Builtin.lenOf, Builtin.firstCells]
    · simp [Builtin.append_, run_underlying Tryz.underlying39, sizeOf, typeInfo, hi, Builtin.lenOf, Builtin.firstCells, hnc, storeCells]

theorem step_append_run {ops : Array Oper} {o : Oper} {a : Act} {w : World} {K : Act → World → Prop} {Q : Exit → Act → World → Prop} {E : Prop}
    (hg : o.guard = none) (s x : Operand) (t u : TypeId) (hop : o.op = Op.call { callee := Callee.builtin Builtin.append, args := #[s, x], argTypes := #[t, u] })
    (v y : Value) (hs : a.eval s = v) (hx : a.eval x = y) (v' : Value) (w' : World) (hr : (Builtin.append_ #[t, u] o.type #[v, y]).run Tryz.prog w = .ok v' w') (hK : K (a.put o.dst v') w') :
    if Region.wanted o (yielded ops a.tmps) = true then Oper.wp Tryz.prog o a w K Q else E := by
  have hw : Region.wanted o (yielded ops a.tmps) = true := by simp [Region.wanted, hg]
  rw [if_pos hw]
  unfold Oper.wp
  simp [execOp, hop, resolve, invoke, builtin, hs, hx, hr, Result.andThen]
  exact hK

/-- s[:i] and s[i:] of a slice of files. -/
theorem files_to (wx : World) (ao : Option Addr) (L cap i : Nat) (hi : i ≤ cap) (hao : ao = none → cap = 0) : (Instr.slice 39 (.slice ao L cap) none (some (.int .i64 (i : Int))) none).run Tryz.prog wx = .ok (.slice ao i cap) wx := by
  cases ao with
  | none =>
    obtain rfl := hao rfl
    obtain rfl : i = 0 := by omega
    simp [go_sem, Instr.slice, run_underlying Tryz.underlying39]
  | some q => simp [go_sem, Instr.slice, run_underlying Tryz.underlying39, hi]
theorem files_from (wx : World) (ao : Option Addr) (L cap i : Nat) (hi : i ≤ L) (hL : L ≤ cap) : (Instr.slice 39 (.slice ao L cap) (some (.int .i64 (i : Int))) none none).run Tryz.prog wx = .ok (.slice (if cap = i then ao else ao.map (·.add (i * 3))) (L - i) (cap - i)) wx := by
  obtain ⟨i0, hi0, _, hz1, _⟩ := infoFile_parts
  have h := run_slice_l (P := Tryz.prog) wx 39 ao L cap (by kernel_rfl) .i64 (i : Int) (by omega) (by omega)
  rw [h]
  have he : Tryz.prog.elem 39 = 104 := by kernel_rfl
  rw [he]
  simp [sizeOf, typeInfo, hi0, hz1, sliced, Result.andThen]
theorem FilesAt.of_row {w : World} {ao : Option Addr} {cap : Nat} {L : List AF} (h : RefRow w (.slice ao L.length cap) L) (i : Nat) : FilesAt w ao (L.take i) ∧ (i ≤ L.length → FilesAt w (if cap = i then ao else ao.map (·.add (i * 3))) (L.drop i)) := by
  have hcs := fun g hg => World.ownsRow.cells h (g := g) hg
  rcases h.2 with ⟨hv, hz⟩ | ⟨g, cap', cur, hv, _, hg, hnc, _⟩
  · have hL : L = [] := List.eq_nil_of_length_eq_zero hz
    subst hL
    exact ⟨fun hne => absurd (by simp) hne, fun _ hne => absurd (by simp) hne⟩
  · simp only [Value.slice.injEq] at hv
    obtain ⟨rfl, _, rfl⟩ := hv
    have hadd : ∀ j, (⟨g, 0, none⟩ : Addr).add j = ⟨g, j, none⟩ := fun j => by unfold Addr.add; split <;> simp_all
    have hcell : ∀ j u, (flat L)[j]? = some u → w.cell? ⟨g, j, none⟩ = some u := fun j u hj => by rw [← hadd]; exact hcs g rfl j u hj
    have hsplit : flat L = flat (L.take i) ++ flat (L.drop i) := by rw [← flat_append, List.take_append_drop]
    refine ⟨fun _ => ⟨g, 0, rfl, fun j u hj => ?_⟩, fun hi hne => ?_⟩
    · rw [Nat.zero_add]
      refine hcell j u ?_
      rw [hsplit, List.getElem?_append_left]
      · exact hj
      · rcases Nat.lt_or_ge j (flat (L.take i)).length with h | h
        · exact h
        · rw [List.getElem?_eq_none h] at hj; cases hj
    · have hlt : i < L.length := by
        rcases Nat.lt_or_ge i L.length with h | h
        · exact h
        · exact absurd (List.drop_of_length_le h) hne
      refine ⟨g, i * 3, by rw [if_neg (by omega)]; simp [hadd], fun j u hj => hcell _ u ?_⟩
      rw [hsplit, List.getElem?_append_right (by rw [flat_length, List.length_take]; omega), flat_length, List.length_take, Nat.min_eq_left (by omega), show i * 3 + j - i * 3 = j by omega]
      exact hj

def RowPost (w : World) (L : List AF) (e : Ending) (w' : World) : Prop := ∃ ao cap, e = .returned (.slice ao L.length cap) ∧ RefRow w' (.slice ao L.length cap) L ∧ (∀ b, (Value.slice ao L.length cap).ownBlock = some b → w.heap.size ≤ b) ∧ Below w.heap.size w w'
section
variable {w w' : World} {S : Nat → Prop} {r : Nat} {v : Value} {s : Dk}
set_option maxHeartbeats 4000000 in
theorem refWithout_any (h : RefRep w S r v s) (i : Nat) (hi : i < s.L.length) : Calls Tryz.prog 160 #[.pointer (some ⟨r, 0, none⟩), .int .i64 (i : Int)] w (RowPost w (s.L.take i ++ s.L.drop (i + 1))) := by
  obtain ⟨ao, cap, rfl, hcap, hnone, -⟩ := h.row.slice
  have hmany := h.ok.many
  have c0 := h.head.cell 0
  simp at c0
  have hr := h.head.lt
  -- the empty row, and what is appended to it
  have hbe : Below w.heap.size w (w.alloc (.cells #[] 104)).drew := (Below.alloc (Below.refl _ _) (Nat.le_refl _) _).drew
  have hze : (w.alloc (.cells #[] 104)).drew.heap.size = w.heap.size + 1 := by simp
  have hrow0 : RefRow (w.alloc (.cells #[] 104)).drew (.slice (some ⟨w.heap.size, 0, none⟩) 0 0) [] :=
    ⟨rfl, .inr ⟨w.heap.size, 0, #[], rfl, Nat.zero_le _, heap_alloc_new w _, Nat.le_refl _, Nat.zero_le _, rfl, rfl⟩⟩
  obtain ⟨hA1, hA2⟩ := FilesAt.of_row h.row i
  have hA3 := (FilesAt.of_row h.row (i + 1)).2 (by omega)
  have hlen1 : (s.L.take i).length = i := by rw [List.length_take]; omega
  have hlen2 : (s.L.drop (i + 1)).length = s.L.length - (i + 1) := List.length_drop
  obtain ⟨v1, w1, hr1, hrow1, hg1, hat1⟩ := run_files (w.alloc (.cells #[] 104)).drew 39 _ [] (s.L.take i) ao cap hrow0 (hA1.below hbe) (by simp; omega)
  rw [hlen1] at hr1
  rw [List.nil_append] at hrow1
  have hb1 : Below w.heap.size w w1 := hbe.grown hg1 (by rw [hze]; omega) (fun k hk => by cases hk; exact Nat.le_refl _)
  have hv1 : ∀ b, v1.ownBlock = some b → w.heap.size ≤ b := fun b hb => by
    rcases hat1 with h | h
    · rw [h] at hb; cases hb; exact Nat.le_refl _
    · rw [h] at hb; cases hb; rw [hze]; omega
  obtain ⟨v2, w2, hr2, hrow2, hg2, hat2⟩ := run_files w1 39 v1 (s.L.take i) (s.L.drop (i + 1)) _ (cap - (i + 1)) hrow1 (hA3.below hb1) (by rw [hlen1, hlen2]; omega)
  rw [hlen2] at hr2
  have hb2 : Below w.heap.size w w2 := hb1.grown hg2 hb1.size hv1
  have hv2 : ∀ b, v2.ownBlock = some b → w.heap.size ≤ b := fun b hb => by
    rcases hat2 with h | h
    · exact hv1 b (by rw [← h]; exact hb)
    · rw [h] at hb; cases hb; exact hb1.size
  obtain ⟨ao2, cap2, hv2s, -⟩ := hrow2.slice
  subst hv2s
  have HF := hid (show RowPost w (s.L.take i ++ s.L.drop (i + 1)) (.returned (.slice ao2 (s.L.take i ++ s.L.drop (i + 1)).length cap2)) w2 from ⟨ao2, cap2, rfl, hrow2, hv2, hb2⟩)
  have l1 := fun wx => files_to wx ao s.L.length cap i (by omega) hnone
  have l2 := fun wx => files_from wx ao s.L.length cap (i + 1) (by omega) hcap
  have hiI : (i : Int) < (s.L.length : Int) := by omega
  have hmI : (s.L.length : Int) ≤ 40 := by omega
  have hW : IntKind.i64.wrap ((i : Int) + 1) = ((i + 1 : Nat) : Int) := by rw [show ((i + 1 : Nat) : Int) = (i : Int) + 1 by omega]; exact IntWalk.i64_in _ (by omega)
  have hW2 : ((i + 1 : Nat) : Int) = (i : Int) + 1 := by omega
  rw [hW2] at hW l2
  have c01 := (hb1.cell (p := ⟨r, 0, none⟩) hr).trans c0
  have c0a := (hbe.cell (p := ⟨r, 0, none⟩) hr).trans c0
  generalize (s.L.take i ++ s.L.drop (i + 1)).length = N at *
  generalize s.L.take i ++ s.L.drop (i + 1) = M at *
  generalize (if cap = i + 1 then ao else ao.map (·.add ((i + 1) * 3))) = ao3 at *
  clear hv2 hb2 hrow2 hat2 hg2 hv1 hb1 hat1 hg1 hrow1 hA1 hA2 hA3 hrow0 hze hbe hlen1 hlen2 hnone h hcap hmany hW2
  go_enter Tryz.func160, Tryz.ntmps160
  go_wp2
  go_region_law (first
    | (refine step_append_run rfl _ _ _ _ rfl _ _ rfl rfl _ _ hr1 ?_)
    | (refine step_append_run rfl _ _ _ _ rfl _ _ rfl rfl _ _ hr2 ?_))
  all_goals
    go_wp2
    go_ret
    exact HF.out
end
end Go.Proofs.YtbidglefddmjhaaGreatDoor

