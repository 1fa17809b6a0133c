import Derived.Test.YtpcafkinpkepcaaGreatDoorWq22
import Derived.Maps.AppendAt
/-
  Wq23: DkNew, DkMore, RkRep, in one text.
-/
/-
  LAYER 2 (disk): New.
-/
namespace Go.Proofs.YtpcafkinpkepcaaGreatDoor
open Go.RowKit Go.Maps
set_option linter.unusedVariables false
set_option maxRecDepth 100000

def NewPost (w : World) (s : Dk) (e : Ending) (w' : World) : Prop := ∃ a S, e = .returned (.tuple #[.pointer (some ⟨a, 0, none⟩), .int .i64 0]) ∧ DiskIs w' S a s ∧ (∀ b, S b → w.heap.size ≤ b) ∧ Below w.heap.size w w'
set_option maxHeartbeats 1000000 in
theorem new_ok (m : Int) (w : World) (h0 : 0 ≤ m) (h1 : m ≤ 10000000) : Calls Tryz.prog 28 #[.int .i64 m] w (NewPost w (newD m)) := by
  have hfin : NewPost w (newD m) (.returned (.tuple #[.pointer (some ⟨w.heap.size + 1, 0, none⟩), .int .i64 0])) ((w.alloc (.map #[] 0)).alloc (.cells #[.int .i64 m, .map (some w.heap.size), .bool false, .int .i64 0, .bool false] 105)) := by
    have hz : (w.alloc (.map #[] 0)).heap.size = w.heap.size + 1 := by simp
    refine ⟨w.heap.size + 1, fun b => b = w.heap.size ∨ b = w.heap.size + 1, rfl, ⟨w.heap.size, [], ?_⟩, fun b hb => by omega, ((Below.refl _ w).alloc (Nat.le_refl _) _).alloc (by simp) _⟩
    refine ⟨⟨0, ?_, fun h => by simp [newD] at h⟩, rfl, ?_, by simp, by simp, by simp, fun b hb => ?_, Ok_new h0 h1⟩
    · have := own.new (w.alloc (.map #[] 0)) #[.int .i64 m, .map (some w.heap.size), .bool false, .int .i64 0, .bool false] 105
      rw [hz] at this
      exact this
    · exact (World.ownsMap_made w Tryz.prog 9 ptrElem).alloc _
    · simp; omega
  have HF := hid hfin
  clear hfin
  generalize newD m = s at *
  have hmk : (Instr.makeMap 103 none).run Tryz.prog w = .ok (.map (some w.heap.size)) (w.alloc (.map #[] 0)) := rfl
  go_enter Tryz.func28, Tryz.ntmps28
  go_wp2
  go_ret2
  exact HF.out
set_option maxHeartbeats 1000000 in
theorem new_bad (m : Int) (w : World) (h : m < 0 ∨ 10000000 < m) : Calls Tryz.prog 28 #[.int .i64 m] w fun e w' => e = .returned (.tuple #[.pointer none, .int .i64 2]) ∧ w = w' := by
  rcases h with h | h
  · go_enter Tryz.func28, Tryz.ntmps28
    go_wp2
    go_ret2
    exact ⟨rfl, rfl⟩
  · have h2 : 0 ≤ m := by omega
    go_enter Tryz.func28, Tryz.ntmps28
    go_wp2
    go_ret2
    exact ⟨rfl, rfl⟩
end Go.Proofs.YtpcafkinpkepcaaGreatDoor

/-
  LAYER 2 (disk): small laws of a disk's list, and of names.
-/
namespace Go.Proofs.YtpcafkinpkepcaaGreatDoor
open Go.RowKit Go.Maps
set_option linter.unusedVariables false
set_option maxRecDepth 100000
theorem sz_take {L : List AF} {k : Nat} (hk : k < L.length) : sz (L.take (k + 1)) = sz (L.take k) + L[k].data.length := by
  rw [List.take_succ_eq_append_getElem hk]
  unfold sz
  rw [List.map_append, List.sum_append]
  simp
theorem sz_take_le (L : List AF) (k : Nat) : sz (L.take k) ≤ sz L := by
  have h : sz (L.take k ++ L.drop k) = sz L := by rw [List.take_append_drop]
  rw [← h]
  unfold sz
  rw [List.map_append, List.sum_append]
  omega
theorem rd_at {s : Dk} (h : s.Ok) (hd : s.dead = false) {k : Nat} (hk : k < s.L.length) : rd s s.L[k].name = (s.L[k].data, 0) := by
  unfold rd
  rw [hd, show fndK AF.key s.L[k].name s.L = some s.L[k] from fndK_of_mem h.rise (List.getElem_mem hk)]
  rfl
theorem rise_at {L : List AF} (h : RiseK AF.key L) {i j : Nat} (hij : i < j) (hj : j < L.length) : (L[i]'(by omega)).name < L[j].name := by
  unfold RiseK at h
  rw [List.pairwise_iff_getElem] at h
  exact h i j (by omega) hj hij
theorem names_slice2 {w : World} {B : Nat} {v : Value} {L : List AF} (h : NamesAt w B v (L.map AF.name)) : ∃ ao cap, v = .slice ao L.length cap := by
  obtain ⟨ao, cap, hv⟩ := names_slice h
  exact ⟨ao, cap, by rw [hv]; simp⟩
theorem names_cell2 {w : World} {B : Nat} {ao : Option Addr} {cp : Nat} {L : List AF} (h : NamesAt w B (.slice ao L.length cp) (L.map AF.name)) {j : Nat} (hj : j < L.length) :
    ∃ g, ao = some ⟨g, 0, none⟩ ∧ B ≤ g ∧ g < w.heap.size ∧ ∀ i (hi : i < L.length), w.cell? ⟨g, i, none⟩ = some (.string (mk L[i].name)) := by
  obtain ⟨g, cp', hv, h1, h2, _, _⟩ := names_cell h (j := j) (by simpa using hj)
  simp only [Value.slice.injEq] at hv
  obtain ⟨rfl, _, rfl⟩ := hv
  refine ⟨g, rfl, h1, h2, fun i hi => ?_⟩
  obtain ⟨g2, cp2, hv2, _, _, _, hc⟩ := names_cell h (j := i) (by simpa using hi)
  simp only [Value.slice.injEq, Option.some.injEq, Addr.mk.injEq] at hv2
  obtain rfl : g = g2 := hv2.1.1
  simpa using hc

theorem IntsAt.mono {w : World} {B B' : Nat} {v : Value} {xs : List Int} (h : IntsAt w B v xs) (hB : B ≤ B') : IntsAt w B' v xs := by
  obtain ⟨a, cap, hv, hc⟩ := h
  refine ⟨a, cap, hv, fun hne => ?_⟩
  obtain ⟨sb, so, h1, h2, h3⟩ := hc hne
  exact ⟨sb, so, h1, by omega, h3⟩
end Go.Proofs.YtpcafkinpkepcaaGreatDoor

/-
  LAYER 2 (disk), THE DOCUMENT's ANSWER: how its disk lies in memory: a struct, and a row of structs of three cells.
-/
namespace Go.Proofs.YtpcafkinpkepcaaGreatDoor
open Go.RowKit Go.Maps
set_option linter.unusedVariables false
set_option maxRecDepth 100000

def fcells (f : AF) : List Value := [.string (mk f.name), .string (mk f.data), .int .i64 (f.synced : Int)]
def flat (L : List AF) : List Value := L.flatMap fcells
theorem flat_length (L : List AF) : (flat L).length = L.length * 3 := by
  induction L with
  | nil => rfl
  | cons f r ih => simp only [flat, List.flatMap_cons, List.length_append, List.length_cons] at *; rw [ih]; simp [fcells]; omega
theorem flat_cons (f : AF) (r : List AF) : flat (f :: r) = fcells f ++ flat r := rfl
theorem flat_append (A C : List AF) : flat (A ++ C) = flat A ++ flat C := by simp [flat]
theorem flat_get : ∀ {L : List AF} {i k : Nat} (hi : i < L.length), k < 3 → (flat L)[i * 3 + k]? = (fcells L[i])[k]?
  | f :: r, 0, k, hi, hk => by
    rw [flat_cons, Nat.zero_mul, Nat.zero_add, List.getElem?_append_left (by simp [fcells]; omega)]; rfl
  | f :: r, i + 1, k, hi, hk => by
    rw [flat_cons, List.getElem?_append_right (by simp [fcells]; omega)]
    have : (i + 1) * 3 + k - (fcells f).length = i * 3 + k := by simp [fcells]; omega
    rw [this, flat_get (by simpa using hi) hk]
    rfl
theorem flat_set : ∀ {L : List AF} {i k : Nat} {v : Value} {f' : AF} (hi : i < L.length), k < 3 → (fcells L[i]).set k v = fcells f' → (flat L).set (i * 3 + k) v = flat (L.set i f')
  | f :: r, 0, k, v, f', hi, hk, h => by
    rw [flat_cons, Nat.zero_mul, Nat.zero_add, List.set_append, if_pos (by simp [fcells]; omega)]
    rw [List.set_cons_zero, flat_cons]
    congr 1
  | f :: r, i + 1, k, v, f', hi, hk, h => by
    rw [flat_cons, List.set_append, if_neg (by simp [fcells]; omega)]
    have : (i + 1) * 3 + k - (fcells f).length = i * 3 + k := by simp [fcells]; omega
    rw [this, flat_set (L := r) (i := i) (f' := f') (by simpa using hi) hk (by simpa using h)]
    rfl
theorem flat_one (L : List AF) : ∀ u ∈ flat L, u.oneCell' = true := by
  intro u hu
  obtain ⟨f, _, hf⟩ := List.mem_flatMap.1 hu
  simp [fcells] at hf
  rcases hf with rfl | rfl | rfl <;> rfl

theorem ownsRow_set {w : World} {B : Nat} {e : TypeId} {size : Nat} {v : Value} {n : Nat} {xs : List Value} (h : w.ownsRow B e size v n xs) {g : Nat} (hg : v.ownBlock = some g) {j : Nat} (hj : j < xs.length) (u : Value) :
    (w.setCell ⟨g, j, none⟩ u).ownsRow B e size v n (xs.set j u) := by
  obtain ⟨h1, h2⟩ := h
  refine ⟨by simpa using h1, ?_⟩
  rcases h2 with ⟨rfl, _⟩ | ⟨g', cap, cur, rfl, hB, hgc, hnc, hcm, hcs, htake⟩
  · cases hg
  · obtain rfl : g' = g := by simpa [Value.ownBlock] using hg
    refine .inr ⟨g', cap, cur.setIfInBounds j u, rfl, hB, ?_, hnc, hcm, by simpa using hcs, ?_⟩
    · simp [World.setCell, Array.getElem?_modify, hgc]
    · rw [Array.toList_setIfInBounds, List.take_set, htake]
def RefRow (w : World) (v : Value) (L : List AF) : Prop := w.ownsRow 0 108 3 v L.length (flat L)
theorem RefRow.slice {w : World} {v : Value} {L : List AF} (h : RefRow w v L) : ∃ ao cap, v = .slice ao L.length cap ∧ L.length ≤ cap ∧ (ao = none → cap = 0) ∧ (∀ q, ao = some q → q = ⟨q.block, 0, none⟩ ∧ q.block < w.heap.size) := by
  have hlt := World.ownsRow.lt h
  rcases h.2 with ⟨hv, hz⟩ | ⟨g, cap, cur, rfl, _, _, hnc, _⟩
  · exact ⟨none, 0, by rw [hv, hz], by omega, fun _ => rfl, fun q hq => by cases hq⟩
  · exact ⟨_, cap, rfl, hnc, fun e => (by cases e), fun q hq => by cases hq; exact ⟨rfl, (hlt g rfl).2⟩⟩
theorem RefRow.at {w : World} {ao : Option Addr} {cap : Nat} {L : List AF} (h : RefRow w (.slice ao L.length cap) L) {i : Nat} (hi : i < L.length) : ∃ g, ao = some ⟨g, 0, none⟩ ∧ g < w.heap.size ∧
    (∀ (k : Nat) (hk : k < L.length), w.cell? ⟨g, k * 3, none⟩ = some (.string (mk L[k].name)) ∧ w.cell? ⟨g, k * 3 + 1, none⟩ = some (.string (mk L[k].data)) ∧ w.cell? ⟨g, k * 3 + 2, none⟩ = some (.int .i64 (L[k].synced : Int))) ∧ ∀ j, w.frozen? ⟨g, j, none⟩ = false := by
  have hlt := World.ownsRow.lt h
  have hcs := fun g hg => World.ownsRow.cells h (g := g) hg
  rcases h.2 with ⟨hv, hz⟩ | ⟨g, cap', cur, hv, _, hg, _⟩
  · omega
  · simp only [Value.slice.injEq] at hv
    obtain ⟨rfl, _, _⟩ := hv
    have hadd : ∀ j, (⟨g, 0, none⟩ : Addr).add j = ⟨g, j, none⟩ := fun j => by unfold Addr.add; split <;> simp_all
    refine ⟨g, rfl, (hlt g rfl).2, fun k hk => ⟨?_, ?_, ?_⟩, fun j => Lib.frozen_of_heap hg j⟩
    · have := hcs g rfl (k * 3 + 0) _ ((flat_get hk (by omega)).trans rfl)
      rw [hadd] at this; exact this
    · have := hcs g rfl (k * 3 + 1) _ ((flat_get hk (by omega)).trans rfl)
      rw [hadd] at this; exact this
    · have := hcs g rfl (k * 3 + 2) _ ((flat_get hk (by omega)).trans rfl)
      rw [hadd] at this; exact this

/-- The document's disk. -/
structure RefRep (w : World) (S : Nat → Prop) (r : Nat) (v : Value) (s : Dk) : Prop where
  head : own w r #[v, .int .i64 s.most, .int .i64 s.fuse, .bool s.dead] 41
  row : RefRow w v s.L
  apart : v.ownBlock ≠ some r
  inS : S r ∧ ∀ b, v.ownBlock = some b → S b
  lt : ∀ b, S b → b < w.heap.size
  ok : s.Ok
def RefIs (w : World) (S : Nat → Prop) (r : Nat) (s : Dk) : Prop := ∃ v, RefRep w S r v s
section
variable {w w' : World} {S : Nat → Prop} {r : Nat} {v : Value} {s : Dk}
theorem RefRep.same (h : RefRep w S r v s) (hz : w.heap.size ≤ w'.heap.size) (hs : ∀ b, S b → w'.heap[b]? = w.heap[b]?) : RefRep w' S r v s :=
  ⟨h.head.same (hs r h.inS.1), ownsRow_same h.row (fun b hb => hs b (h.inS.2 b hb)), h.apart, h.inS, fun b hb => by have := h.lt b hb; omega, h.ok⟩
theorem RefRep.below (h : RefRep w S r v s) (hb : Below w.heap.size w w') : RefRep w' S r v s := h.same hb.size (fun b hs => hb.block b (h.lt b hs))
theorem RefIs.below (h : RefIs w S r s) (hb : Below w.heap.size w w') : RefIs w' S r s := by obtain ⟨v, h⟩ := h; exact ⟨v, h.below hb⟩
theorem RefIs.same (h : RefIs w S r s) (hz : w.heap.size ≤ w'.heap.size) (hs : ∀ b, S b → w'.heap[b]? = w.heap[b]?) : RefIs w' S r s := by obtain ⟨v, h⟩ := h; exact ⟨v, h.same hz hs⟩
theorem RefRep.widen (h : RefRep w S r v s) {T : Nat → Prop} (hT : ∀ b, S b → T b) (hlt : ∀ b, T b → b < w.heap.size) : RefRep w T r v s :=
  ⟨h.head, h.row, h.apart, ⟨hT _ h.inS.1, fun b hb => hT b (h.inS.2 b hb)⟩, hlt, h.ok⟩
/-- The head's numbers turned. -/
theorem RefRep.turn (h : RefRep w S r v s) {fu : Int} {dd : Bool} (hw : own w' r #[v, .int .i64 s.most, .int .i64 fu, .bool dd] 41) (hc : Chg (fun b => b = r) w w') (hf : -1 ≤ fu ∧ fu ≤ 9223372036854775807) : RefRep w' S r v { s with fuse := fu, dead := dd } :=
  ⟨hw, ownsRow_same h.row (fun b hb => hc.block b (h.lt b (h.inS.2 b hb)) (fun e => h.apart (by rw [hb, e]))), h.apart, h.inS, fun b hb => by have := h.lt b hb; have := hc.size; omega, ⟨h.ok.rise, h.ok.names, h.ok.sync, h.ok.many, h.ok.room, h.ok.most, hf⟩⟩
/-- Another row of files. -/
theorem RefRep.newRow (h : RefRep w S r v s) {v' : Value} {L : List AF} (hrow : RefRow w v' L) (hv : ∀ b, v'.ownBlock = some b → w.heap.size ≤ b ∨ (S b ∧ b ≠ r)) (hok : ({ s with L := L } : Dk).Ok) {w0 : World} (hz : w0.heap.size ≤ w.heap.size)
    (hnew : ∀ b, v'.ownBlock = some b → w0.heap.size ≤ b ∨ S b) (hS : ∀ b, S b → b < w0.heap.size) (hne : ∀ b, v'.ownBlock = some b → b ≠ r) :
    RefRep (w.setCell ⟨r, 0, none⟩ v') (grow S w0 (w.setCell ⟨r, 0, none⟩ v')) r v' { s with L := L } := by
  refine ⟨by simpa using h.head.set 0 v', ownsRow_same hrow (fun b hb => Below.heap_setCell _ _ _ _ (hne b hb)), fun e => hne r e rfl, ⟨.inl h.inS.1, fun b hb => ?_⟩, grow_lt hS (by rw [setCell_size]; exact hz), hok⟩
  rcases hnew b hb with h1 | h1
  · exact .inr ⟨h1, by rw [setCell_size]; exact (World.ownsRow.lt hrow b hb).2⟩
  · exact .inl h1
def RefPost (w : World) (S : Nat → Prop) (r : Nat) (q : Dk × Int) (e : Ending) (w' : World) : Prop := e = .returned (.int .i64 q.2) ∧ RefIs w' (grow S w w') r q.1 ∧ Chg S w w'
def RefTail (w : World) (S : Nat → Prop) (r : Nat) (s : Dk) (e : Ending) (w' : World) : Prop := e = .returned (.tuple #[]) ∧ RefIs w' (grow S w w') r s ∧ Chg S w w'
theorem RefRep.growBelow (h : RefRep w S r v s) (hb : Below w.heap.size w w') : RefRep w' (grow S w w') r v s := (h.below hb).widen grow_mono (grow_lt h.lt hb.size)
theorem RefPost.none (h : RefRep w S r v s) {k : Int} {w' : World} (hb : Below w.heap.size w w') : RefPost w S r (s, k) (.returned (.int .i64 k)) w' := ⟨rfl, ⟨v, h.growBelow hb⟩, Chg.of_below hb⟩

/-! ### find, Size, turn, there -/
def FoundV (s : Dk) (n : List UInt8) : Value := .tuple #[.int .i64 (ahead AF.key n s.L : Int), .bool (fndK AF.key n s.L).isSome]
theorem lss_eq (a : List UInt8) (n : ByteArray) : Op.bytesLess (mk a).toList n.toList = decide (a < n.data.toList) := by rw [Lib.toList_data, Lib.toList_data, mk_data, bytesLess_lt]
theorem ahead_step {n : List UInt8} {L : List AF} {k : Nat} (hk : k < L.length) (h : k < ahead AF.key n L) : L[k].name < n := by
  obtain ⟨x, hx, hlt⟩ := ahead_lt h
  rw [List.getElem?_eq_getElem hk] at hx
  rw [Option.some.inj hx]; exact hlt
theorem ahead_stop {n : List UInt8} {L : List AF} {k : Nat} (hk : k < L.length) (h : k = ahead AF.key n L) : ¬ L[k].name < n := by
  subst h
  exact ahead_at (key := AF.key) (List.getElem?_eq_getElem hk)

set_option maxHeartbeats 4000000 in
theorem refFind_any (h : RefRep w S r v s) (n : ByteArray) : Calls Tryz.prog 74 #[.pointer (some ⟨r, 0, none⟩), .string n] w fun e w' => e = .returned (FoundV s n.data.toList) ∧ Below w.heap.size w w' := by
  have c0 := h.head.cell 0
  simp at c0
  obtain ⟨ao, cap, rfl, hcap, hnone, hsome⟩ := h.row.slice
  have hrow := hid h.row
  have hmany := h.ok.many
  have hal := ahead_le (key := AF.key) n.data.toList s.L
  have hfd := hid (ahead_fnd (key := AF.key) (n := n.data.toList) h.ok.rise)
  have hFV : FoundV s n.data.toList = .tuple #[.int .i64 (ahead AF.key n.data.toList s.L : Int), .bool (fndK AF.key n.data.toList s.L).isSome] := rfl
  have HFV := hid hFV
  have hst := hid (fun k (hk : k < s.L.length) h => ahead_step (n := n.data.toList) hk h)
  have hsp := hid (fun k (hk : k < s.L.length) h => ahead_stop (n := n.data.toList) hk h)
  clear h hFV hsome hnone
  generalize ahead AF.key n.data.toList s.L = A at *
  go_enter Tryz.func74, Tryz.ntmps74
  go_wp2
  go_loop [6] (fun i => ∃ k : Nat, k ≤ A ∧ i = .int .i64 k) (fun i => s.L.length - (intOf i).toNat)
  case atStart => exact ⟨0, Nat.zero_le _, rfl⟩
  case round =>
    obtain ⟨k, hk, rfl⟩ := hrel
    by_cases hlt : k < s.L.length
    · obtain ⟨g, rfl, hg, hcells, hfz⟩ := hrow.out.at hlt
      have cn := (hcells k hlt).1
      have hkI : (k : Int) < (s.L.length : Int) := by omega
      have hmI : (s.L.length : Int) ≤ 40 := by omega
      by_cases hkA : k < A
      · have q1 : Op.bytesLess (mk s.L[k].name).toList n.toList = true := by rw [lss_eq]; exact decide_eq_true (hst.out k hlt hkA)
        clear hcells hfz
        generalize mk s.L[k].name = nb at *
        go_wp2
        go_round
        case rel => exact ⟨k + 1, by omega, by go_num⟩
        case measure => simp [intOf]; omega
      · obtain rfl : k = A := by omega
        have q1 : Op.bytesLess (mk s.L[k].name).toList n.toList = false := by rw [lss_eq]; exact decide_eq_false (hsp.out k hlt rfl)
        have hfo : (fndK AF.key n.data.toList s.L).isSome = decide (s.L[k].name = n.data.toList) := by
          rw [hfd.out, List.getElem?_eq_getElem hlt]
          simp only [Option.bind_some]
          by_cases he : s.L[k].name = n.data.toList
          · rw [if_pos (show AF.key s.L[k] = n.data.toList from he)]; simp [he]
          · rw [if_neg (show ¬ AF.key s.L[k] = n.data.toList from he)]; simp [he]
        have q2 : ((mk s.L[k].name).toList == n.toList) = decide (s.L[k].name = n.data.toList) := by rw [Lib.toList_data, Lib.toList_data, mk_data, Bool.eq_iff_iff]; simp
        have HV := hid (HFV.out.trans (by rw [hfo]))
        generalize decide (s.L[k].name = n.data.toList) = q at *
        clear hcells hfz hfo
        generalize mk s.L[k].name = nb at *
        go_wp2
        go_quiet (fail)
        go_wp2
        go_ret2
        exact ⟨by rw [HV.out]; rfl, below_drew (Below.refl _ _) _⟩
    · have hkA : k = A := by omega
      subst hkA
      have hkl : k = s.L.length := by omega
      have hfo : (fndK AF.key n.data.toList s.L).isSome = false := by
        rw [hfd.out, List.getElem?_eq_none (by omega)]; rfl
      have HV := hid (HFV.out.trans (by rw [hfo]))
      have hq : decide ((k : Int) < (s.L.length : Int)) = false := by simp; omega
      have hq' : decide (k < s.L.length) = false := by simp; omega
      clear hfo hkl hlt
      go_wp2
      go_quiet (fail)
      go_wp2
      go_ret2
      exact ⟨by rw [HV.out]; rfl, below_drew (Below.refl _ _) _⟩
end
end Go.Proofs.YtpcafkinpkepcaaGreatDoor

