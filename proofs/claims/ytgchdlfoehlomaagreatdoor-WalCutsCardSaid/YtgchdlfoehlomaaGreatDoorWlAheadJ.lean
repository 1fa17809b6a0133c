import Derived.Test.YtgchdlfoehlomaaGreatDoorWlStateJ
/-
  LAYER 3 (wal): the state: how many entries stay ahead of one that is put in.
-/
namespace Go.Proofs.YtgchdlfoehlomaaGreatDoor
open Go.RowKit Go.Maps
set_option linter.unusedVariables false
set_option maxRecDepth 100000

structure StRep (w : World) (B : Nat) (p a : Nat) (v : Value) (g : Lg) : Prop where
  head : own w p #[.pointer (some ⟨a, 0, none⟩), .int .i64 g.hd.term, .int .i64 g.hd.vote, v] 79
  row : EntRow w B v g.L
  apart : v.ownBlock ≠ some p
  hp : B ≤ p
theorem StRep.same {w w' : World} {B p a : Nat} {v : Value} {g : Lg} (h : StRep w B p a v g) (hp : w'.heap[p]? = w.heap[p]?) (hv : ∀ b, v.ownBlock = some b → w'.heap[b]? = w.heap[b]?) : StRep w' B p a v g := ⟨h.head.same hp, h.row.same hv, h.apart, h.hp⟩
theorem StRep.below {w w' : World} {B p a : Nat} {v : Value} {g : Lg} (h : StRep w B p a v g) (hb : Below w.heap.size w w') : StRep w' B p a v g := h.same (hb.block p h.head.lt) (fun b hb' => hb.block b (World.ownsRow.lt h.row b hb').2)
set_option maxHeartbeats 4000000 in
theorem ahead_any {w : World} {B p a : Nat} {v : Value} {g : Lg} (h : StRep w B p a v g) (hc : Consec g.L) (hin : ∀ e ∈ g.L, e.In) (hl : g.L.length ≤ 100000) (i : Int) (hi : I64 i) :
    Calls Tryz.prog 87 #[.pointer (some ⟨p, 1, none⟩), .int .i64 i] w fun e w' => e = .returned (.int .i64 (aheadE g.L i : Int)) ∧ Below w.heap.size w w' := by
  have c3 := h.head.cell 3
  simp at c3
  obtain ⟨ao, cap, rfl, hcap, hnone⟩ := h.row.slice
  by_cases h0 : g.L = []
  · have hz : aheadE g.L i = 0 := by unfold aheadE; rw [if_pos (.inl h0)]
    have hlen : g.L.length = 0 := by rw [h0]; rfl
    rw [hz]
    rw [hlen] at c3
    clear h hz hc hin hcap hnone hlen h0
    go_enter Tryz.func87, Tryz.ntmps87
    go_wp2
    go_ret
    exact ⟨rfl, Below.refl _ _⟩
  · have hpos := List.length_pos_iff.2 h0
    obtain ⟨gb, rfl, hgB, hglt, hcells, -⟩ := h.row.at hpos
    have q0 := (hcells 0 hpos).1
    have q1 := (hcells (g.L.length - 1) (by omega)).1
    have hfi : g.L[0].idx = firstI g.L := by have := hc 0 hpos; simpa using this
    have hla : (g.L[g.L.length - 1]'(by omega)).idx = lastI g.L := (lastI_get h0).symm
    rw [Nat.zero_mul, hfi] at q0
    rw [hla] at q1
    have hI1 : I64 (firstI g.L) := by rw [← hfi]; exact (hin _ (List.getElem_mem _)).idx
    have hI2 : I64 (lastI g.L) := by rw [← hla]; exact (hin _ (List.getElem_mem _)).idx
    have hle := aheadE_le hc hin i
    have hA : aheadE g.L i = if IntKind.i64.wrap (lastI g.L + 1) < i ∨ i < firstI g.L then 0 else (i - firstI g.L).toNat := by unfold aheadE; simp only [h0, false_or]
    have hHA := hid hA
    have hLe := hid hle
    obtain ⟨n, hn⟩ : ∃ n, g.L.length = n + 1 := ⟨g.L.length - 1, by omega⟩
    rw [hn] at c3
    rw [hn, Nat.add_sub_cancel] at q1
    have hn2 : (n : Int) ≤ 100000 := by omega
    have hIi := hid hi
    clear hA hle hcells hfi hla h hc hin h0 hpos hcap hnone hl
    generalize aheadE g.L i = A at *
    generalize firstI g.L = fi at *
    generalize lastI g.L = la at *
    obtain ⟨lw, hlw⟩ : ∃ lw, IntKind.i64.wrap (la + 1) = lw := ⟨_, rfl⟩
    rw [hlw] at hHA
    have hW1 : IntKind.i64.wrap ((n : Int) + 1 - 1) = (n : Int) := by rw [show (n : Int) + 1 - 1 = n by omega]; exact IntWalk.i64_in _ (by omega)
    have hW2 : IntKind.i64.wrap (n : Int) = (n : Int) := IntWalk.i64_in _ (by omega)
    clear hI1 hI2 hi
    by_cases hx : lw < i
    · have hAz : A = 0 := by rw [hHA.out, if_pos (.inl hx)]
      subst hAz
      clear hHA hLe
      go_enter Tryz.func87, Tryz.ntmps87
      go_wp2
      go_quiet (fail)
      go_wp2
      go_ret
      exact ⟨rfl, below_drew (Below.refl _ _) _⟩
    · by_cases hy : i < fi
      · have hAz : A = 0 := by rw [hHA.out, if_pos (.inr hy)]
        subst hAz
        clear hHA hLe
        go_enter Tryz.func87, Tryz.ntmps87
        go_wp2
        go_quiet (fail)
        go_wp2
        go_ret
        exact ⟨rfl, below_drew (Below.refl _ _) _⟩
      · have hAe : (A : Int) = i - fi := by
          have := hHA.out
          rw [if_neg (fun e => by rcases e with e | e; exact hx e; exact hy e)] at this
          omega
        have hAl : A ≤ n + 1 := by have := hLe.out.1; omega
        have hsub : IntKind.i64.wrap (i - fi) = (A : Int) := by rw [← hAe]; exact IntWalk.i64_in _ (by omega)
        clear hHA hLe hAe
        go_enter Tryz.func87, Tryz.ntmps87
        go_wp2
        go_quiet (fail)
        go_wp2
        go_ret
        exact ⟨rfl, below_drew (Below.refl _ _) _⟩
end Go.Proofs.YtgchdlfoehlomaaGreatDoor

