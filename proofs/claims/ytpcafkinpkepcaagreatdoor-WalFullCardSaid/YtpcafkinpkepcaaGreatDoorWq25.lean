import Derived.Test.YtpcafkinpkepcaaGreatDoorWq24
import Derived.Deep.RegionLaw
/-
  Wq25: RkB, in one text.
-/
/-
  LAYER 2 (disk), THE DOCUMENT's ANSWER: without and with: rows of files made anew.
-/
namespace Go.Proofs.YtpcafkinpkepcaaGreatDoor
open Go.RowKit Go.Maps
set_option linter.unusedVariables false
set_option maxRecDepth 100000

theorem infoFile : (Tryz.prog.info? 108).map (fun i => (i.zero, i.size, i.bytes)) = some (some (.agg #[.string ⟨#[]⟩, .string ⟨#[]⟩, .int .i64 0]), 3, 40) := by kernel_rfl
theorem infoFile_parts : ∃ i, Tryz.prog.info? 108 = some i ∧ i.zero = some (.agg #[.string ⟨#[]⟩, .string ⟨#[]⟩, .int .i64 0]) ∧ i.size = 3 ∧ i.bytes = 40 := by
  obtain ⟨i, hi, hz⟩ := Option.map_eq_some_iff.1 infoFile
  simp only [Prod.mk.injEq] at hz
  exact ⟨i, hi, hz.1, hz.2.1, hz.2.2⟩
/-- A slice of files that reads as a list. -/
def FilesAt (w : World) (A : Option Addr) (L : List AF) : Prop := L ≠ [] → ∃ g o, A = some ⟨g, o, none⟩ ∧ ∀ j u, (flat L)[j]? = some u → w.cell? ⟨g, o + j, none⟩ = some u
theorem FilesAt.below {w w' : World} {A : Option Addr} {L : List AF} (h : FilesAt w A L) (hb : Below w.heap.size w w') : FilesAt w' A L := by
  intro hne
  obtain ⟨g, o, hA, hc⟩ := h hne
  refine ⟨g, o, hA, fun j u hj => ?_⟩
  have := hc j u hj
  have hlt := World.block_lt_of_cell? w _ this
  exact (hb.cell (p := ⟨g, o + j, none⟩) hlt).trans this
theorem run_files (w : World) (ty : TypeId) (v : Value) (L1 L2 : List AF) (A : Option Addr) (c : Nat) (hown : RefRow w v L1) (hr : FilesAt w A L2) (hb : L1.length + L2.length ≤ 1000) :
    ∃ v' w', (Builtin.append_ #[39, 39] ty #[v, .slice A L2.length c]).run Tryz.prog w = .ok v' w' ∧ RefRow w' v' (L1 ++ L2) ∧ w.grownBy w' v.ownBlock ∧ (v'.ownBlock = v.ownBlock ∨ v'.ownBlock = some w.heap.size) := by
  obtain ⟨i0, hi, hz0, hz1, hz2⟩ := infoFile_parts
  have hne : ∀ ad, A = some ad → ∃ v' w', (Builtin.append_ #[39, 39] ty #[v, .slice A L2.length c]).run Tryz.prog w = .ok v' w' ∧ RefRow w' v' (L1 ++ L2) ∧ w.grownBy w' v.ownBlock ∧ (v'.ownBlock = v.ownBlock ∨ v'.ownBlock = some w.heap.size) := by
    intro ad hA
    subst hA
    have hcells : ∀ j u, (flat L2)[j]? = some u → w.cell? (ad.add j) = some u := by
      intro j u hu
      have hL : L2 ≠ [] := fun e => by rw [e] at hu; simp [flat] at hu
      obtain ⟨g, o, hA, hc⟩ := hr hL
      cases hA
      rw [show (⟨g, o, none⟩ : Addr).add j = ⟨g, o + j, none⟩ from Go.WideShapes.add_plain ..]
      exact hc j u hu
    obtain ⟨v', w', hrun, h2, h3, _, h5⟩ := run_append_own_at (P := Tryz.prog) w 0 39 ty 108 i0 _ 3 40 Tryz.underlying39 hi hz0 hz1 hz2 rfl (by omega) v L1.length (flat L1) hown ad L2.length c (flat L2) (flat_length L2) hcells (flat_one L2) (by unfold maxLen; omega) (by omega) (Nat.zero_le _)
    refine ⟨v', w', hrun, ?_, h3, h5⟩
    unfold RefRow
    rw [List.length_append, flat_append]
    exact h2
  cases A with
  | some ad => exact hne ad rfl
  | none =>
    have hL : L2 = [] := by
      rcases L2 with _ | ⟨f, l⟩
      · rfl
      · obtain ⟨g, o, hA, _⟩ := hr (by simp)
        cases hA
    subst hL
    refine ⟨v, w, ?_, by simpa using hown, World.grownBy.refl w _, .inl rfl⟩
    rcases hown.2 with ⟨rfl, h0⟩ | ⟨g, cap, cur, rfl, _, _, hnc, _⟩
    · simp [Builtin.append_, run_underlying Tryz.underlying39, sizeOf, typeInfo, hi, Builtin.lenOf, Builtin.firstCells]
    · simp [Builtin.append_, run_underlying Tryz.underlying39, sizeOf, typeInfo, hi, Builtin.lenOf, Builtin.firstCells, hnc, storeCells]

theorem step_append_run {ops : Array Oper} {o : Oper} {a : Act} {w : World} {K : Act → World → Prop} {Q : Exit → Act → World → Prop} {E : Prop}
    (hg : o.guard = none) (s x : Operand) (t u : TypeId) (hop : o.op = Op.call { callee := Callee.builtin Builtin.append, args := #[s, x], argTypes := #[t, u] })
    (v y : Value) (hs : a.eval s = v) (hx : a.eval x = y) (v' : Value) (w' : World) (hr : (Builtin.append_ #[t, u] o.type #[v, y]).run Tryz.prog w = .ok v' w') (hK : K (a.put o.dst v') w') :
    if Region.wanted o (yielded ops a.tmps) = true then Oper.wp Tryz.prog o a w K Q else E := by
  have hw : Region.wanted o (yielded ops a.tmps) = true := by simp [Region.wanted, hg]
  rw [if_pos hw]
  unfold Oper.wp
  simp [execOp, hop, resolve, invoke, builtin, hs, hx, hr, Result.andThen]
  exact hK

/-- s[:i] and s[i:] of a slice of files. -/
theorem files_to (wx : World) (ao : Option Addr) (L cap i : Nat) (hi : i ≤ cap) (hao : ao = none → cap = 0) : (Instr.slice 39 (.slice ao L cap) none (some (.int .i64 (i : Int))) none).run Tryz.prog wx = .ok (.slice ao i cap) wx := by
  cases ao with
  | none =>
    obtain rfl := hao rfl
    obtain rfl : i = 0 := by omega
    simp [go_sem, Instr.slice, run_underlying Tryz.underlying39]
  | some q => simp [go_sem, Instr.slice, run_underlying Tryz.underlying39, hi]
theorem files_from (wx : World) (ao : Option Addr) (L cap i : Nat) (hi : i ≤ L) (hL : L ≤ cap) : (Instr.slice 39 (.slice ao L cap) (some (.int .i64 (i : Int))) none none).run Tryz.prog wx = .ok (.slice (if cap = i then ao else ao.map (·.add (i * 3))) (L - i) (cap - i)) wx := by
  obtain ⟨i0, hi0, _, hz1, _⟩ := infoFile_parts
  have h := run_slice_l (P := Tryz.prog) wx 39 ao L cap (by kernel_rfl) .i64 (i : Int) (by omega) (by omega)
  rw [h]
  have he : Tryz.prog.elem 39 = 108 := by kernel_rfl
  rw [he]
  simp [sizeOf, typeInfo, hi0, hz1, sliced, Result.andThen]
theorem FilesAt.of_row {w : World} {ao : Option Addr} {cap : Nat} {L : List AF} (h : RefRow w (.slice ao L.length cap) L) (i : Nat) : FilesAt w ao (L.take i) ∧ (i ≤ L.length → FilesAt w (if cap = i then ao else ao.map (·.add (i * 3))) (L.drop i)) := by
  have hcs := fun g hg => World.ownsRow.cells h (g := g) hg
  rcases h.2 with ⟨hv, hz⟩ | ⟨g, cap', cur, hv, _, hg, hnc, _⟩
  · have hL : L = [] := List.eq_nil_of_length_eq_zero hz
    subst hL
    exact ⟨fun hne => absurd (by simp) hne, fun _ hne => absurd (by simp) hne⟩
  · simp only [Value.slice.injEq] at hv
    obtain ⟨rfl, _, rfl⟩ := hv
    have hadd : ∀ j, (⟨g, 0, none⟩ : Addr).add j = ⟨g, j, none⟩ := fun j => by unfold Addr.add; split <;> simp_all
    have hcell : ∀ j u, (flat L)[j]? = some u → w.cell? ⟨g, j, none⟩ = some u := fun j u hj => by rw [← hadd]; exact hcs g rfl j u hj
    have hsplit : flat L = flat (L.take i) ++ flat (L.drop i) := by rw [← flat_append, List.take_append_drop]
    refine ⟨fun _ => ⟨g, 0, rfl, fun j u hj => ?_⟩, fun hi hne => ?_⟩
    · rw [Nat.zero_add]
      refine hcell j u ?_
      rw [hsplit, List.getElem?_append_left]
      · exact hj
      · rcases Nat.lt_or_ge j (flat (L.take i)).length with h | h
        · exact h
        · rw [List.getElem?_eq_none h] at hj; cases hj
    · have hlt : i < L.length := by
        rcases Nat.lt_or_ge i L.length with h | h
        · exact h
        · exact absurd (List.drop_of_length_le h) hne
      refine ⟨g, i * 3, by rw [if_neg (by omega)]; simp [hadd], fun j u hj => hcell _ u ?_⟩
      rw [hsplit, List.getElem?_append_right (by rw [flat_length, List.length_take]; omega), flat_length, List.length_take, Nat.min_eq_left (by omega), show i * 3 + j - i * 3 = j by omega]
      exact hj

def RowPost (w : World) (L : List AF) (e : Ending) (w' : World) : Prop := ∃ ao cap, e = .returned (.slice ao L.length cap) ∧ RefRow w' (.slice ao L.length cap) L ∧ (∀ b, (Value.slice ao L.length cap).ownBlock = some b → w.heap.size ≤ b) ∧ Below w.heap.size w w'
section
variable {w w' : World} {S : Nat → Prop} {r : Nat} {v : Value} {s : Dk}
set_option maxHeartbeats 4000000 in
theorem refWithout_any (h : RefRep w S r v s) (i : Nat) (hi : i < s.L.length) : Calls Tryz.prog 164 #[.pointer (some ⟨r, 0, none⟩), .int .i64 (i : Int)] w (RowPost w (s.L.take i ++ s.L.drop (i + 1))) := by
  obtain ⟨ao, cap, rfl, hcap, hnone, -⟩ := h.row.slice
  have hmany := h.ok.many
  have c0 := h.head.cell 0
  simp at c0
  have hr := h.head.lt
  -- the empty row, and what is appended to it
  have hbe : Below w.heap.size w (w.alloc (.cells #[] 108)).drew := (Below.alloc (Below.refl _ _) (Nat.le_refl _) _).drew
  have hze : (w.alloc (.cells #[] 108)).drew.heap.size = w.heap.size + 1 := by simp
  have hrow0 : RefRow (w.alloc (.cells #[] 108)).drew (.slice (some ⟨w.heap.size, 0, none⟩) 0 0) [] :=
    ⟨rfl, .inr ⟨w.heap.size, 0, #[], rfl, Nat.zero_le _, heap_alloc_new w _, Nat.le_refl _, Nat.zero_le _, rfl, rfl⟩⟩
  obtain ⟨hA1, hA2⟩ := FilesAt.of_row h.row i
  have hA3 := (FilesAt.of_row h.row (i + 1)).2 (by omega)
  have hlen1 : (s.L.take i).length = i := by rw [List.length_take]; omega
  have hlen2 : (s.L.drop (i + 1)).length = s.L.length - (i + 1) := List.length_drop
  obtain ⟨v1, w1, hr1, hrow1, hg1, hat1⟩ := run_files (w.alloc (.cells #[] 108)).drew 39 _ [] (s.L.take i) ao cap hrow0 (hA1.below hbe) (by simp; omega)
  rw [hlen1] at hr1
  rw [List.nil_append] at hrow1
  have hb1 : Below w.heap.size w w1 := hbe.grown hg1 (by rw [hze]; omega) (fun k hk => by cases hk; exact Nat.le_refl _)
  have hv1 : ∀ b, v1.ownBlock = some b → w.heap.size ≤ b := fun b hb => by
    rcases hat1 with h | h
    · rw [h] at hb; cases hb; exact Nat.le_refl _
    · rw [h] at hb; cases hb; rw [hze]; omega
  obtain ⟨v2, w2, hr2, hrow2, hg2, hat2⟩ := run_files w1 39 v1 (s.L.take i) (s.L.drop (i + 1)) _ (cap - (i + 1)) hrow1 (hA3.below hb1) (by rw [hlen1, hlen2]; omega)
  rw [hlen2] at hr2
  have hb2 : Below w.heap.size w w2 := hb1.grown hg2 hb1.size hv1
  have hv2 : ∀ b, v2.ownBlock = some b → w.heap.size ≤ b := fun b hb => by
    rcases hat2 with h | h
    · exact hv1 b (by rw [← h]; exact hb)
    · rw [h] at hb; cases hb; exact hb1.size
  obtain ⟨ao2, cap2, hv2s, -⟩ := hrow2.slice
  subst hv2s
  have HF := hid (show RowPost w (s.L.take i ++ s.L.drop (i + 1)) (.returned (.slice ao2 (s.L.take i ++ s.L.drop (i + 1)).length cap2)) w2 from ⟨ao2, cap2, rfl, hrow2, hv2, hb2⟩)
  have l1 := fun wx => files_to wx ao s.L.length cap i (by omega) hnone
  have l2 := fun wx => files_from wx ao s.L.length cap (i + 1) (by omega) hcap
  have hiI : (i : Int) < (s.L.length : Int) := by omega
  have hmI : (s.L.length : Int) ≤ 40 := by omega
  have hW : IntKind.i64.wrap ((i : Int) + 1) = ((i + 1 : Nat) : Int) := by rw [show ((i + 1 : Nat) : Int) = (i : Int) + 1 by omega]; exact IntWalk.i64_in _ (by omega)
  have hW2 : ((i + 1 : Nat) : Int) = (i : Int) + 1 := by omega
  rw [hW2] at hW l2
  have c01 := (hb1.cell (p := ⟨r, 0, none⟩) hr).trans c0
  have c0a := (hbe.cell (p := ⟨r, 0, none⟩) hr).trans c0
  generalize (s.L.take i ++ s.L.drop (i + 1)).length = N at *
  generalize s.L.take i ++ s.L.drop (i + 1) = M at *
  generalize (if cap = i + 1 then ao else ao.map (·.add ((i + 1) * 3))) = ao3 at *
  clear hv2 hb2 hrow2 hat2 hg2 hv1 hb1 hat1 hg1 hrow1 hA1 hA2 hA3 hrow0 hze hbe hlen1 hlen2 hnone h hcap hmany hW2
  go_enter Tryz.func164, Tryz.ntmps164
  go_wp2
  go_region_law (first
    | (refine step_append_run rfl _ _ _ _ rfl _ _ rfl rfl _ _ hr1 ?_)
    | (refine step_append_run rfl _ _ _ _ rfl _ _ rfl rfl _ _ hr2 ?_))
  all_goals
    go_wp2
    go_ret
    exact HF.out
end
end Go.Proofs.YtpcafkinpkepcaaGreatDoor

