/-
  LAYER 5 (agenda), THE DOCUMENT's ANSWER: a row of things; Drop, At, Due.
-/
import Derived.Test.YtmjgkhjjnfoolaaAgTwo
namespace Go.Proofs.Ytmjgkhjjnfoolaa
open Go.RowKit Go.Maps
set_option linter.unusedVariables false
set_option maxRecDepth 100000

/-- A row of things that lies somewhere. -/
def ThAt (w : World) (v : Value) (M : List It) : Prop :=
  ∃ a cap, v = .slice a M.length cap ∧ M.length ≤ cap ∧ (a = none → cap = 0) ∧ cap ≤ maxLen ∧ (M ≠ [] → ∃ sb so, a = some ⟨sb, so, none⟩ ∧ sb < w.heap.size ∧ ∀ j u, (flatI M)[j]? = some u → w.cell? ⟨sb, so + j, none⟩ = some u)
theorem ThAt.same {w w' : World} {v : Value} {M : List It} (h : ThAt w v M) (hs : ∀ b, v.ownBlock = some b → b < w.heap.size → w'.heap[b]? = w.heap[b]?) (hz : w.heap.size ≤ w'.heap.size) : ThAt w' v M := by
  obtain ⟨a, cap, rfl, h1, h2, h3, h4⟩ := h
  refine ⟨a, cap, rfl, h1, h2, h3, fun hne => ?_⟩
  obtain ⟨sb, so, rfl, hlt, hc⟩ := h4 hne
  refine ⟨sb, so, rfl, by omega, fun j u hj => ?_⟩
  have := hc j u hj
  unfold World.cell? at *
  rw [hs sb rfl hlt]
  exact this
theorem ThAt.below {w w' : World} {v : Value} {M : List It} (h : ThAt w v M) (hb : Below w.heap.size w w') : ThAt w' v M := h.same (fun b _ hl => hb.block b hl) hb.size
theorem ThAt.at {w : World} {v : Value} {M : List It} (h : ThAt w v M) : ∃ a cap, v = .slice a M.length cap ∧ M.length ≤ cap ∧ ∀ k, k < M.length → ∃ sb so, a = some ⟨sb, so, none⟩ ∧ sb < w.heap.size ∧ w.cell? ⟨sb, so + k * 2, none⟩ = some (.int .i64 (gt M k).1) ∧ w.cell? ⟨sb, so + k * 2 + 1, none⟩ = some (.int .i64 (gt M k).2) := by
  obtain ⟨a, cap, rfl, h1, h2, h3, h4⟩ := h
  refine ⟨a, cap, rfl, h1, fun k hk => ?_⟩
  obtain ⟨sb, so, rfl, hlt, hc⟩ := h4 (by intro e; simp [e] at hk)
  refine ⟨sb, so, rfl, hlt, ?_, ?_⟩
  · have := hc (k * 2 + 0) _ ((flatI_get hk (by omega)).trans rfl)
    rw [gt_of hk]; exact this
  · have := hc (k * 2 + 1) _ ((flatI_get hk (by omega)).trans rfl)
    rw [gt_of hk, Nat.add_assoc]; exact this
theorem thAt_nil (w : World) : ThAt w (.slice none 0 0) [] := ⟨none, 0, rfl, Nat.le_refl _, fun _ => rfl, Nat.zero_le _, fun h => absurd rfl h⟩
theorem thAt_box {w : World} {b : Nat} {x : It} {T : TypeId} (h : own w b #[.int .i64 x.1, .int .i64 x.2] T) : ThAt w (.slice (some ⟨b, 0, none⟩) 1 1) [x] :=
  ⟨some ⟨b, 0, none⟩, 1, rfl, Nat.le_refl _, (fun e => by cases e), (by unfold maxLen; omega), fun _ => ⟨b, 0, rfl, h.lt, fun j u hj => by
    rw [Nat.zero_add, h.cell j]
    simpa [flatI, icells] using hj⟩⟩
/-- A row of things that this place has made. -/
def TRow (w : World) (v : Value) (L : List It) : Prop := w.ownsRow 0 44 2 v L.length (flatI L)
theorem TRow.slice {w : World} {v : Value} {L : List It} (h : TRow w v L) : ∃ ao cap, v = .slice ao L.length cap ∧ L.length ≤ cap ∧ (ao = none → cap = 0) ∧ cap ≤ maxLen := by
  rcases h.2 with ⟨hv, hz⟩ | ⟨g, cap, cur, rfl, _, _, hnc, hcm, _⟩
  · exact ⟨none, 0, by rw [hv, hz], by omega, fun _ => rfl, Nat.zero_le _⟩
  · exact ⟨_, cap, rfl, hnc, fun e => (by cases e), hcm⟩
theorem TRow.same {w w' : World} {v : Value} {L : List It} (h : TRow w v L) (hs : ∀ b, v.ownBlock = some b → w'.heap[b]? = w.heap[b]?) : TRow w' v L := ownsRow_same h hs
theorem TRow.lt {w : World} {v : Value} {L : List It} (h : TRow w v L) : ∀ b, v.ownBlock = some b → b < w.heap.size := fun b hb => (World.ownsRow.lt h b hb).2
theorem tRow_nil (w : World) : TRow w (.slice none 0 0) [] := ⟨rfl, .inl ⟨rfl, rfl⟩⟩
theorem TRow.thAt {w : World} {v : Value} {L : List It} (h : TRow w v L) : ThAt w v L := by
  have hlt := h.lt
  obtain ⟨ao, cap, rfl, h1, h2, h3⟩ := h.slice
  refine ⟨ao, cap, rfl, h1, h2, h3, fun hne => ?_⟩
  rcases h.2 with ⟨hv, hz⟩ | ⟨g, cap', cur, hv, _, hg, _⟩
  · exact absurd (List.length_eq_zero_iff.1 hz) hne
  · simp only [Value.slice.injEq] at hv
    obtain ⟨rfl, _, _⟩ := hv
    refine ⟨g, 0, rfl, hlt g rfl, fun j u hj => ?_⟩
    have := World.ownsRow.cells h (g := g) rfl j u hj
    rwa [Go.WideShapes.add_plain] at this
theorem infoTh : (Try.prog.info? 44).map (fun i => (i.zero, i.size, i.bytes)) = some (some (.agg #[.int .i64 0, .int .i64 0]), 2, 16) := by kernel_rfl
theorem infoTh_parts : ∃ i, Try.prog.info? 44 = some i ∧ i.zero = some (.agg #[.int .i64 0, .int .i64 0]) ∧ i.size = 2 ∧ i.bytes = 16 := by
  obtain ⟨i, hi, hz⟩ := Option.map_eq_some_iff.1 infoTh
  simp only [Prod.mk.injEq] at hz
  exact ⟨i, hi, hz.1, hz.2.1, hz.2.2⟩
theorem run_th (w : World) (ty : TypeId) (v u : Value) (L M : List It) (hown : TRow w v L) (hu : ThAt w u M) (hb : L.length + M.length ≤ 10000) :
    ∃ ao cap w', (Builtin.append_ #[26, 26] ty #[v, u]).run Try.prog w = .ok (.slice ao (L.length + M.length) cap) w' ∧ TRow w' (.slice ao (L.length + M.length) cap) (L ++ M) ∧ w.grownBy w' v.ownBlock ∧ ((Value.slice ao (L.length + M.length) cap).ownBlock = v.ownBlock ∨ (Value.slice ao (L.length + M.length) cap).ownBlock = some w.heap.size) := by
  obtain ⟨a, c, rfl, _, hn, _, hc⟩ := hu
  obtain ⟨i0, hi, hz0, hz1, hz2⟩ := infoTh_parts
  cases a with
  | some ad =>
    have hcells : ∀ j x, (flatI M)[j]? = some x → w.cell? (ad.add j) = some x := by
      intro j x hx
      obtain ⟨sb, so, e, _, hxs⟩ := hc (by intro e; subst e; simp [flatI] at hx)
      cases e
      rw [Go.WideShapes.add_plain]
      exact hxs j x hx
    obtain ⟨v', w', hrun, h2, h3, _, h5⟩ := run_append_own_at (P := Try.prog) w 0 26 ty 44 i0 _ 2 16 Try.underlying26 hi hz0 hz1 hz2 rfl (by omega) v L.length (flatI L) hown ad M.length c (flatI M) (flatI_length M) hcells (flatI_one M) (by unfold maxLen; omega) (by omega) (Nat.zero_le _)
    have hrow : TRow w' v' (L ++ M) := by
      unfold TRow
      rw [List.length_append, flatI_append]
      exact h2
    obtain ⟨ao, cap, rfl, _, _⟩ := hrow.slice
    rw [List.length_append] at hrun hrow h5
    exact ⟨ao, cap, w', hrun, hrow, h3, h5⟩
  | none =>
    have hM : M = [] := by
      by_cases h : M = []
      · exact h
      · obtain ⟨_, _, e, _⟩ := hc h
        cases e
    subst hM
    obtain ⟨ao, cap, hv, hnc', _⟩ := hown.slice
    subst hv
    refine ⟨ao, cap, w, ?_, by simpa using hown, World.grownBy.refl w _, .inl rfl⟩
    rcases hown.2 with ⟨hv, h0⟩ | ⟨g, cap', cur, hv, _, _, hnc, _⟩
    · simp only [Value.slice.injEq] at hv
      obtain ⟨rfl, e1, rfl⟩ := hv
      simp [e1, Builtin.append_, run_underlying Try.underlying26, sizeOf, typeInfo, hi, Builtin.lenOf, Builtin.firstCells]
    · simp only [Value.slice.injEq] at hv
      obtain ⟨rfl, _, rfl⟩ := hv
      simp [Builtin.append_, run_underlying Try.underlying26, sizeOf, typeInfo, hi, Builtin.lenOf, Builtin.firstCells, hnc, storeCells]
/-- What a call of the document's answer that makes a row anew leaves. -/
structure ThNew (w w' : World) (v : Value) (M : List It) : Prop where
  row : ThAt w' v M
  new : ∀ b, v.ownBlock = some b → w.heap.size ≤ b ∧ b < w'.heap.size
  below : Below w.heap.size w w'
structure ThMid (w wr : World) (v : Value) (L : List It) : Prop where
  row : TRow wr v L
  new : ∀ b, v.ownBlock = some b → w.heap.size ≤ b
  below : Below w.heap.size w wr
theorem ThMid.fin {w wr : World} {v : Value} {L : List It} (h : ThMid w wr v L) : ThNew w wr v L := ⟨h.row.thAt, fun b hb => ⟨h.new b hb, h.row.lt b hb⟩, h.below⟩
theorem ThMid.push {w wr : World} {v : Value} {L : List It} (h : ThMid w wr v L) (x : It) (hl : L.length ≤ 1000) :
    ∃ ao cap w5, (Builtin.append_ #[26, 26] 26 #[v, .slice (some ⟨wr.heap.size, 0, none⟩) 1 1]).run Try.prog (wr.alloc (.cells #[.int .i64 x.1, .int .i64 x.2] 44)) = .ok (.slice ao (L.length + 1) cap) w5 ∧ ThMid w w5 (.slice ao (L.length + 1) cap) (L ++ [x]) := by
  have hb : Below wr.heap.size wr (wr.alloc (.cells #[.int .i64 x.1, .int .i64 x.2] 44)) := (Below.refl _ _).alloc (Nat.le_refl _) _
  have hz : (wr.alloc (.cells #[.int .i64 x.1, .int .i64 x.2] 44)).heap.size = wr.heap.size + 1 := by simp
  have hw := h.below.size
  obtain ⟨ao, cap, w5, hr, hrow, hg, hat⟩ := run_th _ 26 v _ L [x] (h.row.same (fun b e => hb.block b (h.row.lt b e))) (thAt_box (own.new wr _ _)) (by simp; omega)
  refine ⟨ao, cap, w5, hr, hrow, fun b e => ?_, (h.below.trans (hb.mono hw)).grown hg (by omega) h.new⟩
  rcases hat with k | k
  · exact h.new b (by rw [← k]; exact e)
  · have k' : (Value.slice ao (L.length + 1) cap).ownBlock = _ := k
    rw [k'] at e; cases e; omega
def DropRel (w : World) (M : List It) (id : Int) (v i : Value) (wr : World) : Prop := ∃ k : Nat, k ≤ M.length ∧ i = .int .i64 (k : Int) ∧ Hid (ThMid w wr v (delS id (M.take k)))
theorem take_snoc_gt {M : List It} {k : Nat} (hk : k < M.length) : M.take (k + 1) = M.take k ++ [gt M k] := by
  rw [List.take_add_one, List.getElem?_eq_getElem hk, gt_of hk]; rfl
theorem delS_snoc_yes {M : List It} {k : Nat} {id : Int} (hk : k < M.length) (h : (gt M k).2 ≠ id) : delS id (M.take (k + 1)) = delS id (M.take k) ++ [gt M k] := by
  rw [take_snoc_gt hk]
  unfold delS
  rw [List.filter_append, List.filter_cons_of_pos (by simpa using h)]
  rfl
theorem delS_snoc_no {M : List It} {k : Nat} {id : Int} (hk : k < M.length) (h : (gt M k).2 = id) : delS id (M.take (k + 1)) = delS id (M.take k) := by
  rw [take_snoc_gt hk]
  unfold delS
  rw [List.filter_append, List.filter_cons_of_neg (by simpa using h)]
  simp
set_option maxHeartbeats 4000000 in
theorem refDrop_any (w : World) (v : Value) (M : List It) (id : Int) (hv : ThAt w v M) (hl : M.length ≤ 1000) :
    Calls Try.prog 12 #[v, .int .i64 id] w fun e w' => ∃ v', e = .returned (.tuple #[v', .bool (decide ((delS id M).length < M.length))]) ∧ ThNew w w' v' (delS id M) := by
  obtain ⟨a, cap, rfl, hcap, hat⟩ := hv.at
  have HA := hid hat
  clear hat hv hcap
  go_enter Try.func12, Try.ntmps12
  go_wp2
  go_loopw [6, 7] (DropRel w M id) (fun _ i _ => M.length - (intOf i).toNat)
  case atStart => exact ⟨0, Nat.zero_le _, rfl, hid ⟨tRow_nil w, fun b e => by simp [Value.ownBlock] at e, Below.refl _ _⟩⟩
  case round =>
    obtain ⟨k, hk, rfl, hT⟩ := hrel
    obtain ⟨ao, co, rfl, _⟩ := hT.out.row.slice
    have hdl : (delS id (M.take k)).length ≤ k := by
      have h1 : (delS id (M.take k)).length ≤ (M.take k).length := List.length_filter_le _ _
      rw [List.length_take] at h1; omega
    by_cases hkl : k < M.length
    · obtain ⟨sb, so, rfl, hlt, c1, c2⟩ := HA.out k hkl
      rw [← hT.out.below.cell (p := ⟨sb, so + k * 2, none⟩) hlt] at c1
      rw [← hT.out.below.cell (p := ⟨sb, so + k * 2 + 1, none⟩) hlt] at c2
      have hkI : (k : Int) < (M.length : Int) := by omega
      by_cases he : (gt M k).2 = id
      · have HD := hid (delS_snoc_no hkl he)
        have hq : ((gt M k).2 != id) = false := by rw [he]; simp
        clear he
        generalize gt M k = x at *
        generalize (delS id (M.take k)).length = n at *
        go_wp2
        go_roundw
        case rel => exact ⟨k + 1, by omega, by go_num, by rw [HD.out]; exact hT⟩
        case measure => simp [intOf]; omega
      · have HD := hid (delS_snoc_yes hkl he)
        have hq : ((gt M k).2 != id) = true := bne_iff_ne.2 he
        obtain ⟨ao2, co2, w5, hr5, hm5⟩ := hT.out.push (gt M k) (by omega)
        have HM := hid hm5
        clear he hm5
        generalize gt M k = x at *
        generalize (delS id (M.take k)).length = n at *
        go_wp2_with (at_builtin; refine wpList_append_at hr5 (by with_reducible rfl) rfl _ _ rfl rfl rfl rfl ?_)
        go_roundw
        case rel => exact ⟨k + 1, by omega, by go_num, by rw [HD.out]; exact HM⟩
        case measure => simp [intOf]; omega
    · obtain rfl : k = M.length := by omega
      rw [List.take_of_length_le (Nat.le_refl _)] at *
      go_wp2
      go_ret2
      exact ⟨_, rfl, hT.out.fin⟩
theorem fndS_at {M : List It} {k : Nat} {id : Int} (hk : k < M.length) (h : ∀ x ∈ M.take k, x.2 ≠ id) (he : (gt M k).2 = id) : fndS id M = some (gt M k) := by
  have hM : M = M.take k ++ gt M k :: M.drop (k + 1) := by rw [gt_of hk, ← List.drop_eq_getElem_cons hk, List.take_append_drop]
  generalize gt M k = y at *
  unfold fndS
  conv => lhs; rw [hM]
  rw [List.find?_append, List.find?_eq_none.2 (fun x hx => by simpa using h x hx), Option.none_or, List.find?_cons_of_pos (by simpa using he)]
theorem refAt_any (w : World) (v : Value) (M : List It) (id : Int) (hv : ThAt w v M) (hl : M.length ≤ 1000) :
    Calls Try.prog 21 #[v, .int .i64 id] w fun e w' => e = .returned (atV (fndS id M)) ∧ w = w' := by
  obtain ⟨a, cap, rfl, hcap, hat⟩ := hv.at
  have HA := hid hat
  obtain ⟨r, hr⟩ : ∃ r, fndS id M = r := ⟨_, rfl⟩
  have HR := hid hr
  rw [hr]
  clear hat hv hcap hr
  go_enter Try.func21, Try.ntmps21
  go_wp2
  go_loop [6] (fun i => ∃ k : Nat, k ≤ M.length ∧ i = .int .i64 (k : Int) ∧ Hid (∀ x ∈ M.take k, x.2 ≠ id)) (fun i => M.length - (intOf i).toNat)
  case atStart => exact ⟨0, Nat.zero_le _, rfl, hid (by simp)⟩
  case round =>
    obtain ⟨k, hk, rfl, hT⟩ := hrel
    by_cases hkl : k < M.length
    · obtain ⟨sb, so, rfl, hlt, c1, c2⟩ := HA.out k hkl
      have hkI : (k : Int) < (M.length : Int) := by omega
      have HS := hid (take_snoc_gt hkl)
      by_cases he : (gt M k).2 = id
      · have hq : ((gt M k).2 == id) = true := by rw [he]; simp
        have hf : fndS id M = some (gt M k) := fndS_at hkl hT.out he
        have hf' : r = some (gt M k) := HR.out.symm.trans hf
        clear he hf HR
        generalize gt M k = x at *
        obtain rfl := hf'
        go_wp2
        go_ret2
        exact ⟨rfl, rfl⟩
      · have hq : ((gt M k).2 == id) = false := beq_eq_false_iff_ne.2 he
        have HN := hid he
        clear he
        generalize gt M k = x at *
        go_wp2
        go_round
        case rel => exact ⟨k + 1, by omega, by go_num, hid (fun y hy => by
          rw [HS.out] at hy
          rcases List.mem_append.1 hy with hy | hy
          · exact hT.out y hy
          · simp at hy; subst hy; exact HN.out)⟩
        case measure => simp [intOf]; omega
    · obtain rfl : k = M.length := by omega
      rw [List.take_of_length_le (Nat.le_refl _)] at hT
      obtain rfl : r = none := HR.out.symm.trans (fndS_none hT.out)
      go_wp2
      go_ret2
      exact ⟨rfl, rfl⟩
end Go.Proofs.Ytmjgkhjjnfoolaa
