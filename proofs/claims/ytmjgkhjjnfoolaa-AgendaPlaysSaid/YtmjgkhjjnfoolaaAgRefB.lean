/-
  LAYER 5 (agenda), THE DOCUMENT's ANSWER: Due, Put.
-/
import Derived.Test.YtmjgkhjjnfoolaaAgRefA
namespace Go.Proofs.Ytmjgkhjjnfoolaa
open Go.RowKit Go.Maps
set_option linter.unusedVariables false
set_option maxRecDepth 100000

theorem flatI_drop (L : List It) : ∀ k, flatI (L.drop k) = (flatI L).drop (k * 2)
  | 0 => by simp
  | k + 1 => by
    cases L with
    | nil => simp [flatI]
    | cons e r =>
      rw [List.drop_succ_cons, flatI_cons, flatI_drop r k, show (k + 1) * 2 = (icells e).length + k * 2 by simp [icells]; omega, ← List.drop_drop, List.drop_left]
theorem ths_to (wx : World) (ao : Option Addr) (L cap i : Nat) (hi : i ≤ cap) (hao : ao = none → cap = 0) : (Instr.slice 26 (.slice ao L cap) none (some (.int .i64 (i : Int))) none).run Try.prog wx = .ok (.slice ao i cap) wx := by
  cases ao with
  | none =>
    obtain rfl := hao rfl
    obtain rfl : i = 0 := by omega
    simp [go_sem, Instr.slice, run_underlying Try.underlying26]
  | some q => simp [go_sem, Instr.slice, run_underlying Try.underlying26, hi]
def fromV (ao : Option Addr) (L cap i : Nat) : Value := .slice (if cap = i then ao else ao.map (·.add (i * 2))) (L - i) (cap - i)
theorem ths_from (wx : World) (ao : Option Addr) (L cap i : Nat) (hi : i ≤ L) (hL : L ≤ cap) : (Instr.slice 26 (.slice ao L cap) (some (.int .i64 (i : Int))) none none).run Try.prog wx = .ok (fromV ao L cap i) wx := by
  obtain ⟨i0, hi0, _, hz1, _⟩ := infoTh_parts
  have h := run_slice_l (P := Try.prog) wx 26 ao L cap (by kernel_rfl) .i64 (i : Int) (by omega) (by omega)
  rw [h]
  have he : Try.prog.elem 26 = 44 := by kernel_rfl
  rw [he]
  simp [fromV, sizeOf, typeInfo, hi0, hz1, sliced, Result.andThen]
theorem ThAt.take {w : World} {ao : Option Addr} {n cap : Nat} {M : List It} (h : ThAt w (.slice ao n cap) M) {k : Nat} (hk : k ≤ M.length) : ThAt w (.slice ao k cap) (M.take k) := by
  obtain ⟨a, c, e, h1, h2, h3, h4⟩ := h
  cases e
  have hl : (M.take k).length = k := by rw [List.length_take]; omega
  refine ⟨ao, cap, by rw [hl], by rw [hl]; omega, h2, h3, fun hne => ?_⟩
  obtain ⟨sb, so, rfl, hlt, hc⟩ := h4 (fun e => hne (by rw [e]; simp))
  refine ⟨sb, so, rfl, hlt, fun j u hj => hc j u ?_⟩
  rw [flatI_take, List.getElem?_take] at hj
  split at hj
  · exact hj
  · cases hj
theorem ThAt.drop {w : World} {ao : Option Addr} {n cap : Nat} {M : List It} (h : ThAt w (.slice ao n cap) M) {k : Nat} (hk : k ≤ M.length) : ThAt w (fromV ao n cap k) (M.drop k) ∧ ∀ b, (fromV ao n cap k).ownBlock = some b → (Value.slice ao n cap).ownBlock = some b := by
  obtain ⟨a, c, e, h1, h2, h3, h4⟩ := h
  cases e
  have hl : (M.drop k).length = M.length - k := List.length_drop
  unfold fromV
  constructor
  · refine ⟨_, cap - k, by rw [hl], by rw [hl]; omega, fun e => ?_, by omega, fun hne => ?_⟩
    · by_cases hc : cap = k
      · omega
      · rw [if_neg hc] at e
        have := h2 (by simpa using e)
        omega
    · have hlt : k < M.length := by
        rcases Nat.lt_or_ge k M.length with h | h
        · exact h
        · exact absurd (List.drop_eq_nil_of_le h) hne
      obtain ⟨sb, so, rfl, hsb, hc⟩ := h4 (fun e => hne (by rw [e]; simp))
      rw [if_neg (by omega)]
      refine ⟨sb, so + k * 2, ?_, hsb, fun j u hj => ?_⟩
      · rw [Option.map_some, Go.WideShapes.add_plain]
      · rw [flatI_drop, List.getElem?_drop] at hj
        rw [Nat.add_assoc]
        exact hc _ u hj
  · intro b hb
    split at hb
    · rw [ownBlock_sl ao M.length (M.length - k) cap]
      cases ao <;> exact hb
    · cases ao with
      | none => simp [Value.ownBlock] at hb
      | some ad =>
        simp only [Option.map_some, Value.ownBlock] at hb ⊢
        rw [← hb]
        congr 1
        unfold Addr.add
        split <;> rfl
structure NumMid (w wr : World) (v : Value) (xs : List Int) : Prop where
  row : NumRow wr v xs
  new : ∀ b, v.ownBlock = some b → w.heap.size ≤ b
  below : Below w.heap.size w wr
theorem NumMid.push {w wr : World} {v : Value} {xs : List Int} (h : NumMid w wr v xs) (x : Int) (hl : xs.length ≤ 1000) :
    ∃ v' w5, (Builtin.append_ #[33, 33] 33 #[v, .slice (some ⟨wr.heap.size, 0, none⟩) 1 1]).run Try.prog (wr.alloc (.cells #[.int .i64 x] 3)) = .ok v' w5 ∧ NumMid w w5 v' (xs ++ [x]) := by
  have hb : Below wr.heap.size wr (wr.alloc (.cells #[.int .i64 x] 3)) := (Below.refl _ _).alloc (Nat.le_refl _) _
  have hz : (wr.alloc (.cells #[.int .i64 x] 3)).heap.size = wr.heap.size + 1 := by simp
  have hw := h.below.size
  obtain ⟨v', w5, hr, hrow, hg, hat⟩ := run_nums' _ 33 v xs [x] _ (h.row.same (fun b e => hb.block b (h.row.lt b e))) (ints_lit wr [x] 1 rfl) (by simp; omega)
  refine ⟨v', w5, hr, hrow, fun b e => ?_, (h.below.trans (hb.mono hw)).grown hg (by omega) h.new⟩
  rcases hat with k | k
  · exact h.new b (by rw [← k]; exact e)
  · rw [k] at e; cases e; omega
/-- What the document's Due leaves. -/
structure RefDue (w w' : World) (v v' vo : Value) (M D R : List It) : Prop where
  row : ThAt w' v' R
  blk : ∀ b, v'.ownBlock = some b → v.ownBlock = some b
  told : NumMid w w' vo (D.map Prod.snd)
set_option maxHeartbeats 4000000 in
theorem refDue_any (w : World) (v : Value) (M : List It) (now : Int) (hv : ThAt w v M) (hl : M.length ≤ 1000) :
    Calls Try.prog 13 #[v, .int .i64 now] w fun e w' => ∃ v' vo, e = .returned (.tuple #[v', vo]) ∧ RefDue w w' v v' vo M (dueS now M) (restS now M) := by
  have HV := hid hv
  obtain ⟨a, cap, rfl, hcap, hat⟩ := hv.at
  have HA := hid hat
  clear hat hv
  go_enter Try.func13, Try.ntmps13
  go_wp2
  go_loopw [6, 7] (fun vo i wr => ∃ k : Nat, k ≤ M.length ∧ i = .int .i64 (k : Int) ∧ Hid (NumMid w wr vo ((M.take k).map Prod.snd)) ∧ Hid (∀ x ∈ M.take k, x.1 ≤ now)) (fun _ i _ => M.length - (intOf i).toNat)
  case atStart => exact ⟨0, Nat.zero_le _, rfl, hid ⟨numRow_nil w, fun b e => by simp [Value.ownBlock] at e, Below.refl _ _⟩, hid (by simp)⟩
  case round =>
    obtain ⟨k, hk, rfl, hT, hD⟩ := hrel
    have l1 := fun wx => ths_from wx a M.length cap k hk hcap
    have HE : Hid ((∀ x r, M.drop k = x :: r → now < x.1) → RefDue w wr (.slice a M.length cap) (fromV a M.length cap k) u6 M (dueS now M) (restS now M)) := hid (fun hx => by
      obtain ⟨e1, e2⟩ := due_split (S := M) (D := M.take k) (R := M.drop k) (List.take_append_drop k M).symm hD.out hx
      rw [e1, e2]
      obtain ⟨d1, d2⟩ := (HV.out.below hT.out.below).drop hk
      exact ⟨d1, d2, hT.out⟩)
    by_cases hkl : k < M.length
    · obtain ⟨sb, so, rfl, hlt, c1, c2⟩ := HA.out k hkl
      rw [← hT.out.below.cell (p := ⟨sb, so + k * 2, none⟩) hlt] at c1
      rw [← hT.out.below.cell (p := ⟨sb, so + k * 2 + 1, none⟩) hlt] at c2
      have hkI : (k : Int) < (M.length : Int) := by omega
      have HS := hid (take_snoc_gt hkl)
      have HG : Hid (M.drop k = gt M k :: M.drop (k + 1)) := hid (by rw [gt_of hkl, List.drop_eq_getElem_cons hkl])
      by_cases he : (gt M k).1 ≤ now
      · obtain ⟨v5, w5, hr5, hm5⟩ := hT.out.push (gt M k).2 (by rw [List.length_map, List.length_take]; omega)
        have HM := hid hm5
        have HN := hid he
        clear hm5 HE HG l1
        generalize gt M k = x at *
        go_wp2_with (at_builtin; refine wpList_append_at hr5 (by with_reducible rfl) rfl _ _ rfl rfl rfl rfl ?_)
        go_roundw
        case rel => exact ⟨k + 1, by omega, by go_num, hid (by rw [HS.out, List.map_append]; exact HM.out), hid (fun y hy => by
          rw [HS.out] at hy
          rcases List.mem_append.1 hy with hy | hy
          · exact hD.out y hy
          · simp at hy; subst hy; exact HN.out)⟩
        case measure => simp [intOf]; omega
      · have HF := hid (HE.out (fun x r e => by rw [HG.out] at e; cases e; omega))
        clear HE HG HS
        generalize gt M k = x at *
        generalize fromV (some ⟨sb, so, none⟩) M.length cap k = v' at *
        go_wp2
        go_ret2
        exact ⟨_, _, rfl, HF.out⟩
    · obtain rfl : k = M.length := by omega
      have HF := hid (HE.out (fun x r e => by rw [List.drop_length] at e; cases e))
      clear HE
      generalize fromV a M.length cap M.length = v' at *
      go_wp2
      go_ret2
      exact ⟨_, _, rfl, HF.out⟩
end Go.Proofs.Ytmjgkhjjnfoolaa
