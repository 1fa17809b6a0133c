import Derived.Test.YtjoeamlidmmioaaGreatDoorXmRaJ
/-
  LAYER 11 (xml), THE DOCUMENT's: the tokens, and words, if there are some.
-/
namespace Go.Proofs.YtjoeamlidmmioaaGreatDoor
open Go.RowKit
set_option linter.unusedVariables false
set_option maxRecDepth 100000

theorem rksIs_app {w : World} {V M : List TkV} {L L2 : List TkX} (h : RksIs w V L) (k : RksIs w M L2) : RksIs w (V ++ M) (L ++ L2) := by
  refine ⟨by rw [List.length_append, List.length_append, h.1, k.1], fun i x t hx ht => ?_⟩
  rcases Nat.lt_or_ge i V.length with hi | hi
  · rw [List.getElem?_append_left hi] at hx
    rw [List.getElem?_append_left (by rw [← h.1]; exact hi)] at ht
    exact h.2 i x t hx ht
  · rw [List.getElem?_append_right hi] at hx
    rw [List.getElem?_append_right (by rw [← h.1]; exact hi), ← h.1] at ht
    exact k.2 _ x t hx ht
/-- A row of tokens put behind another one. -/
theorem as_join {w wr : World} {v u : Value} {V M : List TkV} {L L2 : List TkX} (h : AsMid w wr v V L) (hu : RAt rkTy wr u M) (hM : RksIs wr M L2) (hap : ∀ x ∈ M, ∀ g, (Value.slice x.a x.m x.c).ownBlock = some g → v.ownBlock ≠ some g ∧ g < wr.heap.size) (ty : TypeId) (hl : V.length + M.length ≤ 10000000) :
    ∃ ao n cap w5, (Builtin.append_ #[24, 24] ty #[v, u]).run Tryz.prog wr = .ok (.slice ao n cap) w5 ∧ n = V.length + M.length ∧ AsMid w w5 (.slice ao n cap) (V ++ M) (L ++ L2) ∧ ((Value.slice ao n cap).ownBlock = v.ownBlock ∨ (Value.slice ao n cap).ownBlock = some wr.heap.size) := by
  obtain ⟨ao, cap, w5, hr, hrow, hg, hat⟩ := run_app rkTy_ok _ ty v u V M h.mid.row hu hl
  have hw := h.mid.below.size
  have hgz := (Chg.of_grown hg).size
  have hall : ∀ x ∈ V ++ M, ∀ g, (Value.slice x.a x.m x.c).ownBlock = some g → v.ownBlock ≠ some g ∧ g < wr.heap.size := fun x hx g e => by
    rcases List.mem_append.1 hx with k | k
    · exact h.ap x k g e
    · exact hap x k g e
  have hkeep : ∀ g, v.ownBlock ≠ some g → g < wr.heap.size → w5.heap[g]? = wr.heap[g]? := fun g hne hlt => (Chg.of_grown hg).block g hlt hne
  have hj := rksIs_app h.is hM
  refine ⟨ao, _, cap, w5, hr, rfl, ⟨⟨hrow, fun b e => ?_, h.mid.below.grown hg hw h.mid.new⟩, ⟨hj.1, fun i x t hx ht => ?_⟩, fun x hx g e => ⟨?_, ?_⟩⟩, hat⟩
  · rcases hat with k | k
    · exact h.mid.new b (by rw [← k]; exact e)
    · rw [k] at e; cases e; exact hw
  · exact (hj.2 i x t hx ht).same (fun b hb hl2 => hkeep b (hall x (List.mem_of_getElem? hx) b hb).1 hl2) hgz
  · obtain ⟨h1, h2⟩ := hall x hx g e
    rcases hat with k | k
    · rw [k]; exact h1
    · rw [k]; intro q; cases q; omega
  · have := (hall x hx g e).2; omega
theorem asMid_base {w wr wx : World} {v : Value} {V : List TkV} {L : List TkX} (hb : Below w.heap.size w wr) (h : AsMid wr wx v V L) : AsMid w wx v V L :=
  ⟨⟨h.mid.row, fun b e => Nat.le_trans hb.size (h.mid.new b e), hb.trans (h.mid.below.mono hb.size)⟩, h.is, h.ap⟩
def WithPost (w wr : World) (v : Value) (L : List TkX) (t : List UInt8) (e : Ending) (w' : World) : Prop :=
  ∃ ao n cap V, e = .returned (.slice ao n cap) ∧ n = V.length ∧ AsMid w w' (.slice ao n cap) V (L ++ endW t) ∧ Below wr.heap.size wr w' ∧ ((Value.slice ao n cap).ownBlock = v.ownBlock ∨ ∀ g, (Value.slice ao n cap).ownBlock = some g → wr.heap.size ≤ g)
set_option maxHeartbeats 8000000 in
theorem with_any {w wr : World} {ao : Option Addr} {n cap : Nat} {V : List TkV} {L : List TkX} (h : AsMid w wr (.slice ao n cap) V L) (hn : n = V.length) (hV : V.length ≤ 90000) (t : List UInt8) :
    Calls Tryz.prog 36 #[.slice ao n cap, .string (mk t)] wr (WithPost w wr (.slice ao n cap) L t) := by
  by_cases ht : t = []
  · have q1 := mkE_nil
    have HR : Hid (AsMid w wr (.slice ao n cap) V (L ++ endW t)) := hid (by rw [ht]; simpa [endW] using h)
    subst ht
    clear h
    go_enter Tryz.func36, Tryz.ntmps36
    go_wp2
    go_ret
    exact ⟨ao, n, cap, V, rfl, hn, HR.out, Below.refl _ _, .inl rfl⟩
  · obtain ⟨q0, q1, q2⟩ := mkE_cons ht
    have hb1 : Below wr.heap.size wr (wr.alloc (.cells #[] 50)) := (Below.refl _ _).alloc (Nat.le_refl _) _
    have hE : AsMid wr (wr.alloc (.cells #[] 50)) (.slice (some ⟨wr.heap.size, 0, none⟩) 0 0) [] [] := ⟨rMid_empty hb1 (own.new wr _ _) (Nat.le_refl _), ⟨rfl, fun i x t h => by simp at h⟩, fun x h => by simp at h⟩
    have h1 := h.later hb1
    obtain ⟨a2, n2, c2, w5, hr1, hn2, hA2, -⟩ := as_join hE h1.mid.row.rAt h1.is (fun x hx g e => ⟨fun k => by have h0 : wr.heap.size = g := (by simpa [Value.ownBlock] using k); have := (h.ap x hx _ e).2; omega, (h1.ap x hx g e).2⟩) 24 (by simp; omega)
    rw [List.nil_append, List.nil_append] at hA2
    have hn3 : n2 = V.length := by rw [hn2]; simp
    subst hn3
    obtain ⟨a3, c3, w6, hr2, hA3⟩ := as_push hA2 (wordsT t) none 0 (rAt_nil _) (fun g e => by simp [Value.ownBlock] at e) 24 50 (by omega)
    have HR : Hid (AsMid wr w6 (.slice a3 (V.length + 1) c3) (V ++ [⟨3, [], none, 0, 0, t⟩]) (L ++ endW t)) := hid (by
      have e : endW t = [wordsT t] := by unfold endW; rw [if_neg ht]
      rw [e]; exact hA3)
    have hb := h.mid.below
    have hr2' : (Builtin.append_ #[24, 24] 24 #[.slice a2 V.length c2, .slice (some ⟨w5.heap.size, 0, none⟩) 1 1]).run Tryz.prog (w5.alloc (.cells #[.int .i64 3, .string ⟨#[]⟩, .slice none 0 0, .string (mk t)] 50)) = .ok (.slice a3 (V.length + 1) c3) w6 := hr2
    subst hn
    clear hE h1 hn2 hA2 hA3 hr2 h hb1
    go_enter Tryz.func36, Tryz.ntmps36
    go_wp2_with (at_builtin; first | (refine wpList_append_at hr1 rfl rfl _ _ rfl rfl rfl rfl ?_) | (refine wpList_append_at hr2' rfl rfl _ _ rfl rfl rfl rfl ?_))
    go_ret
    exact ⟨a3, V.length + 1, c3, _, rfl, by simp, asMid_base hb HR.out, HR.out.mid.below, .inr HR.out.mid.new⟩
end Go.Proofs.YtjoeamlidmmioaaGreatDoor

/-
  LAYER 11 (xml), THE DOCUMENT's: Read.
-/
namespace Go.Proofs.YtjoeamlidmmioaaGreatDoor
open Go.RowKit
set_option linter.unusedVariables false
set_option maxRecDepth 100000

/-- What is read in the end, of tokens and words so far and of the parts that follow. -/
def finX (L : List TkX) (t : List UInt8) (p : List PtX × Option (List UInt8)) (n : Nat) : List TkX × Int × Int := match p.2 with
  | none => (L ++ tokX t p.1, 0, 0)
  | some r => ([], 8, ((n - r.length : Nat) : Int))
theorem readR_fin {s : List UInt8} (h : s.length ≤ 20000) : readR s = finX [] [] (partsX s) s.length := by
  unfold readR finX readX
  rw [if_neg (by omega)]
  cases (partsX s).2 with
  | none => simp
  | some r => rfl
theorem fin_bad {L : List TkX} {t : List UInt8} {p : List PtX × Option (List UInt8)} {n : Nat} {r : List UInt8} (h : p.2 = some r) : finX L t p n = ([], 8, ((n - r.length : Nat) : Int)) := by unfold finX; rw [h]
theorem fin_nil {L : List TkX} {t : List UInt8} {n : Nat} : finX L t (partsX []) n = (L ++ endW t, 0, 0) := rfl
theorem fin_txt {L : List TkX} {t : List UInt8} {d u : List UInt8} {r : List UInt8} {n : Nat} (h : partX d = some (.txt u, r)) : finX L t (partsX d) n = finX L (t ++ u) (partsX r) n := by
  unfold finX
  rw [partsX_some h]
  rfl
theorem fin_tags {L : List TkX} {t : List UInt8} {d : List UInt8} {T : List TkX} {r : List UInt8} {n : Nat} (h : partX d = some (.tags T, r)) : finX L t (partsX d) n = finX (L ++ endW t ++ T) [] (partsX r) n := by
  unfold finX
  rw [partsX_some h]
  simp only
  cases (partsX r).2 with
  | some r => rfl
  | none =>
    simp only
    show (L ++ (endW t ++ T ++ tokX [] (partsX r).1), _, _) = _
    simp
theorem fin_said {L : List TkX} {t : List UInt8} {l d : List UInt8} {n : Nat} (h60 : (60 : UInt8) ∉ l) (hd : Tagd d) (hs : (saidE l).2 = none) : finX L t (partsX (l ++ d)) n = finX L (t ++ (saidE l).1) (partsX d) n := by
  obtain ⟨h1, h2⟩ := (parts_said d hd l.length l (Nat.le_refl _) h60).2 hs
  unfold finX
  rw [h1]
  cases (partsX d).2 with
  | some r => rfl
  | none => simp only; rw [h2]
theorem fin_said_bad {L : List TkX} {t : List UInt8} {l d bad : List UInt8} {n : Nat} (h60 : (60 : UInt8) ∉ l) (hd : Tagd d) (hs : (saidE l).2 = some bad) : finX L t (partsX (l ++ d)) n = ([], 8, ((n - (bad ++ d).length : Nat) : Int)) :=
  fin_bad ((parts_said d hd l.length l (Nat.le_refl _) h60).1 bad hs)
theorem saidE_len : ∀ (n : Nat) (l : List UInt8), l.length ≤ n → (saidE l).1.length ≤ 4 * l.length ∧ ∀ bad, (saidE l).2 = some bad → bad.length ≤ l.length ∧ bad ≠ []
  | _, [], _ => by rw [saidE_nil]; exact ⟨by simp, fun bad h => by cases h⟩
  | 0, c :: r, h => by simp at h
  | n + 1, c :: r, h => by
    simp only [List.length_cons] at h
    by_cases hc : c = 38
    · subst hc
      cases hr : refX r with
      | none =>
        rw [saidE_bad hr]
        refine ⟨by simp, fun bad hb => ?_⟩
        cases hb
        simp
      | some x =>
        obtain ⟨t, q⟩ := x
        have hl := refX_lt hr
        have ht := refX_le hr
        rw [saidE_ref hr]
        obtain ⟨i1, i2⟩ := saidE_len n q (by omega)
        refine ⟨by simp only [List.length_append, List.length_cons]; omega, fun bad hb => ?_⟩
        obtain ⟨j1, j2⟩ := i2 bad hb
        exact ⟨by simp only [List.length_cons]; omega, j2⟩
    · rw [saidE_chr hc]
      obtain ⟨i1, i2⟩ := saidE_len n r (by omega)
      refine ⟨by simp only [List.length_cons]; omega, fun bad hb => ?_⟩
      obtain ⟨j1, j2⟩ := i2 bad hb
      exact ⟨by simp only [List.length_cons]; omega, j2⟩
theorem upTo_first_free {c : UInt8} : ∀ {l a b : List UInt8}, upTo [c] l = some (a, b) → c ∉ a
  | [], _, _, h => by simp [upTo] at h
  | d :: r, a, b, h => by
    unfold upTo at h
    split at h
    · cases h; simp
    · rename_i hp
      obtain ⟨⟨a', b'⟩, h1, h2⟩ := Option.map_eq_some_iff.1 h
      cases h2
      have hn : ¬ c = d := fun e => hp (by rw [e]; simp [List.isPrefixOf])
      have := upTo_first_free h1
      intro k
      rcases List.mem_cons.1 k with e | e
      · exact hn e
      · exact this e
/-- The text up to the next tag. -/
theorem chunk_at {d : List UInt8} {c : UInt8} {r : List UInt8} (hd : d = c :: r) (hc : ¬ c = 60) : ∃ l d', d = l ++ d' ∧ (60 : UInt8) ∉ l ∧ Tagd d' ∧ 0 < l.length ∧ ((upTo [60] d = none ∧ d' = []) ∨ ∃ y, upTo [60] d = some (l, y) ∧ d' = 60 :: y) := by
  cases hu : upTo [60] d with
  | none =>
    refine ⟨d, [], by simp, fun h => ?_, .inl rfl, by rw [hd]; simp, .inl ⟨rfl, rfl⟩⟩
    obtain ⟨x, hx⟩ := upTo_mem h
    rw [hx] at hu; cases hu
  | some x =>
    obtain ⟨x, y⟩ := x
    have h1 := (upTo_lt hu).2
    refine ⟨x, 60 :: y, by rw [h1]; simp, upTo_first_free hu, .inr ⟨y, rfl⟩, ?_, .inr ⟨y, rfl, rfl⟩⟩
    cases x with
    | nil => rw [hd] at h1; simp at h1; exact absurd h1.1 hc
    | cons a b => simp
end Go.Proofs.YtjoeamlidmmioaaGreatDoor

