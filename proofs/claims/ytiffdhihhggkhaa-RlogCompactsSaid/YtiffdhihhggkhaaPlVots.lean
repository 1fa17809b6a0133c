/-
  LAYER 8 (rlog), THE PROGRAM's LOG: Voters, Slice.
-/
import Derived.Test.YtiffdhihhggkhaaPlLastIx
import Derived.Test.YtiffdhihhggkhaaMq6
namespace Go.Proofs.Ytiffdhihhggkhaa
open Go.RowKit
set_option linter.unusedVariables false
set_option maxRecDepth 100000

theorem mes_of : ∀ L : List Me, (∀ e ∈ L, MeB e) → ∃ M : List MeS, M.map Subtype.val = L
  | [], _ => ⟨[], rfl⟩
  | x :: r, h => by
    obtain ⟨M, hM⟩ := mes_of r (fun e he => h e (by simp [he]))
    exact ⟨⟨x, h x (by simp)⟩ :: M, by simp [hM]⟩
def LiPost (w : World) (i : Int) (L : List Me) (e : Ending) (w' : World) : Prop :=
  ((e = .returned (.int .i64 (-1)) ∧ ∀ x ∈ L, setsAt i x = false) ∨ (∃ (k : Nat) (x : Me), e = .returned (.int .i64 (k : Int)) ∧ L[k]? = some x ∧ setsAt i x = true ∧ ∀ x ∈ L.drop (k + 1), setsAt i x = false)) ∧ Below w.heap.size w w'
theorem lastIndex_any (i : Int) {w : World} {a : Option Addr} {cap : Nat} {L : List Me} (h : RAt enTy w (.slice a L.length cap) L) (hL : ∀ e ∈ L, MeB e) (hl : L.length ≤ 5000) : Calls Try.prog 49 #[.slice a L.length cap, .func (.func 50) #[.int .i64 i] #[]] w (LiPost w i L) := by
  obtain ⟨M, rfl⟩ := mes_of L hL
  rw [List.length_map] at h hl ⊢
  have hc : BkCells w.heap.size w a M := fun W' hb j x hx => by
    have h' : RAt enTy w (.slice a (M.map Subtype.val).length cap) (M.map Subtype.val) := by rw [List.length_map]; exact h
    obtain ⟨a', cap', e, hat⟩ := en_at h'
    cases e
    obtain ⟨sb, so, e, hce⟩ := hat j x.1 (by rw [List.getElem?_map, hx]; rfl)
    exact ⟨sb, so, e, hce W' hb⟩
  refine (callsIn_wide (n := 3)).1 ((lastIndex_in 3 (Nat.le_refl _) i a cap M hl w hc).mono ?_)
  rintro e w' ⟨h1, hb⟩
  refine ⟨?_, hb⟩
  rcases h1 with ⟨he, h1⟩ | ⟨k, x, he, hx, hs, h1⟩
  · refine .inl ⟨he, fun y hy => ?_⟩
    obtain ⟨z, hz, rfl⟩ := List.mem_map.1 hy
    obtain ⟨j, hj⟩ := List.mem_iff_getElem?.1 hz
    exact h1 j z hj
  · refine .inr ⟨k, x.1, he, by rw [List.getElem?_map, hx]; rfl, hs, fun y hy => ?_⟩
    rw [← List.map_drop] at hy
    obtain ⟨z, hz, rfl⟩ := List.mem_map.1 hy
    obtain ⟨j, hj⟩ := List.mem_iff_getElem?.1 hz
    rw [List.getElem?_drop] at hj
    exact h1 _ z (by omega) hj
theorem votersIn_keep : ∀ (l : List Me) (o : List Int) (i : Int), (∀ e ∈ l, setsAt i e = false) → votersIn o i l = o
  | [], o, i, h => rfl
  | e :: r, o, i, h => by
    have h1 := h e (by simp)
    unfold setsAt at h1
    unfold votersIn
    cases hs : setsE e with
    | none => exact votersIn_keep r o i (fun x hx => h x (by simp [hx]))
    | some l =>
      rw [hs] at h1
      simp only [Option.isSome, Bool.true_and, decide_eq_false_iff_not] at h1
      simp only [if_neg h1]
      exact votersIn_keep r o i (fun x hx => h x (by simp [hx]))
theorem votersIn_last {L : List Me} {o : List Int} {i : Int} {k : Nat} {x : Me} (hx : L[k]? = some x) (hs : setsAt i x = true) (h : ∀ y ∈ L.drop (k + 1), setsAt i y = false) : ∃ l, setsE x = some l ∧ votersIn o i L = l := by
  have hk : k < L.length := (List.getElem?_eq_some_iff.1 hx).1
  have hd : L.drop k = x :: L.drop (k + 1) := by
    rw [List.drop_eq_getElem_cons hk]
    congr 1
    exact Option.some.inj ((List.getElem?_eq_getElem hk).symm.trans hx)
  have hL : L = L.take k ++ x :: L.drop (k + 1) := by rw [← hd, List.take_append_drop]
  unfold setsAt at hs
  cases he : setsE x with
  | none => rw [he] at hs; simp at hs
  | some l =>
    rw [he] at hs
    simp only [Option.isSome, Bool.true_and, decide_eq_true_eq] at hs
    refine ⟨l, rfl, ?_⟩
    rw [hL, votersIn_append]
    rw [show votersIn (votersIn o i (L.take k)) i (x :: L.drop (k + 1)) = votersIn (match setsE x with | some l => if x.idx ≤ i then l else votersIn o i (L.take k) | none => votersIn o i (L.take k)) i (L.drop (k + 1)) from rfl]
    rw [he]
    simp only [if_pos hs]
    exact votersIn_keep _ _ _ h
set_option maxHeartbeats 8000000 in
theorem plVoters_any {w : World} {F : Nat → Prop} {r : Nat} {s : Rl} (i : Int) (h : plRep.Is w F r s) (hB : RlB s) (hi : I64' i) : Calls Try.prog 30 #[.pointer (some ⟨r, 0, none⟩), .int .i64 i] w fun e w' => ∃ vv, e = .returned vv ∧ RMid numTy w w' vv (votersL s i) := by
  obtain ⟨va, vc, la, lc, hI, hc⟩ := pl_c h
  have HC : Hid (∀ wx, Below w.heap.size w wx → wx.cell? ⟨r, 2, none⟩ = some (.slice va s.vot.length vc) ∧ wx.cell? ⟨r, 4, none⟩ = some (.slice la s.ents.length lc)) := hid (fun wx hb => ⟨(hc wx hb).c2, (hc wx hb).c4⟩)
  obtain ⟨-, c4⟩ := HC.out w (Below.refl _ _)
  have HL := hid (lastIndex_any i hI.ents.rAt hB.ents hB.len)
  have HE : Hid (∀ (k : Nat) x, s.ents[k]? = some x → ∃ sb so, la = some ⟨sb, so, none⟩ ∧ ∀ wx, Below w.heap.size w wx → wx.cell? ⟨sb, so + k * 4, none⟩ = some (.int .i64 x.idx) ∧ wx.cell? ⟨sb, so + k * 4 + 1, none⟩ = some (.int .i64 x.term) ∧ wx.cell? ⟨sb, so + k * 4 + 2, none⟩ = some (.int .i64 x.kind) ∧ wx.cell? ⟨sb, so + k * 4 + 3, none⟩ = some (.string x.dt)) := hid (by
    obtain ⟨a', cap', e, hat⟩ := en_at hI.ents.rAt
    cases e
    exact hat)
  have HCl := hid (fun wx (hb : Below w.heap.size w wx) => cloneN_any (hI.vot.below hb) (by have := hB.vl; omega))
  have HMe := hid hB.ents
  have hlen := hB.len
  clear h hc hB hI hi
  go_enter Try.func30, Try.ntmps30
  go_upto_region 1 with (fail)
  go_cut [5] (fun u wx => ∃ n : Int, u = .int .i64 n ∧ LiPost w i s.ents (.returned (.int .i64 n)) wx)
  case first =>
    go_wp2_with (go_at_call 49; (with_reducible refine HL.out.mono ?_); rintro e w1 h1; obtain ⟨n, rfl⟩ : ∃ n : Int, e = .returned (.int .i64 n) := (by rcases h1.1 with ⟨he, -⟩ | ⟨k, x, he, -⟩ <;> exact ⟨_, he⟩))
    go_meet
    exact ⟨n, rfl, h1⟩
  case rest =>
    obtain ⟨n, rfl, h1, hb⟩ := hcut
    generalize wc = w1 at *
    obtain ⟨c2, c4b⟩ := HC.out w1 hb
    rcases h1 with ⟨he, h1⟩ | ⟨k, x, he, hx, hs, h1⟩
    · cases he
      have HV : Hid (votersL s i = s.vot) := hid (votersIn_keep _ _ _ h1)
      have C2 := hid (HCl.out w1 hb)
      clear h1 c4
      go_wp2_with (go_at_call 52; (with_reducible refine C2.out.mono ?_); rintro e w2 ⟨a2, cc2, rfl, hm⟩)
      go_ret
      exact ⟨_, rfl, by rw [HV.out]; exact ⟨hm.row, fun b e => Nat.le_trans hb.size (hm.new b e), hb.trans (hm.below.mono hb.size)⟩⟩
    · cases he
      obtain ⟨l, hl, hv⟩ := votersIn_last (o := s.vot) hx hs h1
      have HV : Hid (votersL s i = l) := hid hv
      have hk : k < s.ents.length := (List.getElem?_eq_some_iff.1 hx).1
      have hkI : (k : Int) < (s.ents.length : Int) := by omega
      have hk0 : (0 : Int) ≤ (k : Int) := by omega
      obtain ⟨sb, so, rfl, hce⟩ := HE.out k x hx
      obtain ⟨d0, d1, d2, d3⟩ := hce w1 hb
      have C2 := hid (plVoters1_any x w1 (HMe.out x (List.mem_of_getElem? hx)))
      rw [hl] at C2
      clear h1 c4 hx hs hl hv hce hk
      go_wp2_with (go_at_call 51; (with_reducible refine C2.out.mono ?_); rintro e w2 ⟨a2, n2, cc2, rfl, hb2, hm⟩; obtain ⟨rfl, hm2⟩ := hm l rfl)
      go_ret
      exact ⟨_, rfl, by rw [HV.out]; exact ⟨hm2.row, fun b e => Nat.le_trans hb.size (hm2.new b e), hb.trans (hm2.below.mono hb.size)⟩⟩
end Go.Proofs.Ytiffdhihhggkhaa
