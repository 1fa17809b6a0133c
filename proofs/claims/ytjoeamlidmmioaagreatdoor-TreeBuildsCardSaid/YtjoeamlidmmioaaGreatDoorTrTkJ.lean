import Derived.Test.YtjoeamlidmmioaaGreatDoorXmAsJ
import Derived.Deep.RegionLaw
import Derived.Deep.AppendLies
/-
  LAYER 12 (tree), THE LAWS' OWN HELPERS: tokens, walked.
-/
namespace Go.Proofs.YtjoeamlidmmioaaGreatDoor
open Go.RowKit
set_option linter.unusedVariables false
set_option maxRecDepth 100000

/-- tokens: not that many, or not that long; or the rows. -/
def TkPost (w : World) (L : List TkX) (e : Ending) (w' : World) : Prop :=
  Below w.heap.size w w' ∧ (e = .returned (.tuple #[.slice none 0 0, .bool false]) ∨ ∃ a c, e = .returned (.tuple #[.slice a L.length c, .bool true]) ∧ RokAt w' (.slice a L.length c) L ∧ L.length ≤ 400 ∧ ∀ t ∈ L, t.as.length ≤ 30 ∧ t.t.length ≤ 1000)
def TkRel (w : World) (L : List TkX) (v i : Value) (wr : World) : Prop := ∃ k V ao cap, k ≤ L.length ∧ i = .int .i64 (k : Nat) ∧ v = .slice ao k cap ∧ AsMid w wr (.slice ao k cap) V (L.take k) ∧ ∀ t ∈ L.take k, t.as.length ≤ 30 ∧ t.t.length ≤ 1000
def TaRel (b : Nat) (w5 : World) (t : TkX) (i : Value) (wr : World) : Prop := ∃ k a2 c2, k ≤ t.as.length ∧ i = .int .i64 (k : Nat) ∧ Below b w5 wr ∧ own wr b #[.int .i64 t.k, .string (mk t.n), .slice a2 k c2, .string (mk t.t)] 50 ∧ ROwn raTy wr (.slice a2 k c2) (t.as.take k) ∧ (∀ g, (Value.slice a2 k c2).ownBlock = some g → b < g)
set_option maxHeartbeats 16000000 in
theorem tokens_any {w : World} {v : Value} {L : List TkX} (h : TokAt w v L) : Calls Tryz.prog 5 #[v] w (TkPost w L) := by
  obtain ⟨a1, c1, rfl, t1⟩ := tks_at h
  by_cases hbig : 400 < L.length
  · have hI : (400 : Int) < (L.length : Int) := by omega
    clear t1 h
    go_enter Tryz.func5, Tryz.ntmps5
    go_wp2
    go_ret2
    exact ⟨Below.refl _ _, .inl rfl⟩
  · have hI : ¬ (400 : Int) < (L.length : Int) := by omega
    have hL : L.length ≤ 400 := by omega
    have T1 := hid t1
    have HO := hid (asMid_nil w)
    clear t1 h hbig
    go_enter Tryz.func5, Tryz.ntmps5
    go_wp2
    go_loopw [4, 5] (fun v i wr => TkRel w L v i wr) (fun v i _ => L.length - (intOf i).toNat)
    case atStart => exact ⟨0, [], none, 0, Nat.zero_le _, rfl, rfl, HO.out, fun t h => by simp at h⟩
    case round =>
      obtain ⟨w4, rfl⟩ : ∃ w4, w4 = wr := ⟨wr, rfl⟩
      obtain ⟨k, V, ao, cap, hk, rfl, rfl, hM, hA⟩ := hrel
      have hb := hM.mid.below
      have HM := hid hM
      have HA := hid hA
      clear hM hA HO
      by_cases hlt : k < L.length
      · have hkI : (k : Int) < (L.length : Int) := by omega
        have hx : L[k]? = some L[k] := by simp [hlt]
        have ht : L.take (k + 1) = L.take k ++ [L[k]] := by rw [List.take_succ_eq_append_getElem hlt]
        generalize L[k] = t at hx ht
        obtain ⟨sb, so, aa, ac, rfl, r1, f1⟩ := T1.out k t hx
        obtain ⟨_, _, e1, g1⟩ := ats_at r1
        cases e1
        have F1 := hid f1
        have G1 := hid g1
        have HT := hid ht
        obtain ⟨x0, x1, x2, x3⟩ := f1 _ hb
        clear hx r1 f1 g1 ht
        have hbz : Hid (Below w.heap.size w (w4.alloc (.cells #[.int .i64 0, .string ⟨#[]⟩, .slice none 0 0, .string ⟨#[]⟩] 50)).drew) := hid (below_drew (hb.alloc hb.size _) 1)
        obtain ⟨y0, y1, -, y3⟩ := F1.out _ hbz.out
        go_wp2
        go_region
        all_goals
          have hb5 : Below w4.heap.size w4 (w4.alloc (.cells #[.int .i64 t.k, .string (mk t.n), .slice none 0 0, .string (mk t.t)] 50)).drew := below_drew ((Below.refl _ _).alloc (Nat.le_refl _) _) 1
          have ho5 : own (w4.alloc (.cells #[.int .i64 t.k, .string (mk t.n), .slice none 0 0, .string (mk t.t)] 50)).drew w4.heap.size #[.int .i64 t.k, .string (mk t.n), .slice none 0 0, .string (mk t.t)] 50 := own.new w4 _ _
          have hl5 := ho5.lt
          clear x0 x1 x2 x3 y0 y1 y3 hbz
          generalize (w4.alloc (.cells #[.int .i64 t.k, .string (mk t.n), .slice none 0 0, .string (mk t.t)] 50)).drew = w5 at *
          have hbw5 := hb.trans (hb5.mono hb.size)
          obtain ⟨x0, x1, x2, x3⟩ := F1.out _ hbw5
          by_cases n3 : 30 < t.as.length
          · have n3' : (30 : Int) < (t.as.length : Int) := by omega
            clear ho5
            go_wp2
            go_ret2
            exact ⟨hbw5, .inl rfl⟩
          have n3' : ¬ (30 : Int) < (t.as.length : Int) := by omega
          by_cases n2 : 1000 < (mk t.t).size
          · have n2' : (1000 : Int) < ((mk t.t).size : Int) := by omega
            clear ho5
            go_wp2
            go_ret2
            exact ⟨hbw5, .inl rfl⟩
          have n2' : ¬ (1000 : Int) < ((mk t.t).size : Int) := by omega
          have HN : Hid (t.as.length ≤ 30 ∧ t.t.length ≤ 1000) := hid ⟨by omega, by rw [mk_size] at n2; omega⟩
          have HS : Hid (TaRel w4.heap.size w5 t (.int .i64 0) w5) := hid ⟨0, none, 0, Nat.zero_le _, rfl, Below.refl _ _, ho5, rOwn_nil w5, (fun g e => by simp [Value.ownBlock] at e)⟩
          clear ho5 n2 n3
          go_wp2
          clear x0 x1 x2 x3
          go_loopw [7] (TaRel w4.heap.size w5 t) (fun i _ => t.as.length - (intOf i).toNat)
          case atStart => exact HS.out
          case round =>
            obtain ⟨j, a2, c2, hj, rfl, hbj, hoj, hrj, hnj⟩ := hrel
            have hbw := hb.trans ((hb5.trans hbj).mono hb.size)
            obtain ⟨x0, x1, x2, x3⟩ := F1.out _ hbw
            by_cases hjl : j < t.as.length
            · have hjI : (j : Int) < (t.as.length : Int) := by omega
              have hz : t.as[j]? = some t.as[j] := by simp [hjl]
              generalize t.as[j] = z at hz
              obtain ⟨_, _, rfl, g1⟩ := G1.out j z hz
              obtain ⟨v0, v1⟩ := g1 _ hbw
              clear g1
              have hw4 := hoj.lt
              have hd : Below wr.heap.size wr wr.drew := below_drew (Below.refl _ _) 1
              obtain ⟨a3, c3, w6, hrun, o6, p1, p2, p3, p4⟩ := as_attr (T2 := 45) hl5 (wr := wr.drew) (below_drew hbj 1) hoj hrj hnj z hz (by have := HN.out.1; omega) 34
              have hrun2 : (Builtin.append_ #[34, 34] 34 #[.slice a2 j c2, .slice (some ⟨wr.heap.size, 0, none⟩) 1 1]).run Tryz.prog (wr.alloc (.cells #[.string (mk z.n), .string (mk z.v)] 45)).drew = .ok (.slice a3 (j + 1) c3) w6 := hrun
              have HP : Hid (TaRel w4.heap.size w5 t (.int .i64 ((j + 1 : Nat) : Int)) (w6.setCell ⟨w4.heap.size, 2, none⟩ (.slice a3 (j + 1) c3))) := hid ⟨j + 1, a3, c3, by omega, rfl, p1, p2, p3, p4⟩
              have d2 : w6.cell? ⟨w4.heap.size, 2, none⟩ = some (.slice a2 j c2) := by rw [o6.cell]; rfl
              have f2 : w6.frozen? ⟨w4.heap.size, 2, none⟩ = false := o6.frozen 2
              have z2 := hoj.cell 2
              simp only [List.getElem?_toArray, List.getElem?_cons_zero, List.getElem?_cons_succ] at z2
              have z2a : ∀ o, (wr.alloc o).cell? ⟨w4.heap.size, 2, none⟩ = some (.slice a2 j c2) := fun o => (((Below.refl _ _).alloc (Nat.le_refl _) o : Below wr.heap.size wr (wr.alloc o)).cell (p := ⟨w4.heap.size, 2, none⟩) hw4).trans z2
              clear hz hoj hrj hnj o6 p1 p2 p3 p4 hrun hd
              go_wp2
              go_region_law (refine step_append_at hrun2 (by with_reducible rfl) rfl _ _ rfl rfl rfl rfl ?_)
              all_goals
                go_wp2
                go_roundw
                case rel => exact (by have := HP.out; simpa using this)
                case measure => simp [intOf]; omega
            · obtain rfl : j = t.as.length := by omega
              have hfull : t.as.take t.as.length = t.as := List.take_of_length_le (Nat.le_refl _)
              rw [hfull] at hrj
              have z0 := hoj.cell 0
              have z1 := hoj.cell 1
              have z2 := hoj.cell 2
              have z3 := hoj.cell 3
              simp only [List.getElem?_toArray, List.getElem?_cons_zero, List.getElem?_cons_succ] at z0 z1 z2 z3
              have hM2 := HM.out.later (hb5.trans hbj)
              obtain ⟨a3, c3, w7, hrun, hM3⟩ := as_push hM2 t a2 c2 hrj.rAt (fun g hg => ⟨fun e => by have := HM.out.mid.row.lt g e; have := hnj g hg; omega, hrj.lt g hg⟩) 24 50 (by rw [HM.out.is.1, List.length_take]; omega)
              have hVl : V.length = k := by rw [HM.out.is.1, List.length_take]; omega
              rw [hVl] at hrun hM3
              rw [← HT.out] at hM3
              have HP : Hid (TkRel w L (.slice a3 (k + 1) c3) (.int .i64 ((k + 1 : Nat) : Int)) w7) := hid ⟨k + 1, _, a3, c3, by omega, rfl, rfl, hM3, fun q hq => by
                rw [HT.out] at hq
                rcases List.mem_append.1 hq with hq | hq
                · exact HA.out q hq
                · simp at hq; subst hq; exact HN.out⟩
              clear hM2 hM3 hoj hrj hnj hfull
              go_wp2_with (at_builtin; refine wpList_append_at hrun rfl rfl _ _ rfl rfl rfl rfl ?_)
              go_wp2
              exact ⟨HP.out, by simp [intOf]; omega⟩
      · obtain rfl : k = L.length := by omega
        have HF : Hid (RokAt w4 (.slice ao L.length cap) L ∧ ∀ t ∈ L, t.as.length ≤ 30 ∧ t.t.length ≤ 1000) := hid (by
          have hm := HM.out
          have ha := HA.out
          rw [List.take_of_length_le (Nat.le_refl _)] at hm ha
          exact ⟨⟨V, hm.mid.row.rAt, hm.is⟩, ha⟩)
        go_wp2
        go_ret2
        exact ⟨hb, .inr ⟨ao, cap, rfl, HF.out.1, hL, HF.out.2⟩⟩
end Go.Proofs.YtjoeamlidmmioaaGreatDoor

