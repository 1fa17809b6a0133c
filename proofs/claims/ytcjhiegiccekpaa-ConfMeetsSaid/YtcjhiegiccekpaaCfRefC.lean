/-
  LAYER 9 (conf), THE DOCUMENT's ANSWER: With.
-/
import Derived.Test.YtcjhiegiccekpaaCfRefB
import Derived.Deep.RegionLaw
namespace Go.Proofs.Ytcjhiegiccekpaa
open Go.RowKit
set_option linter.unusedVariables false
set_option maxRecDepth 100000

theorem while_eq {p : Int → Bool} : ∀ (l : List Int) (k : Nat), (∀ y ∈ l.take k, p y = true) → k ≤ l.length → (k = l.length ∨ p (l.getD k 0) = false) → l.takeWhile p = l.take k ∧ l.dropWhile p = l.drop k
  | [], k, h1, h2, h3 => by simp
  | x :: r, 0, h1, h2, h3 => by
    have hx : p x = false := by
      rcases h3 with e | e
      · simp at e
      · simpa using e
    simp [hx]
  | x :: r, k + 1, h1, h2, h3 => by
    have hx : p x = true := h1 x (by simp)
    obtain ⟨a, b⟩ := while_eq (p := p) r k (fun y hy => h1 y (by rw [List.take_succ_cons]; exact List.mem_cons_of_mem _ hy)) (by simpa using h2) (by
      rcases h3 with e | e
      · exact .inl (by simpa using e)
      · exact .inr (by simpa using e))
    simp [hx, a, b]
/-- All that the walk needs of 'append(append(append([]int{}, l[:k]...), x), l[k:]...)' in one order. -/
structure WPut (w : World) (l : List Int) (x : Int) (ao : Option Addr) (cap k n : Nat) (mv : Value) (W0 : World) (g0 gF : Nat) (a1 : Option Addr) (b1 : Nat) (w1 w1' : World) (a2 : Option Addr) (b2 : Nat) (w2 : World) (a3 : Option Addr) (b3 : Nat) (w3 : World) : Prop where
  e1 : Hid ((Builtin.append_ #[22, 22] 22 #[.slice (some ⟨g0, 0, none⟩) 0 0, .slice ao k cap]).run Try.prog W0 = .ok (.slice a1 k b1) w1)
  e2 : Hid ((Builtin.append_ #[22, 22] 22 #[.slice a1 k b1, .slice (some ⟨gF, 0, none⟩) 1 1]).run Try.prog w1' = .ok (.slice a2 (k + 1) b2) w2)
  e3 : Hid ((Builtin.append_ #[22, 22] 22 #[.slice a2 (k + 1) b2, mv]).run Try.prog w2 = .ok (.slice a3 (n + 1) b3) w3)
  row : Hid (RAt numTy w3 (.slice a3 (n + 1) b3) (l.take k ++ [x] ++ l.drop k) ∧ Below w.heap.size w w3)
theorem wput_of {w : World} {l : List Int} {x : Int} {ao : Option Addr} {cap k n : Nat} {mv : Value} {W : World} {g0 gF : Nat} {lay : Bool} {a1 : Option Addr} {b1 : Nat} {w1 : World} {a2 : Option Addr} {b2 : Nat} {w2 : World} (hn : l.length = n) (hl : n ≤ 100000) (hk : k ≤ n) (hm : RAt numTy w mv (l.drop k)) (P : GPut numTy w (.slice ao k cap) (l.take k) x #[.int .i64 x] W g0 gF lay a1 b1 w1 a2 b2 w2) : ∃ a3 b3 w3, WPut w l x ao cap k n mv W g0 (if lay then w1.heap.size else gF) a1 b1 w1 (if lay then w1.alloc (.cells #[.int .i64 x] 3) else w1) a2 b2 w2 a3 b3 w3 := by
  have hlen : (l.take k).length = k := by rw [List.length_take]; omega
  obtain ⟨a3, b3, w3, e3, m3, -⟩ := P.row.app numTy_ok 22 (hm.below P.row.below) (by rw [List.length_append, hlen, List.length_drop]; simp; omega)
  have e1 := P.e1
  have e2 := P.e2
  have h4 : (l.take k ++ [x]).length = k + 1 := by rw [List.length_append, hlen]; rfl
  have h3 : (l.take k ++ [x]).length + (l.drop k).length = n + 1 := by rw [h4, List.length_drop]; omega
  rw [h3] at e3 m3
  rw [hlen] at e1 e2 e3
  exact ⟨a3, b3, w3, hid e1, hid e2, hid e3, hid ⟨m3.row.rAt, m3.below⟩⟩
def WiRel (l : List Int) (x : Int) (w : World) (u : Value) (wr : World) : Prop := ∃ k : Nat, k ≤ l.length ∧ u = .int .i64 (k : Int) ∧ wr = w ∧ Hid (∀ y ∈ l.take k, y ≤ x)
set_option maxHeartbeats 8000000 in
theorem refWith_any {w : World} {v : Value} {l : List Int} (x : Int) (hv : RAt numTy w v l) (hl : l.length ≤ 100000) :
    Calls Try.prog 19 #[v, .int .i64 x] w (NumPost w (withC l x)) := by
  have C1 := hid (refHas_any x hv (by omega))
  have HV := hid hv
  obtain ⟨ao, cap, rfl, hat⟩ := nums_in hv
  obtain ⟨a', cap', e, hcap, hnone, -, -⟩ := id hv
  cases e
  have HAt := hid (hat w (Below.refl _ _))
  obtain ⟨n, hn⟩ : ∃ n, l.length = n := ⟨_, rfl⟩
  by_cases hx : x ∈ l
  · rw [with_in hx]
    have hh : hasC l x = true := decide_eq_true hx
    rw [hh] at C1
    rw [hn] at C1 HV
    rw [hn]
    have HN := hid hn
    clear hat hv hx hh hn HAt hcap hnone
    go_enter Try.func19, Try.ntmps19
    go_wp2_with (go_at_call 16; (with_reducible refine C1.out.mono ?_); rintro e w1 ⟨rfl, rfl⟩)
    go_ret
    exact ⟨ao, n, cap, rfl, HN.out.symm, HV.out, Below.refl _ _⟩
  · have hh : hasC l x = false := decide_eq_false hx
    rw [hh] at C1
    have HWi : Hid (withC l x = l.takeWhile (fun y => decide (y ≤ x)) ++ x :: l.dropWhile (fun y => decide (y ≤ x))) := hid (by unfold withC; rw [if_neg hx])
    rw [hn] at C1 HAt hl hcap HV
    rw [hn]
    have HN := hid hn
    clear hat hv hx hh hn
    go_enter Try.func19, Try.ntmps19
    go_wp2_with (go_at_call 16; (with_reducible refine C1.out.mono ?_); rintro e w1 ⟨rfl, rfl⟩)
    go_loopw [6] (WiRel l x w1) (fun i _ => n - (intOf i).toNat)
    case atStart => exact ⟨0, Nat.zero_le _, rfl, rfl, hid (fun y hy => by simp at hy)⟩
    case round =>
      obtain ⟨k, hk, rfl, rfl, hq⟩ := hrel
      by_cases hex : k < n ∧ l.getD k 0 ≤ x
      · obtain ⟨hkn, hyx⟩ := hex
        have hkI : (k : Int) < (n : Int) := by omega
        obtain ⟨sb, so, rfl, c0⟩ := HAt.out k hkn
        have hkl : k < l.length := by rw [HN.out]; exact hkn
        have ht := take_more hkl
        have HKn : Hid (k + 1 ≤ l.length) := hid hkl
        have HX : Hid (∀ y ∈ l.take (k + 1), y ≤ x) := hid (fun y hy => by
          rw [ht] at hy
          rcases List.mem_append.1 hy with e | e
          · exact hq.out y e
          · rw [List.mem_singleton] at e; omega)
        generalize l.getD k 0 = y at *
        clear hk ht hkl
        go_wp2
        go_roundw
        case rel => exact ⟨k + 1, HKn.out, by go_num, rfl, HX⟩
        case measure => simp [intOf]; omega
      · have hkn : k ≤ n := by have := HN.out; omega
        have hend : k = l.length ∨ decide (l.getD k 0 ≤ x) = false := by
          by_cases hh : k < n
          · exact .inr (decide_eq_false (fun e => hex ⟨hh, e⟩))
          · exact .inl (by have := HN.out; omega)
        obtain ⟨hw1, hw2⟩ := while_eq (p := fun y => decide (y ≤ x)) l k (fun y hy => decide_eq_true (hq.out y hy)) hk hend
        have HW : Hid (withC l x = l.take k ++ [x] ++ l.drop k) := hid (by rw [HWi.out, hw1, hw2]; simp)
        have hcell : (∃ sb so, ao = some ⟨sb, so, none⟩ ∧ (k : Int) < (n : Int) ∧ x < l.getD k 0 ∧ wr.cell? ⟨sb, so + k, none⟩ = some (.int .i64 (l.getD k 0))) ∨ (n : Int) ≤ (k : Int) := by
          by_cases hh : k < n
          · obtain ⟨sb, so, e, c0⟩ := HAt.out k hh
            exact .inl ⟨sb, so, e, by omega, by
              have : ¬ l.getD k 0 ≤ x := fun e => hex ⟨hh, e⟩
              omega, c0⟩
          · exact .inr (by omega)
        have hto : ∀ wx, (Instr.slice 22 (.slice ao n cap) none (some (.int .i64 (k : Int))) none).run Try.prog wx = .ok (.slice ao k cap) wx := fun wx => run_to numTy_ok wx ao n cap k (by omega) hnone
        have hfrom : ∀ wx, (Instr.slice 22 (.slice ao n cap) (some (.int .i64 (k : Int))) none none).run Try.prog wx = .ok (numTy.from ao n cap k) wx := fun wx => run_from numTy_ok wx ao n cap k hkn (by omega)
        have hrow := HV.out
        have htake := hrow.take numTy_ok (k := k) hk
        have hdrop := (hrow.drop numTy_ok (k := k) hk).1
        obtain ⟨a4, n4, c4, hlv⟩ : ∃ a n4 c, numTy.from ao n cap k = .slice a n4 c := ⟨_, _, _, rfl⟩
        rw [hlv] at hfrom hdrop
        clear hlv
        obtain ⟨⟨aA, bA, wA, aA2, bA2, wA2, PA⟩, ⟨aB, bB, wB, aB2, bB2, wB2, PB⟩, ⟨aC, bC, wC, aC2, bC2, wC2, PC⟩⟩ := gput_runs numTy_ok htake (by rw [List.length_take]; omega) x #[.int .i64 x] rfl
        obtain ⟨aA3, bA3, wA3, QA⟩ := wput_of HN.out hl hkn hdrop PA
        obtain ⟨aB3, bB3, wB3, QB⟩ := wput_of HN.out hl hkn hdrop PB
        obtain ⟨aC3, bC3, wC3, QC⟩ := wput_of HN.out hl hkn hdrop PC
        simp only [if_true, if_false, Bool.false_eq_true] at QA QB QC
        have eA := QA.e1
        have fA := QA.e2
        have gA := QA.e3
        have eB := QB.e1
        have fB := QB.e2
        have gB := QB.e3
        have eC := QC.e1
        have fC := QC.e2
        have gC := QC.e3
        have rA := QA.row
        have rB := QB.row
        have rC := QC.row
        have HLen : Hid (n + 1 = (withC l x).length) := hid (by rw [HW.out, List.length_append, List.length_append, List.length_take, List.length_drop]; have := HN.out; simp; omega)
        clear hw1 hw2 hend hex hk hq hrow htake hdrop PA PB PC QA QB QC HAt HWi
        dsimp only [numTy] at eA eB eC fA fB fC gA gB gC
        rcases hcell with ⟨sb, so, rfl, hkI, hyI, c0⟩ | hkI
        · generalize l.getD k 0 = y at *
          go_upto_region 7 with (fail)
          go_region_law (first
            | (refine step_append_at eA.out (by with_reducible rfl) rfl _ _ rfl rfl rfl rfl ?_)
            | (refine step_append_at fA.out (by with_reducible rfl) rfl _ _ rfl rfl rfl rfl ?_)
            | (refine step_append_at gA.out (by with_reducible rfl) rfl _ _ rfl rfl rfl rfl ?_)
            | (refine step_append_at eB.out (by with_reducible rfl) rfl _ _ rfl rfl rfl rfl ?_)
            | (refine step_append_at fB.out (by with_reducible rfl) rfl _ _ rfl rfl rfl rfl ?_)
            | (refine step_append_at gB.out (by with_reducible rfl) rfl _ _ rfl rfl rfl rfl ?_)
            | (refine step_append_at eC.out (by with_reducible rfl) rfl _ _ rfl rfl rfl rfl ?_)
            | (refine step_append_at fC.out (by with_reducible rfl) rfl _ _ rfl rfl rfl rfl ?_)
            | (refine step_append_at gC.out (by with_reducible rfl) rfl _ _ rfl rfl rfl rfl ?_))
          all_goals
            go_wp2
            go_ret
            first
              | exact ⟨_, _, _, rfl, HLen.out, by rw [HW.out]; exact rA.out.1, rA.out.2⟩
              | exact ⟨_, _, _, rfl, HLen.out, by rw [HW.out]; exact rB.out.1, rB.out.2⟩
              | exact ⟨_, _, _, rfl, HLen.out, by rw [HW.out]; exact rC.out.1, rC.out.2⟩
        · go_upto_region 7 with (fail)
          go_region_law (first
            | (refine step_append_at eA.out (by with_reducible rfl) rfl _ _ rfl rfl rfl rfl ?_)
            | (refine step_append_at fA.out (by with_reducible rfl) rfl _ _ rfl rfl rfl rfl ?_)
            | (refine step_append_at gA.out (by with_reducible rfl) rfl _ _ rfl rfl rfl rfl ?_)
            | (refine step_append_at eB.out (by with_reducible rfl) rfl _ _ rfl rfl rfl rfl ?_)
            | (refine step_append_at fB.out (by with_reducible rfl) rfl _ _ rfl rfl rfl rfl ?_)
            | (refine step_append_at gB.out (by with_reducible rfl) rfl _ _ rfl rfl rfl rfl ?_)
            | (refine step_append_at eC.out (by with_reducible rfl) rfl _ _ rfl rfl rfl rfl ?_)
            | (refine step_append_at fC.out (by with_reducible rfl) rfl _ _ rfl rfl rfl rfl ?_)
            | (refine step_append_at gC.out (by with_reducible rfl) rfl _ _ rfl rfl rfl rfl ?_))
          all_goals
            go_wp2
            go_ret
            first
              | exact ⟨_, _, _, rfl, HLen.out, by rw [HW.out]; exact rA.out.1, rA.out.2⟩
              | exact ⟨_, _, _, rfl, HLen.out, by rw [HW.out]; exact rB.out.1, rB.out.2⟩
              | exact ⟨_, _, _, rfl, HLen.out, by rw [HW.out]; exact rC.out.1, rC.out.2⟩
end Go.Proofs.Ytcjhiegiccekpaa
