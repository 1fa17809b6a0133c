/-
  LAYER 5, the law AgendaOrders: its walk.
-/
import Derived.Test.YtmjgkhjjnfoolaaAgTwo
namespace Go.Proofs.Ytmjgkhjjnfoolaa
open Go.RowKit Go.Maps
set_option linter.unusedVariables false
set_option maxRecDepth 100000

/-- The first k of the numbers below n, begun at t. -/
def rot (n t k : Nat) : List Nat := (List.range k).map (fun i => (i + t) % n)
theorem rot_snoc (n t k : Nat) : rot n t (k + 1) = rot n t k ++ [(k + t) % n] := by simp [rot, range_snoc]
theorem rot_new {n t k : Nat} (hk : k < n) : (k + t) % n ∉ rot n t k := by
  unfold rot
  simp only [List.mem_map, List.mem_range, not_exists, not_and]
  intro i hi e
  have h1 := Nat.div_add_mod (i + t) n
  have h2 := Nat.div_add_mod (k + t) n
  rw [e] at h1
  have h3 : n * ((k + t) / n) - n * ((i + t) / n) = k - i := by omega
  rw [← Nat.mul_sub] at h3
  rcases Nat.eq_zero_or_pos ((k + t) / n - (i + t) / n) with h | h
  · rw [h, Nat.mul_zero] at h3; omega
  · have := Nat.mul_le_mul_left n h; omega
theorem rot_perm {n t : Nat} (ht : t < n) : (rot n t n).Perm (List.range n) := by
  have hnd : ∀ k, k ≤ n → (rot n t k).Nodup := by
    intro k
    induction k with
    | zero => intro _; simp [rot]
    | succ k ih =>
      intro hk
      rw [rot_snoc, List.nodup_append]
      refine ⟨ih (by omega), by simp, fun a ha b hb e => ?_⟩
      simp at hb
      subst e hb
      exact rot_new (by omega) ha
  refine (List.perm_ext_iff_of_nodup (hnd n (Nat.le_refl _)) List.nodup_range).2 (fun a => ?_)
  rw [List.mem_range]
  unfold rot
  rw [List.mem_map]
  constructor
  · rintro ⟨i, _, rfl⟩
    exact Nat.mod_lt _ (by omega)
  · intro ha
    by_cases h : t ≤ a
    · exact ⟨a - t, List.mem_range.2 (by omega), by rw [show a - t + t = a by omega, Nat.mod_eq_of_lt ha]⟩
    · exact ⟨a + n - t, List.mem_range.2 (by omega), by rw [show a + n - t + t = a + n by omega, Nat.add_mod_right, Nat.mod_eq_of_lt ha]⟩
structure OrdAt (w wr : World) (p q : Nat) (F G : Nat → Prop) (l : List Int) (t k : Nat) (S T : List It) : Prop where
  two : Two w wr p q F G S T
  pa : S.Perm (itms l (List.range k))
  pb : T.Perm (itms l (rot l.length t k))
def OrdRel (w : World) (p q : Nat) (l : List Int) (t : Nat) (i : Value) (wr : World) : Prop := ∃ (k : Nat) (F G : Nat → Prop) (S T : List It), k ≤ l.length ∧ i = .int .i64 (k : Int) ∧ Hid (OrdAt w wr p q F G l t k S T)
set_option maxHeartbeats 8000000 in
theorem agendaOrders_walk (v : Value) (l : List Int) (turn : Int) (w : World) (hv : IntsAt w w.heap.size v l) (hx : ∀ n ∈ l, -9223372036854775808 ≤ n ∧ n ≤ 9223372036854775807) (hl : l.length ≤ maxLen)
    (ht : -9223372036854775808 ≤ turn ∧ turn ≤ 9223372036854775807) :
    Calls Try.prog 6 #[v, .int .i64 turn] w fun e w' => e = .returned (.bool true) ∧ Below w.heap.size w w' := by
  have HV := hid hv
  have HX := hid hx
  obtain ⟨a, cap, rfl, hat⟩ := hv.at
  have hSh := hid (shown_any w)
  clear hv hx
  by_cases hlen : l.length ≤ 200
  · have hlI : (l.length : Int) ≤ 200 := by omega
    by_cases hpos : 0 < l.length
    · have hq0 : ((l.length : Int) == 0) = false := beq_eq_false_iff_ne.2 (by omega)
      have hpI : (0 : Int) < (l.length : Int) := by omega
      clear hat
      have hN1 := hid (fun wx (h : Below w.heap.size w wx) => new_one h)
      have hN2 := hid (fun wx p (h : Own w wx p (fun b => b = p) []) => new_two h)
      have hPick := hid (fun wx => pick_any turn (l.length : Int) wx (by omega) (by omega) ht.1 ht.2)
      obtain ⟨p0, p1⟩ := pickZ_range turn (l.length : Int) (by omega)
      obtain ⟨t, htn⟩ : ∃ t : Nat, pickZ turn (l.length : Int) = (t : Int) := ⟨(pickZ turn (l.length : Int)).toNat, by omega⟩
      rw [htn] at hPick p0 p1
      have htl : t < l.length := by omega
      have htI : (t : Int) < (l.length : Int) := by omega
      clear htn p0 p1
      go_enter Try.func6, Try.ntmps6
      go_wp2_with (first
        | (go_at_call 8; (with_reducible refine hSh.out.mono ?_); rintro e w1 ⟨rfl, hb1⟩)
        | (go_at_call 10; (with_reducible refine (hPick.out _).mono ?_); rintro e w4 ⟨rfl, rfl⟩)
        | (go_at_call 9; first
          | ((with_reducible refine (hN2.out _ _ HO.out).mono ?_); rintro e w3 ⟨q, rfl, hT⟩; have HTwo := hid hT; clear hT)
          | ((with_reducible refine (hN1.out _ hb1).mono ?_); rintro e w2 ⟨p, rfl, hO⟩; have HO := hid hO; clear hO)))
      go_loopw [9] (OrdRel w p q l t) (fun i _ => l.length - (intOf i).toNat)
      case atStart => exact ⟨0, _, _, [], [], Nat.zero_le _, rfl, hid ⟨HTwo.out, List.Perm.refl _, List.Perm.refl _⟩⟩
      case round =>
        obtain ⟨k, F, G, S, T, hk, rfl, hH⟩ := hrel
        have hSl : S.length = k := by rw [hH.out.pa.length_eq]; simp [itms]
        have hTl : T.length = k := by rw [hH.out.pb.length_eq]; simp [itms, rot]
        by_cases hkl : k < l.length
        · obtain ⟨a', cap', hae, hat⟩ := (HV.out.below hH.out.two.a.below).at
          obtain ⟨n, hn⟩ : ∃ n, (k + t) % l.length = n := ⟨_, rfl⟩
          have hnl : n < l.length := by rw [← hn]; exact Nat.mod_lt _ hpos
          obtain ⟨sb, so, ha, hsb, c1⟩ := hat k hkl
          obtain ⟨sb', so', ha', -, c2⟩ := hat n hnl
          cases hae
          subst ha
          cases ha'
          have hkI : (k : Int) < (l.length : Int) := by omega
          have hnI : (n : Int) < (l.length : Int) := by omega
          have hW : IntKind.i64.wrap ((k : Int) + (t : Int)) = (k : Int) + (t : Int) := IntWalk.i64_in _ (by omega)
          have hMod : ((k : Int) + (t : Int)).tmod (l.length : Int) = (n : Int) := by
            rw [Int.tmod_eq_emod_of_nonneg (by omega), ← hn]; push_cast; rfl
          have hin := itm_in HX.out hkl (by omega)
          have hin2 := itm_in HX.out hnl (by omega)
          obtain ⟨x, hxx⟩ : ∃ x, l.getD k 0 = x := ⟨_, rfl⟩
          obtain ⟨y, hyy⟩ : ∃ y, l.getD n 0 = y := ⟨_, rfl⟩
          rw [itm_is hxx] at hin
          rw [itm_is hyy] at hin2
          rw [hxx] at c1
          rw [hyy] at c2
          have HP1 := hid (put_turn hH.out.two.a x (k : Int) hin (by omega))
          have HP2 := hid (fun w3 F' (h : Two w w3 p q F' G (insS (x, (k : Int)) (delS (k : Int) S)) T) => put_turn h.b y (n : Int) hin2 (by omega))
          have HC : Hid (∀ w3, Chg F wr w3 → w3.cell? ⟨sb, so + n, none⟩ = some (.int .i64 y)) := hid (fun w3 hc => by
            have hb := hc.below (B := w.heap.size) hH.out.two.a.below.size hH.out.two.a.new
            rw [hb.cell (p := ⟨sb, so + n, none⟩) hsb]; exact c2)
          have HPm := hid (itm_put hH.out.pa (i := k) (by simp) hxx)
          have HPn := hid (itm_put hH.out.pb (i := n) (by rw [← hn]; exact rot_new hkl) hyy)
          have HNn := hid hn
          clear hat hin hin2 hSl hTl hxx hyy hn c2
          go_wp2_with (go_at_call 16; first
            | ((with_reducible refine HP1.out.mono ?_); rintro e w5 ⟨rfl, F', hO, hT⟩; have HT2 := hid (hH.out.two.turn hO hT); have c3 := HC.out _ hT.chg; clear hO hT)
            | ((with_reducible refine (HP2.out _ _ HT2.out).mono ?_); rintro e w6 ⟨rfl, G', hO, hT⟩; have HT3 := hid (HT2.out.swap.turn hO hT).swap; clear hO hT))
          go_roundw
          case rel => exact ⟨k + 1, F', G', _, _, by omega, by go_num, hid ⟨HT3.out, by rw [range_snoc]; exact HPm.out, by rw [rot_snoc, HNn.out]; exact HPn.out⟩⟩
          case measure => simp [intOf]; omega
        · obtain rfl : k = l.length := by omega
          have hST : T = S := Srt.uniq hH.out.two.b.is.ok.srt hH.out.two.a.is.ok.srt (hH.out.pb.trans (((rot_perm htl).map _).trans hH.out.pa.symm))
          have HST := hid hST
          clear hST
          obtain ⟨f1, f2⟩ := due_all hH.out.two.a.is.ok.inr
          have hD1 := hid (due_turn hH.out.two.a (by omega) 9223372036854775807 f1 f2)
          have hD2 := hid (fun w3 F' (h : Two w w3 p q F' G [] T) => due_turn h.b (by omega) 9223372036854775807 (D := S) (R := []) (by rw [HST.out]; exact f1) (by rw [HST.out]; exact f2))
          have hSame := hid (fun wx va vb (ha : IntsAt wx wx.heap.size va (S.map Prod.snd)) (hb : IntsAt wx wx.heap.size vb (S.map Prod.snd)) => same_any wx va vb _ _ ha hb (by simp only [List.length_map]; omega) (by simp only [List.length_map]; omega))
          rw [show decide (S.map Prod.snd = S.map Prod.snd) = true from decide_eq_true rfl] at hSame
          clear hSl hTl f1 f2
          go_wp2_with (first
            | (go_at_call 15; first
              | ((with_reducible refine hD1.out.mono ?_); rintro e w5 ⟨v1, F1, rfl, hO, hT, hU⟩; have HT1 := hid (hH.out.two.turn hO hU); have HV1 := hid (hT.apart (q := q) (G := G) hH.out.two.b.is.lt); clear hO hT hU)
              | ((with_reducible refine (hD2.out _ _ HT1.out).mono ?_); rintro e w6 ⟨v2, G2, rfl, hO, hT, hU⟩; have HT2 := hid (HT1.out.swap.turn hO hU).swap; have HV2 := hid hT; have HV1' := hid (HV1.out.turn hU); clear hO hT hU))
            | (go_at_call 14; (with_reducible refine (hSame.out _ _ _ HV1'.out.ints HV2.out.ints).mono ?_); rintro e w7 ⟨rfl, hb7⟩; have HT5 := hid (HT2.out.later hb7); clear hb7))
          go_ret
          exact ⟨rfl, HT5.out.a.below⟩
    · have h0 : l.length = 0 := by omega
      have hl0 : l = [] := List.length_eq_zero_iff.1 h0
      subst hl0
      clear hat h0 hpos
      go_enter Try.func6, Try.ntmps6
      go_wp2_with (go_at_call 8; (with_reducible refine hSh.out.mono ?_); rintro e w1 ⟨rfl, hb1⟩)
      go_ret
      exact ⟨rfl, hb1⟩
  · have hlI : ¬ (l.length : Int) ≤ 200 := by omega
    clear hat
    go_enter Try.func6, Try.ntmps6
    go_wp2_with (go_at_call 8; (with_reducible refine hSh.out.mono ?_); rintro e w1 ⟨rfl, hb1⟩)
    go_ret
    exact ⟨rfl, hb1⟩
end Go.Proofs.Ytmjgkhjjnfoolaa
