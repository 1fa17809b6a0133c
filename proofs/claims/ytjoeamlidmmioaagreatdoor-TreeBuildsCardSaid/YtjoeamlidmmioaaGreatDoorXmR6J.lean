import Derived.Test.YtjoeamlidmmioaaGreatDoorXmR5J
/-
  LAYER 11 (xml), THE DOCUMENT's: what a text with references says.
-/
namespace Go.Proofs.YtjoeamlidmmioaaGreatDoor
open Go.RowKit
set_option linter.unusedVariables false
set_option maxRecDepth 100000

/-- What a text says, and what stands where its first error begins. -/
def saidEG (f : List UInt8 → List UInt8 × Option (List UInt8)) : List UInt8 → List UInt8 × Option (List UInt8)
  | [] => ([], none)
  | c :: r => if c = 38 then (match refX r with | none => ([], some (c :: r)) | some x => (x.1 ++ (f x.2).1, (f x.2).2)) else (c :: (f r).1, (f r).2)
def saidE (s : List UInt8) : List UInt8 × Option (List UInt8) := runL saidEG ([], none) s
theorem saidEG_local : Local saidEG := by
  intro f g s h
  cases s with
  | nil => rfl
  | cons c r =>
    simp only [saidEG]
    by_cases hc : c = 38
    · rw [if_pos hc, if_pos hc]
      cases hr : refX r with
      | none => rfl
      | some x =>
        obtain ⟨t, r'⟩ := x
        have := refX_lt hr
        simp only
        rw [h r' (by simp; omega)]
    · rw [if_neg hc, if_neg hc, h r (by simp)]
theorem saidE_nil : saidE [] = ([], none) := rfl
theorem saidE_cons (c : UInt8) (r : List UInt8) : saidE (c :: r) = if c = 38 then (match refX r with | none => ([], some (c :: r)) | some x => (x.1 ++ (saidE x.2).1, (saidE x.2).2)) else (c :: (saidE r).1, (saidE r).2) := by
  unfold saidE
  rw [runL_eq saidEG_local]
  rfl
theorem saidE_chr {c : UInt8} (h : ¬ c = 38) (r : List UInt8) : saidE (c :: r) = (c :: (saidE r).1, (saidE r).2) := by rw [saidE_cons, if_neg h]
theorem saidE_bad {r : List UInt8} (h : refX r = none) : saidE (38 :: r) = ([], some (38 :: r)) := by rw [saidE_cons, if_pos rfl, h]
theorem saidE_ref {r t q : List UInt8} (h : refX r = some (t, q)) : saidE (38 :: r) = (t ++ (saidE q).1, (saidE q).2) := by rw [saidE_cons, if_pos rfl, h]
theorem saidX_E : ∀ (n : Nat) (s : List UInt8), s.length ≤ n → saidX s = match (saidE s).2 with | none => some (saidE s).1 | some _ => none
  | _, [], _ => rfl
  | 0, c :: r, h => by simp at h
  | n + 1, c :: r, h => by
    rw [saidX_cons]
    simp only [List.length_cons] at h
    by_cases hc : c = 38
    · subst hc
      rw [if_pos rfl]
      cases hr : refX r with
      | none => rw [saidE_bad hr]; rfl
      | some x =>
        obtain ⟨t, q⟩ := x
        have := refX_lt hr
        rw [saidE_ref hr]
        simp only [Option.bind_some]
        rw [saidX_E n q (by omega)]
        cases (saidE q).2 <;> rfl
    · rw [if_neg hc, saidE_chr hc, saidX_E n r (by omega)]
      cases (saidE r).2 <;> rfl
theorem refX_drop {r t q : List UInt8} (h : refX r = some (t, q)) : r.drop (r.length - q.length) = q := by
  unfold refX at h
  obtain ⟨⟨x, y⟩, h1, h2⟩ := Option.bind_eq_some_iff.1 h
  obtain ⟨t', h3, h4⟩ := Option.map_eq_some_iff.1 h2
  cases h4
  have hr := (upTo_lt h1).2
  rw [hr]
  have e : (x ++ [59] ++ y).length - y.length = (x ++ [59]).length := by simp only [List.length_append]; omega
  rw [e, List.drop_left]
def saV (x : List UInt8 × Option (List UInt8)) (n : Nat) : Value := match x.2 with | none => .tuple #[.string (mk x.1), .int .i64 (-1)] | some r => .tuple #[.string ⟨#[]⟩, .int .i64 ((n - r.length : Nat) : Int)]
def SaRel (w : World) (a : List UInt8) (v i : Value) (wr : World) : Prop := ∃ (k : Nat) (ao : Option Addr) (n cap : Nat) (t : List UInt8), k ≤ a.length ∧ i = .int .i64 k ∧ v = .slice ao n cap ∧ n = t.length ∧ t.length ≤ 4 * k ∧ Hid (RMid byTy w wr (.slice ao n cap) t) ∧ Hid (saidE a = (t ++ (saidE (a.drop k)).1, (saidE (a.drop k)).2))
set_option maxHeartbeats 8000000 in
theorem said_any (a : List UInt8) (ha : a.length ≤ 200000) (w : World) :
    Calls Tryz.prog 34 #[.string (mk a)] w fun e w' => e = .returned (saV (saidE a) a.length) ∧ Below w.heap.size w w' := by
  have hms : (mk a).size = a.length := mk_size a
  go_enter Tryz.func34, Tryz.ntmps34
  go_wp2
  go_loopw [4, 5] (SaRel w a) (fun v i _ => a.length - (intOf i).toNat)
  case atStart => exact ⟨0, none, 0, 0, [], by omega, rfl, rfl, rfl, by simp, hid (rMid_nil w), hid (by simp)⟩
  case round =>
    obtain ⟨k, ao, n, cap, t, hk, rfl, rfl, rfl, ht, hM, hE⟩ := hrel
    by_cases hlt : k < a.length
    · have h1 : ((k : Int) < ((mk a).size : Int)) := by omega
      have hd : a.drop k = a[k] :: a.drop (k + 1) := List.drop_eq_getElem_cons hlt
      have hx : a[k]? = some a[k] := by simp [hlt]
      generalize a[k] = c at hd hx
      have x1 := fun wx => ix_at hx (q := (k : Int)) rfl wx
      rw [hd] at hE
      by_cases hc : c = 38
      · have hce : ((c.toNat : Nat) : Int) = 38 := by rw [hc]; rfl
        rw [hce] at x1
        subst hc
        have x2 := fun wx => s_from (a := a) (k := k) (by omega) (q := (k : Int)) rfl wx
        rw [hd] at x2
        have hrl : (a.drop (k + 1)).length + (k + 1) = a.length := by rw [List.length_drop]; omega
        have HC := hid (rReference_any (a.drop (k + 1)) (by omega))
        cases hr : refX (a.drop (k + 1)) with
        | none =>
          have e1 : refO (a.drop (k + 1)) = none := by unfold refO; rw [hr]; rfl
          rw [e1] at HC
          have HR : Hid (saV (saidE a) a.length = .tuple #[.string ⟨#[]⟩, .int .i64 (k : Nat)]) := hid (by
            rw [hE.out, saidE_bad hr]
            unfold saV
            have e : a.length - ((a.drop (k + 1)).length + 1) = k := by omega
            simp only [List.length_cons]
            rw [e])
          have HB := hid hM.out.below
          unfold rfV at HC
          clear hE hM hd hx hr e1
          go_wp2_with (go_at_call 55; (with_reducible refine (HC.out _).mono ?_); rintro e w2 ⟨rfl, hb2⟩)
          go_ret2
          exact ⟨by rw [HR.out]; rfl, HB.out.trans (hb2.mono HB.out.size)⟩
        | some x =>
          obtain ⟨u, q⟩ := x
          have hq := refX_lt hr
          have hu := refX_le hr
          have hdq := refX_drop hr
          generalize hrr : a.drop (k + 1) = r at *
          obtain ⟨m, hm⟩ : ∃ m, m = 1 + r.length - q.length := ⟨_, rfl⟩
          have e1 : refO r = some (u, m) := by unfold refO; rw [hr, hm]; rfl
          rw [e1] at HC
          have hqa : a.drop (k + m) = q := by
            rw [← hdq, ← hrr, List.drop_drop]
            congr 1
            rw [hrr]; omega
          have HR : Hid (∀ a2 n2 c2 w2, n2 = (t ++ (mk u).data.toList).length → RMid byTy w w2 (.slice a2 n2 c2) (t ++ (mk u).data.toList) → ∀ i, i = .int .i64 ((k + m : Nat) : Int) → SaRel w a (.slice a2 n2 c2) i w2) := hid (fun a2 n2 c2 w2 h2 h3 i hi =>
            ⟨k + m, a2, n2, c2, _, by omega, hi, rfl, h2, by rw [mk_data, List.length_append]; omega, hid h3, hid (by rw [hE.out, saidE_ref hr, hqa, mk_data]; simp)⟩)
          have HT : Hid (∀ w2, Below w2.heap.size w2 w2 → RMid byTy w w2 (.slice ao t.length cap) t → ∃ a2 n2 c2 w5, (Builtin.append_ #[70, 9] 70 #[.slice ao t.length cap, .string (mk u)]).run Tryz.prog w2 = .ok (.slice a2 n2 c2) w5 ∧ n2 = (t ++ (mk u).data.toList).length ∧ RMid byTy w w5 (.slice a2 n2 c2) (t ++ (mk u).data.toList)) := hid (fun w2 _ h => esc_text h (mk u) _ (by rw [mk_size]; omega))
          have hm1 : ¬ ((m : Int) == 0) = true := by simp; omega
          have hm0 : ((m : Int) == 0) = false := by simpa using hm1
          have hml : m ≤ 200000 := by omega
          have hkm : k + m ≤ a.length := by omega
          have hm2 : 1 ≤ m := by omega
          clear hm1
          unfold rfV at HC
          simp only at HC
          clear hE hd hx hr e1 hq hu hdq hqa hm hrl hrr
          go_wp2_with (first
            | (go_at_call 55; (with_reducible refine (HC.out _).mono ?_); rintro e w2 ⟨rfl, hb2⟩; (obtain ⟨a2, n2, c2, w5, hrun, hn2, hM2⟩ := HT.out w2 (Below.refl _ _) (hM.out.later hb2)); (have HF := hid (HR.out a2 n2 c2 w5 hn2 hM2)); (clear hM2 hn2))
            | (at_builtin; refine wpList_append_at hrun rfl rfl _ _ rfl rfl rfl rfl ?_))
          go_roundw
          case rel => exact HF.out _ (by go_num)
          case measure => simp [intOf]; omega
      · have q1 := u8_neq (q := 38) rfl hc
        obtain ⟨a2, n2, c2, w5, hrun, hn2, hM2⟩ := esc_byte hM.out c 70 (by omega)
        have HR : Hid (∀ i, i = .int .i64 ((k + 1 : Nat) : Int) → SaRel w a (.slice a2 n2 c2) i w5) := hid (fun i hi =>
          ⟨k + 1, a2, n2, c2, _, by omega, hi, rfl, hn2, by rw [List.length_append]; simp; omega, hid hM2, hid (by rw [hE.out, saidE_chr hc]; simp)⟩)
        clear hE hd hx hM hM2 hn2 hc
        go_wp2_with (at_builtin; refine wpList_append_at hrun rfl rfl _ _ rfl rfl rfl rfl ?_)
        go_roundw
        case rel => exact HR.out _ (by go_num)
        case measure => simp [intOf]; omega
    · obtain rfl : k = a.length := by omega
      have h1 : ¬ (((a.length : Nat) : Int) < ((mk a).size : Int)) := by omega
      have hr := run_str hM.out.row
      have HR : Hid (saV (saidE a) a.length = .tuple #[.string (mk t), .int .i64 (-1)]) := hid (by
        rw [hE.out, List.drop_length, saidE_nil]
        unfold saV
        simp)
      have HB := hid hM.out.below
      clear hE hM
      go_wp2
      go_ret2
      exact ⟨by rw [HR.out]; rfl, HB.out⟩
end Go.Proofs.YtjoeamlidmmioaaGreatDoor

