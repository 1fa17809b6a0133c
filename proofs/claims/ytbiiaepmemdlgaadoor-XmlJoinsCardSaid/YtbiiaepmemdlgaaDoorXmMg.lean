/-
  LAYER 11 (xml), THE PROGRAM: denoted.
-/
import Derived.Test.YtbiiaepmemdlgaaDoorXmMf
namespace Go.Proofs.YtbiiaepmemdlgaaDoor
open Go.RowKit
set_option linter.unusedVariables false
set_option maxRecDepth 100000

theorem blkOk_bld : BlkOk 53 := ⟨by kernel_rfl, by decide⟩
def strSz : Value → Nat
  | .string s => s.size
  | _ => 0
theorem said_none : ∀ {l : List UInt8}, upTo [38] l = none → saidX l = some l
  | [], _ => rfl
  | c :: r, h => by
    unfold upTo at h
    by_cases hc : c = 38
    · subst hc; simp at h
    · have hp : [38].isPrefixOf (c :: r) = false := by simp [List.isPrefixOf, Ne.symm hc]
      rw [hp] at h
      simp at h
      rw [saidX_cons, if_neg hc, said_none h]; rfl
theorem said_some : ∀ {l a r : List UInt8}, upTo [38] l = some (a, r) → saidX l = (refX r).bind fun x => (saidX x.2).map (a ++ x.1 ++ ·)
  | [], a, r, h => by simp [upTo] at h
  | c :: l, a, r, h => by
    unfold upTo at h
    by_cases hc : c = 38
    · subst hc
      simp at h
      obtain ⟨rfl, rfl⟩ := h
      rw [saidX_cons, if_pos rfl]; rfl
    · have hp : [38].isPrefixOf (c :: l) = false := by simp [List.isPrefixOf, Ne.symm hc]
      rw [hp, if_neg (by decide)] at h
      obtain ⟨⟨a', b'⟩, h1, h2⟩ := Option.map_eq_some_iff.1 h
      simp only [Prod.mk.injEq] at h2
      obtain ⟨rfl, rfl⟩ := h2
      rw [saidX_cons, if_neg hc, said_some h1]
      cases refX b' with
      | none => rfl
      | some x => cases hs : saidX x.2 <;> simp [hs]
theorem utfX_len (n : Nat) : (utfX n).length ≤ 4 := by
  unfold utfX
  split
  · simp
  · split
    · simp
    · split <;> simp
theorem charX_len {b m : Nat} {d t : List UInt8} (h : charX b m d = some t) : t.length ≤ 4 := by
  unfold charX at h
  split at h
  · cases h
  · obtain ⟨n, _, h2⟩ := Option.bind_eq_some_iff.1 h
    split at h2
    · cases h2; exact utfX_len n
    · cases h2
theorem denX_len {s t : List UInt8} (h : denX s = some t) : t.length ≤ 4 := by
  unfold denX at h
  split at h
  · cases h; simp
  split at h
  · cases h; simp
  split at h
  · cases h; simp
  split at h
  · cases h; simp
  split at h
  · cases h; simp
  split at h
  · unfold numbX at h
    split at h <;> exact charX_len h
  · cases h
theorem refX_len {s t r : List UInt8} (h : refX s = some (t, r)) : t.length ≤ 4 := by
  unfold refX at h
  obtain ⟨x, _, h2⟩ := Option.bind_eq_some_iff.1 h
  obtain ⟨t', h3, h4⟩ := Option.map_eq_some_iff.1 h2
  cases h4
  exact denX_len h3
def saidV (o : Option (List UInt8)) : Value := match o with
  | some t => .tuple #[.string (mk t), .bool true]
  | none => .tuple #[.string ⟨#[]⟩, .bool false]
set_option maxHeartbeats 4000000 in
theorem denoted_any {B : Nat} {w : World} (hG : Gb B w) (hB : B ≤ w.heap.size) (s : ByteArray) (hl : s.size ≤ 100000) :
    Calls Tryd.prog 68 #[.string s] w fun e w' => e = .returned (saidV (saidX s.data.toList)) ∧ Below w.heap.size w w' := by
  have HF := hid (Lib.fresh_isBuilder 53 5 w)
  have HG := hid (fun (w1 : World) (h : Below w.heap.size w w1) => hG.below (h.mono hB))
  have HB : Hid (Below w.heap.size w (w.alloc (.cells #[.pointer none, .slice none 0 0] 53))) := hid ((Below.refl _ _).alloc (Nat.le_refl _) _)
  have hsz : s.data.toList.length = s.size := str_len s
  clear hG
  go_enter Tryd.func68, Tryd.ntmps68
  go_wp2
  go_loopw [0] (fun x wr => ∃ cur acc : List UInt8, x = .string (mk cur) ∧ Hid (Lib.IsBuilder 53 5 w.heap.size w.heap.size (Lib.byteCells acc) wr) ∧ Below w.heap.size w wr ∧ acc.length + 4 * cur.length ≤ 4 * s.size ∧ Hid (saidX s.data.toList = (saidX cur).map (acc ++ ·))) (fun x _ => strSz x)
  case atStart => exact ⟨s.data.toList, [], rfl, hid HF.out, HB.out, by rw [hsz]; simp, hid (by simp)⟩
  case round =>
    obtain ⟨cur, acc, rfl, hI, hb, hln, hS⟩ := hrel
    clear HF HB hsz
    have hcut := cut_any (HG.out wr hb) (mk cur) ⟨#[38]⟩ (by decide) (by rw [mk_size]; omega)
    rw [mk_data, show (⟨#[38]⟩ : ByteArray).data.toList = [38] from rfl, cutV] at hcut
    have hw := hb.size
    cases hu : upTo [38] cur with
    | none =>
      rw [hu] at hcut
      have HC : Hid (Calls Tryd.prog 33 #[.string (mk cur), .string ⟨#[38]⟩] wr fun x w' => x = .returned (.tuple #[.string (mk cur), .string (mk []), .bool false]) ∧ Below wr.heap.size wr w') := hid hcut
      have HN : Hid (saidX s.data.toList = some (acc ++ cur)) := hid (by rw [hS.out, said_none hu]; rfl)
      have HW := hid (fun (w1 : World) (h : Below wr.heap.size wr w1) => writeString_list blkOk_bld w.heap.size w.heap.size acc (mk cur) w1 (by
        rcases hI.out with k | k
        · left; exact ⟨k.1, by obtain ⟨_, v, h1, h2, h3⟩ := k; exact ⟨v, (h.block _ (by have := (Array.getElem?_eq_some_iff.1 h1).1; omega)).trans h1, ownsRow_below h2 h (Nat.le_refl _), h3⟩⟩
        · right; exact ⟨k.1, by obtain ⟨_, v, h1, h2, h3⟩ := k; exact ⟨v, (h.block _ (by have := (Array.getElem?_eq_some_iff.1 h1).1; omega)).trans h1, ownsRow_below h2 h (Nat.le_refl _), h3⟩⟩) (by rw [mk_size]; omega) (by have := h.size; omega))
      have HT := hid (fun (w2 : World) (h : Lib.IsBuilder 53 5 w.heap.size w.heap.size (Lib.byteCells (acc ++ (mk cur).data.toList)) w2) (hz : w.heap.size ≤ w2.heap.size) => string_any w.heap.size w.heap.size (acc ++ (mk cur).data.toList) w2 h hz)
      clear hcut hS hI hu
      go_wp2_with (first
        | (go_at_call 33; (with_reducible refine HC.out.mono ?_); rintro e w1 ⟨rfl, hb1⟩)
        | (go_at_call 28; (with_reducible refine (HW.out _ hb1).mono ?_); rintro e w2 ⟨rfl, hi2, hb2⟩)
        | (go_at_call 31; (with_reducible refine (HT.out _ hi2 (by have := hb1.size; have := hb2.size; omega)).mono ?_); rintro e w3 ⟨rfl, hb3⟩))
      go_ret2
      exact ⟨by rw [HN.out]; rfl, hb.trans ((hb1.mono hw).trans (hb2.trans hb3))⟩
    | some ar =>
      obtain ⟨a, r⟩ := ar
      rw [hu] at hcut
      have hlt := (upTo_lt hu).1
      simp at hlt
      have HC : Hid (Calls Tryd.prog 33 #[.string (mk cur), .string ⟨#[38]⟩] wr fun x w' => x = .returned (.tuple #[.string (mk a), .string (mk r), .bool true]) ∧ Below wr.heap.size wr w') := hid hcut
      have HSS := hS.out
      rw [said_some hu] at HSS
      have HW := hid (fun (w1 : World) (h : Below wr.heap.size wr w1) => writeString_list blkOk_bld w.heap.size w.heap.size acc (mk a) w1 (by
        rcases hI.out with k | k
        · left; exact ⟨k.1, by obtain ⟨_, v, h1, h2, h3⟩ := k; exact ⟨v, (h.block _ (by have := (Array.getElem?_eq_some_iff.1 h1).1; omega)).trans h1, ownsRow_below h2 h (Nat.le_refl _), h3⟩⟩
        · right; exact ⟨k.1, by obtain ⟨_, v, h1, h2, h3⟩ := k; exact ⟨v, (h.block _ (by have := (Array.getElem?_eq_some_iff.1 h1).1; omega)).trans h1, ownsRow_below h2 h (Nat.le_refl _), h3⟩⟩) (by rw [mk_size]; omega) (by have := h.size; omega))
      have HRf := hid (fun (w2 : World) (h : Below w.heap.size w w2) => reference_any (HG.out w2 h) (by have := h.size; omega) (mk r) (by rw [mk_size]; omega))
      cases hr : refX r with
      | none =>
        rw [hr] at HSS
        have HN : Hid (saidX s.data.toList = none) := hid HSS
        have HR2 : Hid (∀ w2, Below w.heap.size w w2 → Calls Tryd.prog 40 #[.string (mk r)] w2 fun e w' => ∃ q : List UInt8, q.length ≤ 100000 ∧ e = .returned (.tuple #[.string ⟨#[]⟩, .string (mk q), .bool false]) ∧ Below w2.heap.size w2 w') := hid (fun w2 h => (HRf.out w2 h).mono fun e w' ⟨_, h2, h3⟩ => by
          rw [mk_data] at h2
          obtain ⟨q, hq, he⟩ := h2 hr
          exact ⟨q, hq, he, h3⟩)
        clear hcut hS hI hu HSS HRf hr
        go_wp2_with (first
          | (go_at_call 33; (with_reducible refine HC.out.mono ?_); rintro e w1 ⟨rfl, hb1⟩)
          | (go_at_call 28; (with_reducible refine (HW.out _ hb1).mono ?_); rintro e w2 ⟨rfl, hi2, hb2⟩; have hb2' := hb.trans ((hb1.mono hw).trans hb2))
          | (go_at_call 40; (with_reducible refine (HR2.out _ hb2').mono ?_); rintro e w3 ⟨q, hq, rfl, hb3⟩))
        go_ret2
        exact ⟨by rw [HN.out]; rfl, hb2'.trans (hb3.mono hb2'.size)⟩
      | some x =>
        obtain ⟨t, q⟩ := x
        have hql := refX_lt hr
        have htl := refX_len hr
        rw [hr] at HSS
        have HN : Hid (saidX s.data.toList = (saidX q).map (acc ++ a ++ t ++ ·)) := hid (by rw [HSS, Option.bind_some]; cases saidX q <;> simp)
        have HR2 : Hid (∀ w2, Below w.heap.size w w2 → Calls Tryd.prog 40 #[.string (mk r)] w2 fun e w' => e = .returned (.tuple #[.string (mk t), .string (mk q), .bool true]) ∧ Below w2.heap.size w2 w') := hid (fun w2 h => (HRf.out w2 h).mono fun e w' ⟨h1, _, h3⟩ => by
          rw [mk_data] at h1
          exact ⟨h1 _ hr, h3⟩)
        have HW2 := hid (fun (w2 w3 : World) (hi : Lib.IsBuilder 53 5 w.heap.size w.heap.size (Lib.byteCells (acc ++ (mk a).data.toList)) w2) (h : Below w2.heap.size w2 w3) (hz : w.heap.size ≤ w2.heap.size) => writeString_list blkOk_bld w.heap.size w.heap.size (acc ++ (mk a).data.toList) (mk t) w3 (by
          rcases hi with k | k
          · left; exact ⟨k.1, by obtain ⟨_, v, h1, h2, h3⟩ := k; exact ⟨v, (h.block _ (by have := (Array.getElem?_eq_some_iff.1 h1).1; omega)).trans h1, ownsRow_below h2 h (Nat.le_refl _), h3⟩⟩
          · right; exact ⟨k.1, by obtain ⟨_, v, h1, h2, h3⟩ := k; exact ⟨v, (h.block _ (by have := (Array.getElem?_eq_some_iff.1 h1).1; omega)).trans h1, ownsRow_below h2 h (Nat.le_refl _), h3⟩⟩) (by rw [mk_size, List.length_append, mk_data]; omega) (by have := h.size; omega))
        have HM : Hid ((mk q).size < (mk cur).size) := hid (by rw [mk_size, mk_size]; omega)
        have HL : Hid ((acc ++ a ++ t).length + 4 * q.length ≤ 4 * s.size) := hid (by rw [List.length_append, List.length_append]; omega)
        clear hcut hS hI hu HSS HRf hr
        go_wp2_with (first
          | (go_at_call 33; (with_reducible refine HC.out.mono ?_); rintro e w1 ⟨rfl, hb1⟩)
          | (go_at_call 28; (with_reducible refine (HW.out _ hb1).mono ?_); rintro e w2 ⟨rfl, hi2, hb2⟩; have hb2' := hb.trans ((hb1.mono hw).trans hb2))
          | (go_at_call 40; (with_reducible refine (HR2.out _ hb2').mono ?_); rintro e w3 ⟨rfl, hb3⟩)
          | (go_at_call 28; (with_reducible refine (HW2.out _ _ hi2 hb3 hb2'.size).mono ?_); rintro e w4 ⟨rfl, hi4, hb4⟩))
        go_roundw
        case rel => exact ⟨q, acc ++ a ++ t, rfl, hid hi4, hb2'.trans ((hb3.mono hb2'.size).trans hb4), HL.out, HN⟩
        case measure => exact HM.out
end Go.Proofs.YtbiiaepmemdlgaaDoor
