import Derived.Test.YtpcafkinpkepcaaGreatDoorWq23
import Derived.WalkLawsBesides
/-
  Wq24: RkA, in one text.
-/
/-
  LAYER 2 (disk), THE DOCUMENT's ANSWER: Size, turn, there, Read, Fuse, Sync.
-/
namespace Go.Proofs.YtpcafkinpkepcaaGreatDoor
open Go.RowKit Go.Maps
set_option linter.unusedVariables false
set_option maxRecDepth 100000
section
variable {w w' : World} {S : Nat → Prop} {r : Nat} {v : Value} {s : Dk}

set_option maxHeartbeats 4000000 in
theorem refSize_any (h : RefRep w S r v s) : Calls Tryz.prog 75 #[.pointer (some ⟨r, 0, none⟩)] w fun e w' => e = .returned (.int .i64 (sz s.L)) ∧ w = w' := by
  have c0 := h.head.cell 0
  simp at c0
  obtain ⟨ao, cap, rfl, hcap, hnone, hsome⟩ := h.row.slice
  have hrow := hid h.row
  have hmany : (s.L.length : Int) ≤ 40 := by have := h.ok.many; omega
  have hroom : (sz s.L : Int) ≤ 10000000 := by have := h.ok.room; have := h.ok.most; omega
  clear h hsome hnone
  go_enter Tryz.func75, Tryz.ntmps75
  go_wp2
  go_loop [3, 4] (fun u i => ∃ k : Nat, k ≤ s.L.length ∧ u = .int .i64 (sz (s.L.take k) : Int) ∧ i = .int .i64 k) (fun _ i => s.L.length - (intOf i).toNat)
  case atStart => exact ⟨0, Nat.zero_le _, by simp [sz], rfl⟩
  case round =>
    obtain ⟨k, hk, rfl, rfl⟩ := hrel
    by_cases hlt : k < s.L.length
    · obtain ⟨g, rfl, hg, hcells, hfz⟩ := hrow.out.at hlt
      have cn := (hcells k hlt).2.1
      have hst := sz_take hlt
      have hle := sz_take_le s.L (k + 1)
      have hz0 : 0 ≤ (sz (s.L.take k) : Int) := by omega
      have hz1 : (sz (s.L.take k) : Int) + ((mk s.L[k].data).size : Int) = (sz (s.L.take (k + 1)) : Int) := by rw [mk_size]; omega
      have hz2 : (sz (s.L.take k) : Int) + ((mk s.L[k].data).size : Int) ≤ 10000000 := by rw [hz1]; omega
      have HZ := hid hz1
      have hkI : (k : Int) < (s.L.length : Int) := by omega
      clear hcells hfz hst hle hz1
      generalize mk s.L[k].data = db at *
      generalize (sz (s.L.take k) : Int) = Z at *
      go_wp2
      go_round
      case rel => exact ⟨k + 1, by omega, by rw [← HZ.out], by go_num⟩
      case measure => simp [intOf]; omega
    · obtain rfl : k = s.L.length := by omega
      rw [List.take_of_length_le (Nat.le_refl _)]
      go_wp2
      go_ret
      exact ⟨rfl, rfl⟩

theorem refTurn_any (h : RefRep w S r v s) : Calls Tryz.prog 76 #[.pointer (some ⟨r, 0, none⟩)] w fun e w' =>
    e = .returned (.int .i64 (spendV s.fuse)) ∧ RefRep w' S r v (spendTo s) ∧ Chg (fun b => b = r) w w' ∧ w'.heap.size = w.heap.size := by
  have hf := h.ok.fuse
  have c2 := h.head.cell 2
  have c3 := h.head.cell 3
  have f2 := h.head.frozen 2
  have f3 := h.head.frozen 3
  simp at c2 c3
  by_cases h1 : s.fuse = 0
  · have hset := h.head.set 3 (.bool true)
    have hc := Chg.setCell w ⟨r, 3, none⟩ (.bool true)
    have hz := setCell_size w ⟨r, 3, none⟩ (.bool true)
    have hD : RefRep (w.setCell ⟨r, 3, none⟩ (.bool true)) S r v { s with dead := true } := h.turn (fu := s.fuse) (dd := true) (by simpa using hset) hc hf
    have hv : spendTo s = { s with dead := true } := if_pos h1
    have hv2 : spendV s.fuse = 7 := if_pos h1
    rw [← hv] at hD
    rw [h1] at c2
    have H := hid (show _ ∧ _ ∧ _ from ⟨hD, hc, hz⟩)
    have H1 := hid hv2
    clear hset hc hz hD h1 h hf hv hv2
    generalize spendTo s = s' at *
    go_enter Tryz.func76, Tryz.ntmps76
    go_wp2
    go_ret
    rw [H1.out]
    exact ⟨rfl, H.out.1, H.out.2.1, H.out.2.2⟩
  · by_cases h2 : 0 < s.fuse
    · have hset := h.head.set 2 (.int .i64 (s.fuse - 1))
      have hc := Chg.setCell w ⟨r, 2, none⟩ (.int .i64 (s.fuse - 1))
      have hz := setCell_size w ⟨r, 2, none⟩ (.int .i64 (s.fuse - 1))
      have hD : RefRep (w.setCell ⟨r, 2, none⟩ (.int .i64 (s.fuse - 1))) S r v { s with fuse := s.fuse - 1 } := h.turn (fu := s.fuse - 1) (dd := s.dead) (by simpa using hset) hc (by omega)
      have hv : spendTo s = { s with fuse := s.fuse - 1 } := by unfold spendTo ticked; rw [if_neg h1, if_pos h2]
      have hv2 : spendV s.fuse = 0 := if_neg h1
      rw [← hv] at hD
      have H := hid (show _ ∧ _ ∧ _ from ⟨hD, hc, hz⟩)
      have H1 := hid hv2
      have hq : s.fuse ≤ 9223372036854775807 := hf.2
      have hq0 : (s.fuse == 0) = false := beq_eq_false_iff_ne.2 h1
      clear hset hc hz hD h1 h hf hv hv2
      generalize spendTo s = s' at *
      generalize s.fuse = z at *
      go_enter Tryz.func76, Tryz.ntmps76
      go_wp2
      go_ret
      rw [H1.out]
      exact ⟨rfl, H.out.1, H.out.2.1, H.out.2.2⟩
    · have hv : spendTo s = s := by unfold spendTo ticked; rw [if_neg h1, if_neg h2]
      have hv2 : spendV s.fuse = 0 := if_neg h1
      rw [hv, hv2]
      have H := hid h
      have hq0 : (s.fuse == 0) = false := beq_eq_false_iff_ne.2 h1
      clear h hv hv2 h1 hf
      generalize s.fuse = z at *
      go_enter Tryz.func76, Tryz.ntmps76
      go_wp2
      go_ret
      exact ⟨rfl, H.out, Chg.refl _ _, rfl⟩

def ThereV (s : Dk) (n : List UInt8) : Value := if s.dead then .tuple #[.int .i64 0, .int .i64 7] else if (fndK AF.key n s.L).isSome then .tuple #[.int .i64 (ahead AF.key n s.L : Int), .int .i64 0] else .tuple #[.int .i64 0, .int .i64 4]
theorem refThere_any (h : RefRep w S r v s) (n : ByteArray) : Calls Tryz.prog 139 #[.pointer (some ⟨r, 0, none⟩), .string n] w fun e w' => e = .returned (ThereV s n.data.toList) ∧ Below w.heap.size w w' := by
  have c3 := h.head.cell 3
  simp at c3
  have hF := refFind_any h n
  unfold FoundV at hF
  cases hd : s.dead with
  | true =>
    have hv : ThereV s n.data.toList = .tuple #[.int .i64 0, .int .i64 7] := by unfold ThereV; rw [hd]; rfl
    rw [hv]
    rw [hd] at c3
    clear hv hF hd h
    go_enter Tryz.func139, Tryz.ntmps139
    go_wp2
    go_ret2
    exact ⟨rfl, Below.refl _ _⟩
  | false =>
    rw [hd] at c3
    cases hq : (fndK AF.key n.data.toList s.L).isSome with
    | true =>
      have hv : ThereV s n.data.toList = .tuple #[.int .i64 (ahead AF.key n.data.toList s.L : Int), .int .i64 0] := by unfold ThereV; rw [hd, hq]; rfl
      rw [hv]
      rw [hq] at hF
      have HF := hid hF
      clear hv hF hd h hq
      generalize (ahead AF.key n.data.toList s.L : Int) = A at *
      go_enter Tryz.func139, Tryz.ntmps139
      go_wp2_with (go_at_call 74; (with_reducible refine HF.out.mono ?_); rintro e w1 ⟨rfl, hb1⟩)
      go_ret2
      exact ⟨rfl, hb1⟩
    | false =>
      have hv : ThereV s n.data.toList = .tuple #[.int .i64 0, .int .i64 4] := by unfold ThereV; rw [hd, hq]; rfl
      rw [hv]
      rw [hq] at hF
      have HF := hid hF
      clear hv hF hd h hq
      generalize (ahead AF.key n.data.toList s.L : Int) = A at *
      go_enter Tryz.func139, Tryz.ntmps139
      go_wp2_with (go_at_call 74; (with_reducible refine HF.out.mono ?_); rintro e w1 ⟨rfl, hb1⟩)
      go_ret2
      exact ⟨rfl, hb1⟩

theorem there_fail (n : ByteArray) (hx : s.dead = true ∨ fndK AF.key n.data.toList s.L = none) :
    ∃ k : Int, (k = 7 ∨ k = 4) ∧ ThereV s n.data.toList = .tuple #[.int .i64 0, .int .i64 k] ∧ (∀ K, need s n.data.toList K = (s, k)) ∧ rd s n.data.toList = ([], k) := by
  cases hd : s.dead with
  | true => exact ⟨7, .inl rfl, by unfold ThereV; rw [hd]; rfl, fun K => by unfold need; rw [if_pos hd], by unfold rd; rw [if_pos hd]⟩
  | false =>
    have hx' : fndK AF.key n.data.toList s.L = none := by
      rcases hx with hx | hx
      · rw [hd] at hx; cases hx
      · exact hx
    exact ⟨4, .inr rfl, by unfold ThereV; rw [hd, hx']; rfl, fun K => by unfold need; rw [hd, hx']; rfl, by unfold rd; rw [hd, hx']; rfl⟩
/-- Where a file stands. -/
theorem there_ok (h : s.Ok) {n : List UInt8} {f : AF} (hd : s.dead = false) (hf : fndK AF.key n s.L = some f) :
    ∃ (i : Nat) (hi : i < s.L.length), ThereV s n = .tuple #[.int .i64 (i : Int), .int .i64 0] ∧ s.L[i] = f ∧ i = ahead AF.key n s.L ∧ f.name = n ∧ (∀ K, need s n K = K f) ∧ rd s n = (f.data, 0) := by
  have h1 := ahead_fnd (key := AF.key) (n := n) h.rise
  rw [hf] at h1
  have h2 : ahead AF.key n s.L < s.L.length := by
    rcases Nat.lt_or_ge (ahead AF.key n s.L) s.L.length with h | h
    · exact h
    · rw [List.getElem?_eq_none h] at h1; cases h1
  rw [List.getElem?_eq_getElem h2] at h1
  simp only [Option.bind_some] at h1
  split at h1
  · rename_i hk
    have he := Option.some.inj h1
    exact ⟨_, h2, by unfold ThereV; rw [hd, hf]; rfl, he.symm, rfl, (fndK_some hf).2, fun K => by unfold need; rw [hd, hf]; rfl, by unfold rd; rw [hd, hf]; rfl⟩
  · cases h1

theorem refRead_any (h : RefRep w S r v s) (n : ByteArray) : Calls Tryz.prog 84 #[.pointer (some ⟨r, 0, none⟩), .string n] w fun e w' => e = .returned (ReadV (rd s n.data.toList)) ∧ Below w.heap.size w w' := by
  have hT := refThere_any h n
  cases hf : (if s.dead then none else fndK AF.key n.data.toList s.L) with
  | none =>
    have hx : s.dead = true ∨ fndK AF.key n.data.toList s.L = none := by
      cases hd : s.dead with
      | true => exact .inl rfl
      | false => rw [hd] at hf; exact .inr hf
    obtain ⟨k, hk, e1, _, e2⟩ := there_fail n hx
    rw [e1] at hT
    rw [e2]
    have hv : ReadV (([], k) : List UInt8 × Int) = .tuple #[.string ⟨#[]⟩, .int .i64 k] := rfl
    rw [hv]
    have HT := hid hT
    clear hf hx e1 e2 hT h hv
    rcases hk with rfl | rfl
    all_goals
      go_enter Tryz.func84, Tryz.ntmps84
      go_wp2_with (go_at_call 139; (with_reducible refine HT.out.mono ?_); rintro e w1 ⟨rfl, hb1⟩)
      go_ret2
      exact ⟨rfl, hb1⟩
  | some f =>
    have hd : s.dead = false := by
      cases hd : s.dead with
      | true => rw [hd] at hf; cases hf
      | false => rfl
    rw [hd] at hf
    have hf : fndK AF.key n.data.toList s.L = some f := hf
    obtain ⟨i, hi, e1, e2, -, -, -, e3⟩ := there_ok h.ok hd hf
    rw [e1] at hT
    rw [e3]
    have hv : ReadV ((f.data, 0) : List UInt8 × Int) = .tuple #[.string (mk f.data), .int .i64 0] := rfl
    rw [hv]
    have HT := hid hT
    obtain ⟨ao, cap, rfl, hcap, -⟩ := h.row.slice
    have c0 := h.head.cell 0
    simp at c0
    obtain ⟨g, rfl, hg, hcells, hfz⟩ := h.row.at hi
    have cn := (hcells i hi).2.1
    rw [e2] at cn
    have hrl : r < w.heap.size := h.head.lt
    have hcI : (i : Int) < (s.L.length : Int) := by omega
    have hmI : (s.L.length : Int) ≤ 40 := by have := h.ok.many; omega
    clear hf e1 e2 e3 hT hv hcells hfz h hd
    generalize mk f.data = db at *
    go_enter Tryz.func84, Tryz.ntmps84
    go_wp2_with (go_at_call 139; (with_reducible refine HT.out.mono ?_); rintro e w1 ⟨rfl, hb1⟩; have c0' := (hb1.cell (p := ⟨r, 0, none⟩) hrl).trans c0; have cn' := (hb1.cell (p := ⟨g, i * 3 + 1, none⟩) hg).trans cn)
    go_ret2
    exact ⟨rfl, hb1⟩
end
end Go.Proofs.YtpcafkinpkepcaaGreatDoor

