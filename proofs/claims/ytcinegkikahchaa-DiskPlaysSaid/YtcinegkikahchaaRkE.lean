/-
  LAYER 2 (disk), THE DOCUMENT's ANSWER: Delete, Fuse.
-/
import Derived.Test.YtcinegkikahchaaRkD
namespace Go.Proofs.Ytcinegkikahchaa
open Go.RowKit Go.Maps
set_option linter.unusedVariables false
set_option maxRecDepth 100000
section
variable {w w' : World} {S : Nat → Prop} {r : Nat} {v : Value} {s : Dk}

theorem RefRep.stored {w2 w3 : World} (h : RefRep w2 S r v s) {v' : Value} {L : List AF} (hrow : RefRow w3 v' L) (hv : ∀ b, v'.ownBlock = some b → w2.heap.size ≤ b) (hb : Below w2.heap.size w2 w3) (hok : ({ s with L := L } : Dk).Ok) :
    RefRep (w3.setCell ⟨r, 0, none⟩ v') (grow S w2 (w3.setCell ⟨r, 0, none⟩ v')) r v' { s with L := L } ∧ Chg S w2 (w3.setCell ⟨r, 0, none⟩ v') := by
  have hne : ∀ b, v'.ownBlock = some b → b ≠ r := fun b hb e => by have := hv b hb; have := h.head.lt; omega
  have h3 := h.below hb
  refine ⟨⟨by simpa using h3.head.set 0 v', ownsRow_same hrow (fun b hb => Below.heap_setCell _ _ _ _ (hne b hb)), fun e => hne r e rfl, ⟨.inl h.inS.1, fun b hb => .inr ⟨hv b hb, by rw [setCell_size]; exact (World.ownsRow.lt hrow b hb).2⟩⟩, grow_lt h.lt (by rw [setCell_size]; exact hb.size), hok⟩, (Chg.of_below hb).trans (Chg.setCell _ _ _) (fun b e => .inl (by rw [e]; exact h.inS.1))⟩
/-- What lies behind the call of without or with: a row, and the store of it. -/
def NewStored (w : World) (S : Nat → Prop) (r : Nat) (q : Dk × Int) (e : Ending) (w3 : World) : Prop := ∃ ao n cap z, e = .returned (.slice ao n cap) ∧ w3.cell? ⟨r, 0, none⟩ = some z ∧ w3.frozen? ⟨r, 0, none⟩ = false ∧ Hid (RefPost w S r q (.returned (.int .i64 0)) (w3.setCell ⟨r, 0, none⟩ (.slice ao n cap)))
theorem NewStored.of {w2 w3 : World} {e : Ending} (h : RefRep w S r v s) {s2 : Dk} {v2 : Value} {T : Nat → Prop} (h2 : RefRep w2 T r v2 s2) (hT : ∀ b, T b → grow S w w2 b) (hc : Chg S w w2) {L : List AF} (hr : RowPost w2 L e w3) (hok : ({ s2 with L := L } : Dk).Ok) : NewStored w S r ({ s2 with L := L }, 0) e w3 := by
  obtain ⟨ao, cap, rfl, hrow, hv, hb⟩ := hr
  have h3 := h2.below hb
  have c0 := h3.head.cell 0
  obtain ⟨hx, hcx⟩ := h2.stored hrow hv hb hok
  have hT' : ∀ b, T b → S b ∨ w.heap.size ≤ b := fun b hb => by
    rcases hT b hb with h | h
    · exact .inl h
    · exact .inr h.1
  have hcc : Chg S w (w3.setCell ⟨r, 0, none⟩ (.slice ao L.length cap)) := hc.trans hcx hT'
  refine ⟨ao, _, cap, _, rfl, c0, h3.head.frozen 0, hid ⟨rfl, ⟨_, hx.widen (fun b hb => ?_) (grow_lt h.lt hcc.size)⟩, hcc⟩⟩
  rcases hb with hb | hb
  · rcases hT b hb with h | h
    · exact .inl h
    · exact .inr ⟨h.1, Nat.lt_of_lt_of_le h.2 hcx.size⟩
  · exact .inr ⟨Nat.le_trans hc.size hb.1, hb.2⟩

theorem isSome_of {α : Type} {o : Option α} {f : α} (h : o = some f) : o.isSome := by rw [h]; rfl
set_option maxHeartbeats 4000000 in
theorem refDele_any (h : RefRep w S r v s) (n : ByteArray) : Calls Try.prog 34 #[.pointer (some ⟨r, 0, none⟩), .string n] w (RefPost w S r (dele s n.data.toList)) := by
  have hT := refThere_any h n
  cases hf : (if s.dead then none else fndK AF.key n.data.toList s.L) with
  | none =>
    have hx : s.dead = true ∨ fndK AF.key n.data.toList s.L = none := by
      cases hd : s.dead with
      | true => exact .inl rfl
      | false => rw [hd] at hf; exact .inr hf
    obtain ⟨k, hk, e1, e2, _⟩ := there_fail n hx
    rw [e1] at hT
    unfold dele
    rw [e2]
    have HT := hid hT
    have HP := hid (fun w1 (hb : Below w.heap.size w w1) => RefPost.none h (k := k) hb)
    clear hf hx e1 e2 hT h
    rcases hk with rfl | rfl
    all_goals
      go_enter Try.func34, Try.ntmps34
      go_wp2_with (go_at_call 48; (with_reducible refine HT.out.mono ?_); rintro e w1 ⟨rfl, hb1⟩)
      go_ret
      exact HP.out _ hb1
  | some f =>
    have hd : s.dead = false := by
      cases hd : s.dead with
      | true => rw [hd] at hf; cases hf
      | false => rfl
    rw [hd] at hf
    have hf : fndK AF.key n.data.toList s.L = some f := hf
    obtain ⟨i, hi, e1, e2, hia, hname, e4, -⟩ := there_ok h.ok hd hf
    rw [e1] at hT
    have hq : dele s n.data.toList = spends s fun s => { s with L := delK AF.key n.data.toList s.L } := e4 _
    have hok := Ok_dele h.ok n.data.toList
    rw [hq] at hok ⊢
    have HT := hid hT
    rw [spends_eq] at hok ⊢
    by_cases h0 : s.fuse = 0
    · rw [if_pos h0]
      have HU := hid (fun w1 hb => turn_dead h h0 (w1 := w1) hb)
      clear hf e1 e2 e4 hT h hq hok hd h0
      go_enter Try.func34, Try.ntmps34
      go_wp2_with (first
        | (go_at_call 48; (with_reducible refine HT.out.mono ?_); rintro e w1 ⟨rfl, hb1⟩)
        | (go_at_call 49; (with_reducible refine (HU.out _ hb1).mono ?_); rintro e w2 ⟨rfl, hR⟩; have HR := hid hR; clear hR))
      go_ret
      exact ⟨rfl, HR.out⟩
    · rw [if_neg h0] at hok ⊢
      have hup : delK AF.key n.data.toList (ticked s).L = s.L.take i ++ s.L.drop (i + 1) := by
        have := delK_split (key := AF.key) h.ok.rise (isSome_of hf)
        rw [← hia] at this
        exact this
      have hsp : ∀ w1, Below w.heap.size w w1 → Calls Try.prog 49 #[.pointer (some ⟨r, 0, none⟩)] w1 (fun e w2 => e = .returned (.int .i64 0) ∧ Hid (Calls Try.prog 50 #[.pointer (some ⟨r, 0, none⟩), .int .i64 (i : Int)] w2 (NewStored w S r ({ ticked s with L := delK AF.key n.data.toList (ticked s).L }, 0)))) := by
        intro w1 hb1
        refine (turn_hid w1 (h.below hb1) 0 (if_neg h0) (ticked s) (if_neg h0)).mono ?_
        rintro e w2 ⟨rfl, hx, hc, hz⟩
        have hc' : Chg S w w2 := (Chg.of_below hb1).trans hc (fun b e => .inl (by rw [e]; exact h.inS.1))
        refine ⟨rfl, hid ((refWithout_any hx i hi).mono ?_)⟩
        intro e w3 hrow
        rw [hup]
        exact NewStored.of h hx (fun b hb => .inl hb) hc' hrow (by rw [hup] at hok; exact hok)
      have HS := hid hsp
      clear hf e1 e2 e4 hT h hq hok hd h0 hup hsp hname hia
      generalize ({ ticked s with L := delK AF.key n.data.toList (ticked s).L } : Dk) = sd at *
      go_enter Try.func34, Try.ntmps34
      go_wp2_with (first
        | (go_at_call 48; (with_reducible refine HT.out.mono ?_); rintro e w1 ⟨rfl, hb1⟩)
        | (go_at_call 49; (with_reducible refine (HS.out _ hb1).mono ?_); rintro e w2 ⟨rfl, HW⟩)
        | (go_at_call 50; (with_reducible refine (HW.out).mono ?_); rintro e w3 ⟨ao, nn, cap, z, rfl, c0, f0, HP⟩))
      go_ret
      exact HP.out
theorem refFuse_any (h : RefRep w S r v s) (n : Int) (hn : n ≤ 9223372036854775807) : Calls Try.prog 36 #[.pointer (some ⟨r, 0, none⟩), .int .i64 n] w (RefTail w S r (setFuse s n)) := by
  have c2 := h.head.cell 2
  have f2 := h.head.frozen 2
  simp at c2
  have hset := h.head.set 2 (.int .i64 (max n (-1)))
  have hc := Chg.setCell w ⟨r, 2, none⟩ (.int .i64 (max n (-1)))
  have hD : RefRep (w.setCell ⟨r, 2, none⟩ (.int .i64 (max n (-1)))) S r v (setFuse s n) := h.turn (fu := max n (-1)) (dd := s.dead) (by simpa using hset) hc (by omega)
  have hcS : Chg S w (w.setCell ⟨r, 2, none⟩ (.int .i64 (max n (-1)))) := hc.mono (fun b e => by rw [e]; exact h.inS.1)
  have HP := hid (show RefTail w S r (setFuse s n) (.returned (.tuple #[])) _ from ⟨rfl, ⟨v, hD.widen grow_mono (grow_lt h.lt hcS.size)⟩, hcS⟩)
  clear hset hc hD hcS h
  generalize setFuse s n = sd at *
  go_enter Try.func36, Try.ntmps36
  go_wp2
  go_end0
  exact HP.out
end
end Go.Proofs.Ytcinegkikahchaa
