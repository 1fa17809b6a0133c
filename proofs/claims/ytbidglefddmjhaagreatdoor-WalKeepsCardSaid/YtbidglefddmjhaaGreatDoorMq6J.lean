import Derived.Test.YtbidglefddmjhaaGreatDoorRkCJ
import Derived.Deep.RegionHeld3
import Derived.StillTailTactics
/-
  LAYER 2 (disk), THE DOCUMENT's ANSWER: a field of a file turned; Sync.
-/
namespace Go.Proofs.YtbidglefddmjhaaGreatDoor
open Go.RowKit Go.Maps
set_option linter.unusedVariables false
set_option maxRecDepth 100000
section
variable {w w' : World} {S : Nat → Prop} {r : Nat} {v : Value} {s : Dk}

theorem RefRow.at_n {ao : Option Addr} {n cap : Nat} {L : List AF} (h : RefRow w (.slice ao n cap) L) (hn : n = L.length) {i : Nat} (hi : i < L.length) : ∃ g, ao = some ⟨g, 0, none⟩ ∧ g < w.heap.size ∧
    (∀ (k : Nat) (hk : k < L.length), w.cell? ⟨g, k * 3, none⟩ = some (.string (mk L[k].name)) ∧ w.cell? ⟨g, k * 3 + 1, none⟩ = some (.string (mk L[k].data)) ∧ w.cell? ⟨g, k * 3 + 2, none⟩ = some (.int .i64 (L[k].synced : Int))) ∧ ∀ j, w.frozen? ⟨g, j, none⟩ = false := by
  subst hn; exact h.at hi
theorem RefRep.put {g n cap : Nat} (h : RefRep w S r (.slice (some ⟨g, 0, none⟩) n cap) s) {i k : Nat} (hi : i < s.L.length) (hk : k < 3) (u : Value) (f' : AF) (hf : (fcells s.L[i]).set k u = fcells f') (hok : ({ s with L := s.L.set i f' } : Dk).Ok) :
    RefRep (w.setCell ⟨g, i * 3 + k, none⟩ u) S r (.slice (some ⟨g, 0, none⟩) n cap) { s with L := s.L.set i f' } := by
  have hne : r ≠ g := fun e => h.apart (by rw [e]; rfl)
  refine ⟨h.head.other hne u, ?_, h.apart, h.inS, fun b hb => by rw [setCell_size]; exact h.lt b hb, hok⟩
  have h1 := ownsRow_set h.row (g := g) rfl (j := i * 3 + k) (by rw [flat_length]; omega) u
  rw [flat_set hi hk hf] at h1
  unfold RefRow
  simpa using h1
theorem RefRep.done (h : RefRep w S r v s) {s' : Dk} {v' : Value} (hx : RefRep w' S r v' s') (hc : Chg S w w') (k : Int) : RefPost w S r (s', k) (.returned (.int .i64 k)) w' := ⟨rfl, ⟨v', hx.widen grow_mono (grow_lt h.lt hc.size)⟩, hc⟩
theorem RefRep.drew (h : RefRep w S r v s) : RefRep w.drew S r v s := h.below (Below.drew (Below.refl _ _))
/-- there, then turn: nothing else is done where one of them says no. -/
theorem turn_hid (w : World) (h : RefRep w S r v s) (k : Int) (hk : spendV s.fuse = k) (s' : Dk) (hs : spendTo s = s') : Calls Tryz.prog 72 #[.pointer (some ⟨r, 0, none⟩)] w fun e w' =>
    e = .returned (.int .i64 k) ∧ RefRep w' S r v s' ∧ Chg (fun b => b = r) w w' ∧ w'.heap.size = w.heap.size := by
  subst hk; subst hs
  exact refTurn_any h
theorem turn_dead (h : RefRep w S r v s) (h0 : s.fuse = 0) {w1 : World} (hb1 : Below w.heap.size w w1) : Calls Tryz.prog 72 #[.pointer (some ⟨r, 0, none⟩)] w1 (RefPost w S r (spendTo s, 7)) := by
  refine (turn_hid w1 (h.below hb1) 7 (if_pos h0) _ rfl).mono ?_
  rintro e w2 ⟨rfl, hx, hc, hz⟩
  exact h.done hx ((Chg.of_below hb1).trans hc (fun b e => .inl (by rw [e]; exact h.inS.1))) 7

def SyncTurned (w : World) (S : Nat → Prop) (r g i : Nat) (n cap : Nat) (db : ByteArray) (q : Dk × Int) (e : Ending) (w2 : World) : Prop := e = .returned (.int .i64 0) ∧ w2.cell? ⟨r, 0, none⟩ = some (.slice (some ⟨g, 0, none⟩) n cap) ∧ w2.cell? ⟨g, i * 3 + 1, none⟩ = some (.string db) ∧ (∃ z, w2.cell? ⟨g, i * 3 + 2, none⟩ = some z) ∧ w2.frozen? ⟨g, i * 3 + 2, none⟩ = false ∧ (w2.setCell ⟨g, i * 3 + 2, none⟩ (.int .i64 db.size)).drew.cell? ⟨r, 0, none⟩ = some (.slice (some ⟨g, 0, none⟩) n cap) ∧ (w2.setCell ⟨g, i * 3 + 2, none⟩ (.int .i64 db.size)).drew.cell? ⟨g, i * 3 + 1, none⟩ = some (.string db) ∧ Hid (RefPost w S r q (.returned (.int .i64 0)) (w2.setCell ⟨g, i * 3 + 2, none⟩ (.int .i64 db.size)).drew)

set_option maxHeartbeats 4000000 in
theorem refSync_any (h : RefRep w S r v s) (n : ByteArray) : Calls Tryz.prog 85 #[.pointer (some ⟨r, 0, none⟩), .string n] w (RefPost w S r (syn s n.data.toList)) := by
  have hT := refThere_any h n
  cases hf : (if s.dead then none else fndK AF.key n.data.toList s.L) with
  | none =>
    have hx : s.dead = true ∨ fndK AF.key n.data.toList s.L = none := by
      cases hd : s.dead with
      | true => exact .inl rfl
      | false => rw [hd] at hf; exact .inr hf
    obtain ⟨k, hk, e1, e2, _⟩ := there_fail n hx
    rw [e1] at hT
    unfold syn
    rw [e2]
    have HT := hid hT
    have HP := hid (fun w1 (hb : Below w.heap.size w w1) => RefPost.none h (k := k) hb)
    clear hf hx e1 e2 hT h
    rcases hk with rfl | rfl
    all_goals
      go_enter Tryz.func85, Tryz.ntmps85
      go_wp2_with (go_at_call 135; (with_reducible refine HT.out.mono ?_); rintro e w1 ⟨rfl, hb1⟩)
      go_ret
      exact HP.out _ hb1
  | some f =>
    have hd : s.dead = false := by
      cases hd : s.dead with
      | true => rw [hd] at hf; cases hf
      | false => rfl
    rw [hd] at hf
    have hf : fndK AF.key n.data.toList s.L = some f := hf
    obtain ⟨i, hi, e1, e2, hia, hname, e4, -⟩ := there_ok h.ok hd hf
    rw [e1] at hT
    have hq : syn s n.data.toList = spends s fun s => { s with L := updK AF.key n.data.toList syncF s.L } := e4 _
    have hok := Ok_syn h.ok n.data.toList
    rw [hq] at hok ⊢
    have HT := hid hT
    rw [spends_eq] at hok ⊢
    by_cases h0 : s.fuse = 0
    · rw [if_pos h0]
      have HU := hid (fun w1 hb => turn_dead h h0 (w1 := w1) hb)
      have HT2 := hid (fun w1 (hb : Below w.heap.size w w1) => hb)
      clear hf e1 e2 e4 hT h hq hok hd h0
      go_enter Tryz.func85, Tryz.ntmps85
      go_wp2_with (first
        | (go_at_call 135; (with_reducible refine HT.out.mono ?_); rintro e w1 ⟨rfl, hb1⟩)
        | (go_at_call 72; (with_reducible refine (HU.out _ hb1).mono ?_); rintro e w2 ⟨rfl, hR⟩; have HR := hid hR; clear hR))
      go_ret
      exact ⟨rfl, HR.out⟩
    · rw [if_neg h0] at hok ⊢
      obtain ⟨ao, cap, rfl, hcap, -⟩ := h.row.slice
      obtain ⟨g, rfl, hg, -, -⟩ := h.row.at hi
      have hup : updK AF.key n.data.toList syncF s.L = s.L.set i (syncF f) := by
        have hg2 : s.L[ahead AF.key n.data.toList s.L]? = some f := by rw [← hia, List.getElem?_eq_getElem hi, e2]
        have := updK_at (key := AF.key) (g := syncF) h.ok.rise hg2 hname
        rw [← hia] at this
        exact this
      have hsp : ∀ w1, Below w.heap.size w w1 → Calls Tryz.prog 72 #[.pointer (some ⟨r, 0, none⟩)] w1 (SyncTurned w S r g i s.L.length cap (mk f.data) ({ ticked s with L := updK AF.key n.data.toList syncF (ticked s).L }, 0)) := by
        intro w1 hb1
        refine (turn_hid w1 (h.below hb1) 0 (if_neg h0) (ticked s) (if_neg h0)).mono ?_
        rintro e w2 ⟨rfl, hx, hc, hz⟩
        have hc' : Chg S w w2 := (Chg.of_below hb1).trans hc (fun b e => .inl (by rw [e]; exact h.inS.1))
        have c0 := hx.head.cell 0
        obtain ⟨g', hg', hgl, hcells, hfz⟩ := hx.row.at hi
        obtain rfl : g = g' := by cases hg'; rfl
        have ht : (ticked s).L = s.L := rfl
        have hp := (hx.put hi (k := 2) (by omega) (.int .i64 ((mk f.data).size : Int)) (syncF f) (by
            have : (ticked s).L[i] = f := e2
            rw [this, mk_size]; rfl) (by rw [ht, ← hup]; exact hok)).drew
        have p0 := hp.head.cell 0
        have hil' : i < (s.L.set i (syncF f)).length := by rw [List.length_set]; exact hi
        obtain ⟨g', hg', -, pcells, -⟩ := RefRow.at_n (L := s.L.set i (syncF f)) hp.row (by rw [List.length_set]) hil'
        obtain rfl : g = g' := by cases hg'; rfl
        have p1 := (pcells i hil').2.1
        have d1 := (hcells i hi).2.1
        have e2' : (ticked s).L[i] = f := e2
        refine ⟨rfl, c0, by rw [← e2]; exact d1, ⟨_, (hcells i hi).2.2⟩, hfz _, p0, by rw [p1]; simp [syncF], hid ?_⟩
        have hup' : updK AF.key n.data.toList syncF (ticked s).L = s.L.set i (syncF f) := hup
        rw [hup']
        exact h.done hp ((hc'.trans (Chg.setCell _ _ _) (fun b e => .inl (by rw [e]; exact h.inS.2 _ rfl))).drewN 1) 0
      have HS := hid hsp
      have hcI : (i : Int) < (s.L.length : Int) := by omega
      have hmI : (s.L.length : Int) ≤ 40 := by have := h.ok.many; omega
      clear hf e1 e2 e4 hT h hq hok hd h0 hup hsp hname hia
      generalize ({ ticked s with L := updK AF.key n.data.toList syncF (ticked s).L } : Dk) = sd at *
      generalize mk f.data = db at *
      go_enter Tryz.func85, Tryz.ntmps85
      go_wp2_with (first
        | (go_at_call 135; (with_reducible refine HT.out.mono ?_); rintro e w1 ⟨rfl, hb1⟩)
        | (go_at_call 72; (with_reducible refine (HS.out _ hb1).mono ?_); rintro e w2 ⟨rfl, c0, c1, ⟨z, c2⟩, f2, p0, p1, HP⟩))
      go_region_held3 (fun wx => wx.cell? ⟨r, 0, none⟩ = some (.slice (some ⟨g, 0, none⟩) s.L.length cap) ∧ wx.cell? ⟨g, i * 3 + 1, none⟩ = some (.string db)) (first | exact ⟨c0, c1⟩ | exact ⟨p0, p1⟩ | go_keep) (fail)
      go_wp2
      go_ret
      exact HP.out
end
end Go.Proofs.YtbidglefddmjhaaGreatDoor

/-
  LAYER 2 (disk), THE DOCUMENT's ANSWER: Delete, Fuse.
-/
namespace Go.Proofs.YtbidglefddmjhaaGreatDoor
open Go.RowKit Go.Maps
set_option linter.unusedVariables false
set_option maxRecDepth 100000
section
variable {w w' : World} {S : Nat → Prop} {r : Nat} {v : Value} {s : Dk}

theorem RefRep.stored {w2 w3 : World} (h : RefRep w2 S r v s) {v' : Value} {L : List AF} (hrow : RefRow w3 v' L) (hv : ∀ b, v'.ownBlock = some b → w2.heap.size ≤ b) (hb : Below w2.heap.size w2 w3) (hok : ({ s with L := L } : Dk).Ok) :
    RefRep (w3.setCell ⟨r, 0, none⟩ v') (grow S w2 (w3.setCell ⟨r, 0, none⟩ v')) r v' { s with L := L } ∧ Chg S w2 (w3.setCell ⟨r, 0, none⟩ v') := by
  have hne : ∀ b, v'.ownBlock = some b → b ≠ r := fun b hb e => by have := hv b hb; have := h.head.lt; omega
  have h3 := h.below hb
  refine ⟨⟨by simpa using h3.head.set 0 v', ownsRow_same hrow (fun b hb => Below.heap_setCell _ _ _ _ (hne b hb)), fun e => hne r e rfl, ⟨.inl h.inS.1, fun b hb => .inr ⟨hv b hb, by rw [setCell_size]; exact (World.ownsRow.lt hrow b hb).2⟩⟩, grow_lt h.lt (by rw [setCell_size]; exact hb.size), hok⟩, (Chg.of_below hb).trans (Chg.setCell _ _ _) (fun b e => .inl (by rw [e]; exact h.inS.1))⟩
/-- What lies behind the call of without or with: a row, and the store of it. -/
def NewStored (w : World) (S : Nat → Prop) (r : Nat) (q : Dk × Int) (e : Ending) (w3 : World) : Prop := ∃ ao n cap z, e = .returned (.slice ao n cap) ∧ w3.cell? ⟨r, 0, none⟩ = some z ∧ w3.frozen? ⟨r, 0, none⟩ = false ∧ Hid (RefPost w S r q (.returned (.int .i64 0)) (w3.setCell ⟨r, 0, none⟩ (.slice ao n cap)))
theorem NewStored.of {w2 w3 : World} {e : Ending} (h : RefRep w S r v s) {s2 : Dk} {v2 : Value} {T : Nat → Prop} (h2 : RefRep w2 T r v2 s2) (hT : ∀ b, T b → grow S w w2 b) (hc : Chg S w w2) {L : List AF} (hr : RowPost w2 L e w3) (hok : ({ s2 with L := L } : Dk).Ok) : NewStored w S r ({ s2 with L := L }, 0) e w3 := by
  obtain ⟨ao, cap, rfl, hrow, hv, hb⟩ := hr
  have h3 := h2.below hb
  have c0 := h3.head.cell 0
  obtain ⟨hx, hcx⟩ := h2.stored hrow hv hb hok
  have hT' : ∀ b, T b → S b ∨ w.heap.size ≤ b := fun b hb => by
    rcases hT b hb with h | h
    · exact .inl h
    · exact .inr h.1
  have hcc : Chg S w (w3.setCell ⟨r, 0, none⟩ (.slice ao L.length cap)) := hc.trans hcx hT'
  refine ⟨ao, _, cap, _, rfl, c0, h3.head.frozen 0, hid ⟨rfl, ⟨_, hx.widen (fun b hb => ?_) (grow_lt h.lt hcc.size)⟩, hcc⟩⟩
  rcases hb with hb | hb
  · rcases hT b hb with h | h
    · exact .inl h
    · exact .inr ⟨h.1, Nat.lt_of_lt_of_le h.2 hcx.size⟩
  · exact .inr ⟨Nat.le_trans hc.size hb.1, hb.2⟩

theorem isSome_of {α : Type} {o : Option α} {f : α} (h : o = some f) : o.isSome := by rw [h]; rfl
set_option maxHeartbeats 4000000 in
theorem refDele_any (h : RefRep w S r v s) (n : ByteArray) : Calls Tryz.prog 115 #[.pointer (some ⟨r, 0, none⟩), .string n] w (RefPost w S r (dele s n.data.toList)) := by
  have hT := refThere_any h n
  cases hf : (if s.dead then none else fndK AF.key n.data.toList s.L) with
  | none =>
    have hx : s.dead = true ∨ fndK AF.key n.data.toList s.L = none := by
      cases hd : s.dead with
      | true => exact .inl rfl
      | false => rw [hd] at hf; exact .inr hf
    obtain ⟨k, hk, e1, e2, _⟩ := there_fail n hx
    rw [e1] at hT
    unfold dele
    rw [e2]
    have HT := hid hT
    have HP := hid (fun w1 (hb : Below w.heap.size w w1) => RefPost.none h (k := k) hb)
    clear hf hx e1 e2 hT h
    rcases hk with rfl | rfl
    all_goals
      go_enter Tryz.func115, Tryz.ntmps115
      go_wp2_with (go_at_call 135; (with_reducible refine HT.out.mono ?_); rintro e w1 ⟨rfl, hb1⟩)
      go_ret
      exact HP.out _ hb1
  | some f =>
    have hd : s.dead = false := by
      cases hd : s.dead with
      | true => rw [hd] at hf; cases hf
      | false => rfl
    rw [hd] at hf
    have hf : fndK AF.key n.data.toList s.L = some f := hf
    obtain ⟨i, hi, e1, e2, hia, hname, e4, -⟩ := there_ok h.ok hd hf
    rw [e1] at hT
    have hq : dele s n.data.toList = spends s fun s => { s with L := delK AF.key n.data.toList s.L } := e4 _
    have hok := Ok_dele h.ok n.data.toList
    rw [hq] at hok ⊢
    have HT := hid hT
    rw [spends_eq] at hok ⊢
    by_cases h0 : s.fuse = 0
    · rw [if_pos h0]
      have HU := hid (fun w1 hb => turn_dead h h0 (w1 := w1) hb)
      clear hf e1 e2 e4 hT h hq hok hd h0
      go_enter Tryz.func115, Tryz.ntmps115
      go_wp2_with (first
        | (go_at_call 135; (with_reducible refine HT.out.mono ?_); rintro e w1 ⟨rfl, hb1⟩)
        | (go_at_call 72; (with_reducible refine (HU.out _ hb1).mono ?_); rintro e w2 ⟨rfl, hR⟩; have HR := hid hR; clear hR))
      go_ret
      exact ⟨rfl, HR.out⟩
    · rw [if_neg h0] at hok ⊢
      have hup : delK AF.key n.data.toList (ticked s).L = s.L.take i ++ s.L.drop (i + 1) := by
        have := delK_split (key := AF.key) h.ok.rise (isSome_of hf)
        rw [← hia] at this
        exact this
      have hsp : ∀ w1, Below w.heap.size w w1 → Calls Tryz.prog 72 #[.pointer (some ⟨r, 0, none⟩)] w1 (fun e w2 => e = .returned (.int .i64 0) ∧ Hid (Calls Tryz.prog 160 #[.pointer (some ⟨r, 0, none⟩), .int .i64 (i : Int)] w2 (NewStored w S r ({ ticked s with L := delK AF.key n.data.toList (ticked s).L }, 0)))) := by
        intro w1 hb1
        refine (turn_hid w1 (h.below hb1) 0 (if_neg h0) (ticked s) (if_neg h0)).mono ?_
        rintro e w2 ⟨rfl, hx, hc, hz⟩
        have hc' : Chg S w w2 := (Chg.of_below hb1).trans hc (fun b e => .inl (by rw [e]; exact h.inS.1))
        refine ⟨rfl, hid ((refWithout_any hx i hi).mono ?_)⟩
        intro e w3 hrow
        rw [hup]
        exact NewStored.of h hx (fun b hb => .inl hb) hc' hrow (by rw [hup] at hok; exact hok)
      have HS := hid hsp
      clear hf e1 e2 e4 hT h hq hok hd h0 hup hsp hname hia
      generalize ({ ticked s with L := delK AF.key n.data.toList (ticked s).L } : Dk) = sd at *
      go_enter Tryz.func115, Tryz.ntmps115
      go_wp2_with (first
        | (go_at_call 135; (with_reducible refine HT.out.mono ?_); rintro e w1 ⟨rfl, hb1⟩)
        | (go_at_call 72; (with_reducible refine (HS.out _ hb1).mono ?_); rintro e w2 ⟨rfl, HW⟩)
        | (go_at_call 160; (with_reducible refine (HW.out).mono ?_); rintro e w3 ⟨ao, nn, cap, z, rfl, c0, f0, HP⟩))
      go_ret
      exact HP.out
theorem refFuse_any (h : RefRep w S r v s) (n : Int) (hn : n ≤ 9223372036854775807) : Calls Tryz.prog 54 #[.pointer (some ⟨r, 0, none⟩), .int .i64 n] w (RefTail w S r (setFuse s n)) := by
  have c2 := h.head.cell 2
  have f2 := h.head.frozen 2
  simp at c2
  have hset := h.head.set 2 (.int .i64 (max n (-1)))
  have hc := Chg.setCell w ⟨r, 2, none⟩ (.int .i64 (max n (-1)))
  have hD : RefRep (w.setCell ⟨r, 2, none⟩ (.int .i64 (max n (-1)))) S r v (setFuse s n) := h.turn (fu := max n (-1)) (dd := s.dead) (by simpa using hset) hc (by omega)
  have hcS : Chg S w (w.setCell ⟨r, 2, none⟩ (.int .i64 (max n (-1)))) := hc.mono (fun b e => by rw [e]; exact h.inS.1)
  have HP := hid (show RefTail w S r (setFuse s n) (.returned (.tuple #[])) _ from ⟨rfl, ⟨v, hD.widen grow_mono (grow_lt h.lt hcS.size)⟩, hcS⟩)
  clear hset hc hD hcS h
  generalize setFuse s n = sd at *
  go_enter Tryz.func54, Tryz.ntmps54
  go_wp2
  go_end0
  exact HP.out
end
end Go.Proofs.YtbidglefddmjhaaGreatDoor

/-
  LAYER 2 (disk), THE DOCUMENT's ANSWER: Truncate.
-/
namespace Go.Proofs.YtbidglefddmjhaaGreatDoor
open Go.RowKit Go.Maps
set_option linter.unusedVariables false
set_option maxRecDepth 100000
section
variable {w w' : World} {S : Nat → Prop} {r : Nat} {v : Value} {s : Dk}

theorem RefRow.putRow {g n cap : Nat} {L : List AF} (h : RefRow w (.slice (some ⟨g, 0, none⟩) n cap) L) {i k : Nat} (hi : i < L.length) (hk : k < 3) (u : Value) (f' : AF) (hf : (fcells L[i]).set k u = fcells f') :
    RefRow (w.setCell ⟨g, i * 3 + k, none⟩ u) (.slice (some ⟨g, 0, none⟩) n cap) (L.set i f') := by
  have h1 := ownsRow_set h (g := g) rfl (j := i * 3 + k) (by rw [flat_length]; omega) u
  rw [flat_set hi hk hf] at h1
  unfold RefRow
  simpa using h1
theorem RefRow.drew {L : List AF} (h : RefRow w v L) : RefRow w.drew v L := ownsRow_same h (fun _ _ => rfl)
/-- Behind turn: the cells that are read, those behind the first store, and what stands at the end. -/
def CutTurned (w : World) (S : Nat → Prop) (r g i : Nat) (n cap : Nat) (db db2 : ByteArray) (sy : Int) (z2 : Int) (q : Dk × Int) (e : Ending) (w2 : World) : Prop := e = .returned (.int .i64 0) ∧ w2.cell? ⟨r, 0, none⟩ = some (.slice (some ⟨g, 0, none⟩) n cap) ∧ w2.cell? ⟨g, i * 3 + 1, none⟩ = some (.string db) ∧ w2.frozen? ⟨g, i * 3 + 1, none⟩ = false ∧
  (w2.setCell ⟨g, i * 3 + 1, none⟩ (.string db2)).drew.cell? ⟨r, 0, none⟩ = some (.slice (some ⟨g, 0, none⟩) n cap) ∧
  (w2.setCell ⟨g, i * 3 + 1, none⟩ (.string db2)).drew.cell? ⟨g, i * 3 + 2, none⟩ = some (.int .i64 sy) ∧
  (w2.setCell ⟨g, i * 3 + 1, none⟩ (.string db2)).drew.cell? ⟨g, i * 3 + 1, none⟩ = some (.string db2) ∧
  (w2.setCell ⟨g, i * 3 + 1, none⟩ (.string db2)).drew.frozen? ⟨g, i * 3 + 2, none⟩ = false ∧
  (((w2.setCell ⟨g, i * 3 + 1, none⟩ (.string db2)).drew.setCell ⟨g, i * 3 + 2, none⟩ (.int .i64 z2)).drew.cell? ⟨r, 0, none⟩ = some (.slice (some ⟨g, 0, none⟩) n cap)) ∧
  (((w2.setCell ⟨g, i * 3 + 1, none⟩ (.string db2)).drew.setCell ⟨g, i * 3 + 2, none⟩ (.int .i64 z2)).drew.cell? ⟨g, i * 3 + 2, none⟩ = some (.int .i64 z2)) ∧
  Hid (RefPost w S r q (.returned (.int .i64 0)) ((w2.setCell ⟨g, i * 3 + 1, none⟩ (.string db2)).drew.setCell ⟨g, i * 3 + 2, none⟩ (.int .i64 z2)).drew)

set_option maxHeartbeats 4000000 in
theorem refTrunc_any (h : RefRep w S r v s) (n : ByteArray) (k : Int) : Calls Tryz.prog 84 #[.pointer (some ⟨r, 0, none⟩), .string n, .int .i64 k] w (RefPost w S r (trunc s n.data.toList k)) := by
  have hT := refThere_any h n
  cases hf : (if s.dead then none else fndK AF.key n.data.toList s.L) with
  | none =>
    have hx : s.dead = true ∨ fndK AF.key n.data.toList s.L = none := by
      cases hd : s.dead with
      | true => exact .inl rfl
      | false => rw [hd] at hf; exact .inr hf
    obtain ⟨kk, hk, e1, e2, _⟩ := there_fail n hx
    rw [e1] at hT
    unfold trunc
    rw [e2]
    have HT := hid hT
    have HP := hid (fun w1 (hb : Below w.heap.size w w1) => RefPost.none h (k := kk) hb)
    clear hf hx e1 e2 hT h
    rcases hk with rfl | rfl
    all_goals
      go_enter Tryz.func84, Tryz.ntmps84
      go_wp2_with (go_at_call 135; (with_reducible refine HT.out.mono ?_); rintro e w1 ⟨rfl, hb1⟩)
      go_ret
      exact HP.out _ hb1
  | some f =>
    have hd : s.dead = false := by
      cases hd : s.dead with
      | true => rw [hd] at hf; cases hf
      | false => rfl
    rw [hd] at hf
    have hf : fndK AF.key n.data.toList s.L = some f := hf
    obtain ⟨i, hi, e1, e2, hia, hname, e4, -⟩ := there_ok h.ok hd hf
    rw [e1] at hT
    have hq : trunc s n.data.toList k = if k < 0 ∨ (f.data.length : Int) < k then (s, 2) else spends s fun s => { s with L := updK AF.key n.data.toList (cutF k.toNat) s.L } := e4 _
    have hok := Ok_trunc h.ok n.data.toList k
    rw [hq] at hok ⊢
    have HT := hid hT
    have hrl := h.head.lt
    have c0 := h.head.cell 0
    simp at c0
    obtain ⟨ao, cap, rfl, hcap, -⟩ := h.row.slice
    obtain ⟨g, rfl, hg, hcells, -⟩ := h.row.at hi
    have c1 := (hcells i hi).2.1
    rw [e2] at c1
    have hcs := hid (fun w1 (hb1 : Below w.heap.size w w1) => (show w1.cell? ⟨r, 0, none⟩ = _ ∧ w1.cell? ⟨g, i * 3 + 1, none⟩ = _ from ⟨(hb1.cell (p := ⟨r, 0, none⟩) hrl).trans c0, (hb1.cell (p := ⟨g, i * 3 + 1, none⟩) hg).trans c1⟩))
    have hcI : (i : Int) < (s.L.length : Int) := by omega
    have hmI : (s.L.length : Int) ≤ 40 := by have := h.ok.many; omega
    by_cases hneg : k < 0
    · rw [if_pos (.inl hneg)]
      have HP := hid (fun w1 (hb : Below w.heap.size w w1) => RefPost.none h (k := 2) hb)
      clear hf e1 e2 e4 hT h hq hok hd c0 c1 hcells hname hia
      go_enter Tryz.func84, Tryz.ntmps84
      go_wp2_with (go_at_call 135; (with_reducible refine HT.out.mono ?_); rintro e w1 ⟨rfl, hb1⟩)
      go_ret
      exact HP.out _ hb1
    · by_cases hbig : (f.data.length : Int) < k
      · rw [if_pos (.inr hbig)]
        have HP := hid (fun w1 (hb : Below w.heap.size w w1) => RefPost.none h (k := 2) hb)
        have hbig' : ((mk f.data).size : Int) < k := by rw [mk_size]; exact hbig
        clear hf e1 e2 e4 hT h hq hok hd c0 c1 hcells hname hia hbig
        generalize mk f.data = db at *
        go_enter Tryz.func84, Tryz.ntmps84
        go_wp2_with (go_at_call 135; (with_reducible refine HT.out.mono ?_); rintro e w1 ⟨rfl, hb1⟩; obtain ⟨c0, c1⟩ := hcs.out _ hb1)
        go_ret
        exact HP.out _ hb1
      · rw [if_neg (fun h => by rcases h with h | h; exact hneg h; exact hbig h)] at hok ⊢
        have hle : k ≤ ((mk f.data).size : Int) := by rw [mk_size]; omega
        rw [spends_eq] at hok ⊢
        by_cases h0 : s.fuse = 0
        · rw [if_pos h0]
          have HU := hid (fun w1 hb => turn_dead h h0 (w1 := w1) hb)
          clear hf e1 e2 e4 hT h hq hok hd h0 c0 c1 hcells hname hia hbig
          generalize mk f.data = db at *
          go_enter Tryz.func84, Tryz.ntmps84
          go_wp2_with (first
            | (go_at_call 135; (with_reducible refine HT.out.mono ?_); rintro e w1 ⟨rfl, hb1⟩; obtain ⟨c0, c1⟩ := hcs.out _ hb1)
            | (go_at_call 72; (with_reducible refine (HU.out _ hb1).mono ?_); rintro e w2 ⟨rfl, hR⟩; have HR := hid hR; clear hR))
          go_ret
          exact ⟨rfl, HR.out⟩
        · rw [if_neg h0] at hok ⊢
          have hup : updK AF.key n.data.toList (cutF k.toNat) s.L = s.L.set i (cutF k.toNat f) := by
            have hg2 : s.L[ahead AF.key n.data.toList s.L]? = some f := by rw [← hia, List.getElem?_eq_getElem hi, e2]
            have := updK_at (key := AF.key) (g := cutF k.toNat) h.ok.rise hg2 hname
            rw [← hia] at this
            exact this
          have hsy : f.synced ≤ f.data.length := h.ok.sync f (fndK_some hf).1
          have hlb : (f.data.length : Int) ≤ 10000000 := by
            have := h.ok.room; have := h.ok.most; have := sz_mem (fndK_some hf).1; omega
          have hokA : ({ ticked s with L := s.L.set i (cutF k.toNat f) } : Dk).Ok := by rw [← hup]; exact hok
          have hsp : ∀ w1, Below w.heap.size w w1 → Calls Tryz.prog 72 #[.pointer (some ⟨r, 0, none⟩)] w1 (CutTurned w S r g i s.L.length cap (mk f.data) (mk (f.data.take k.toNat)) f.synced (min (f.synced : Int) k) ({ ticked s with L := updK AF.key n.data.toList (cutF k.toNat) (ticked s).L }, 0)) := by
            intro w1 hb1
            refine (turn_hid w1 (h.below hb1) 0 (if_neg h0) (ticked s) (if_neg h0)).mono ?_
            rintro e w2 ⟨rfl, hx, hc, hz⟩
            have hc' : Chg S w w2 := (Chg.of_below hb1).trans hc (fun b e => .inl (by rw [e]; exact h.inS.1))
            have hne : r ≠ g := fun e => h.apart (by rw [e]; rfl)
            have q0 := hx.head.cell 0
            obtain ⟨g', hg', hgl, hcells2, hfz2⟩ := hx.row.at hi
            obtain rfl : g = g' := by cases hg'; rfl
            have e2' : (ticked s).L[i] = f := e2
            have q1 := (hcells2 i hi).2.1
            rw [e2] at q1
            -- behind the first store
            have hrow1 := (hx.row.putRow hi (k := 1) (by omega) (.string (mk (f.data.take k.toNat))) { f with data := f.data.take k.toNat } (by rw [e2']; rfl)).drew
            have hhead1 : own (w2.setCell ⟨g, i * 3 + 1, none⟩ (.string (mk (f.data.take k.toNat)))).drew r _ _ := hx.head.other hne _
            have u0 := hhead1.cell 0
            have hil' : i < (s.L.set i { f with data := f.data.take k.toNat }).length := by rw [List.length_set]; exact hi
            obtain ⟨g', hg', -, pcells, pfz⟩ := RefRow.at_n (L := s.L.set i { f with data := f.data.take k.toNat }) hrow1 (by rw [List.length_set]) hil'
            obtain rfl : g = g' := by cases hg'; rfl
            have u1 := (pcells i hil').2.1
            have u2 := (pcells i hil').2.2
            simp at u1 u2
            -- behind the second
            have hz2 : (Value.int .i64 (min (f.synced : Int) k)) = .int .i64 ((min f.synced k.toNat : Nat) : Int) := by congr 1; omega
            have hrow2 := (hrow1.putRow (L := s.L.set i { f with data := f.data.take k.toNat }) hil' (k := 2) (by omega) (.int .i64 (min (f.synced : Int) k)) (cutF k.toNat f) (by rw [hz2]; simp [fcells, cutF])).drew
            rw [List.set_set] at hrow2
            have hhead2 : own ((w2.setCell ⟨g, i * 3 + 1, none⟩ (.string (mk (f.data.take k.toNat)))).drew.setCell ⟨g, i * 3 + 2, none⟩ (.int .i64 (min (f.synced : Int) k))).drew r _ _ := hhead1.other hne _
            have hil2 : i < (s.L.set i (cutF k.toNat f)).length := by rw [List.length_set]; exact hi
            obtain ⟨g', hg', -, vcells, -⟩ := RefRow.at_n (L := s.L.set i (cutF k.toNat f)) hrow2 (by rw [List.length_set]) hil2
            obtain rfl : g = g' := by cases hg'; rfl
            have y2 := (vcells i hil2).2.2
            have hup' : updK AF.key n.data.toList (cutF k.toNat) (ticked s).L = s.L.set i (cutF k.toNat f) := hup
            have hfin : RefRep ((w2.setCell ⟨g, i * 3 + 1, none⟩ (.string (mk (f.data.take k.toNat)))).drew.setCell ⟨g, i * 3 + 2, none⟩ (.int .i64 (min (f.synced : Int) k))).drew S r (.slice (some ⟨g, 0, none⟩) s.L.length cap) ({ ticked s with L := s.L.set i (cutF k.toNat f) } : Dk) :=
              ⟨hhead2, hrow2, hx.apart, hx.inS, fun b hb => by have := hx.lt b hb; simpa [World.setCell, World.drew] using this, hokA⟩
            have hcg : Chg S w2 ((w2.setCell ⟨g, i * 3 + 1, none⟩ (.string (mk (f.data.take k.toNat)))).drew.setCell ⟨g, i * 3 + 2, none⟩ (.int .i64 (min (f.synced : Int) k))).drew :=
              (((((Chg.setCell w2 _ _).mono (fun b (e : b = g) => by rw [e]; exact h.inS.2 _ rfl)).drewN 1).trans (Chg.setCell _ _ _) (fun b (e : b = g) => .inl (by rw [e]; exact h.inS.2 _ rfl))).drewN 1)
            refine ⟨rfl, q0, q1, hfz2 _, u0, ?_, ?_, pfz _, hhead2.cell 0, ?_, hid ?_⟩
            · exact u2
            · exact u1
            · rw [y2, hz2]; simp [cutF]
            · rw [hup']
              exact h.done hfin (hc'.trans hcg (fun b hb => .inl hb)) 0
          have HS := hid hsp
          have l1 := fun wx => slice_h (s := mk f.data) (hi := k) (l := f.data.take k.toNat) (by omega) hle (by rw [mk_data]) wx
          clear hf e1 e2 e4 hT h hq hok hd h0 hup hsp hname hia hokA c0 c1 hcells hbig hsy hlb
          generalize ({ ticked s with L := updK AF.key n.data.toList (cutF k.toNat) (ticked s).L } : Dk) = sd at *
          generalize hz2 : min (f.synced : Int) k = z2 at *
          generalize mk (f.data.take k.toNat) = db2 at *
          generalize mk f.data = db at *
          generalize (f.synced : Int) = sy at *
          go_enter Tryz.func84, Tryz.ntmps84
          go_wp2_with (first
            | (go_at_call 135; (with_reducible refine HT.out.mono ?_); rintro e w1 ⟨rfl, hb1⟩; obtain ⟨d0, d1⟩ := hcs.out _ hb1)
            | (go_at_call 72; (with_reducible refine (HS.out _ hb1).mono ?_); rintro e w2 ⟨rfl, c0, c1, f1, p0, p2, p1, g2, y0, y2, HP⟩))
          go_region
          go_wp2
          go_region
          go_wp2
          go_ret
          exact HP.out
end
end Go.Proofs.YtbidglefddmjhaaGreatDoor

/-
  LAYER 2 (disk), THE DOCUMENT's ANSWER: Name.
-/
namespace Go.Proofs.YtbidglefddmjhaaGreatDoor
open Go.RowKit Go.Maps
set_option linter.unusedVariables false
set_option maxRecDepth 100000

set_option maxHeartbeats 1000000 in
theorem refName_any (s : ByteArray) (w : World) (hs : s.size ≤ maxLen) :
    Calls Tryz.prog 69 #[.string s] w fun e w' => e = .returned (.bool (isName s.data.toList)) ∧ w = w' := by
  unfold maxLen at hs
  go_enter Tryz.func69, Tryz.ntmps69
  go_wp2
  go_loop [3] (fun i => ∃ k : Nat, k ≤ s.size ∧ i = .int .i64 k ∧ Hid ((s.data.toList.take k).all nameByte = true)) (fun i => s.size - (intOf i).toNat)
  case atStart => exact ⟨0, Nat.zero_le _, rfl, hid (by simp)⟩
  case round =>
    obtain ⟨k, hk, rfl, hall⟩ := hrel
    by_cases hlt : k < s.size
    · have hc := nameByte_cases s[k]
      have hb : (s[k].toNat : Int) < 256 := by have := UInt8.toNat_lt s[k]; omega
      rcases hc with ⟨hc, h⟩ | ⟨hc, h⟩
      · have H := hid hc
        clear hc
        rcases h with ⟨h1, h2⟩ | ⟨h1, h2⟩
        · go_wp2
          go_round
          case rel => exact ⟨k + 1, by omega, by go_num, hid (all_snoc hlt hall.out H.out)⟩
          case measure => simp [intOf]; omega
        · have h3 : (s[k].toNat : Int) < 97 := by omega
          go_wp2
          go_round
          case rel => exact ⟨k + 1, by omega, by go_num, hid (all_snoc hlt hall.out H.out)⟩
          case measure => simp [intOf]; omega
      · have H := hid hc
        clear hc
        rcases h with h | ⟨h1, h2⟩ | h
        · go_wp2
          go_ret
          exact ⟨ret_bool (isName_bad hlt H.out).symm, rfl⟩
        · have d1 : decide ((s[k].toNat : Int) ≤ 57) = false := by simp; omega
          go_wp2
          go_ret
          exact ⟨ret_bool (isName_bad hlt H.out).symm, rfl⟩
        · have d1 : decide ((s[k].toNat : Int) ≤ 57) = false := by simp; omega
          have d2 : decide ((s[k].toNat : Int) ≤ 122) = false := by simp; omega
          have d3 : decide (97 ≤ (s[k].toNat : Int)) = true := by simp; omega
          have d4 : decide (48 ≤ (s[k].toNat : Int)) = true := by simp; omega
          go_wp2
          go_ret
          exact ⟨ret_bool (isName_bad hlt H.out).symm, rfl⟩
    · obtain rfl : k = s.size := by omega
      have hfin := hid (isName_all hall.out)
      by_cases h1 : 1 ≤ s.size
      · have d1 : decide (1 ≤ (s.size : Int)) = true := by simp; omega
        by_cases h2 : s.size ≤ 24
        · have d2 : decide ((s.size : Int) ≤ 24) = true := by simp; omega
          go_wp2
          go_ret
          exact ⟨ret_bool (by rw [hfin.out]; simp [h1, h2]), rfl⟩
        · have d2 : decide ((s.size : Int) ≤ 24) = false := by simp; omega
          go_wp2
          go_ret
          exact ⟨ret_bool (by rw [hfin.out]; simp [h2]), rfl⟩
      · have d1 : decide (1 ≤ (s.size : Int)) = false := by simp; omega
        go_wp2
        go_ret
        exact ⟨ret_bool (by rw [hfin.out]; simp [h1]), rfl⟩

end Go.Proofs.YtbidglefddmjhaaGreatDoor

/-
  LAYER 2 (disk), THE DOCUMENT's ANSWER: Append.
-/
namespace Go.Proofs.YtbidglefddmjhaaGreatDoor
open Go.RowKit Go.Maps
set_option linter.unusedVariables false
set_option maxRecDepth 100000
section
variable {w w' : World} {S : Nat → Prop} {r : Nat} {v : Value} {s : Dk}

theorem mk_plus (a : List UInt8) (d : ByteArray) : mk a ++ d = mk (a ++ d.data.toList) := by
  apply str_ext
  simp [mk_data]
/-- Where bytes are put behind a file's. -/
def AddReady (w : World) (S : Nat → Prop) (r g i : Nat) (n cap : Nat) (old d : ByteArray) (q : Dk × Int) (W : World) : Prop := W.cell? ⟨r, 0, none⟩ = some (.slice (some ⟨g, 0, none⟩) n cap) ∧ W.cell? ⟨g, i * 3 + 1, none⟩ = some (.string old) ∧ W.frozen? ⟨g, i * 3 + 1, none⟩ = false ∧
  (W.setCell ⟨g, i * 3 + 1, none⟩ (.string (old ++ d))).drew.cell? ⟨r, 0, none⟩ = some (.slice (some ⟨g, 0, none⟩) n cap) ∧
  (W.setCell ⟨g, i * 3 + 1, none⟩ (.string (old ++ d))).drew.cell? ⟨g, i * 3 + 1, none⟩ = some (.string (old ++ d)) ∧
  Hid (RefPost w S r q (.returned (.int .i64 0)) (W.setCell ⟨g, i * 3 + 1, none⟩ (.string (old ++ d))).drew)
theorem AddReady.of {W : World} (h : RefRep w S r v s) {T : Nat → Prop} {g n cap : Nat} {s2 : Dk} (h2 : RefRep W T r (.slice (some ⟨g, 0, none⟩) n cap) s2) (hn : n = s2.L.length) (hT : ∀ b, T b → grow S w W b) (hc : Chg S w W) {i : Nat} (hi : i < s2.L.length) (d : ByteArray) (f : AF) (hf : s2.L[i] = f) {L : List AF} (hL : s2.L.set i (addF d.data.toList f) = L)
    (hok : ({ s2 with L := L } : Dk).Ok) : AddReady w S r g i n cap (mk f.data) d ({ s2 with L := L }, 0) W := by
  subst hL
  obtain ⟨g', hg', hgl, hcells, hfz⟩ := RefRow.at_n h2.row hn hi
  obtain rfl : g = g' := by cases hg'; rfl
  have q1 := (hcells i hi).2.1
  rw [hf] at q1
  have hp := (h2.put hi (k := 1) (by omega) (.string (mk f.data ++ d)) (addF d.data.toList f) (by rw [hf, mk_plus]; rfl) hok).drew
  have hil : i < (s2.L.set i (addF d.data.toList f)).length := by rw [List.length_set]; exact hi
  obtain ⟨g', hg', -, pcells, -⟩ := RefRow.at_n (L := s2.L.set i (addF d.data.toList f)) hp.row (by rw [List.length_set]; exact hn) hil
  obtain rfl : g = g' := by cases hg'; rfl
  have p1 := (pcells i hil).2.1
  have hcW : Chg S w (W.setCell ⟨g, i * 3 + 1, none⟩ (.string (mk f.data ++ d))).drew := (hc.trans (Chg.setCell _ _ _) (fun b (e : b = g) => by
    rcases hT b (by rw [e]; exact h2.inS.2 _ rfl) with h | h
    · exact .inl h
    · exact .inr h.1)).drewN 1
  refine ⟨h2.head.cell 0, q1, hfz _, hp.head.cell 0, by rw [p1, mk_plus]; simp [addF], hid ⟨rfl, ⟨_, hp.widen (fun b hb => ?_) (grow_lt h.lt hcW.size)⟩, hcW⟩⟩
  rcases hT b hb with h | h
  · exact .inl h
  · exact .inr ⟨h.1, by simpa [World.setCell, World.drew] using h.2⟩

def WithStored (w : World) (S : Nat → Prop) (r i : Nat) (d : ByteArray) (q : Dk × Int) (e : Ending) (w3 : World) : Prop := ∃ g n cap z, e = .returned (.slice (some ⟨g, 0, none⟩) n cap) ∧ w3.cell? ⟨r, 0, none⟩ = some z ∧ w3.frozen? ⟨r, 0, none⟩ = false ∧ (i : Int) < (n : Int) ∧ Hid (AddReady w S r g i n cap ⟨#[]⟩ d q (w3.setCell ⟨r, 0, none⟩ (.slice (some ⟨g, 0, none⟩) n cap)))
theorem WithStored.of {w2 w3 : World} {e : Ending} (h : RefRep w S r v s) {s2 : Dk} {v2 : Value} (h2 : RefRep w2 S r v2 s2) (hc : Chg S w w2) {L : List AF} (hr : RowPost w2 L e w3) (hok : ({ s2 with L := L } : Dk).Ok) {i : Nat} (hi : i < L.length) (nm : List UInt8) (hf : L[i] = ⟨nm, [], 0⟩) (d : ByteArray) {L2 : List AF} (hL : L.set i (addF d.data.toList ⟨nm, [], 0⟩) = L2) (hok2 : ({ s2 with L := L2 } : Dk).Ok) : WithStored w S r i d ({ s2 with L := L2 }, 0) e w3 := by
  obtain ⟨ao, cap, rfl, hrow, hv, hb⟩ := hr
  have h3 := h2.below hb
  have c0 := h3.head.cell 0
  obtain ⟨g, rfl, -⟩ := hrow.at hi
  obtain ⟨hx, hcx⟩ := h2.stored hrow hv hb hok
  have hcc : Chg S w (w3.setCell ⟨r, 0, none⟩ (.slice (some ⟨g, 0, none⟩) L.length cap)) := hc.trans hcx (fun b hb => .inl hb)
  have hA := AddReady.of h (s2 := { s2 with L := L }) hx rfl (fun b hb => by
    rcases hb with hb | hb
    · exact .inl hb
    · exact .inr ⟨Nat.le_trans hc.size hb.1, hb.2⟩) hcc (i := i) hi d ⟨nm, [], 0⟩ hf hL hok2
  exact ⟨g, _, cap, _, rfl, c0, h3.head.frozen 0, by omega, hid hA⟩

set_option maxHeartbeats 4000000 in
theorem refAppend_any (h : RefRep w S r v s) (n d : ByteArray) (hnm : n.size ≤ maxLen) (hdm : d.size ≤ 140737488355328) : Calls Tryz.prog 28 #[.pointer (some ⟨r, 0, none⟩), .string n, .string d] w (RefPost w S r (app s n.data.toList d.data.toList)) := by
  have c3 := h.head.cell 3
  have c1 := h.head.cell 1
  have c0 := h.head.cell 0
  simp at c3 c1 c0
  have hrl := h.head.lt
  have HN := hid (fun w => refName_any n w hnm)
  have HP := hid (fun w1 k (hb : Below w.heap.size w w1) => RefPost.none h (k := k) hb)
  have HF := hid (refFind_any h n)
  have hmany := h.ok.many
  have HZ := hid (fun w1 (hb : Below w.heap.size w w1) => (refSize_any (h.below hb)).mono (R' := fun e w' => e = .returned (.int .i64 (sz s.L)) ∧ Below w1.heap.size w1 w') (by rintro e w2 ⟨rfl, rfl⟩; exact ⟨rfl, Below.refl _ _⟩))
  obtain ⟨ao, cap, rfl, hcap, hnone, -⟩ := h.row.slice
  have hcs := hid (fun w1 (hb1 : Below w.heap.size w w1) => (show w1.cell? ⟨r, 0, none⟩ = _ ∧ w1.cell? ⟨r, 1, none⟩ = _ from ⟨(hb1.cell (p := ⟨r, 0, none⟩) hrl).trans c0, (hb1.cell (p := ⟨r, 1, none⟩) hrl).trans c1⟩))
  have hok := Ok_app h.ok n.data.toList d.data.toList
  cases hd : s.dead with
  | true =>
    have hq : app s n.data.toList d.data.toList = (s, 7) := by unfold app; rw [if_pos hd]
    rw [hq]
    rw [hd] at c3
    have HP := hid (HP.out w 7 (Below.refl _ _))
    clear hq hok h hd hcs HZ HF HN
    go_enter Tryz.func28, Tryz.ntmps28
    go_wp2
    go_ret
    exact HP.out
  | false =>
    rw [hd] at c3
    cases hnq : isName n.data.toList with
    | false =>
      have hq : app s n.data.toList d.data.toList = (s, 3) := by unfold app; rw [hd, hnq]; rfl
      rw [hq]
      rw [hnq] at HN
      have HP := hid (HP.out w 3 (Below.refl _ _))
      clear hq hok h hd hcs HZ HF hnq
      go_enter Tryz.func28, Tryz.ntmps28
      go_wp2_with (go_at_call 69; (with_reducible refine (HN.out _).mono ?_); rintro e w1 ⟨rfl, rfl⟩)
      go_ret
      exact HP.out
    | true =>
      rw [hnq] at HN
      have hm1 : s.most ≤ 10000000 := h.ok.most
      have hm2 : (sz s.L : Int) ≤ s.most := h.ok.room
      have hm3 : 0 ≤ (sz s.L : Int) := by omega
      have hmI : (s.L.length : Int) ≤ 40 := by omega
      have hal := ahead_le (key := AF.key) n.data.toList s.L
      have hds : (d.size : Int) = (d.data.toList.length : Int) := by rw [← str_len]
      unfold FoundV at HF
      cases hf : fndK AF.key n.data.toList s.L with
      | none =>
        rw [hf] at HF
        by_cases h40 : 40 ≤ s.L.length
        · have hq : app s n.data.toList d.data.toList = (s, 11) := by unfold app; rw [hd, hnq, hf]; simp [h40]
          rw [hq]
          have HP := hid (fun w1 hb => HP.out w1 11 hb)
          have h40I : (s.L.length : Int) ≥ 40 := by omega
          clear hq hok h hd HZ hnq hf h40 hm1 hm2 hm3 hal hds
          generalize ahead AF.key n.data.toList s.L = A at *
          go_enter Tryz.func28, Tryz.ntmps28
          go_wp2_with (first | (go_at_call 69; (with_reducible refine (HN.out _).mono ?_); rintro e w0 ⟨rfl, rfl⟩) | (go_at_call 70; (with_reducible refine (HF.out).mono ?_); rintro e w1 ⟨rfl, hb1⟩; obtain ⟨d0, d1⟩ := hcs.out _ hb1))
          go_ret
          exact HP.out _ hb1
        · by_cases hfull : s.most - (sz s.L : Int) < (d.size : Int)
          · have hq : app s n.data.toList d.data.toList = (s, 6) := by
              unfold app; rw [hd, hnq, hf]
              simp [h40]
              intro hx
              omega
            rw [hq]
            have HP := hid (fun w1 hb => HP.out w1 6 hb)
            have h40I : (s.L.length : Int) < 40 := by omega
            clear hq hok h hd hnq hf h40 hal hds
            generalize ahead AF.key n.data.toList s.L = A at *
            generalize (sz s.L : Int) = N at *
            have hW : IntKind.i64.wrap (s.most - N) = s.most - N := IntWalk.i64_in _ (by omega)
            generalize s.most = M at *
            go_enter Tryz.func28, Tryz.ntmps28
            go_wp2_with (first | (go_at_call 69; (with_reducible refine (HN.out _).mono ?_); rintro e w0 ⟨rfl, rfl⟩) | (go_at_call 70; (with_reducible refine (HF.out).mono ?_); rintro e w1 ⟨rfl, hb1⟩; obtain ⟨d0, d1⟩ := hcs.out _ hb1))
            go_region_held3 (fun wx => wx.cell? ⟨r, 1, none⟩ = some (.int .i64 M) ∧ Below w.heap.size w wx) (first | exact ⟨d1, Below.drew hb1⟩ | exact ⟨hc3, hb3⟩ | go_keep)
              (first | (go_at_call 71; (with_reducible refine (HZ.out _ (And.right (by assumption))).mono ?_); rintro e w2 ⟨rfl, hb2⟩; have hb3 : Below w.heap.size w w2 := Below.trans (And.right (by assumption)) (hb2.mono (Below.size (And.right (by assumption)))); have hc3 := (hcs.out _ hb3).2))
            clear hW
            go_wp2
            go_ret
            exact HP.out _ (And.right (by assumption))
          · have hq : app s n.data.toList d.data.toList = spends s fun s => { s with L := insK AF.key (newF n.data.toList d.data.toList) s.L } := by
              unfold app; rw [hd, hnq, hf]
              simp [h40]
              intro hx
              omega
            rw [hq, spends_eq] at hok ⊢
            have h40I : (s.L.length : Int) < 40 := by omega
            by_cases h0 : s.fuse = 0
            · rw [if_pos h0]
              have HU := hid (fun w1 hb => turn_dead h h0 (w1 := w1) hb)
              clear hq hok h hd hnq hf h40 hal hds h0
              generalize ahead AF.key n.data.toList s.L = A at *
              generalize (sz s.L : Int) = N at *
              have hW : IntKind.i64.wrap (s.most - N) = s.most - N := IntWalk.i64_in _ (by omega)
              generalize s.most = M at *
              go_enter Tryz.func28, Tryz.ntmps28
              go_wp2_with (first | (go_at_call 69; (with_reducible refine (HN.out _).mono ?_); rintro e w0 ⟨rfl, rfl⟩) | (go_at_call 70; (with_reducible refine (HF.out).mono ?_); rintro e w1 ⟨rfl, hb1⟩; obtain ⟨d0, d1⟩ := hcs.out _ hb1))
              go_region_held3 (fun wx => wx.cell? ⟨r, 1, none⟩ = some (.int .i64 M) ∧ Below w.heap.size w wx) (first | exact ⟨d1, Below.drew hb1⟩ | exact ⟨hc3, hb3⟩ | go_keep)
                (first | (go_at_call 71; (with_reducible refine (HZ.out _ (And.right (by assumption))).mono ?_); rintro e w2 ⟨rfl, hb2⟩; have hb3 : Below w.heap.size w w2 := Below.trans (And.right (by assumption)) (hb2.mono (Below.size (And.right (by assumption)))); have hc3 := (hcs.out _ hb3).2))
              clear hW
              go_wp2_with (first | (go_at_call 72; (with_reducible refine (HU.out _ (And.right (by assumption))).mono ?_); rintro e w4 ⟨rfl, hR⟩; have HR := hid hR; clear hR))
              go_ret
              exact ⟨rfl, HR.out⟩
            · rw [if_neg h0] at hok ⊢
              generalize hia : ahead AF.key n.data.toList s.L = i at HF hal
              have hno : ∀ x ∈ s.L, x.name ≠ n.data.toList := fndK_none hf
              have hins : ∀ dd, insK AF.key (newF n.data.toList dd) s.L = s.L.take i ++ newF n.data.toList dd :: s.L.drop i := fun dd => by
                have := insK_split (key := AF.key) (newF n.data.toList dd) s.L h.ok.rise (fun x hx => hno x hx)
                rw [show AF.key (newF n.data.toList dd) = n.data.toList from rfl, hia] at this
                exact this
              have hlen1 : (s.L.take i).length = i := by rw [List.length_take]; omega
              have hset : (s.L.take i ++ [(⟨n.data.toList, [], 0⟩ : AF)] ++ s.L.drop i).set i (addF d.data.toList ⟨n.data.toList, [], 0⟩) = insK AF.key (newF n.data.toList d.data.toList) (ticked s).L := by
                rw [show (ticked s).L = s.L from rfl, hins, List.append_assoc, List.set_append_right _ _ (by omega), hlen1]
                simp [addF, newF]
              have hget : ∀ (hh : i < (s.L.take i ++ [(⟨n.data.toList, [], 0⟩ : AF)] ++ s.L.drop i).length), (s.L.take i ++ [(⟨n.data.toList, [], 0⟩ : AF)] ++ s.L.drop i)[i]'hh = ⟨n.data.toList, [], 0⟩ := by
                intro hh
                have : (s.L.take i ++ [(⟨n.data.toList, [], 0⟩ : AF)] ++ s.L.drop i)[i]? = some ⟨n.data.toList, [], 0⟩ := by
                  rw [List.append_assoc, List.getElem?_append_right (by omega), hlen1]; simp
                rw [List.getElem?_eq_getElem hh] at this
                exact Option.some.inj this
              have hlt : i < (s.L.take i ++ [(⟨n.data.toList, [], 0⟩ : AF)] ++ s.L.drop i).length := by simp only [List.length_append, hlen1, List.length_cons, List.length_nil]; omega
              have hL1 : s.L.take i ++ [(⟨n.data.toList, [], 0⟩ : AF)] ++ s.L.drop i = insK AF.key (newF n.data.toList []) s.L := by rw [hins, List.append_assoc]; rfl
              have hsp : ∀ w1, Below w.heap.size w w1 → Calls Tryz.prog 72 #[.pointer (some ⟨r, 0, none⟩)] w1 (fun e w2 => e = .returned (.int .i64 0) ∧ Hid (Calls Tryz.prog 73 #[.pointer (some ⟨r, 0, none⟩), .agg #[.string n, .string ⟨#[]⟩, .int .i64 0]] w2 (WithStored w S r i d ({ ticked s with L := insK AF.key (newF n.data.toList d.data.toList) (ticked s).L }, 0)))) := by
                intro w1 hb1
                refine (turn_hid w1 (h.below hb1) 0 (if_neg h0) (ticked s) (if_neg h0)).mono ?_
                rintro e w2 ⟨rfl, hx, hc, hz⟩
                have hc' : Chg S w w2 := (Chg.of_below hb1).trans hc (fun b e => .inl (by rw [e]; exact h.inS.1))
                refine ⟨rfl, hid (Calls.mono (show Calls _ _ #[.pointer (some ⟨r, 0, none⟩), .agg #[.string n, .string ⟨#[]⟩, .int .i64 0]] w2 _ from refWith_any hx n ⟨#[]⟩ 0 (by omega) i hia.symm) ?_)⟩
                intro e w3 hrow
                have hok1 : ({ ticked s with L := s.L.take i ++ [(⟨n.data.toList, [], 0⟩ : AF)] ++ s.L.drop i } : Dk).Ok := by
                  rw [hL1]
                  exact Ok_ins (s := ticked s) hx.ok (f := newF n.data.toList []) hnq (Nat.le_refl _) hno (by show s.L.length < 40; omega) (by show (sz s.L : Int) + _ ≤ s.most; simp [newF]; omega)
                exact WithStored.of h hx hc' hrow hok1 hlt n.data.toList (hget hlt) d hset hok
              have HU := hid hsp
              clear hq hok h hd hnq hf h40 hal hds h0 hia hno hins hlen1 hset hget hlt hL1 hsp
              generalize ({ ticked s with L := insK AF.key (newF n.data.toList d.data.toList) (ticked s).L } : Dk) = sd at *
              generalize (sz s.L : Int) = N at *
              have hW : IntKind.i64.wrap (s.most - N) = s.most - N := IntWalk.i64_in _ (by omega)
              generalize s.most = M at *
              go_enter Tryz.func28, Tryz.ntmps28
              go_wp2_with (first | (go_at_call 69; (with_reducible refine (HN.out _).mono ?_); rintro e w0 ⟨rfl, rfl⟩) | (go_at_call 70; (with_reducible refine (HF.out).mono ?_); rintro e w1 ⟨rfl, hb1⟩; obtain ⟨d0, d1⟩ := hcs.out _ hb1))
              go_region_held3 (fun wx => wx.cell? ⟨r, 1, none⟩ = some (.int .i64 M) ∧ Below w.heap.size w wx) (first | exact ⟨d1, Below.drew hb1⟩ | exact ⟨hc3, hb3⟩ | go_keep)
                (first | (go_at_call 71; (with_reducible refine (HZ.out _ (And.right (by assumption))).mono ?_); rintro e w2 ⟨rfl, hb2⟩; have hb3 : Below w.heap.size w w2 := Below.trans (And.right (by assumption)) (hb2.mono (Below.size (And.right (by assumption)))); have hc3 := (hcs.out _ hb3).2))
              clear hW
              go_wp2_with (first
                | (go_at_call 72; (with_reducible refine (HU.out _ (And.right (by assumption))).mono ?_); rintro e w4 ⟨rfl, HW⟩)
                | (go_at_call 73; (with_reducible refine (HW.out).mono ?_); rintro e w5 ⟨g, nn, cp, z, rfl, c0', f0, hin, hA⟩; obtain ⟨c0'', c1', f1, p0, p1, HP⟩ := hA.out; clear hA))
              go_region
              go_wp2
              go_ret
              exact HP.out
      | some f =>
        rw [hf] at HF
        by_cases hfull : s.most - (sz s.L : Int) < (d.size : Int)
        · have hq : app s n.data.toList d.data.toList = (s, 6) := by
            unfold app; rw [hd, hnq, hf]
            simp
            intro hx
            omega
          rw [hq]
          have HP := hid (fun w1 hb => HP.out w1 6 hb)
          clear hq hok h hd hnq hf hal hds
          generalize ahead AF.key n.data.toList s.L = A at *
          generalize (sz s.L : Int) = N at *
          have hW : IntKind.i64.wrap (s.most - N) = s.most - N := IntWalk.i64_in _ (by omega)
          generalize s.most = M at *
          go_enter Tryz.func28, Tryz.ntmps28
          go_wp2_with (first | (go_at_call 69; (with_reducible refine (HN.out _).mono ?_); rintro e w0 ⟨rfl, rfl⟩) | (go_at_call 70; (with_reducible refine (HF.out).mono ?_); rintro e w1 ⟨rfl, hb1⟩; obtain ⟨d0, d1⟩ := hcs.out _ hb1))
          go_region_held3 (fun wx => wx.cell? ⟨r, 1, none⟩ = some (.int .i64 M) ∧ Below w.heap.size w wx) (first | exact ⟨d1, Below.drew hb1⟩ | exact ⟨hc3, hb3⟩ | go_keep)
            (first | (go_at_call 71; (with_reducible refine (HZ.out _ (And.right (by assumption))).mono ?_); rintro e w2 ⟨rfl, hb2⟩; have hb3 : Below w.heap.size w w2 := Below.trans (And.right (by assumption)) (hb2.mono (Below.size (And.right (by assumption)))); have hc3 := (hcs.out _ hb3).2))
          clear hW
          go_wp2
          go_ret
          exact HP.out _ (And.right (by assumption))
        · have hq : app s n.data.toList d.data.toList = spends s fun s => { s with L := updK AF.key n.data.toList (addF d.data.toList) s.L } := by
            unfold app; rw [hd, hnq, hf]
            simp
            intro hx
            omega
          rw [hq, spends_eq] at hok ⊢
          by_cases h0 : s.fuse = 0
          · rw [if_pos h0]
            have HU := hid (fun w1 hb => turn_dead h h0 (w1 := w1) hb)
            clear hq hok h hd hnq hf hal hds h0
            generalize ahead AF.key n.data.toList s.L = A at *
            generalize (sz s.L : Int) = N at *
            have hW : IntKind.i64.wrap (s.most - N) = s.most - N := IntWalk.i64_in _ (by omega)
            generalize s.most = M at *
            go_enter Tryz.func28, Tryz.ntmps28
            go_wp2_with (first | (go_at_call 69; (with_reducible refine (HN.out _).mono ?_); rintro e w0 ⟨rfl, rfl⟩) | (go_at_call 70; (with_reducible refine (HF.out).mono ?_); rintro e w1 ⟨rfl, hb1⟩; obtain ⟨d0, d1⟩ := hcs.out _ hb1))
            go_region_held3 (fun wx => wx.cell? ⟨r, 1, none⟩ = some (.int .i64 M) ∧ Below w.heap.size w wx) (first | exact ⟨d1, Below.drew hb1⟩ | exact ⟨hc3, hb3⟩ | go_keep)
              (first | (go_at_call 71; (with_reducible refine (HZ.out _ (And.right (by assumption))).mono ?_); rintro e w2 ⟨rfl, hb2⟩; have hb3 : Below w.heap.size w w2 := Below.trans (And.right (by assumption)) (hb2.mono (Below.size (And.right (by assumption)))); have hc3 := (hcs.out _ hb3).2))
            clear hW
            go_wp2_with (first | (go_at_call 72; (with_reducible refine (HU.out _ (And.right (by assumption))).mono ?_); rintro e w4 ⟨rfl, hR⟩; have HR := hid hR; clear hR))
            go_ret
            exact ⟨rfl, HR.out⟩
          · rw [if_neg h0] at hok ⊢
            obtain ⟨i, hi, e1, e2, hia, hname, e4, -⟩ := there_ok h.ok hd hf
            obtain ⟨g, rfl, hg, -, -⟩ := h.row.at hi
            rw [← hia] at HF
            have hup : (ticked s).L.set i (addF d.data.toList f) = updK AF.key n.data.toList (addF d.data.toList) (ticked s).L := by
              have hg2 : s.L[ahead AF.key n.data.toList s.L]? = some f := by rw [← hia, List.getElem?_eq_getElem hi, e2]
              have := updK_at (key := AF.key) (g := addF d.data.toList) h.ok.rise hg2 hname
              rw [← hia] at this
              exact this.symm
            have hsp : ∀ w1, Below w.heap.size w w1 → Calls Tryz.prog 72 #[.pointer (some ⟨r, 0, none⟩)] w1 (fun e w2 => e = .returned (.int .i64 0) ∧ AddReady w S r g i s.L.length cap (mk f.data) d ({ ticked s with L := updK AF.key n.data.toList (addF d.data.toList) (ticked s).L }, 0) w2) := by
              intro w1 hb1
              refine (turn_hid w1 (h.below hb1) 0 (if_neg h0) (ticked s) (if_neg h0)).mono ?_
              rintro e w2 ⟨rfl, hx, hc, hz⟩
              exact ⟨rfl, AddReady.of h hx rfl (fun b hb => .inl hb) ((Chg.of_below hb1).trans hc (fun b e => .inl (by rw [e]; exact h.inS.1))) hi d f e2 hup hok⟩
            have HU := hid hsp
            have hcI : (i : Int) < (s.L.length : Int) := by omega
            have hfl : f.data.length ≤ 10000000 := by
              have := h.ok.room; have := h.ok.most; have := sz_mem (fndK_some hf).1; omega
            have hol : (mk f.data).size ≤ 10000000 := by rw [mk_size]; exact hfl
            clear hq hok h hd hnq hf hal hds h0 e1 e2 hia hname e4 hup hsp hfl
            generalize mk f.data = old at *
            generalize ({ ticked s with L := updK AF.key n.data.toList (addF d.data.toList) (ticked s).L } : Dk) = sd at *
            generalize (sz s.L : Int) = N at *
            have hW : IntKind.i64.wrap (s.most - N) = s.most - N := IntWalk.i64_in _ (by omega)
            generalize s.most = M at *
            go_enter Tryz.func28, Tryz.ntmps28
            go_wp2_with (first | (go_at_call 69; (with_reducible refine (HN.out _).mono ?_); rintro e w0 ⟨rfl, rfl⟩) | (go_at_call 70; (with_reducible refine (HF.out).mono ?_); rintro e w1 ⟨rfl, hb1⟩; obtain ⟨d0, d1⟩ := hcs.out _ hb1))
            go_region_held3 (fun wx => wx.cell? ⟨r, 1, none⟩ = some (.int .i64 M) ∧ Below w.heap.size w wx) (first | exact ⟨d1, Below.drew hb1⟩ | exact ⟨hc3, hb3⟩ | go_keep)
              (first | (go_at_call 71; (with_reducible refine (HZ.out _ (And.right (by assumption))).mono ?_); rintro e w2 ⟨rfl, hb2⟩; have hb3 : Below w.heap.size w w2 := Below.trans (And.right (by assumption)) (hb2.mono (Below.size (And.right (by assumption)))); have hc3 := (hcs.out _ hb3).2))
            clear hW
            go_wp2_with (go_at_call 72; (with_reducible refine (HU.out _ (And.right (by assumption))).mono ?_); rintro e w4 ⟨rfl, c0, c1, f1, p0, p1, HP⟩)
            go_region
            go_wp2
            go_ret
            exact HP.out
end
end Go.Proofs.YtbidglefddmjhaaGreatDoor

/-
  LAYER 2 (disk), THE DOCUMENT's ANSWER: New, at.
-/
namespace Go.Proofs.YtbidglefddmjhaaGreatDoor
open Go.RowKit Go.Maps
set_option linter.unusedVariables false
set_option maxRecDepth 100000

def RefNewPost (w : World) (s : Dk) (e : Ending) (w' : World) : Prop := ∃ (r : Nat) (S : Nat → Prop), e = .returned (.tuple #[.pointer (some ⟨r, 0, none⟩), .bool true]) ∧ RefIs w' S r s ∧ (∀ b, S b → w.heap.size ≤ b) ∧ Below w.heap.size w w'
theorem refNew_ok (m : Int) (w : World) (h0 : 0 ≤ m) (h1 : m ≤ 10000000) : Calls Tryz.prog 26 #[.int .i64 m] w (RefNewPost w (newD m)) := by
  have hfin : RefNewPost w (newD m) (.returned (.tuple #[.pointer (some ⟨w.heap.size, 0, none⟩), .bool true])) (w.alloc (.cells #[.slice none 0 0, .int .i64 m, .int .i64 (-1), .bool false] 41)) := by
    refine ⟨w.heap.size, fun b => b = w.heap.size, rfl, ⟨.slice none 0 0, ⟨own.new w _ _, ⟨rfl, .inl ⟨rfl, rfl⟩⟩, by simp [Value.ownBlock], ⟨rfl, fun b hb => by simp [Value.ownBlock] at hb⟩, fun b hb => by simp; omega, Ok_new h0 h1⟩⟩, fun b hb => by omega, (Below.refl _ w).alloc (Nat.le_refl _) _⟩
  have HF := hid hfin
  clear hfin
  generalize newD m = s at *
  go_enter Tryz.func26, Tryz.ntmps26
  go_wp2
  go_ret2
  exact HF.out
theorem refNew_bad (m : Int) (w : World) (h : m < 0 ∨ 10000000 < m) : Calls Tryz.prog 26 #[.int .i64 m] w fun e w' => ∃ p, e = .returned (.tuple #[.pointer (some p), .bool false]) ∧ Below w.heap.size w w' := by
  rcases h with h | h
  · have hq : decide (m ≥ 0) = false := by simp; omega
    go_enter Tryz.func26, Tryz.ntmps26
    go_wp2
    go_ret2
    exact ⟨_, rfl, (Below.refl _ w).alloc (Nat.le_refl _) _⟩
  · have h2 : 0 ≤ m := by omega
    have hq : decide (m ≤ 10000000) = false := by simp; omega
    go_enter Tryz.func26, Tryz.ntmps26
    go_wp2
    go_ret2
    exact ⟨_, rfl, (Below.refl _ w).alloc (Nat.le_refl _) _⟩
theorem refAt_any (v : Value) (xs : List Int) (w : World) {B : Nat} (hv : IntsAt w B v xs) (hx : xs.length ≤ 1000) (k : Nat) (hk : k ≤ 1000) :
    Calls Tryz.prog 116 #[v, .int .i64 (k : Int)] w fun e w' => e = .returned (.int .i64 (xs.getD k 0)) ∧ w = w' := by
  obtain ⟨a, cap, rfl, hc⟩ := hv
  by_cases h : k < xs.length
  · have hne : xs ≠ [] := fun e => by rw [e] at h; simp at h
    obtain ⟨sb, so, rfl, _, hcell⟩ := hc hne
    have c0 := hcell k _ (getD_at h)
    have hq : decide (k < xs.length) = true := by simpa using h
    have h1 : (k : Int) < (xs.length : Int) := by omega
    generalize xs.getD k 0 = z at *
    clear hcell hc hne
    go_enter Tryz.func116, Tryz.ntmps116
    go_wp2
    go_ret
    exact ⟨rfl, rfl⟩
  · have hz : xs.getD k 0 = 0 := by simp [List.getD, List.getElem?_eq_none (Nat.le_of_not_lt h)]
    have hq : decide (k < xs.length) = false := by simpa using h
    rw [hz]
    clear hc hz
    go_enter Tryz.func116, Tryz.ntmps116
    go_wp2
    go_ret
    exact ⟨rfl, rfl⟩

end Go.Proofs.YtbidglefddmjhaaGreatDoor

/-
  LAYER 2 (disk), THE DOCUMENT's ANSWER: Crash: how far its loop has come, as lists.
-/
namespace Go.Proofs.YtbidglefddmjhaaGreatDoor
open Go.RowKit Go.Maps
set_option linter.unusedVariables false
set_option maxRecDepth 100000

/-- The first i files are crashed, and k of the two lists' numbers are used. -/
structure CrAt (L : List AF) (ks ns : List Int) (i k : Nat) (P : List AF) : Prop where
  len : P.length = i
  used : k ≤ i
  rest : crL L ks ns = P ++ crL (L.drop i) (ks.drop k) (ns.drop k)
theorem CrAt.start (L : List AF) (ks ns : List Int) : CrAt L ks ns 0 0 [] := ⟨rfl, Nat.le_refl _, by simp⟩
theorem headD_drop (xs : List Int) (k : Nat) : (xs.drop k).headD 0 = xs.getD k 0 := by
  rw [List.headD_eq_head?_getD, List.head?_drop, List.getD_eq_getElem?_getD]
theorem CrAt.keep {L : List AF} {ks ns : List Int} {i k : Nat} {P : List AF} (h : CrAt L ks ns i k P) (hi : i < L.length) (hf : ¬ (L[i]'hi).synced < (L[i]'hi).data.length) : CrAt L ks ns (i + 1) k (P ++ [L[i]'hi]) := by
  refine ⟨by simp [h.len], by have := h.used; omega, ?_⟩
  rw [h.rest, List.drop_eq_getElem_cons hi, crL, if_neg hf]
  simp
theorem CrAt.turn {L : List AF} {ks ns : List Int} {i k : Nat} {P : List AF} (h : CrAt L ks ns i k P) (hi : i < L.length) (hf : (L[i]'hi).synced < (L[i]'hi).data.length) : CrAt L ks ns (i + 1) (k + 1) (P ++ [crF (L[i]'hi) (ks.getD k 0) (ns.getD k 0)]) := by
  refine ⟨by simp [h.len], by have := h.used; omega, ?_⟩
  rw [h.rest, List.drop_eq_getElem_cons hi, crL, if_pos hf, headD_drop, headD_drop]
  simp
theorem CrAt.done {L : List AF} {ks ns : List Int} {i k : Nat} {P : List AF} (h : CrAt L ks ns i k P) (hi : i = L.length) : crL L ks ns = P := by
  rw [h.rest, hi, List.drop_length, crL]
  simp
/-- The list as it lies there meanwhile. -/
theorem CrAt.get {L : List AF} {ks ns : List Int} {i k : Nat} {P : List AF} (h : CrAt L ks ns i k P) (hi : i < L.length) : ∃ hh : i < (P ++ L.drop i).length, (P ++ L.drop i)[i]'hh = L[i]'hi := by
  have hh : i < (P ++ L.drop i).length := by rw [List.length_append, h.len, List.length_drop]; omega
  refine ⟨hh, ?_⟩
  have : (P ++ L.drop i)[i]? = some (L[i]'hi) := by
    rw [List.getElem?_append_right (by rw [h.len]; exact Nat.le_refl _), h.len, Nat.sub_self, List.getElem?_drop, Nat.add_zero, List.getElem?_eq_getElem hi]
  rw [List.getElem?_eq_getElem hh] at this
  exact Option.some.inj this
theorem CrAt.set {L : List AF} {ks ns : List Int} {i k : Nat} {P : List AF} (h : CrAt L ks ns i k P) (hi : i < L.length) (x : AF) : (P ++ L.drop i).set i x = (P ++ [x]) ++ L.drop (i + 1) := by
  have h1 : (L.drop i).set 0 x = x :: L.drop (i + 1) := by rw [List.drop_eq_getElem_cons hi]; rfl
  rw [List.set_append_right _ _ (by rw [h.len]; exact Nat.le_refl _), h.len, Nat.sub_self, h1, List.append_assoc]
  rfl
theorem CrAt.same {L : List AF} {ks ns : List Int} {i k : Nat} {P : List AF} (h : CrAt L ks ns i k P) (hi : i < L.length) : P ++ L.drop i = (P ++ [L[i]'hi]) ++ L.drop (i + 1) := by
  rw [List.drop_eq_getElem_cons hi]
  simp
end Go.Proofs.YtbidglefddmjhaaGreatDoor

/-
  LAYER 2 (disk), THE DOCUMENT's ANSWER: Crash.
-/
namespace Go.Proofs.YtbidglefddmjhaaGreatDoor
open Go.RowKit Go.Maps
set_option linter.unusedVariables false
set_option maxRecDepth 100000
section
variable {w w' : World} {S : Nat → Prop} {r : Nat} {v : Value} {s : Dk}

theorem set_take_drop {L : List AF} {i : Nat} (hi : i < L.length) (x : AF) : L.set i x = L.take i ++ x :: L.drop (i + 1) := by
  rw [List.set_eq_take_append_cons_drop, if_pos hi]
/-- One file crashed where it stands. -/
theorem Ok_setCr {M : List AF} (h : ({ s with L := M } : Dk).Ok) {i : Nat} (hi : i < M.length) (k z : Int) : ({ s with L := M.set i (crF M[i] k z) } : Dk).Ok := by
  have h1 := Ok_crF h M[i].name k z
  rw [show ({ s with L := M } : Dk).L = M from rfl, updK_set h.rise hi, ← set_take_drop hi] at h1
  exact h1
/-- What the document's loop makes of one file. -/
theorem crF_eq (f : AF) (k z : Int) (m : Nat) (hs : f.synced ≤ f.data.length) (hm : (m : Int) = f.synced + max 0 (min k ((f.data.length : Int) - f.synced))) :
    m ≤ f.data.length ∧ (m = f.synced → crF f k z = ⟨f.name, f.data.take m, m⟩) ∧ (f.synced < m → ∃ hl : m - 1 < f.data.length, crF f k z = ⟨f.name, (f.data.take m).set (m - 1) ((f.data[m - 1]'hl) ^^^ noiseByte z), m⟩) := by
  have hk : f.synced + min (max k 0).toNat (f.data.length - f.synced) = m := by omega
  refine ⟨by omega, fun h => ?_, fun h => ⟨by omega, ?_⟩⟩
  · unfold crF
    have h0 : min (max k 0).toNat (f.data.length - f.synced) = 0 := by omega
    simp only [h0, if_true]
    rw [show f.synced + 0 = m by omega]
  · unfold crF
    have h0 : min (max k 0).toNat (f.data.length - f.synced) ≠ 0 := by omega
    simp only [hk, if_neg h0]
    have hg : f.data.getD (m - 1) 0 = f.data[m - 1]'(by omega) := by simp [List.getD, show m - 1 < f.data.length by omega]
    rw [hg]

/-- The three cells of a file stored anew. -/
theorem rep_put3 {wr w1 : World} {g n cap i : Nat} {M : List AF} (h : RefRep wr S r (.slice (some ⟨g, 0, none⟩) n cap) { s with L := M }) (hb : Below wr.heap.size wr w1) (hi : i < M.length) {d' : List UInt8} {m : Nat} (f' : AF) (hf : f' = ⟨M[i].name, d', m⟩) (hok : ({ s with L := M.set i f' } : Dk).Ok) :
    RefRep (((w1.setCell ⟨g, i * 3, none⟩ (.string (mk M[i].name))).setCell ⟨g, i * 3 + 1, none⟩ (.string (mk d'))).setCell ⟨g, i * 3 + 2, none⟩ (.int .i64 (m : Int))) S r (.slice (some ⟨g, 0, none⟩) n cap) { s with L := M.set i f' } := by
  subst hf
  have h1 := h.below hb
  have hgr : r ≠ g := fun e => h1.apart (by rw [e]; rfl)
  have r1 := RefRow.putRow (w := w1) h1.row hi (k := 0) (by omega) (.string (mk M[i].name)) M[i] (by simp [fcells])
  have hi2 : i < (M.set i M[i]).length := by simpa using hi
  have r2 := r1.putRow hi2 (k := 1) (by omega) (.string (mk d')) ⟨M[i].name, d', M[i].synced⟩ (by simp [fcells])
  have hi3 : i < ((M.set i M[i]).set i ⟨M[i].name, d', M[i].synced⟩).length := by simpa using hi
  have r3 := r2.putRow hi3 (k := 2) (by omega) (.int .i64 (m : Int)) ⟨M[i].name, d', m⟩ (by simp [fcells])
  rw [List.set_set, List.set_set, Nat.add_zero] at r3
  refine ⟨?_, r3, h1.apart, h1.inS, fun b hb' => ?_, hok⟩
  · exact ((h1.head.other (p := ⟨g, i * 3, none⟩) hgr _).other (p := ⟨g, i * 3 + 1, none⟩) hgr _).other (p := ⟨g, i * 3 + 2, none⟩) hgr _
  · have := h1.lt b hb'
    simpa only [setCell_size] using this
theorem chg_put3 {w wr w1 : World} {g i : Nat} (hc : Chg S w wr) (hb : Below wr.heap.size wr w1) (hg : S g) (a b c : Value) : Chg S w (((w1.setCell ⟨g, i * 3, none⟩ a).setCell ⟨g, i * 3 + 1, none⟩ b).setCell ⟨g, i * 3 + 2, none⟩ c) := by
  have h1 : Chg S w w1 := hc.trans (T := fun _ => False) (Chg.of_below hb) (fun _ e => e.elim)
  refine ((h1.trans (Chg.setCell _ ⟨g, i * 3, none⟩ _) (fun b e => .inl (by rw [e]; exact hg))).trans (Chg.setCell _ ⟨g, i * 3 + 1, none⟩ _) (fun b e => .inl (by rw [e]; exact hg))).trans (Chg.setCell _ ⟨g, i * 3 + 2, none⟩ _) (fun b e => .inl (by rw [e]; exact hg))
theorem RefRep.drewN {w : World} (h : RefRep w S r v s) (n : Nat) : RefRep (w.drewN n) S r v s := h.same (Nat.le_refl _) (fun _ _ => rfl)

def RCrRel (w : World) (S : Nat → Prop) (r : Nat) (v : Value) (s : Dk) (ks ns : List Int) (u6 u7 : Value) (wr : World) : Prop :=
  ∃ (i k : Nat) (P : List AF), i ≤ s.L.length ∧ u6 = .int .i64 k ∧ u7 = .int .i64 i ∧ CrAt s.L ks ns i k P ∧ RefRep wr S r v { s with L := P ++ s.L.drop i } ∧ Chg S w wr

set_option maxHeartbeats 8000000 in
theorem refCrash_any (h : RefRep w S r v s) {B : Nat} (hB : B ≤ w.heap.size) (hSB : ∀ b, S b → B ≤ b) {kv nv : Value} {ks ns : List Int} (hkv : IntsAt w B kv ks) (hnv : IntsAt w B nv ns) (hkl : ks.length ≤ 1000) (hnl : ns.length ≤ 1000)
    (hk64 : ∀ n ∈ ks, -9223372036854775808 ≤ n ∧ n ≤ 9223372036854775807) :
    Calls Tryz.prog 55 #[.pointer (some ⟨r, 0, none⟩), kv, nv] w (RefTail w S r (crash s ks ns)) := by
  obtain ⟨ao, cap, rfl, hcap, -⟩ := h.row.slice
  have HH := hid h
  have hmany := h.ok.many
  have HK := hid hkv
  have HN := hid hnv
  have Hlt := hid h.lt
  obtain ⟨ka, kc, rfl, _⟩ := hkv
  obtain ⟨na, nc, rfl, _⟩ := hnv
  clear h
  go_enter Tryz.func55, Tryz.ntmps55
  go_wp2
  go_loopw [6, 7] (RCrRel w S r (.slice ao s.L.length cap) s ks ns) (fun _ i _ => s.L.length - (intOf i).toNat)
  case atStart => exact ⟨0, 0, [], Nat.zero_le _, rfl, rfl, CrAt.start _ _ _, by simpa using HH.out, Chg.refl _ _⟩
  case round =>
    obtain ⟨i, k, P, hil, rfl, rfl, hC, hR, hc⟩ := hrel
    have c0 := hR.head.cell 0
    simp at c0
    by_cases hi : i < s.L.length
    · obtain ⟨hiM, hMi⟩ := hC.get hi
      have hlenM : (P ++ s.L.drop i).length = s.L.length := by rw [List.length_append, hC.len, List.length_drop]; omega
      have hrow := hR.row
      rw [← hlenM] at hrow
      obtain ⟨g, rfl, hg, hcells, hfz⟩ := hrow.at hiM
      obtain ⟨q0, q1, q2⟩ := hcells i hiM
      rw [hMi] at q0 q1 q2
      have f0 := hfz (i * 3)
      have f1 := hfz (i * 3 + 1)
      have f2 := hfz (i * 3 + 2)
      have hfm : s.L[i]'hi ∈ s.L := List.getElem_mem hi
      have hsy := HH.out.ok.sync _ hfm
      have hdl : (s.L[i]'hi).data.length ≤ 10000000 := by
        have := HH.out.ok.room; have := HH.out.ok.most; have := sz_mem hfm; omega
      have hiI : (i : Int) < (s.L.length : Int) := by omega
      have hmI : (s.L.length : Int) ≤ 40 := by omega
      have hkI : (k : Int) ≤ (i : Int) := by have := hC.used; omega
      have hrl := hR.head.lt
      by_cases hf : (s.L[i]'hi).synced < (s.L[i]'hi).data.length
      · have hkr : -9223372036854775808 ≤ ks.getD k 0 ∧ ks.getD k 0 ≤ 9223372036854775807 := by
          by_cases hkk : k < ks.length
          · have : ks.getD k 0 ∈ ks := by rw [show ks.getD k 0 = ks[k] by simp [List.getD, hkk]]; exact List.getElem_mem hkk
            exact hk64 _ this
          · rw [show ks.getD k 0 = 0 by simp [List.getD, List.getElem?_eq_none (Nat.le_of_not_lt hkk)]]; omega
        obtain ⟨m, hm⟩ : ∃ m : Nat, (m : Int) = (s.L[i]'hi).synced + max 0 (min (ks.getD k 0) (((s.L[i]'hi).data.length : Int) - (s.L[i]'hi).synced)) := ⟨((s.L[i]'hi).synced + max 0 (min (ks.getD k 0) (((s.L[i]'hi).data.length : Int) - (s.L[i]'hi).synced))).toNat, by omega⟩
        obtain ⟨hm1, hmA, hmB⟩ := crF_eq (s.L[i]'hi) (ks.getD k 0) (ns.getD k 0) m hsy hm
        have hok := Ok_setCr hR.ok hiM (ks.getD k 0) (ns.getD k 0)
        rw [hMi] at hok
        have hput : ∀ wx, Below wr.heap.size wr wx → ∀ d', crF (s.L[i]'hi) (ks.getD k 0) (ns.getD k 0) = ⟨(s.L[i]'hi).name, d', m⟩ → ∀ q, RCrRel w S r (.slice (some ⟨g, 0, none⟩) s.L.length cap) s ks ns (.int .i64 ((k + 1 : Nat) : Int)) (.int .i64 ((i + 1 : Nat) : Int))
            ((((wx.setCell ⟨g, i * 3, none⟩ (.string (mk (s.L[i]'hi).name))).setCell ⟨g, i * 3 + 1, none⟩ (.string (mk d'))).setCell ⟨g, i * 3 + 2, none⟩ (.int .i64 (m : Int))).drewN q) := by
          intro wx hb d' hd q
          have h3 := rep_put3 hR hb hiM (d' := d') (m := m) (crF (s.L[i]'hi) (ks.getD k 0) (ns.getD k 0)) (by rw [hMi]; exact hd) hok
          rw [hMi, hC.set hi] at h3
          exact ⟨i + 1, k + 1, P ++ [crF (s.L[i]'hi) (ks.getD k 0) (ns.getD k 0)], hi, rfl, rfl, hC.turn hi hf, h3.drewN q, (chg_put3 hc hb (hR.inS.2 g rfl) _ _ _).drewN q⟩
        have HPut := hid hput
        have hHA : ∀ (v : Value) (xs : List Int), IntsAt w B v xs → xs.length ≤ 1000 → ∀ wx, Below wr.heap.size wr wx → Calls Tryz.prog 116 #[v, .int .i64 (k : Int)] wx fun e w' => e = .returned (.int .i64 (xs.getD k 0)) ∧ wx = w' := fun v xs hv hx wx hb =>
          refAt_any v xs wx (hv.same (fun b hbB => by
            have h1 := hc.block b (by omega) (fun hS => by have := hSB b hS; omega)
            rw [hb.block b (by have := hc.size; omega), h1])) hx k (by omega)
        have HA1 := hid (hHA _ _ HK.out hkl)
        have HA2 := hid (hHA _ _ HN.out hnl)
        have hd2 : (mk (s.L[i]'hi).data).size ≤ 10000000 := by rw [mk_size]; exact hdl
        have hmd : (m : Int) ≤ (mk (s.L[i]'hi).data).size := by rw [mk_size]; omega
        have hq0 : (((mk (s.L[i]'hi).data).size : Int) - ((s.L[i]'hi).synced : Int) == 0) = false := by rw [mk_size]; exact beq_eq_false_iff_ne.2 (by omega)
        rw [← mk_size (s.L[i]'hi).data] at hm
        have l1 := fun wx => slice_h (s := mk (s.L[i]'hi).data) (hi := (m : Int)) (l := (s.L[i]'hi).data.take m) (by omega) hmd (by rw [mk_data]; rfl) wx
        have hsI : ((s.L[i]'hi).synced : Int) ≤ (mk (s.L[i]'hi).data).size := by rw [mk_size]; omega
        have hW1 : IntKind.i64.wrap (((mk (s.L[i]'hi).data).size : Int) - ((s.L[i]'hi).synced : Int)) = ((mk (s.L[i]'hi).data).size : Int) - ((s.L[i]'hi).synced : Int) := IntWalk.i64_in _ (by omega)
        have hms : ((s.L[i]'hi).synced : Int) ≤ (m : Int) := by omega
        obtain ⟨K, hK⟩ : ∃ K, max 0 (min (ks.getD k 0) (((mk (s.L[i]'hi).data).size : Int) - ((s.L[i]'hi).synced : Int))) = K := ⟨_, rfl⟩
        rw [hK] at hm
        have hmore : ∀ w5, Below wr.heap.size wr w5 → w5.heap[wr.heap.size]? = some (.cells #[.string (mk (s.L[i]'hi).name), .string (mk (s.L[i]'hi).data), .int .i64 ((s.L[i]'hi).synced : Int)] 104 (0, 0)) →
            (w5.cell? ⟨r, 0, none⟩ = some (.slice (some ⟨g, 0, none⟩) s.L.length cap) ∧ w5.cell? ⟨wr.heap.size, 0, none⟩ = some (.string (mk (s.L[i]'hi).name)) ∧ w5.cell? ⟨wr.heap.size, 1, none⟩ = some (.string (mk (s.L[i]'hi).data)) ∧ w5.cell? ⟨wr.heap.size, 2, none⟩ = some (.int .i64 ((s.L[i]'hi).synced : Int))) ∧
            (w5.cell? ⟨g, i * 3, none⟩ = some (.string (mk (s.L[i]'hi).name)) ∧ w5.cell? ⟨g, i * 3 + 1, none⟩ = some (.string (mk (s.L[i]'hi).data)) ∧ w5.cell? ⟨g, i * 3 + 2, none⟩ = some (.int .i64 ((s.L[i]'hi).synced : Int))) ∧
            (w5.frozen? ⟨g, i * 3, none⟩ = false ∧ w5.frozen? ⟨g, i * 3 + 1, none⟩ = false ∧ w5.frozen? ⟨g, i * 3 + 2, none⟩ = false) := fun w5 hb hx =>
          ⟨⟨(hb.cell (p := ⟨r, 0, none⟩) hrl).trans c0, (own.cell hx 0).trans rfl, (own.cell hx 1).trans rfl, (own.cell hx 2).trans rfl⟩, ⟨(hb.cell (p := ⟨g, i * 3, none⟩) hg).trans q0, (hb.cell (p := ⟨g, i * 3 + 1, none⟩) hg).trans q1, (hb.cell (p := ⟨g, i * 3 + 2, none⟩) hg).trans q2⟩,
            ⟨(hb.frozen (p := ⟨g, i * 3, none⟩) hg).trans f0, (hb.frozen (p := ⟨g, i * 3 + 1, none⟩) hg).trans f1, (hb.frozen (p := ⟨g, i * 3 + 2, none⟩) hg).trans f2⟩⟩
        have HM := hid hmore
        have HB := hid (fun (q : Nat) => (⟨below_drew (Below.alloc (Below.refl wr.heap.size wr) (Nat.le_refl _) _) q, own.new wr #[.string (mk (s.L[i]'hi).name), .string (mk (s.L[i]'hi).data), .int .i64 ((s.L[i]'hi).synced : Int)] 104⟩ : Below wr.heap.size wr ((wr.alloc (.cells #[.string (mk (s.L[i]'hi).name), .string (mk (s.L[i]'hi).data), .int .i64 ((s.L[i]'hi).synced : Int)] 104)).drewN q) ∧ own (wr.alloc (.cells #[.string (mk (s.L[i]'hi).name), .string (mk (s.L[i]'hi).data), .int .i64 ((s.L[i]'hi).synced : Int)] 104)) wr.heap.size #[.string (mk (s.L[i]'hi).name), .string (mk (s.L[i]'hi).data), .int .i64 ((s.L[i]'hi).synced : Int)] 104))
        clear hput hcells hfz hrow hMi hfm hsy hdl hf hR hC hc hlenM hiM hok hHA hkr hm1 hmore
        have hlt0 : wr.heap.size < wr.heap.size + 1 := Nat.lt_succ_self _
        by_cases hme : m = (s.L[i]'hi).synced
        · have hd := hmA hme
          have hsum : ((s.L[i]'hi).synced : Int) + K = ((s.L[i]'hi).synced : Int) := by omega
          have hW2 : IntKind.i64.wrap (((s.L[i]'hi).synced : Int) + K) = ((s.L[i]'hi).synced : Int) := by rw [hsum]; exact IntWalk.i64_in _ (by omega)
          rw [hme] at l1 hd HPut
          have HPu := hid (fun wx hb => HPut.out wx hb _ hd)
          clear hm hmA hmB hms hme hmd HPut hd
          generalize mk (s.L[i]'hi).data = db at *
          generalize mk (s.L[i]'hi).name = nb at *
          generalize (s.L[i]'hi).data.take (s.L[i]'hi).synced = d' at *
          generalize (s.L[i]'hi).synced = sy at *
          generalize ks.getD k 0 = kk at *
          generalize ns.getD k 0 = zz at *
          go_wp2
          go_quiet ((go_at_call 116; exact quiet_eq (HA1.out _ (below_drew (Below.alloc (Below.refl _ _) (Nat.le_refl _) _) _))))
          go_wp2
          obtain ⟨cap2, w5, hrun, hrow5, hb5, hcap5, hsz5⟩ := run_bytes ((wr.alloc (.cells #[.string nb, .string db, .int .i64 (sy : Int)] 104)).drewN nq) (mk d')
          rw [hrun]
          simp only [Result.andThen]
          rw [Oper.upon_value]
          obtain ⟨hbA, hoA⟩ := HB.out nq
          have hb6 : Below wr.heap.size wr w5 := hbA.trans (hb5.mono hbA.size)
          obtain ⟨⟨x0, x1, x2, x3⟩, ⟨y0, y1, y2⟩, z0, z1, z2⟩ := HM.out w5 hb6 ((hb5.block _ (own.lt hoA)).trans hoA)
          have hrs := run_string (w := w5.drew) (n := (mk d').size) (cap := cap2) (mk_size d') hrow5.2.1
          have HB6 := hid hb6
          clear hrow5 hb5 hcap5 hsz5 hbA hoA hrun hb6
          generalize ((wr.alloc (.cells #[.string nb, .string db, .int .i64 (sy : Int)] 104)).drewN nq).heap.size = gB at *
          go_wp2
          go_still_tail 12, (by kernel_rfl)
          change wpList _ _ _ _ _ w5.drew
          go_wp2
          go_roundw
          case rel => exact HPu.out _ HB6.out.drew 0
          case measure => simp [intOf]; omega
        · have hlt1 : (s.L[i]'hi).synced < m := by omega
          obtain ⟨hl1, hd0⟩ := hmB hlt1
          obtain ⟨j, rfl⟩ : ∃ j, m = j + 1 := ⟨m - 1, by omega⟩
          have hj : j < (s.L[i]'hi).data.length := by omega
          have hd : crF (s.L[i]'hi) (ks.getD k 0) (ns.getD k 0) = ⟨(s.L[i]'hi).name, ((s.L[i]'hi).data.take (j + 1)).set j ((s.L[i]'hi).data[j]'hj ^^^ noiseByte (ns.getD k 0)), j + 1⟩ := hd0
          have hsum : ((s.L[i]'hi).synced : Int) + K = (j : Int) + 1 := by omega
          have hW2 : IntKind.i64.wrap (((s.L[i]'hi).synced : Int) + K) = (j : Int) + 1 := by rw [hsum]; exact IntWalk.i64_in _ (by omega)
          have hsj : ((s.L[i]'hi).synced : Int) < (j : Int) + 1 := by omega
          have l1 : ∀ wx, (Instr.slice 9 (.string (mk (s.L[i]'hi).data)) none (some (.int .i64 ((j : Int) + 1))) none).run Tryz.prog wx = .ok (.string (mk ((s.L[i]'hi).data.take (j + 1)))) wx := fun wx => l1 wx
          have hjd : (j : Int) + 1 ≤ (mk (s.L[i]'hi).data).size := by omega
          have HPu := hid (fun wx hb => HPut.out wx hb _ hd)
          have hget : ((s.L[i]'hi).data.take (j + 1))[j]? = some ((s.L[i]'hi).data[j]'hj) := by rw [List.getElem?_take_of_lt (by omega), List.getElem?_eq_getElem hj]
          have hxor := byte_xor ((s.L[i]'hi).data[j]'hj) (ns.getD k 0)
          have HX := hid hxor
          clear hxor
          have hlen : j < ((s.L[i]'hi).data.take (j + 1)).length := by rw [List.length_take]; omega
          clear hm hmA hmB hms hme hmd HPut hd hd0 hlt1 hl1
          generalize ((s.L[i]'hi).data[j]'hj ^^^ noiseByte (ns.getD k 0)) = nu at *
          generalize (s.L[i]'hi).data[j]'hj = old at *
          clear hj
          generalize mk (s.L[i]'hi).data = db at *
          generalize mk (s.L[i]'hi).name = nb at *
          generalize (s.L[i]'hi).data.take (j + 1) = d' at *
          generalize (s.L[i]'hi).synced = sy at *
          generalize ks.getD k 0 = kk at *
          generalize ns.getD k 0 = zz at *
          go_wp2
          go_quiet ((go_at_call 116; exact quiet_eq (HA1.out _ (below_drew (Below.alloc (Below.refl _ _) (Nat.le_refl _) _) _))))
          go_wp2
          obtain ⟨cap2, w5, hrun, hrow5, hb5, hcap5, hsz5⟩ := run_bytes ((wr.alloc (.cells #[.string nb, .string db, .int .i64 (sy : Int)] 104)).drewN nq) (mk d')
          rw [hrun]
          simp only [Result.andThen]
          rw [Oper.upon_value]
          obtain ⟨hbA, hoA⟩ := HB.out nq
          have hb6 : Below wr.heap.size wr w5 := hbA.trans (hb5.mono hbA.size)
          have hgB : wr.heap.size + 1 = ((wr.alloc (.cells #[.string nb, .string db, .int .i64 (sy : Int)] 104)).drewN nq).heap.size := by simp [World.drewN]
          have hx5 := (hb5.block _ (own.lt hoA)).trans hoA
          obtain ⟨⟨x0, x1, x2, x3⟩, ⟨y0, y1, y2⟩, z0, z1, z2⟩ := HM.out w5 hb6 hx5
          rw [mk_data] at hrow5
          have c5 := hrow5.2.1 j old hget
          have g5 := hrow5.2.2 j hlen
          have HRow := hid hrow5
          have HB6 := hid hb6
          have HX5 := hid hx5
          have HGB := hid hgB
          have hdz : (j : Int) < ((mk d').size : Int) := by rw [mk_size]; omega
          clear hrow5 hb5 hcap5 hsz5 hbA hoA hrun hb6 hx5 hgB hget
          generalize ((wr.alloc (.cells #[.string nb, .string db, .int .i64 (sy : Int)] 104)).drewN nq).heap.size = gB at *
          have hW3 : IntKind.i64.wrap ((j : Int) + 1 - 1) = (j : Int) := by rw [show (j : Int) + 1 - 1 = j by omega]; exact IntWalk.i64_in _ (by omega)
          go_wp2
          have hb6d : Below wr.heap.size wr w5.drew := HB6.out.drew
          have hW4 : IntKind.i64.wrap (j : Int) = (j : Int) := IntWalk.i64_in _ (by omega)
          go_region_with (go_at_call 116; (with_reducible refine (HA2.out _ hb6d).mono ?_); rintro e w6 ⟨rfl, rfl⟩)
          all_goals
            have hrow6 := HRow.out.set j hlen nu _ HX.out
            have hb7 : Below wr.heap.size wr (w5.setCell ⟨gB, j, none⟩ (.int .u8 (bits .xor .u8 (old.toNat : Int) (IntKind.u8.wrap zz)))).drew := (HB6.out.setCell (p := ⟨gB, j, none⟩) (by have := HGB.out; show wr.heap.size ≤ gB; omega) _).drew
            have hx7 : (w5.setCell ⟨gB, j, none⟩ (.int .u8 (bits .xor .u8 (old.toNat : Int) (IntKind.u8.wrap zz)))).drew.heap[wr.heap.size]? = some (.cells #[.string nb, .string db, .int .i64 (sy : Int)] 104 (0, 0)) :=
              (Below.heap_setCell w5 ⟨gB, j, none⟩ _ _ (by have := HGB.out; show wr.heap.size ≠ gB; omega)).trans HX5.out
            obtain ⟨⟨x0, x1, x2, x3⟩, ⟨y0, y1, y2⟩, z0, z1, z2⟩ := HM.out _ hb7 hx7
            have hrow7 : RowAt (w5.setCell ⟨gB, j, none⟩ (.int .u8 (bits .xor .u8 (old.toNat : Int) (IntKind.u8.wrap zz)))).drew gB gB (d'.set j nu) := hrow6
            have hrs := run_string (w := (w5.setCell ⟨gB, j, none⟩ (.int .u8 (bits .xor .u8 (old.toNat : Int) (IntKind.u8.wrap zz)))).drew.drew) (g := gB) (n := (mk d').size) (cap := cap2) (by rw [mk_size, List.length_set]) hrow7.2.1
            have HB7 := hid hb7
            clear hrow6 hrow7 hb7 hx7 hb6d
            generalize (w5.setCell ⟨gB, j, none⟩ (.int .u8 (bits .xor .u8 (old.toNat : Int) (IntKind.u8.wrap zz)))).drew = w7 at *
            go_wp2
            go_still_tail 12, (by kernel_rfl)
            change wpList _ _ _ _ _ w7.drew
            go_wp2
            go_roundw
            case rel => exact HPu.out _ HB7.out.drew 0
            case measure => simp [intOf]; omega
      · have hs : (s.L[i]'hi).synced = (mk (s.L[i]'hi).data).size := by rw [mk_size]; omega
        rw [hs] at q2
        have hrel : ∀ wx, Below wr.heap.size wr wx → RCrRel w S r (.slice (some ⟨g, 0, none⟩) s.L.length cap) s ks ns (.int .i64 k) (.int .i64 ((i + 1 : Nat) : Int)) wx := fun wx hb => by
          refine ⟨i + 1, k, P ++ [s.L[i]'hi], hi, rfl, rfl, hC.keep hi hf, ?_, hc.trans (T := fun _ => False) (Chg.of_below hb) (fun _ e => e.elim)⟩
          rw [← hC.same hi]
          exact hR.below hb
        have HR := hid hrel
        have hd2 : (mk (s.L[i]'hi).data).size ≤ 10000000 := by rw [mk_size]; exact hdl
        clear hrel hcells hfz hrow hMi hfm hsy hdl hf hs hR hC hc hlenM hiM
        generalize mk (s.L[i]'hi).data = db at *
        generalize mk (s.L[i]'hi).name = nb at *
        go_wp2
        go_roundw
        case rel => exact HR.out _ (Below.alloc (Below.refl _ _) (Nat.le_refl _) _)
        case measure => simp [intOf]; omega
    · obtain rfl : i = s.L.length := by omega
      have hd := hC.done rfl
      have hRe := hR
      have hL : P ++ s.L.drop s.L.length = crL s.L ks ns := by rw [List.drop_length, List.append_nil, hd]
      have e2 := hR.head.cell 2
      have e3 := hR.head.cell 3
      have g2 := hR.head.frozen 2
      have g3 := hR.head.frozen 3
      have hw1 := hR.head.set 2 (.int .i64 (-1))
      have hw2 := hw1.set 3 (.bool false)
      have e3' := hw1.cell 3
      have g3' := hw1.frozen 3
      simp at e2 e3 e3'
      have hcr : Chg (fun b => b = r) wr ((wr.setCell ⟨r, 2, none⟩ (.int .i64 (-1))).setCell ⟨r, 3, none⟩ (.bool false)) := (Chg.setCell wr ⟨r, 2, none⟩ _).trans (Chg.setCell _ ⟨r, 3, none⟩ _) (fun b hb => .inl hb)
      have hT := hR.turn (fu := -1) (dd := false) (by simpa using hw2) hcr (by omega)
      have hcw : Chg S w ((wr.setCell ⟨r, 2, none⟩ (.int .i64 (-1))).setCell ⟨r, 3, none⟩ (.bool false)) := hc.trans hcr (fun b e => .inl (by rw [e]; exact hR.inS.1))
      have hfin : RefTail w S r (crash s ks ns) (.returned (.tuple #[])) ((wr.setCell ⟨r, 2, none⟩ (.int .i64 (-1))).setCell ⟨r, 3, none⟩ (.bool false)) := by
        refine ⟨rfl, ⟨.slice ao s.L.length cap, ?_⟩, hcw⟩
        have h5 := hT.widen (T := grow S w ((wr.setCell ⟨r, 2, none⟩ (.int .i64 (-1))).setCell ⟨r, 3, none⟩ (.bool false))) grow_mono (grow_lt Hlt.out hcw.size)
        have : ({ ({ s with L := P ++ s.L.drop s.L.length } : Dk) with fuse := -1, dead := false } : Dk) = crash s ks ns := by unfold crash; rw [hL]
        rw [this] at h5
        exact h5
      have HF := hid hfin
      clear hfin hcw hT hcr hw1 hw2 hR hRe hC hc hd hL
      go_wp2
      go_end0
      exact HF.out
end
end Go.Proofs.YtbidglefddmjhaaGreatDoor

