import Derived.Test.YtpcafkinpkepcaaGreatDoorWq26
import Derived.Deep.RegionHeld3
/-
  Wq33: RkD, RkE, in one text.
-/
/-
  LAYER 2 (disk), THE DOCUMENT's ANSWER: a field of a file turned; Sync.
-/
namespace Go.Proofs.YtpcafkinpkepcaaGreatDoor
open Go.RowKit Go.Maps
set_option linter.unusedVariables false
set_option maxRecDepth 100000
section
variable {w w' : World} {S : Nat → Prop} {r : Nat} {v : Value} {s : Dk}

theorem RefRow.at_n {ao : Option Addr} {n cap : Nat} {L : List AF} (h : RefRow w (.slice ao n cap) L) (hn : n = L.length) {i : Nat} (hi : i < L.length) : ∃ g, ao = some ⟨g, 0, none⟩ ∧ g < w.heap.size ∧
    (∀ (k : Nat) (hk : k < L.length), w.cell? ⟨g, k * 3, none⟩ = some (.string (mk L[k].name)) ∧ w.cell? ⟨g, k * 3 + 1, none⟩ = some (.string (mk L[k].data)) ∧ w.cell? ⟨g, k * 3 + 2, none⟩ = some (.int .i64 (L[k].synced : Int))) ∧ ∀ j, w.frozen? ⟨g, j, none⟩ = false := by
  subst hn; exact h.at hi
theorem RefRep.put {g n cap : Nat} (h : RefRep w S r (.slice (some ⟨g, 0, none⟩) n cap) s) {i k : Nat} (hi : i < s.L.length) (hk : k < 3) (u : Value) (f' : AF) (hf : (fcells s.L[i]).set k u = fcells f') (hok : ({ s with L := s.L.set i f' } : Dk).Ok) :
    RefRep (w.setCell ⟨g, i * 3 + k, none⟩ u) S r (.slice (some ⟨g, 0, none⟩) n cap) { s with L := s.L.set i f' } := by
  have hne : r ≠ g := fun e => h.apart (by rw [e]; rfl)
  refine ⟨h.head.other hne u, ?_, h.apart, h.inS, fun b hb => by rw [setCell_size]; exact h.lt b hb, hok⟩
  have h1 := ownsRow_set h.row (g := g) rfl (j := i * 3 + k) (by rw [flat_length]; omega) u
  rw [flat_set hi hk hf] at h1
  unfold RefRow
  simpa using h1
theorem RefRep.done (h : RefRep w S r v s) {s' : Dk} {v' : Value} (hx : RefRep w' S r v' s') (hc : Chg S w w') (k : Int) : RefPost w S r (s', k) (.returned (.int .i64 k)) w' := ⟨rfl, ⟨v', hx.widen grow_mono (grow_lt h.lt hc.size)⟩, hc⟩
theorem RefRep.drew (h : RefRep w S r v s) : RefRep w.drew S r v s := h.below (Below.drew (Below.refl _ _))
/-- there, then turn: nothing else is done where one of them says no. -/
theorem turn_hid (w : World) (h : RefRep w S r v s) (k : Int) (hk : spendV s.fuse = k) (s' : Dk) (hs : spendTo s = s') : Calls Tryz.prog 76 #[.pointer (some ⟨r, 0, none⟩)] w fun e w' =>
    e = .returned (.int .i64 k) ∧ RefRep w' S r v s' ∧ Chg (fun b => b = r) w w' ∧ w'.heap.size = w.heap.size := by
  subst hk; subst hs
  exact refTurn_any h
theorem turn_dead (h : RefRep w S r v s) (h0 : s.fuse = 0) {w1 : World} (hb1 : Below w.heap.size w w1) : Calls Tryz.prog 76 #[.pointer (some ⟨r, 0, none⟩)] w1 (RefPost w S r (spendTo s, 7)) := by
  refine (turn_hid w1 (h.below hb1) 7 (if_pos h0) _ rfl).mono ?_
  rintro e w2 ⟨rfl, hx, hc, hz⟩
  exact h.done hx ((Chg.of_below hb1).trans hc (fun b e => .inl (by rw [e]; exact h.inS.1))) 7

def SyncTurned (w : World) (S : Nat → Prop) (r g i : Nat) (n cap : Nat) (db : ByteArray) (q : Dk × Int) (e : Ending) (w2 : World) : Prop := e = .returned (.int .i64 0) ∧ w2.cell? ⟨r, 0, none⟩ = some (.slice (some ⟨g, 0, none⟩) n cap) ∧ w2.cell? ⟨g, i * 3 + 1, none⟩ = some (.string db) ∧ (∃ z, w2.cell? ⟨g, i * 3 + 2, none⟩ = some z) ∧ w2.frozen? ⟨g, i * 3 + 2, none⟩ = false ∧ (w2.setCell ⟨g, i * 3 + 2, none⟩ (.int .i64 db.size)).drew.cell? ⟨r, 0, none⟩ = some (.slice (some ⟨g, 0, none⟩) n cap) ∧ (w2.setCell ⟨g, i * 3 + 2, none⟩ (.int .i64 db.size)).drew.cell? ⟨g, i * 3 + 1, none⟩ = some (.string db) ∧ Hid (RefPost w S r q (.returned (.int .i64 0)) (w2.setCell ⟨g, i * 3 + 2, none⟩ (.int .i64 db.size)).drew)

set_option maxHeartbeats 4000000 in
theorem refSync_any (h : RefRep w S r v s) (n : ByteArray) : Calls Tryz.prog 89 #[.pointer (some ⟨r, 0, none⟩), .string n] w (RefPost w S r (syn s n.data.toList)) := by
  have hT := refThere_any h n
  cases hf : (if s.dead then none else fndK AF.key n.data.toList s.L) with
  | none =>
    have hx : s.dead = true ∨ fndK AF.key n.data.toList s.L = none := by
      cases hd : s.dead with
      | true => exact .inl rfl
      | false => rw [hd] at hf; exact .inr hf
    obtain ⟨k, hk, e1, e2, _⟩ := there_fail n hx
    rw [e1] at hT
    unfold syn
    rw [e2]
    have HT := hid hT
    have HP := hid (fun w1 (hb : Below w.heap.size w w1) => RefPost.none h (k := k) hb)
    clear hf hx e1 e2 hT h
    rcases hk with rfl | rfl
    all_goals
      go_enter Tryz.func89, Tryz.ntmps89
      go_wp2_with (go_at_call 139; (with_reducible refine HT.out.mono ?_); rintro e w1 ⟨rfl, hb1⟩)
      go_ret
      exact HP.out _ hb1
  | some f =>
    have hd : s.dead = false := by
      cases hd : s.dead with
      | true => rw [hd] at hf; cases hf
      | false => rfl
    rw [hd] at hf
    have hf : fndK AF.key n.data.toList s.L = some f := hf
    obtain ⟨i, hi, e1, e2, hia, hname, e4, -⟩ := there_ok h.ok hd hf
    rw [e1] at hT
    have hq : syn s n.data.toList = spends s fun s => { s with L := updK AF.key n.data.toList syncF s.L } := e4 _
    have hok := Ok_syn h.ok n.data.toList
    rw [hq] at hok ⊢
    have HT := hid hT
    rw [spends_eq] at hok ⊢
    by_cases h0 : s.fuse = 0
    · rw [if_pos h0]
      have HU := hid (fun w1 hb => turn_dead h h0 (w1 := w1) hb)
      have HT2 := hid (fun w1 (hb : Below w.heap.size w w1) => hb)
      clear hf e1 e2 e4 hT h hq hok hd h0
      go_enter Tryz.func89, Tryz.ntmps89
      go_wp2_with (first
        | (go_at_call 139; (with_reducible refine HT.out.mono ?_); rintro e w1 ⟨rfl, hb1⟩)
        | (go_at_call 76; (with_reducible refine (HU.out _ hb1).mono ?_); rintro e w2 ⟨rfl, hR⟩; have HR := hid hR; clear hR))
      go_ret
      exact ⟨rfl, HR.out⟩
    · rw [if_neg h0] at hok ⊢
      obtain ⟨ao, cap, rfl, hcap, -⟩ := h.row.slice
      obtain ⟨g, rfl, hg, -, -⟩ := h.row.at hi
      have hup : updK AF.key n.data.toList syncF s.L = s.L.set i (syncF f) := by
        have hg2 : s.L[ahead AF.key n.data.toList s.L]? = some f := by rw [← hia, List.getElem?_eq_getElem hi, e2]
        have := updK_at (key := AF.key) (g := syncF) h.ok.rise hg2 hname
        rw [← hia] at this
        exact this
      have hsp : ∀ w1, Below w.heap.size w w1 → Calls Tryz.prog 76 #[.pointer (some ⟨r, 0, none⟩)] w1 (SyncTurned w S r g i s.L.length cap (mk f.data) ({ ticked s with L := updK AF.key n.data.toList syncF (ticked s).L }, 0)) := by
        intro w1 hb1
        refine (turn_hid w1 (h.below hb1) 0 (if_neg h0) (ticked s) (if_neg h0)).mono ?_
        rintro e w2 ⟨rfl, hx, hc, hz⟩
        have hc' : Chg S w w2 := (Chg.of_below hb1).trans hc (fun b e => .inl (by rw [e]; exact h.inS.1))
        have c0 := hx.head.cell 0
        obtain ⟨g', hg', hgl, hcells, hfz⟩ := hx.row.at hi
        obtain rfl : g = g' := by cases hg'; rfl
        have ht : (ticked s).L = s.L := rfl
        have hp := (hx.put hi (k := 2) (by omega) (.int .i64 ((mk f.data).size : Int)) (syncF f) (by
            have : (ticked s).L[i] = f := e2
            rw [this, mk_size]; rfl) (by rw [ht, ← hup]; exact hok)).drew
        have p0 := hp.head.cell 0
        have hil' : i < (s.L.set i (syncF f)).length := by rw [List.length_set]; exact hi
        obtain ⟨g', hg', -, pcells, -⟩ := RefRow.at_n (L := s.L.set i (syncF f)) hp.row (by rw [List.length_set]) hil'
        obtain rfl : g = g' := by cases hg'; rfl
        have p1 := (pcells i hil').2.1
        have d1 := (hcells i hi).2.1
        have e2' : (ticked s).L[i] = f := e2
        refine ⟨rfl, c0, by rw [← e2]; exact d1, ⟨_, (hcells i hi).2.2⟩, hfz _, p0, by rw [p1]; simp [syncF], hid ?_⟩
        have hup' : updK AF.key n.data.toList syncF (ticked s).L = s.L.set i (syncF f) := hup
        rw [hup']
        exact h.done hp ((hc'.trans (Chg.setCell _ _ _) (fun b e => .inl (by rw [e]; exact h.inS.2 _ rfl))).drewN 1) 0
      have HS := hid hsp
      have hcI : (i : Int) < (s.L.length : Int) := by omega
      have hmI : (s.L.length : Int) ≤ 40 := by have := h.ok.many; omega
      clear hf e1 e2 e4 hT h hq hok hd h0 hup hsp hname hia
      generalize ({ ticked s with L := updK AF.key n.data.toList syncF (ticked s).L } : Dk) = sd at *
      generalize mk f.data = db at *
      go_enter Tryz.func89, Tryz.ntmps89
      go_wp2_with (first
        | (go_at_call 139; (with_reducible refine HT.out.mono ?_); rintro e w1 ⟨rfl, hb1⟩)
        | (go_at_call 76; (with_reducible refine (HS.out _ hb1).mono ?_); rintro e w2 ⟨rfl, c0, c1, ⟨z, c2⟩, f2, p0, p1, HP⟩))
      go_region_held3 (fun wx => wx.cell? ⟨r, 0, none⟩ = some (.slice (some ⟨g, 0, none⟩) s.L.length cap) ∧ wx.cell? ⟨g, i * 3 + 1, none⟩ = some (.string db)) (first | exact ⟨c0, c1⟩ | exact ⟨p0, p1⟩ | go_keep) (fail)
      go_wp2
      go_ret
      exact HP.out
end
end Go.Proofs.YtpcafkinpkepcaaGreatDoor

/-
  LAYER 2 (disk), THE DOCUMENT's ANSWER: Delete, Fuse.
-/
namespace Go.Proofs.YtpcafkinpkepcaaGreatDoor
open Go.RowKit Go.Maps
set_option linter.unusedVariables false
set_option maxRecDepth 100000
section
variable {w w' : World} {S : Nat → Prop} {r : Nat} {v : Value} {s : Dk}

theorem RefRep.stored {w2 w3 : World} (h : RefRep w2 S r v s) {v' : Value} {L : List AF} (hrow : RefRow w3 v' L) (hv : ∀ b, v'.ownBlock = some b → w2.heap.size ≤ b) (hb : Below w2.heap.size w2 w3) (hok : ({ s with L := L } : Dk).Ok) :
    RefRep (w3.setCell ⟨r, 0, none⟩ v') (grow S w2 (w3.setCell ⟨r, 0, none⟩ v')) r v' { s with L := L } ∧ Chg S w2 (w3.setCell ⟨r, 0, none⟩ v') := by
  have hne : ∀ b, v'.ownBlock = some b → b ≠ r := fun b hb e => by have := hv b hb; have := h.head.lt; omega
  have h3 := h.below hb
  refine ⟨⟨by simpa using h3.head.set 0 v', ownsRow_same hrow (fun b hb => Below.heap_setCell _ _ _ _ (hne b hb)), fun e => hne r e rfl, ⟨.inl h.inS.1, fun b hb => .inr ⟨hv b hb, by rw [setCell_size]; exact (World.ownsRow.lt hrow b hb).2⟩⟩, grow_lt h.lt (by rw [setCell_size]; exact hb.size), hok⟩, (Chg.of_below hb).trans (Chg.setCell _ _ _) (fun b e => .inl (by rw [e]; exact h.inS.1))⟩
/-- What lies behind the call of without or with: a row, and the store of it. -/
def NewStored (w : World) (S : Nat → Prop) (r : Nat) (q : Dk × Int) (e : Ending) (w3 : World) : Prop := ∃ ao n cap z, e = .returned (.slice ao n cap) ∧ w3.cell? ⟨r, 0, none⟩ = some z ∧ w3.frozen? ⟨r, 0, none⟩ = false ∧ Hid (RefPost w S r q (.returned (.int .i64 0)) (w3.setCell ⟨r, 0, none⟩ (.slice ao n cap)))
theorem NewStored.of {w2 w3 : World} {e : Ending} (h : RefRep w S r v s) {s2 : Dk} {v2 : Value} {T : Nat → Prop} (h2 : RefRep w2 T r v2 s2) (hT : ∀ b, T b → grow S w w2 b) (hc : Chg S w w2) {L : List AF} (hr : RowPost w2 L e w3) (hok : ({ s2 with L := L } : Dk).Ok) : NewStored w S r ({ s2 with L := L }, 0) e w3 := by
  obtain ⟨ao, cap, rfl, hrow, hv, hb⟩ := hr
  have h3 := h2.below hb
  have c0 := h3.head.cell 0
  obtain ⟨hx, hcx⟩ := h2.stored hrow hv hb hok
  have hT' : ∀ b, T b → S b ∨ w.heap.size ≤ b := fun b hb => by
    rcases hT b hb with h | h
    · exact .inl h
    · exact .inr h.1
  have hcc : Chg S w (w3.setCell ⟨r, 0, none⟩ (.slice ao L.length cap)) := hc.trans hcx hT'
  refine ⟨ao, _, cap, _, rfl, c0, h3.head.frozen 0, hid ⟨rfl, ⟨_, hx.widen (fun b hb => ?_) (grow_lt h.lt hcc.size)⟩, hcc⟩⟩
  rcases hb with hb | hb
  · rcases hT b hb with h | h
    · exact .inl h
    · exact .inr ⟨h.1, Nat.lt_of_lt_of_le h.2 hcx.size⟩
  · exact .inr ⟨Nat.le_trans hc.size hb.1, hb.2⟩

theorem isSome_of {α : Type} {o : Option α} {f : α} (h : o = some f) : o.isSome := by rw [h]; rfl
set_option maxHeartbeats 4000000 in
theorem refDele_any (h : RefRep w S r v s) (n : ByteArray) : Calls Tryz.prog 119 #[.pointer (some ⟨r, 0, none⟩), .string n] w (RefPost w S r (dele s n.data.toList)) := by
  have hT := refThere_any h n
  cases hf : (if s.dead then none else fndK AF.key n.data.toList s.L) with
  | none =>
    have hx : s.dead = true ∨ fndK AF.key n.data.toList s.L = none := by
      cases hd : s.dead with
      | true => exact .inl rfl
      | false => rw [hd] at hf; exact .inr hf
    obtain ⟨k, hk, e1, e2, _⟩ := there_fail n hx
    rw [e1] at hT
    unfold dele
    rw [e2]
    have HT := hid hT
    have HP := hid (fun w1 (hb : Below w.heap.size w w1) => RefPost.none h (k := k) hb)
    clear hf hx e1 e2 hT h
    rcases hk with rfl | rfl
    all_goals
      go_enter Tryz.func119, Tryz.ntmps119
      go_wp2_with (go_at_call 139; (with_reducible refine HT.out.mono ?_); rintro e w1 ⟨rfl, hb1⟩)
      go_ret
      exact HP.out _ hb1
  | some f =>
    have hd : s.dead = false := by
      cases hd : s.dead with
      | true => rw [hd] at hf; cases hf
      | false => rfl
    rw [hd] at hf
    have hf : fndK AF.key n.data.toList s.L = some f := hf
    obtain ⟨i, hi, e1, e2, hia, hname, e4, -⟩ := there_ok h.ok hd hf
    rw [e1] at hT
    have hq : dele s n.data.toList = spends s fun s => { s with L := delK AF.key n.data.toList s.L } := e4 _
    have hok := Ok_dele h.ok n.data.toList
    rw [hq] at hok ⊢
    have HT := hid hT
    rw [spends_eq] at hok ⊢
    by_cases h0 : s.fuse = 0
    · rw [if_pos h0]
      have HU := hid (fun w1 hb => turn_dead h h0 (w1 := w1) hb)
      clear hf e1 e2 e4 hT h hq hok hd h0
      go_enter Tryz.func119, Tryz.ntmps119
      go_wp2_with (first
        | (go_at_call 139; (with_reducible refine HT.out.mono ?_); rintro e w1 ⟨rfl, hb1⟩)
        | (go_at_call 76; (with_reducible refine (HU.out _ hb1).mono ?_); rintro e w2 ⟨rfl, hR⟩; have HR := hid hR; clear hR))
      go_ret
      exact ⟨rfl, HR.out⟩
    · rw [if_neg h0] at hok ⊢
      have hup : delK AF.key n.data.toList (ticked s).L = s.L.take i ++ s.L.drop (i + 1) := by
        have := delK_split (key := AF.key) h.ok.rise (isSome_of hf)
        rw [← hia] at this
        exact this
      have hsp : ∀ w1, Below w.heap.size w w1 → Calls Tryz.prog 76 #[.pointer (some ⟨r, 0, none⟩)] w1 (fun e w2 => e = .returned (.int .i64 0) ∧ Hid (Calls Tryz.prog 164 #[.pointer (some ⟨r, 0, none⟩), .int .i64 (i : Int)] w2 (NewStored w S r ({ ticked s with L := delK AF.key n.data.toList (ticked s).L }, 0)))) := by
        intro w1 hb1
        refine (turn_hid w1 (h.below hb1) 0 (if_neg h0) (ticked s) (if_neg h0)).mono ?_
        rintro e w2 ⟨rfl, hx, hc, hz⟩
        have hc' : Chg S w w2 := (Chg.of_below hb1).trans hc (fun b e => .inl (by rw [e]; exact h.inS.1))
        refine ⟨rfl, hid ((refWithout_any hx i hi).mono ?_)⟩
        intro e w3 hrow
        rw [hup]
        exact NewStored.of h hx (fun b hb => .inl hb) hc' hrow (by rw [hup] at hok; exact hok)
      have HS := hid hsp
      clear hf e1 e2 e4 hT h hq hok hd h0 hup hsp hname hia
      generalize ({ ticked s with L := delK AF.key n.data.toList (ticked s).L } : Dk) = sd at *
      go_enter Tryz.func119, Tryz.ntmps119
      go_wp2_with (first
        | (go_at_call 139; (with_reducible refine HT.out.mono ?_); rintro e w1 ⟨rfl, hb1⟩)
        | (go_at_call 76; (with_reducible refine (HS.out _ hb1).mono ?_); rintro e w2 ⟨rfl, HW⟩)
        | (go_at_call 164; (with_reducible refine (HW.out).mono ?_); rintro e w3 ⟨ao, nn, cap, z, rfl, c0, f0, HP⟩))
      go_ret
      exact HP.out
theorem refFuse_any (h : RefRep w S r v s) (n : Int) (hn : n ≤ 9223372036854775807) : Calls Tryz.prog 59 #[.pointer (some ⟨r, 0, none⟩), .int .i64 n] w (RefTail w S r (setFuse s n)) := by
  have c2 := h.head.cell 2
  have f2 := h.head.frozen 2
  simp at c2
  have hset := h.head.set 2 (.int .i64 (max n (-1)))
  have hc := Chg.setCell w ⟨r, 2, none⟩ (.int .i64 (max n (-1)))
  have hD : RefRep (w.setCell ⟨r, 2, none⟩ (.int .i64 (max n (-1)))) S r v (setFuse s n) := h.turn (fu := max n (-1)) (dd := s.dead) (by simpa using hset) hc (by omega)
  have hcS : Chg S w (w.setCell ⟨r, 2, none⟩ (.int .i64 (max n (-1)))) := hc.mono (fun b e => by rw [e]; exact h.inS.1)
  have HP := hid (show RefTail w S r (setFuse s n) (.returned (.tuple #[])) _ from ⟨rfl, ⟨v, hD.widen grow_mono (grow_lt h.lt hcS.size)⟩, hcS⟩)
  clear hset hc hD hcS h
  generalize setFuse s n = sd at *
  go_enter Tryz.func59, Tryz.ntmps59
  go_wp2
  go_end0
  exact HP.out
end
end Go.Proofs.YtpcafkinpkepcaaGreatDoor

