/-
  LAYER 2 (disk), THE DOCUMENT's ANSWER: a field of a file turned; Sync.
-/
import Derived.Test.YtcinegkikahchaaRkC
import Derived.Deep.RegionHeld3
namespace Go.Proofs.Ytcinegkikahchaa
open Go.RowKit Go.Maps
set_option linter.unusedVariables false
set_option maxRecDepth 100000
section
variable {w w' : World} {S : Nat → Prop} {r : Nat} {v : Value} {s : Dk}

theorem RefRow.at_n {ao : Option Addr} {n cap : Nat} {L : List AF} (h : RefRow w (.slice ao n cap) L) (hn : n = L.length) {i : Nat} (hi : i < L.length) : ∃ g, ao = some ⟨g, 0, none⟩ ∧ g < w.heap.size ∧
    (∀ (k : Nat) (hk : k < L.length), w.cell? ⟨g, k * 3, none⟩ = some (.string (mk L[k].name)) ∧ w.cell? ⟨g, k * 3 + 1, none⟩ = some (.string (mk L[k].data)) ∧ w.cell? ⟨g, k * 3 + 2, none⟩ = some (.int .i64 (L[k].synced : Int))) ∧ ∀ j, w.frozen? ⟨g, j, none⟩ = false := by
  subst hn; exact h.at hi
theorem RefRep.put {g n cap : Nat} (h : RefRep w S r (.slice (some ⟨g, 0, none⟩) n cap) s) {i k : Nat} (hi : i < s.L.length) (hk : k < 3) (u : Value) (f' : AF) (hf : (fcells s.L[i]).set k u = fcells f') (hok : ({ s with L := s.L.set i f' } : Dk).Ok) :
    RefRep (w.setCell ⟨g, i * 3 + k, none⟩ u) S r (.slice (some ⟨g, 0, none⟩) n cap) { s with L := s.L.set i f' } := by
  have hne : r ≠ g := fun e => h.apart (by rw [e]; rfl)
  refine ⟨h.head.other hne u, ?_, h.apart, h.inS, fun b hb => by rw [setCell_size]; exact h.lt b hb, hok⟩
  have h1 := ownsRow_set h.row (g := g) rfl (j := i * 3 + k) (by rw [flat_length]; omega) u
  rw [flat_set hi hk hf] at h1
  unfold RefRow
  simpa using h1
theorem RefRep.done (h : RefRep w S r v s) {s' : Dk} {v' : Value} (hx : RefRep w' S r v' s') (hc : Chg S w w') (k : Int) : RefPost w S r (s', k) (.returned (.int .i64 k)) w' := ⟨rfl, ⟨v', hx.widen grow_mono (grow_lt h.lt hc.size)⟩, hc⟩
theorem RefRep.drew (h : RefRep w S r v s) : RefRep w.drew S r v s := h.below (Below.drew (Below.refl _ _))
/-- there, then turn: nothing else is done where one of them says no. -/
theorem turn_hid (w : World) (h : RefRep w S r v s) (k : Int) (hk : spendV s.fuse = k) (s' : Dk) (hs : spendTo s = s') : Calls Try.prog 49 #[.pointer (some ⟨r, 0, none⟩)] w fun e w' =>
    e = .returned (.int .i64 k) ∧ RefRep w' S r v s' ∧ Chg (fun b => b = r) w w' ∧ w'.heap.size = w.heap.size := by
  subst hk; subst hs
  exact refTurn_any h
theorem turn_dead (h : RefRep w S r v s) (h0 : s.fuse = 0) {w1 : World} (hb1 : Below w.heap.size w w1) : Calls Try.prog 49 #[.pointer (some ⟨r, 0, none⟩)] w1 (RefPost w S r (spendTo s, 7)) := by
  refine (turn_hid w1 (h.below hb1) 7 (if_pos h0) _ rfl).mono ?_
  rintro e w2 ⟨rfl, hx, hc, hz⟩
  exact h.done hx ((Chg.of_below hb1).trans hc (fun b e => .inl (by rw [e]; exact h.inS.1))) 7

def SyncTurned (w : World) (S : Nat → Prop) (r g i : Nat) (n cap : Nat) (db : ByteArray) (q : Dk × Int) (e : Ending) (w2 : World) : Prop := e = .returned (.int .i64 0) ∧ w2.cell? ⟨r, 0, none⟩ = some (.slice (some ⟨g, 0, none⟩) n cap) ∧ w2.cell? ⟨g, i * 3 + 1, none⟩ = some (.string db) ∧ (∃ z, w2.cell? ⟨g, i * 3 + 2, none⟩ = some z) ∧ w2.frozen? ⟨g, i * 3 + 2, none⟩ = false ∧ (w2.setCell ⟨g, i * 3 + 2, none⟩ (.int .i64 db.size)).drew.cell? ⟨r, 0, none⟩ = some (.slice (some ⟨g, 0, none⟩) n cap) ∧ (w2.setCell ⟨g, i * 3 + 2, none⟩ (.int .i64 db.size)).drew.cell? ⟨g, i * 3 + 1, none⟩ = some (.string db) ∧ Hid (RefPost w S r q (.returned (.int .i64 0)) (w2.setCell ⟨g, i * 3 + 2, none⟩ (.int .i64 db.size)).drew)

set_option maxHeartbeats 4000000 in
theorem refSync_any (h : RefRep w S r v s) (n : ByteArray) : Calls Try.prog 31 #[.pointer (some ⟨r, 0, none⟩), .string n] w (RefPost w S r (syn s n.data.toList)) := by
  have hT := refThere_any h n
  cases hf : (if s.dead then none else fndK AF.key n.data.toList s.L) with
  | none =>
    have hx : s.dead = true ∨ fndK AF.key n.data.toList s.L = none := by
      cases hd : s.dead with
      | true => exact .inl rfl
      | false => rw [hd] at hf; exact .inr hf
    obtain ⟨k, hk, e1, e2, _⟩ := there_fail n hx
    rw [e1] at hT
    unfold syn
    rw [e2]
    have HT := hid hT
    have HP := hid (fun w1 (hb : Below w.heap.size w w1) => RefPost.none h (k := k) hb)
    clear hf hx e1 e2 hT h
    rcases hk with rfl | rfl
    all_goals
      go_enter Try.func31, Try.ntmps31
      go_wp2_with (go_at_call 48; (with_reducible refine HT.out.mono ?_); rintro e w1 ⟨rfl, hb1⟩)
      go_ret
      exact HP.out _ hb1
  | some f =>
    have hd : s.dead = false := by
      cases hd : s.dead with
      | true => rw [hd] at hf; cases hf
      | false => rfl
    rw [hd] at hf
    have hf : fndK AF.key n.data.toList s.L = some f := hf
    obtain ⟨i, hi, e1, e2, hia, hname, e4, -⟩ := there_ok h.ok hd hf
    rw [e1] at hT
    have hq : syn s n.data.toList = spends s fun s => { s with L := updK AF.key n.data.toList syncF s.L } := e4 _
    have hok := Ok_syn h.ok n.data.toList
    rw [hq] at hok ⊢
    have HT := hid hT
    rw [spends_eq] at hok ⊢
    by_cases h0 : s.fuse = 0
    · rw [if_pos h0]
      have HU := hid (fun w1 hb => turn_dead h h0 (w1 := w1) hb)
      have HT2 := hid (fun w1 (hb : Below w.heap.size w w1) => hb)
      clear hf e1 e2 e4 hT h hq hok hd h0
      go_enter Try.func31, Try.ntmps31
      go_wp2_with (first
        | (go_at_call 48; (with_reducible refine HT.out.mono ?_); rintro e w1 ⟨rfl, hb1⟩)
        | (go_at_call 49; (with_reducible refine (HU.out _ hb1).mono ?_); rintro e w2 ⟨rfl, hR⟩; have HR := hid hR; clear hR))
      go_ret
      exact ⟨rfl, HR.out⟩
    · rw [if_neg h0] at hok ⊢
      obtain ⟨ao, cap, rfl, hcap, -⟩ := h.row.slice
      obtain ⟨g, rfl, hg, -, -⟩ := h.row.at hi
      have hup : updK AF.key n.data.toList syncF s.L = s.L.set i (syncF f) := by
        have hg2 : s.L[ahead AF.key n.data.toList s.L]? = some f := by rw [← hia, List.getElem?_eq_getElem hi, e2]
        have := updK_at (key := AF.key) (g := syncF) h.ok.rise hg2 hname
        rw [← hia] at this
        exact this
      have hsp : ∀ w1, Below w.heap.size w w1 → Calls Try.prog 49 #[.pointer (some ⟨r, 0, none⟩)] w1 (SyncTurned w S r g i s.L.length cap (mk f.data) ({ ticked s with L := updK AF.key n.data.toList syncF (ticked s).L }, 0)) := by
        intro w1 hb1
        refine (turn_hid w1 (h.below hb1) 0 (if_neg h0) (ticked s) (if_neg h0)).mono ?_
        rintro e w2 ⟨rfl, hx, hc, hz⟩
        have hc' : Chg S w w2 := (Chg.of_below hb1).trans hc (fun b e => .inl (by rw [e]; exact h.inS.1))
        have c0 := hx.head.cell 0
        obtain ⟨g', hg', hgl, hcells, hfz⟩ := hx.row.at hi
        obtain rfl : g = g' := by cases hg'; rfl
        have ht : (ticked s).L = s.L := rfl
        have hp := (hx.put hi (k := 2) (by omega) (.int .i64 ((mk f.data).size : Int)) (syncF f) (by
            have : (ticked s).L[i] = f := e2
            rw [this, mk_size]; rfl) (by rw [ht, ← hup]; exact hok)).drew
        have p0 := hp.head.cell 0
        have hil' : i < (s.L.set i (syncF f)).length := by rw [List.length_set]; exact hi
        obtain ⟨g', hg', -, pcells, -⟩ := RefRow.at_n (L := s.L.set i (syncF f)) hp.row (by rw [List.length_set]) hil'
        obtain rfl : g = g' := by cases hg'; rfl
        have p1 := (pcells i hil').2.1
        have d1 := (hcells i hi).2.1
        have e2' : (ticked s).L[i] = f := e2
        refine ⟨rfl, c0, by rw [← e2]; exact d1, ⟨_, (hcells i hi).2.2⟩, hfz _, p0, by rw [p1]; simp [syncF], hid ?_⟩
        have hup' : updK AF.key n.data.toList syncF (ticked s).L = s.L.set i (syncF f) := hup
        rw [hup']
        exact h.done hp ((hc'.trans (Chg.setCell _ _ _) (fun b e => .inl (by rw [e]; exact h.inS.2 _ rfl))).drewN 1) 0
      have HS := hid hsp
      have hcI : (i : Int) < (s.L.length : Int) := by omega
      have hmI : (s.L.length : Int) ≤ 40 := by have := h.ok.many; omega
      clear hf e1 e2 e4 hT h hq hok hd h0 hup hsp hname hia
      generalize ({ ticked s with L := updK AF.key n.data.toList syncF (ticked s).L } : Dk) = sd at *
      generalize mk f.data = db at *
      go_enter Try.func31, Try.ntmps31
      go_wp2_with (first
        | (go_at_call 48; (with_reducible refine HT.out.mono ?_); rintro e w1 ⟨rfl, hb1⟩)
        | (go_at_call 49; (with_reducible refine (HS.out _ hb1).mono ?_); rintro e w2 ⟨rfl, c0, c1, ⟨z, c2⟩, f2, p0, p1, HP⟩))
      go_region_held3 (fun wx => wx.cell? ⟨r, 0, none⟩ = some (.slice (some ⟨g, 0, none⟩) s.L.length cap) ∧ wx.cell? ⟨g, i * 3 + 1, none⟩ = some (.string db)) (first | exact ⟨c0, c1⟩ | exact ⟨p0, p1⟩ | go_keep) (fail)
      go_wp2
      go_ret
      exact HP.out
end
end Go.Proofs.Ytcinegkikahchaa
