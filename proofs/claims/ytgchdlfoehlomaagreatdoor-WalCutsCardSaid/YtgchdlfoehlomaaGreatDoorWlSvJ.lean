import Derived.Test.YtgchdlfoehlomaaGreatDoorWlNameJ
import Derived.Test.YtgchdlfoehlomaaGreatDoorWlRoomJ
/-
  LAYER 3 (wal), plain mathematics: what Save and Reset make of a log; a log alone on a disk that has power.
-/
namespace Go.Proofs.YtgchdlfoehlomaaGreatDoor
open Go.RowKit
set_option linter.unusedVariables false
set_option maxRecDepth 100000

def hdRec (s : Dk) (z : Nat) (g : Lg) (h : Hd) : List UInt8 := if z = 0 ∨ h ≠ g.hd then rcL (.hard h) else []
def entRecs (l : List En) : List UInt8 := rcsL (l.map .entry)
/-- Bytes laid into a segment, and what the log is then. -/
def laid (s : Dk) (g g' : Lg) (n : List UInt8) (d : List UInt8) : Dk × Lg × Int :=
  ((wrL s n d).1, if (wrL s n d).2 = 0 then g' else g, (wrL s n d).2)
def putEs (L : List En) (l : List En) : List En := l.foldl putE L
def saveL (s : Dk) (g : Lg) (h : Hd) (l : List En) : Dk × Lg × Int :=
  if l.all entB = false ∨ hdB h = false then (s, g, 1) else
  if l = [] ∧ h = g.hd then (s, g, 0) else
  if s.dead then (s, g, 7) else
  if (roomL s).2.2 ≠ 0 then (s, g, (roomL s).2.2) else
  laid s g ⟨h, putEs g.L l⟩ (roomL s).1 (hdRec s (roomL s).2.1 g h ++ entRecs l)
def resetL (s : Dk) (g : Lg) : Dk × Lg × Int :=
  if s.dead then (s, g, 7) else
  if (lastL s).2.2 ≠ 0 then (s, g, (lastL s).2.2) else
  laid s g ⟨g.hd, []⟩ (lastL s).1 ((if (lastL s).2.1 = 0 then rcL (.hard g.hd) else []) ++ rcL .reset)

/-- A disk that has power, of segments alone, not many. -/
structure Good (s : Dk) : Prop where
  alive : s.dead = false
  fuse : s.fuse < 0
  ok : s.Ok
  segs : ∀ f ∈ s.L, isSeg f.name = true
  few : s.L.length ≤ 20

theorem isSeg_segN {n : Nat} (h1 : 1 ≤ n) (h2 : n ≤ 999999) : isSeg (segN (n : Int)) = true := by
  unfold isSeg
  rw [segV_segN h1 h2, decide_eq_true_eq]
  omega
theorem Good.names {s : Dk} (h : Good s) : (s.L.map AF.name).filter isSeg = s.L.map AF.name := by
  rw [List.filter_eq_self]
  intro x hx
  obtain ⟨f, hf, rfl⟩ := List.mem_map.1 hx
  exact h.segs f hf
theorem Good.len {s : Dk} (h : Good s) : (segsL s.L).length = s.L.length := by
  rw [(segsL_perm s.L).length_eq, h.names, List.length_map]
theorem rd_in {s : Dk} (hd : s.dead = false) (hr : s.Ok) {n : List UInt8} (hn : n ∈ s.L.map AF.name) : ∃ f, fndK AF.key n s.L = some f ∧ rd s n = (f.data, 0) := by
  obtain ⟨f, hf, rfl⟩ := List.mem_map.1 hn
  have h1 : fndK AF.key f.name s.L = some f := fndK_of_mem hr.rise hf
  exact ⟨f, h1, by unfold rd; rw [hd, h1]; rfl⟩
theorem Good.last {s : Dk} (h : Good s) : (lastL s).2.2 = 0 ∧ isSeg (lastL s).1 = true ∧ ((lastL s).1 ∈ s.L.map AF.name ∨ s.L = []) := by
  unfold lastL
  cases hl : (segsL s.L).getLast? with
  | none =>
    have : segsL s.L = [] := List.getLast?_eq_none_iff.1 hl
    have h2 := h.len
    rw [this] at h2
    exact ⟨rfl, isSeg_segN (n := 1) (by omega) (by omega), .inr (List.length_eq_zero_iff.1 h2.symm)⟩
  | some n =>
    obtain ⟨h1, h2, h3⟩ := (segsL_in h.ok).2 n (List.mem_of_getLast? hl)
    obtain ⟨f, hf, hr⟩ := rd_in h.alive h.ok h3
    exact ⟨by simp only; rw [hr], h2, .inl h3⟩
theorem Good.room {s : Dk} (h : Good s) : (roomL s).2.2 = 0 ∧ isSeg (roomL s).1 = true ∧ ((roomL s).1 ∈ s.L.map AF.name ∨ s.L.length < 20) := by
  obtain ⟨h1, h2, h3⟩ := h.last
  unfold roomL
  by_cases hf : fullL s
  · rw [if_pos hf]
    exact ⟨h1, h2, h3.imp id (fun e => by rw [e]; simp)⟩
  · rw [if_neg hf]
    have hlt : ¬ 20 ≤ (segsL s.L).length := fun e => hf (.inr (.inr (.inr e)))
    have hne : ¬ segV (lastL s).1 = 999999 := fun e => hf (.inr (.inr (.inl e)))
    have hle := segV_le (lastL s).1
    rw [h.len] at hlt
    exact ⟨rfl, isSeg_segN (by omega) (by omega), .inr (by omega)⟩
theorem seg_isName {n : List UInt8} (h : isSeg n = true) : isName n = true := by
  unfold isSeg at h
  obtain ⟨h1, h2, h3⟩ := segV_name (l := n) (by simpa using h)
  rw [h1]
  exact isName_segN h3
theorem spends_full {s : Dk} (h : s.fuse < 0) (k : Dk → Dk) : spends s k = (k s, 0) := by
  unfold spends
  rw [if_neg (by omega), if_neg (by omega)]
theorem sz_upd {n : List UInt8} {g : AF → AF} {f : AF} : ∀ {L : List AF}, RiseK AF.key L → fndK AF.key n L = some f → sz (updK AF.key n g L) + f.data.length = sz L + (g f).data.length
  | [], _, h => by simp [fndK] at h
  | x :: r, hr, h => by
    obtain ⟨h1, h2⟩ := List.pairwise_cons.1 hr
    by_cases hx : AF.key x = n
    · have hf : f = x := by
        unfold fndK at h
        rw [List.find?_cons_of_pos (by simpa using hx)] at h
        exact (Option.some.inj h).symm
      subst hf
      have hr' : r.map (fun x => if AF.key x = n then g x else x) = r := by
        conv => rhs; rw [← List.map_id r]
        apply List.map_congr_left
        intro y hy
        rw [if_neg]
        · rfl
        · intro e
          have := h1 y hy
          rw [hx, e] at this
          exact blt_irrefl _ this
      simp only [updK, List.map_cons]
      rw [if_pos hx, hr', sz_cons, sz_cons]; omega
    · have hf : fndK AF.key n r = some f := by
        unfold fndK at h ⊢
        rwa [List.find?_cons_of_neg (by simpa using hx)] at h
      have := sz_upd (g := g) h2 hf
      unfold updK at *
      simp only [List.map_cons]
      rw [if_neg hx, sz_cons, sz_cons]; omega
/-- What laying bytes into a segment does. -/
theorem Good.write {s : Dk} (h : Good s) {n : List UInt8} (hn : isSeg n = true) (hl : n ∈ s.L.map AF.name ∨ s.L.length < 20) (d : List UInt8) :
    (wrL s n d = (s, 6) ∧ s.most - sz s.L < (d.length : Int)) ∨ ((wrL s n d).2 = 0 ∧ Good (wrL s n d).1 ∧ sz (wrL s n d).1.L = sz s.L + d.length ∧ (wrL s n d).1.most = s.most) := by
  have hnm := seg_isName hn
  by_cases hroom : s.most - sz s.L < (d.length : Int)
  · left
    have happ : app s n d = (s, 6) := by
      unfold app
      rw [if_neg (by rw [h.alive]; simp), if_neg (by simp [hnm])]
      cases hf : fndK AF.key n s.L with
      | none =>
        simp only
        rw [if_neg, if_pos hroom]
        rcases hl with hl | hl
        · obtain ⟨f, hf2, _⟩ := rd_in h.alive h.ok hl
          rw [hf2] at hf; cases hf
        · omega
      | some f => simp only; rw [if_pos hroom]
    refine ⟨?_, hroom⟩
    unfold wrL
    rw [happ]
    rfl
  · right
    -- what Append makes
    have happ : ∃ L', app s n d = ({ s with L := L' }, 0) ∧ (∃ f, fndK AF.key n L' = some f) ∧ sz L' = sz s.L + d.length ∧ (∀ f ∈ L', isSeg f.name = true) ∧ L'.length ≤ 20 := by
      unfold app
      rw [if_neg (by rw [h.alive]; simp), if_neg (by simp [hnm])]
      cases hf : fndK AF.key n s.L with
      | none =>
        have hlt : s.L.length < 20 := by
          rcases hl with hl | hl
          · obtain ⟨f, hf2, _⟩ := rd_in h.alive h.ok hl
            rw [hf2] at hf; cases hf
          · exact hl
        simp only
        rw [if_neg (by omega), if_neg hroom, spends_full h.fuse]
        refine ⟨_, rfl, ⟨newF n d, ?_⟩, ?_, ?_, ?_⟩
        · exact fndK_of_mem (insK_rise h.ok.rise (fun x hx => fndK_none hf x hx)) (x := newF n d) (insK_mem.2 (.inl rfl))
        · rw [sz_ins]; show d.length + _ = _; omega
        · intro f hfm
          rcases insK_mem.1 hfm with rfl | hfm
          · exact hn
          · exact h.segs f hfm
        · rw [insK_length]; omega
      | some f =>
        simp only
        rw [if_neg hroom, spends_full h.fuse]
        refine ⟨_, rfl, ⟨addF d f, ?_⟩, ?_, ?_, ?_⟩
        · rw [fndK_upd (key := AF.key) (g := addF d) (fun _ => rfl), if_pos rfl, hf]; rfl
        · have := sz_upd (g := addF d) h.ok.rise hf
          simp only [addF, List.length_append] at this
          omega
        · intro x hx
          rcases upd_mem hx with hx | ⟨y, hy, _, rfl⟩
          · exact h.segs x hx
          · exact h.segs y hy
        · rw [updK_length]; exact h.few
    obtain ⟨L', happ, ⟨f, hf⟩, hz, hs, hfew⟩ := happ
    have hok : ({ s with L := L' } : Dk).Ok := by
      have := Ok_app h.ok n d
      rw [happ] at this; exact this
    have hsyn : syn { s with L := L' } n = ({ s with L := updK AF.key n syncF L' }, 0) := by
      have hd' : ({ s with L := L' } : Dk).dead = false := h.alive
      unfold syn need
      rw [if_neg (by rw [hd']; simp)]
      show (match fndK AF.key n L' with | none => _ | some f => _) = _
      rw [hf]
      exact spends_full (s := { s with L := L' }) h.fuse _
    have hok2 : ({ s with L := updK AF.key n syncF L' } : Dk).Ok := by
      have := Ok_syn hok n
      rw [hsyn] at this; exact this
    have hw : wrL s n d = ({ s with L := updK AF.key n syncF L' }, 0) := by
      unfold wrL
      rw [happ]
      simp only [if_true]
      exact hsyn
    rw [hw]
    refine ⟨rfl, ⟨h.alive, h.fuse, hok2, ?_, ?_⟩, ?_, rfl⟩
    · intro x hx
      rcases upd_mem hx with hx | ⟨y, hy, _, rfl⟩
      · exact hs x hx
      · exact hs y hy
    · show (updK _ _ _ _).length ≤ 20
      rw [updK_length]; exact hfew
    · have := sz_upd (g := syncF) hok.rise hf
      show sz (updK _ _ _ _) = _
      simp only [syncF] at this
      omega

/-- What Save does to a good disk: it is refused, or full, or done. -/
theorem Good.save {s : Dk} (h : Good s) (g : Lg) (hd : Hd) (l : List En) :
    (saveL s g hd l = (s, g, 1) ∧ (l.all entB = false ∨ hdB hd = false)) ∨ (saveL s g hd l = (s, g, 0) ∧ l = [] ∧ hd = g.hd) ∨ (saveL s g hd l = (s, g, 6) ∧ s.most - sz s.L < ((hdRec s (roomL s).2.1 g hd ++ entRecs l).length : Int)) ∨
    ((saveL s g hd l).2 = (⟨hd, putEs g.L l⟩, 0) ∧ Good (saveL s g hd l).1 ∧ l.all entB = true ∧ hdB hd = true ∧ sz (saveL s g hd l).1.L = sz s.L + (hdRec s (roomL s).2.1 g hd ++ entRecs l).length ∧ (saveL s g hd l).1.most = s.most) := by
  unfold saveL
  by_cases h1 : l.all entB = false ∨ hdB hd = false
  · rw [if_pos h1]; exact .inl ⟨rfl, h1⟩
  · rw [if_neg h1]
    by_cases h2 : l = [] ∧ hd = g.hd
    · rw [if_pos h2]; exact .inr (.inl ⟨rfl, h2⟩)
    · rw [if_neg h2, h.alive, if_neg (by simp)]
      obtain ⟨r1, r2, r3⟩ := h.room
      rw [if_neg (by simp [r1])]
      unfold laid
      rcases h.write r2 r3 (hdRec s (roomL s).2.1 g hd ++ entRecs l) with ⟨hw, hsz⟩ | ⟨w1, w2, w3, w4⟩
      · rw [hw]
        exact .inr (.inr (.inl ⟨rfl, hsz⟩))
      · rw [w1]
        refine .inr (.inr (.inr ⟨rfl, w2, ?_, ?_, w3, w4⟩))
        · cases hh : l.all entB with
          | true => rfl
          | false => exact absurd (.inl hh) h1
        · cases hh : hdB hd with
          | true => rfl
          | false => exact absurd (.inr hh) h1
theorem Good.reset {s : Dk} (h : Good s) (g : Lg) : (resetL s g = (s, g, 6) ∧ s.most - sz s.L < (((if (lastL s).2.1 = 0 then rcL (.hard g.hd) else []) ++ rcL .reset).length : Int)) ∨ ((resetL s g).2 = (⟨g.hd, []⟩, 0) ∧ Good (resetL s g).1 ∧ (resetL s g).1.most = s.most) := by
  unfold resetL
  obtain ⟨r1, r2, r3⟩ := h.last
  rw [h.alive, if_neg (by simp), if_neg (by simp [r1])]
  unfold laid
  rcases h.write r2 (r3.imp id (fun e => by rw [e]; simp)) ((if (lastL s).2.1 = 0 then rcL (.hard g.hd) else []) ++ rcL .reset) with ⟨hw, hsz⟩ | ⟨w1, w2, w3, w4⟩
  · rw [hw]
    exact .inl ⟨rfl, hsz⟩
  · rw [w1]
    exact .inr ⟨rfl, w2, w4⟩
end Go.Proofs.YtgchdlfoehlomaaGreatDoor

