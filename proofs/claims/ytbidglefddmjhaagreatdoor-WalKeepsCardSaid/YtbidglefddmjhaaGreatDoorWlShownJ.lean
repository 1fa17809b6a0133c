import Derived.Test.YtbidglefddmjhaaGreatDoorWlBeginJ
import Derived.Test.YtbidglefddmjhaaGreatDoorWlSameJ
/-
  LAYER 3 (wal), the laws' own helpers: shown: what its calls need.
-/
namespace Go.Proofs.YtbidglefddmjhaaGreatDoor
open Go.RowKit Go.Maps
set_option linter.unusedVariables false
set_option maxRecDepth 100000

theorem open0_names (m : Int) (h0 : 100 ≤ m) : segsL (open0 (newD m)).1.L = [segN 1] ∧ sz (open0 (newD m)).1.L ≤ 100 := by
  have hl := rcH_len
  have hnm : isName (segN 1) = true := isName_segN (n := 1) (by omega)
  have happ : app (newD m) (segN 1) (rcL (.hard ⟨0, 0⟩)) = ({ newD m with L := [newF (segN 1) (rcL (.hard ⟨0, 0⟩))] }, 0) := by
    unfold app
    rw [if_neg (by simp [newD]), if_neg (by simp [hnm])]
    show (if 40 ≤ ([] : List AF).length then _ else if m - ((0 : Nat) : Int) < ((rcL (.hard ⟨0, 0⟩)).length : Int) then _ else _) = _
    rw [if_neg (by simp), if_neg (by omega)]
    exact spends_full (by show (-1 : Int) < 0; omega) _
  have hw : open0 (newD m) = ({ newD m with L := [syncF (newF (segN 1) (rcL (.hard ⟨0, 0⟩)))] }, 0) := by
    unfold open0 wrL
    rw [happ, if_pos rfl]
    unfold syn need
    rw [if_neg (by simp [newD])]
    have hf : fndK AF.key (segN 1) [newF (segN 1) (rcL (.hard ⟨0, 0⟩))] = some (newF (segN 1) (rcL (.hard ⟨0, 0⟩))) := by simp [fndK, newF, AF.key]
    show (match fndK AF.key (segN 1) [newF (segN 1) (rcL (.hard ⟨0, 0⟩))] with | none => _ | some f => _) = _
    rw [hf]
    refine (spends_full (s := { newD m with L := [newF (segN 1) (rcL (.hard ⟨0, 0⟩))] }) (by show (-1 : Int) < 0; omega) _).trans ?_
    simp [updK, newF, AF.key]
  rw [hw]
  refine ⟨?_, ?_⟩
  · show sortSeg (([(segN 1 : List UInt8)] : List (List UInt8)).filter isSeg) = [segN 1]
    have : isSeg (segN 1) = true := isSeg_segN (n := 1) (by omega) (by omega)
    rw [List.filter_cons_of_pos this]
    simp [sortSeg]
  · show sz [syncF (newF (segN 1) (rcL (.hard ⟨0, 0⟩)))] ≤ 100
    simp [sz, syncF, newF]
    omega
theorem entRec_small {e : En} (hi : e.In) (hd : e.data.length ≤ 10) : (rcL (.entry e)).length ≤ 80 := by
  have h1 := encs_length [2, e.idx, e.term, e.kind] (by simp; exact ⟨hi.idx, hi.term, hi.kind⟩)
  have h2 := enc_length (nat64_lt (n := (e.data.length : Int)) (by omega) (by omega))
  unfold rcL
  rw [frameL_length]
  show 8 + (encs [2, e.idx, e.term, e.kind] ++ txt e.data).length ≤ 80
  rw [List.length_append]
  show 8 + (_ + (enc (nat64 (e.data.length : Int)) ++ e.data).length) ≤ _
  rw [List.length_append]
  simp only [List.length_cons, List.length_nil] at h1
  omega
theorem entRecs_small : ∀ {l : List En}, (∀ e ∈ l, e.In ∧ e.data.length ≤ 10) → (entRecs l).length ≤ 80 * l.length
  | [], _ => by simp [entRecs, rcsL]
  | e :: l, h => by
    have h1 := entRecs_small (l := l) (fun x hx => h x (by simp [hx]))
    have h2 := entRec_small (h e (by simp)).1 (h e (by simp)).2
    simp only [entRecs, rcsL, List.map_cons, List.flatMap_cons, List.length_append, List.length_cons] at *
    omega
theorem hard_len {h : Hd} (h1 : I64 h.term) (h2 : I64 h.vote) : (rcL (.hard h)).length ≤ 100 := by
  have := encs_length [1, h.term, h.vote] (by intro m hm; simp at hm; rcases hm with rfl | rfl | rfl; exact ⟨by omega, by omega⟩; exact h1; exact h2)
  unfold rcL
  rw [frameL_length]
  simp only [payL]
  simp at this
  omega
theorem reset_len : (rcL .reset).length ≤ 100 := by
  have := encs_length [3] (by intro m hm; simp at hm; subst hm; exact ⟨by omega, by omega⟩)
  unfold rcL
  rw [frameL_length]
  simp only [payL]
  simp at this
  omega
def h12 : Hd := ⟨1, 2⟩
/-- How the example's log stands. -/
structure Sh (W wx : World) (T : Nat → Prop) (p a H B0 k : Nat) (s : Dk) (g : Lg) : Prop where
  log : LogAt wx T p a s g
  good : Good s
  most : s.most = 10000
  room : sz s.L ≤ 300 * k
  box : own wx H #[.int .i64 1, .int .i64 2] 50
  tH : ¬ T H
  ge : ∀ b, T b → W.heap.size ≤ b
  glob : Glob wx B0
  b0 : B0 ≤ W.heap.size
  below : Below W.heap.size W wx
  len : g.L.length ≤ 2 * k
theorem Sh.later {W wx wy : World} {T : Nat → Prop} {p a H B0 k : Nat} {s : Dk} {g : Lg} (h : Sh W wx T p a H B0 k s g) (hb : Below wx.heap.size wx wy) : Sh W wy T p a H B0 k s g :=
  ⟨h.log.below hb, h.good, h.most, h.room, h.box.same (hb.block _ h.box.lt), h.tH, h.ge, h.glob.below hb (by have := h.b0; have := h.below.size; omega), h.b0, h.below.trans (hb.mono h.below.size), h.len⟩
theorem Sh.run {W wx wy : World} {T : Nat → Prop} {p a H B0 k k' : Nat} {s s' : Dk} {g g' : Lg} (h : Sh W wx T p a H B0 k s g) (hr : LgRun wx T p a s' g' wy) (hg : Good s') (hm : s'.most = 10000) (hz : sz s'.L ≤ 300 * k') (hl : g'.L.length ≤ 2 * k') : Sh W wy (grow T wx wy) p a H B0 k' s' g' := by
  refine ⟨hr.1, hg, hm, hz, h.box.same (hr.2.block _ h.box.lt h.tH), fun e => ?_, fun b hb => ?_, h.glob.chg hr.2 (by have := h.b0; have := h.below.size; omega) (fun b hb => by have := h.ge b hb; have := h.b0; omega), h.b0, h.below.trans (hr.2.below h.below.size h.ge), hl⟩
  · rcases e with e | e
    · exact h.tH e
    · have := h.box.lt; omega
  · rcases hb with hb | hb
    · exact h.ge b hb
    · have := h.below.size; omega
/-- What was there and is not the log's stays. -/
def Keeps (wx : World) (T : Nat → Prop) (wy : World) (T' : Nat → Prop) : Prop := wx.heap.size ≤ wy.heap.size ∧ ∀ b, b < wx.heap.size → ¬ T b → wy.heap[b]? = wx.heap[b]? ∧ ¬ T' b
theorem keeps_run {wx wy : World} {T : Nat → Prop} (hc : Chg T wx wy) : Keeps wx T wy (grow T wx wy) := ⟨hc.size, fun b hb hT => ⟨hc.block b hb hT, fun e => e.elim hT (fun e => by omega)⟩⟩
def ShPost (W wx : World) (T : Nat → Prop) (p a H B0 k : Nat) (g : Lg) (e : Ending) (wy : World) : Prop :=
  e = .returned (.int .i64 0) ∧ ∃ T' s', Sh W wy T' p a H B0 k s' g ∧ Keeps wx T wy T'
theorem Sh.save {W wx : World} {T : Nat → Prop} {p a H B0 k : Nat} {s : Dk} {g : Lg} (h : Sh W wx T p a H B0 k s g) (hk : k ≤ 20) (v : Value) (l : List En) (hv : EntsAt wx v l) (hvT : ∀ g0 o n c, v = .slice (some ⟨g0, o, none⟩) n c → ¬ T g0) (hl : 1 ≤ l.length ∧ l.length ≤ 2) (hin : ∀ e ∈ l, e.In ∧ e.data.length ≤ 10) (hall : l.all entB = true) :
    Calls Tryz.prog 48 #[.pointer (some ⟨p, 0, none⟩), .agg #[.int .i64 1, .int .i64 2], v] wx (ShPost W wx T p a H B0 (k + 1) ⟨h12, putEs g.L l⟩) := by
  have hglen := h.len
  refine (save_any h.log h.glob (by have := h.b0; have := h.below.size; omega) h12 ⟨by decide, by decide⟩ ⟨by decide, by decide⟩ v l hv hvT (fun e he => ⟨(hin e he).1, by have := (hin e he).2; omega⟩) (by omega) (by omega)).mono ?_
  rintro e wy ⟨he, hr⟩
  have hrec := entRecs_small hin
  have hroom := h.room
  have hmost := h.most
  have hhd : (hdRec s (roomL s).2.1 g h12).length ≤ 100 := by
    unfold hdRec
    split
    · exact hard_len ⟨by decide, by decide⟩ ⟨by decide, by decide⟩
    · simp
  rcases h.good.save g h12 l with ⟨_, h1⟩ | ⟨_, h1, _⟩ | ⟨_, h1⟩ | ⟨h1, h2, _, _, h5, h6⟩
  · exfalso
    rcases h1 with h1 | h1
    · rw [hall] at h1; cases h1
    · exact absurd h1 (by decide)
  · rw [h1] at hl; simp at hl
  · exfalso
    rw [List.length_append] at h1
    omega
  · have e1 : (saveL s g h12 l).2.1 = ⟨h12, putEs g.L l⟩ := by rw [h1]
    have e2 : (saveL s g h12 l).2.2 = 0 := by rw [h1]
    rw [e1] at hr
    rw [e2] at he
    have hpl := putEs_le l g.L
    exact ⟨he, _, _, h.run hr h2 (by rw [h6, hmost]) (by rw [h5, List.length_append]; omega) (by show (putEs g.L l).length ≤ _; omega), keeps_run hr.2⟩
theorem Sh.reset {W wx : World} {T : Nat → Prop} {p a H B0 k : Nat} {s : Dk} {g : Lg} (h : Sh W wx T p a H B0 k s g) (hk : k ≤ 20) :
    Calls Tryz.prog 50 #[.pointer (some ⟨p, 0, none⟩)] wx fun e wy => e = .returned (.int .i64 0) ∧ ∃ T' s', LogAt wy T' p a s' ⟨g.hd, []⟩ ∧ Keeps wx T wy T' ∧ Below W.heap.size W wy := by
  refine (reset_any h.log h.glob (by have := h.b0; have := h.below.size; omega)).mono ?_
  rintro e wy ⟨he, hr⟩
  have hroom := h.room
  have hmost := h.most
  have hrl := reset_len
  have hh := hard_len h.log.ok.hd.2.1 h.log.ok.hd.2.2
  rcases h.good.reset g with ⟨_, h1⟩ | ⟨h1, h2, _⟩
  · exfalso
    rw [List.length_append] at h1
    split at h1
    · omega
    · simp at h1; omega
  · have e1 : (resetL s g).2.1 = ⟨g.hd, []⟩ := by rw [h1]
    have e2 : (resetL s g).2.2 = 0 := by rw [h1]
    rw [e1] at hr
    rw [e2] at he
    exact ⟨he, _, _, hr.1, keeps_run hr.2, h.below.trans (hr.2.below h.below.size h.ge)⟩
end Go.Proofs.YtbidglefddmjhaaGreatDoor

