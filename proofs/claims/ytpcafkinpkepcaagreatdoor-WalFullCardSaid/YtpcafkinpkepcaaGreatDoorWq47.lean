import Derived.Test.YtpcafkinpkepcaaGreatDoorWq32
import Derived.BigQuiet
import Derived.Test.YtpcafkinpkepcaaGreatDoorWq46
/-
  Wq47: WlSame, WlShown, in one text.
-/
/-
  LAYER 3 (wal), the laws' own helpers: two rows of entries compared.
-/
namespace Go.Proofs.YtpcafkinpkepcaaGreatDoor
open Go.RowKit Go.Maps
set_option linter.unusedVariables false
set_option maxRecDepth 100000

def SameRel (w : World) (L M : List En) (i : Value) (wr : World) : Prop := ∃ k : Nat, k ≤ L.length ∧ i = .int .i64 k ∧ Below w.heap.size w wr ∧ L.take k = M.take k
def SamePost (w : World) (L M : List En) (e : Ending) (w' : World) : Prop := e = .returned (.bool (decide (L = M))) ∧ Below w.heap.size w w'
set_option maxHeartbeats 4000000 in
theorem same_any (u v : Value) (L M : List En) (w : World) (hu : EntsAt w u L) (hv : EntsAt w v M) (hL : L.length ≤ 100000) (hM : M.length ≤ 100000) :
    Calls Tryz.prog 24 #[u, v] w (SamePost w L M) := by
  obtain ⟨ao, cap, rfl, hc⟩ := hu
  obtain ⟨bo, dap, rfl, hd⟩ := hv
  by_cases hlen : L.length = M.length
  · have HC := hid hc
    have HD := hid hd
    have HLen := hid hlen
    have hq : ((L.length : Int) != (M.length : Int)) = false := by simp [hlen]
    clear hc hd hlen
    go_enter Tryz.func24, Tryz.ntmps24
    go_wp2
    go_loopw [5] (SameRel w L M) (fun i _ => L.length - (intOf i).toNat)
    case atStart => exact ⟨0, Nat.zero_le _, rfl, Below.refl _ _, by simp⟩
    case round =>
      obtain ⟨k, hk, rfl, hb, hsm⟩ := hrel
      have HSm := hid hsm
      clear hsm
      by_cases hlt : k < L.length
      · have hlt2 : k < M.length := by rw [← HLen.out]; exact hlt
        obtain ⟨g1, o1, rfl, hg1, hc1⟩ := HC.out (fun e => by rw [e] at hlt; simp at hlt)
        obtain ⟨g2, o2, rfl, hg2, hc2⟩ := HD.out (fun e => by rw [e] at hlt2; simp at hlt2)
        obtain ⟨a0, a1, a2, a3⟩ := hc1 k hlt
        obtain ⟨b0, b1, b2, b3⟩ := hc2 k hlt2
        have c0 := (hb.cell (p := ⟨g1, o1 + k * 4, none⟩) hg1).trans a0
        have c1 := (hb.cell (p := ⟨g1, o1 + k * 4 + 1, none⟩) hg1).trans a1
        have c2 := (hb.cell (p := ⟨g1, o1 + k * 4 + 2, none⟩) hg1).trans a2
        have c3 := (hb.cell (p := ⟨g1, o1 + k * 4 + 3, none⟩) hg1).trans a3
        have d0 := (hb.cell (p := ⟨g2, o2 + k * 4, none⟩) hg2).trans b0
        have d1 := (hb.cell (p := ⟨g2, o2 + k * 4 + 1, none⟩) hg2).trans b1
        have d2 := (hb.cell (p := ⟨g2, o2 + k * 4 + 2, none⟩) hg2).trans b2
        have d3 := (hb.cell (p := ⟨g2, o2 + k * 4 + 3, none⟩) hg2).trans b3
        clear a0 a1 a2 a3 b0 b1 b2 b3 hc1 hc2
        have hkI : (k : Int) < (L.length : Int) := by omega
        have hkJ : (k : Int) < (M.length : Int) := by omega
        by_cases heq : L[k] = M[k]
        · have HE := hid (show L.take (k + 1) = M.take (k + 1) from by rw [List.take_succ_eq_append_getElem hlt, List.take_succ_eq_append_getElem hlt2, HSm.out, heq])
          rw [← heq] at d0 d1 d2 d3
          clear heq
          generalize L[k] = x at *
          generalize mk x.data = db at *
          go_wp2
          go_quiet (fail)
          go_wp2
          go_roundw
          case rel => exact ⟨k + 1, by omega, by go_num, below_drew hb _, HE.out⟩
          case measure => simp [intOf]; omega
        · have HF := hid (show decide (L = M) = false from decide_eq_false (fun e => heq (by simp only [e])))
          have HP := hid (fun wx (hx : Below w.heap.size w wx) => (show SamePost w L M (.returned (.bool false)) wx from ⟨by rw [HF.out], hx⟩))
          have hne : (¬ (L[k]'hlt).idx = (M[k]'hlt2).idx) ∨ ((M[k]'hlt2).idx = (L[k]'hlt).idx ∧ ¬ (L[k]'hlt).term = (M[k]'hlt2).term) ∨ ((M[k]'hlt2).idx = (L[k]'hlt).idx ∧ (M[k]'hlt2).term = (L[k]'hlt).term ∧ ¬ (L[k]'hlt).kind = (M[k]'hlt2).kind) ∨ ((M[k]'hlt2).idx = (L[k]'hlt).idx ∧ (M[k]'hlt2).term = (L[k]'hlt).term ∧ (M[k]'hlt2).kind = (L[k]'hlt).kind ∧ ¬ mk (L[k]'hlt).data = mk (M[k]'hlt2).data) := by
            by_cases e0 : (M[k]'hlt2).idx = (L[k]'hlt).idx
            · by_cases e1 : (M[k]'hlt2).term = (L[k]'hlt).term
              · by_cases e2 : (M[k]'hlt2).kind = (L[k]'hlt).kind
                · refine .inr (.inr (.inr ⟨e0, e1, e2, fun e => heq ?_⟩))
                  have e3 : (L[k]'hlt).data = (M[k]'hlt2).data := by have := congrArg (fun b : ByteArray => b.data.toList) e; exact this
                  cases hx : L[k]'hlt
                  cases hy : M[k]'hlt2
                  rw [hx, hy] at e0 e1 e2 e3
                  simp only at e0 e1 e2 e3
                  rw [e0, e1, e2, e3]
                · exact .inr (.inr (.inl ⟨e0, e1, fun e => e2 e.symm⟩))
              · exact .inr (.inl ⟨e0, fun e => e1 e.symm⟩)
            · exact .inl (fun e => e0 e.symm)
          clear heq HF
          generalize (L[k]'hlt).idx = x0 at *
          generalize (L[k]'hlt).term = x1 at *
          generalize (L[k]'hlt).kind = x2 at *
          generalize mk (L[k]'hlt).data = x3 at *
          generalize (M[k]'hlt2).idx = y0 at *
          generalize (M[k]'hlt2).term = y1 at *
          generalize (M[k]'hlt2).kind = y2 at *
          generalize mk (M[k]'hlt2).data = y3 at *
          rcases hne with h0 | ⟨rfl, h1⟩ | ⟨rfl, rfl, h2⟩ | ⟨rfl, rfl, rfl, h3⟩
          · go_wp2
            go_quiet (fail)
            go_wp2
            go_ret
            exact HP.out _ (below_drew hb _)
          · go_wp2
            go_quiet (fail)
            go_wp2
            go_ret
            exact HP.out _ (below_drew hb _)
          · go_wp2
            go_quiet (fail)
            go_wp2
            go_ret
            exact HP.out _ (below_drew hb _)
          · have h4 : ¬ x3.toList = y3.toList := fun e => h3 (by apply str_ext; rw [Lib.toList_data, Lib.toList_data] at e; exact e)
            go_wp2
            go_quiet (fail)
            go_wp2
            go_ret
            exact HP.out _ (below_drew hb _)
      · obtain rfl : k = L.length := by omega
        have HF := hid (show decide (L = M) = true from decide_eq_true (by have h := HSm.out; rwa [List.take_length, HLen.out, List.take_length] at h))
        have HP := hid (show SamePost w L M (.returned (.bool true)) wr from ⟨by rw [HF.out], hb⟩)
        go_wp2
        go_ret
        exact HP.out
  · have hq : ((L.length : Int) != (M.length : Int)) = true := by simp; omega
    have hp : SamePost w L M (.returned (.bool false)) w := ⟨by rw [decide_eq_false (fun e => hlen (by rw [e]))], Below.refl _ _⟩
    have HP := hid hp
    clear hp hlen hc hd
    go_enter Tryz.func24, Tryz.ntmps24
    go_wp2
    go_ret
    exact HP.out
end Go.Proofs.YtpcafkinpkepcaaGreatDoor

/-
  LAYER 3 (wal), the laws' own helpers: shown: what its calls need.
-/
namespace Go.Proofs.YtpcafkinpkepcaaGreatDoor
open Go.RowKit Go.Maps
set_option linter.unusedVariables false
set_option maxRecDepth 100000

theorem open0_names (m : Int) (h0 : 100 ≤ m) : segsL (open0 (newD m)).1.L = [segN 1] ∧ sz (open0 (newD m)).1.L ≤ 100 := by
  have hl := rcH_len
  have hnm : isName (segN 1) = true := isName_segN (n := 1) (by omega)
  have happ : app (newD m) (segN 1) (rcL (.hard ⟨0, 0⟩)) = ({ newD m with L := [newF (segN 1) (rcL (.hard ⟨0, 0⟩))] }, 0) := by
    unfold app
    rw [if_neg (by simp [newD]), if_neg (by simp [hnm])]
    show (if 40 ≤ ([] : List AF).length then _ else if m - ((0 : Nat) : Int) < ((rcL (.hard ⟨0, 0⟩)).length : Int) then _ else _) = _
    rw [if_neg (by simp), if_neg (by omega)]
    exact spends_full (by show (-1 : Int) < 0; omega) _
  have hw : open0 (newD m) = ({ newD m with L := [syncF (newF (segN 1) (rcL (.hard ⟨0, 0⟩)))] }, 0) := by
    unfold open0 wrL
    rw [happ, if_pos rfl]
    unfold syn need
    rw [if_neg (by simp [newD])]
    have hf : fndK AF.key (segN 1) [newF (segN 1) (rcL (.hard ⟨0, 0⟩))] = some (newF (segN 1) (rcL (.hard ⟨0, 0⟩))) := by simp [fndK, newF, AF.key]
    show (match fndK AF.key (segN 1) [newF (segN 1) (rcL (.hard ⟨0, 0⟩))] with | none => _ | some f => _) = _
    rw [hf]
    refine (spends_full (s := { newD m with L := [newF (segN 1) (rcL (.hard ⟨0, 0⟩))] }) (by show (-1 : Int) < 0; omega) _).trans ?_
    simp [updK, newF, AF.key]
  rw [hw]
  refine ⟨?_, ?_⟩
  · show sortSeg (([(segN 1 : List UInt8)] : List (List UInt8)).filter isSeg) = [segN 1]
    have : isSeg (segN 1) = true := isSeg_segN (n := 1) (by omega) (by omega)
    rw [List.filter_cons_of_pos this]
    simp [sortSeg]
  · show sz [syncF (newF (segN 1) (rcL (.hard ⟨0, 0⟩)))] ≤ 100
    simp [sz, syncF, newF]
    omega
theorem entRec_small {e : En} (hi : e.In) (hd : e.data.length ≤ 10) : (rcL (.entry e)).length ≤ 80 := by
  have h1 := encs_length [2, e.idx, e.term, e.kind] (by simp; exact ⟨hi.idx, hi.term, hi.kind⟩)
  have h2 := enc_length (nat64_lt (n := (e.data.length : Int)) (by omega) (by omega))
  unfold rcL
  rw [frameL_length]
  show 8 + (encs [2, e.idx, e.term, e.kind] ++ txt e.data).length ≤ 80
  rw [List.length_append]
  show 8 + (_ + (enc (nat64 (e.data.length : Int)) ++ e.data).length) ≤ _
  rw [List.length_append]
  simp only [List.length_cons, List.length_nil] at h1
  omega
theorem entRecs_small : ∀ {l : List En}, (∀ e ∈ l, e.In ∧ e.data.length ≤ 10) → (entRecs l).length ≤ 80 * l.length
  | [], _ => by simp [entRecs, rcsL]
  | e :: l, h => by
    have h1 := entRecs_small (l := l) (fun x hx => h x (by simp [hx]))
    have h2 := entRec_small (h e (by simp)).1 (h e (by simp)).2
    simp only [entRecs, rcsL, List.map_cons, List.flatMap_cons, List.length_append, List.length_cons] at *
    omega
theorem hard_len {h : Hd} (h1 : I64 h.term) (h2 : I64 h.vote) : (rcL (.hard h)).length ≤ 100 := by
  have := encs_length [1, h.term, h.vote] (by intro m hm; simp at hm; rcases hm with rfl | rfl | rfl; exact ⟨by omega, by omega⟩; exact h1; exact h2)
  unfold rcL
  rw [frameL_length]
  simp only [payL]
  simp at this
  omega
theorem reset_len : (rcL .reset).length ≤ 100 := by
  have := encs_length [3] (by intro m hm; simp at hm; subst hm; exact ⟨by omega, by omega⟩)
  unfold rcL
  rw [frameL_length]
  simp only [payL]
  simp at this
  omega
def h12 : Hd := ⟨1, 2⟩
/-- How the example's log stands. -/
structure Sh (W wx : World) (T : Nat → Prop) (p a H B0 k : Nat) (s : Dk) (g : Lg) : Prop where
  log : LogAt wx T p a s g
  good : Good s
  most : s.most = 10000
  room : sz s.L ≤ 300 * k
  box : own wx H #[.int .i64 1, .int .i64 2] 50
  tH : ¬ T H
  ge : ∀ b, T b → W.heap.size ≤ b
  glob : Glob wx B0
  b0 : B0 ≤ W.heap.size
  below : Below W.heap.size W wx
  len : g.L.length ≤ 2 * k
theorem Sh.later {W wx wy : World} {T : Nat → Prop} {p a H B0 k : Nat} {s : Dk} {g : Lg} (h : Sh W wx T p a H B0 k s g) (hb : Below wx.heap.size wx wy) : Sh W wy T p a H B0 k s g :=
  ⟨h.log.below hb, h.good, h.most, h.room, h.box.same (hb.block _ h.box.lt), h.tH, h.ge, h.glob.below hb (by have := h.b0; have := h.below.size; omega), h.b0, h.below.trans (hb.mono h.below.size), h.len⟩
theorem Sh.run {W wx wy : World} {T : Nat → Prop} {p a H B0 k k' : Nat} {s s' : Dk} {g g' : Lg} (h : Sh W wx T p a H B0 k s g) (hr : LgRun wx T p a s' g' wy) (hg : Good s') (hm : s'.most = 10000) (hz : sz s'.L ≤ 300 * k') (hl : g'.L.length ≤ 2 * k') : Sh W wy (grow T wx wy) p a H B0 k' s' g' := by
  refine ⟨hr.1, hg, hm, hz, h.box.same (hr.2.block _ h.box.lt h.tH), fun e => ?_, fun b hb => ?_, h.glob.chg hr.2 (by have := h.b0; have := h.below.size; omega) (fun b hb => by have := h.ge b hb; have := h.b0; omega), h.b0, h.below.trans (hr.2.below h.below.size h.ge), hl⟩
  · rcases e with e | e
    · exact h.tH e
    · have := h.box.lt; omega
  · rcases hb with hb | hb
    · exact h.ge b hb
    · have := h.below.size; omega
/-- What was there and is not the log's stays. -/
def Keeps (wx : World) (T : Nat → Prop) (wy : World) (T' : Nat → Prop) : Prop := wx.heap.size ≤ wy.heap.size ∧ ∀ b, b < wx.heap.size → ¬ T b → wy.heap[b]? = wx.heap[b]? ∧ ¬ T' b
theorem keeps_run {wx wy : World} {T : Nat → Prop} (hc : Chg T wx wy) : Keeps wx T wy (grow T wx wy) := ⟨hc.size, fun b hb hT => ⟨hc.block b hb hT, fun e => e.elim hT (fun e => by omega)⟩⟩
def ShPost (W wx : World) (T : Nat → Prop) (p a H B0 k : Nat) (g : Lg) (e : Ending) (wy : World) : Prop :=
  e = .returned (.int .i64 0) ∧ ∃ T' s', Sh W wy T' p a H B0 k s' g ∧ Keeps wx T wy T'
theorem Sh.save {W wx : World} {T : Nat → Prop} {p a H B0 k : Nat} {s : Dk} {g : Lg} (h : Sh W wx T p a H B0 k s g) (hk : k ≤ 20) (v : Value) (l : List En) (hv : EntsAt wx v l) (hvT : ∀ g0 o n c, v = .slice (some ⟨g0, o, none⟩) n c → ¬ T g0) (hl : 1 ≤ l.length ∧ l.length ≤ 2) (hin : ∀ e ∈ l, e.In ∧ e.data.length ≤ 10) (hall : l.all entB = true) :
    Calls Tryz.prog 42 #[.pointer (some ⟨p, 0, none⟩), .agg #[.int .i64 1, .int .i64 2], v] wx (ShPost W wx T p a H B0 (k + 1) ⟨h12, putEs g.L l⟩) := by
  have hglen := h.len
  refine (save_any h.log h.glob (by have := h.b0; have := h.below.size; omega) h12 ⟨by decide, by decide⟩ ⟨by decide, by decide⟩ v l hv hvT (fun e he => ⟨(hin e he).1, by have := (hin e he).2; omega⟩) (by omega) (by omega)).mono ?_
  rintro e wy ⟨he, hr⟩
  have hrec := entRecs_small hin
  have hroom := h.room
  have hmost := h.most
  have hhd : (hdRec s (roomL s).2.1 g h12).length ≤ 100 := by
    unfold hdRec
    split
    · exact hard_len ⟨by decide, by decide⟩ ⟨by decide, by decide⟩
    · simp
  rcases h.good.save g h12 l with ⟨_, h1⟩ | ⟨_, h1, _⟩ | ⟨_, h1⟩ | ⟨h1, h2, _, _, h5, h6⟩
  · exfalso
    rcases h1 with h1 | h1
    · rw [hall] at h1; cases h1
    · exact absurd h1 (by decide)
  · rw [h1] at hl; simp at hl
  · exfalso
    rw [List.length_append] at h1
    omega
  · have e1 : (saveL s g h12 l).2.1 = ⟨h12, putEs g.L l⟩ := by rw [h1]
    have e2 : (saveL s g h12 l).2.2 = 0 := by rw [h1]
    rw [e1] at hr
    rw [e2] at he
    have hpl := putEs_le l g.L
    exact ⟨he, _, _, h.run hr h2 (by rw [h6, hmost]) (by rw [h5, List.length_append]; omega) (by show (putEs g.L l).length ≤ _; omega), keeps_run hr.2⟩
theorem Sh.reset {W wx : World} {T : Nat → Prop} {p a H B0 k : Nat} {s : Dk} {g : Lg} (h : Sh W wx T p a H B0 k s g) (hk : k ≤ 20) :
    Calls Tryz.prog 56 #[.pointer (some ⟨p, 0, none⟩)] wx fun e wy => e = .returned (.int .i64 0) ∧ ∃ T' s', LogAt wy T' p a s' ⟨g.hd, []⟩ ∧ Keeps wx T wy T' ∧ Below W.heap.size W wy := by
  refine (reset_any h.log h.glob (by have := h.b0; have := h.below.size; omega)).mono ?_
  rintro e wy ⟨he, hr⟩
  have hroom := h.room
  have hmost := h.most
  have hrl := reset_len
  have hh := hard_len h.log.ok.hd.2.1 h.log.ok.hd.2.2
  rcases h.good.reset g with ⟨_, h1⟩ | ⟨h1, h2, _⟩
  · exfalso
    rw [List.length_append] at h1
    split at h1
    · omega
    · simp at h1; omega
  · have e1 : (resetL s g).2.1 = ⟨g.hd, []⟩ := by rw [h1]
    have e2 : (resetL s g).2.2 = 0 := by rw [h1]
    rw [e1] at hr
    rw [e2] at he
    exact ⟨he, _, _, hr.1, keeps_run hr.2, h.below.trans (hr.2.below h.below.size h.ge)⟩
end Go.Proofs.YtpcafkinpkepcaaGreatDoor

