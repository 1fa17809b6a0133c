import Derived.Test.YtbccikefccdekaaGreatDoorSnItJ
import Derived.Test.YtbccikefccdekaaGreatDoorSnHdJ
import Derived.Sort.CutIn
/-
  LAYER 4 (snap), THE PROGRAM: the frames of a base, as an iterator over an iterator.
-/
namespace Go.Proofs.YtbccikefccdekaaGreatDoor
open Go.RowKit Go.Shelf
attribute [local go_sem] Oper.semAt_some
set_option linter.unusedVariables false
set_option maxRecDepth 100000

/-- A chunk's frame; a base's frames. -/
def frB (x : ByteArray) : ByteArray := mk (frameL x.data.toList)
def framesB (b : Bs) : List ByteArray := mk (frameL (headS b)) :: (chB b.data).map frB
theorem framesB_is (b : Bs) : framesB b = (framesS b).map mk := by
  unfold framesB framesS chB
  simp only [List.map_cons, List.map_map]
  congr 1
theorem framesB_len (b : Bs) : (framesB b).length = (chB b.data).length + 1 := by unfold framesB; rw [List.length_cons, List.length_map]
theorem chB_small {d : List UInt8} {x : ByteArray} (h : x ∈ chB d) : x.size ≤ 1000 := by
  obtain ⟨k, hk, hx⟩ := List.getElem_of_mem h
  have hx' : (chB d)[k]? = some x := by rw [List.getElem?_eq_getElem hk, hx]
  rcases Nat.lt_or_ge (1000 * k) d.length with h1 | h1
  · rw [chB_at h1] at hx'
    have := Option.some.inj hx'
    rw [← this, mk_size, List.length_take]
    omega
  · have := (chunksS_at k d).2 h1
    unfold chB at hk
    rw [List.length_map] at hk
    omega
set_option maxHeartbeats 1000000 in
theorem chunks_any (d : ByteArray) (w : World) : Calls Tryz.prog 48 #[.string d] w fun e w' => e = .returned (.func (.func 76) #[] #[.pointer (some ⟨w.heap.size, 0, none⟩)]) ∧ w' = w.alloc (.cells #[.string d] 9) := by
  go_enter Tryz.func48, Tryz.ntmps48
  go_wp2
  go_ret
  exact ⟨rfl, rfl⟩
set_option maxHeartbeats 1000000 in
theorem frames_any (v : Value) (c0 c1 c2 c3 : Value) (w : World) : Calls Tryz.prog 24 #[.agg #[c0, c1, c2, c3]] w fun e w' => e = .returned (.func (.func 45) #[] #[.pointer (some ⟨w.heap.size, 0, none⟩)]) ∧ w' = w.alloc (.cells #[c0, c1, c2, c3] 24) := by
  go_enter Tryz.func24, Tryz.ntmps24
  go_wp2
  go_ret
  exact ⟨rfl, rfl⟩
theorem chg_abide {A C : World} {B : Nat} {F : Nat → Prop} (h : Below B A C) (hB : B ≤ A.heap.size) : Chg (fun b => B ≤ b ∧ ¬ F b) A C → True := fun _ => trivial
/-- What a round leaves, in one shape. -/
def PY (J Jx : (Nat → Prop) → List ByteArray → World → Prop) (F : Nat → Prop) (xs : List ByteArray) (W : World) (r : Bool) (W' : World) : Prop := (∃ F', (if r then J else Jx) F' xs W' ∧ (∀ b, F' b → F b ∨ W.heap.size ≤ b)) ∧ Chg F W W'
theorem roundT_py {J Jx : (Nat → Prop) → List ByteArray → World → Prop} {F : Nat → Prop} {xs : List ByteArray} {W : World} {e : Ending} {W' : World} (h : RoundT J Jx F xs W e W') : ∃ r : Bool, e = .returned (.bool r) ∧ PY J Jx F xs W r W' := by
  rcases h with ⟨rfl, h1, h2⟩ | ⟨rfl, h1, h2⟩
  · exact ⟨true, rfl, h1, h2⟩
  · exact ⟨false, rfl, h1, h2⟩
theorem abide_below {β : Type} {B : Nat} {J : (Nat → Prop) → β → World → Prop} (hJ : Abide B J) {F : Nat → Prop} {s : β} {A C : World} (h : J F s A) (hb : Below A.heap.size A C) : J F s C := hJ _ _ _ _ h ⟨hb.os, hb.tape, hb.output, hb.size, fun b hb' _ => hb.block b hb'⟩
set_option maxHeartbeats 8000000 in
theorem frames_seq (Bb : Nat) (b : Bs) (hb : rightS b = true) (vv : Value) (w : World) (hB : own w Bb (bcells b vv) 24) (hv : BAt w vv b) (hS : Steps w) (hs : 0 < w.heap.size) :
    SeqT Tryz.prog 45 #[.pointer (some ⟨Bb, 0, none⟩)] encB (fun x => x = Bb ∨ x = 0) (fun xs => xs = framesB b) (fun pre => pre <+: framesB b) w := by
  intro n l J Jx F0 W hW hJ hJx hlt hltx hFD hY h0
  refine callsIn_of_wp_marks Tryz.func45 rfl trivial ?_ rfl
  simp only [Tryz.ntmps45, List.size_toArray, List.length_cons, List.length_nil, Nat.reduceAdd, Nat.reduceSub, Array.replicate_succ, Array.replicate_zero, List.push_toArray, List.append_toArray, List.nil_append, List.cons_append]
  have oW : own W Bb (bcells b vv) 24 := hB.same (hW.block _ hB.lt)
  obtain ⟨W1, hW1⟩ : ∃ W1, W.alloc (.cells #[.func (.yield l) #[] #[]] 83) = W1 := ⟨_, rfl⟩
  have hbW1 : Below W.heap.size W W1 := by rw [← hW1]; exact (Below.refl _ _).alloc (Nat.le_refl _) _
  have oY : own W1 W.heap.size #[.func (.yield l) #[] #[]] 83 := by rw [← hW1]; exact own.new W _ _
  have oB : own W1 Bb (bcells b vv) 24 := oW.same (hbW1.block _ oW.lt)
  have hBW := oW.lt
  have hW1s : W1.heap.size = W.heap.size + 1 := by rw [← hW1]; simp
  have hsW : 0 < W.heap.size := by have := hW.size; omega
  have hbw1 : Below w.heap.size w W1 := hW.trans (hbW1.mono hW.size)
  have vW1 : BAt W1 vv b := hv.below hbw1
  have sW1 : Steps W1 := fun i hi => (hbw1.cell (p := ⟨0, i, none⟩) hs).trans (hS i hi)
  have hhl := headS_len hb
  have HH := hid (fun wx (h : Below W1.heap.size W1 wx) => snHead_any (vW1.below h))
  have HF := hid (fun wx (h : Below W1.heap.size W1 wx) => snFrame_any (mk (headS b)) wx (by rw [mk_size]; omega) (fun i hi => (h.cell (p := ⟨0, i, none⟩) (by show 0 < W1.heap.size; omega)).trans (sW1 i hi)) (by have := h.size; omega))
  rw [mk_data] at HF
  have HY1 : Hid (∀ wx, Below W1.heap.size W1 wx → ∃ fn tmps assign body, (Instr.yield l #[.string (mk (frameL (headS b)))]).run Tryz.prog wx = .ok (.round l fn tmps assign body) wx ∧ RoundIn Fence.wide (n - 1) Tryz.prog l fn tmps assign body wx (fun e w' => ∃ r : Bool, e = .returned (.bool r) ∧ PY J Jx F0 [mk (frameL (headS b))] wx r w')) := hid (fun wx h => by
    obtain ⟨fn, tmps, assign, body, hy, hR⟩ := yield_wide (m' := n - 1) (hY F0 [] (mk (frameL (headS b))) wx (abide_below hJ h0 (hbW1.trans (h.mono hbW1.size))) (show [mk (frameL (headS b))] <+: framesB b from ⟨_, rfl⟩))
    exact ⟨fn, tmps, assign, body, hy, hR.mono (fun e w' q => roundT_py q)⟩)
  have HC1 : Hid (∀ wx, Below W1.heap.size W1 wx → wx.cell? ⟨W.heap.size, 0, none⟩ = some (.func (.yield l) #[] #[]) ∧ wx.cell? ⟨Bb, 0, none⟩ = some (.int .i64 b.ix) ∧ wx.cell? ⟨Bb, 1, none⟩ = some (.int .i64 b.tm) ∧ wx.cell? ⟨Bb, 2, none⟩ = some vv ∧ wx.cell? ⟨Bb, 3, none⟩ = some (.string (mk b.data))) := hid (fun wx h => by
    have o1 := oY.same (h.block _ oY.lt)
    have o2 := oB.same (h.block _ oB.lt)
    exact ⟨(o1.cell 0).trans rfl, (o2.cell 0).trans rfl, (o2.cell 1).trans rfl, (o2.cell 2).trans rfl, (o2.cell 3).trans rfl⟩)
  have HT : Hid (∀ wx wy, Below W1.heap.size W1 wx → Below wx.heap.size wx wy → Below W1.heap.size W1 wy) := hid (fun wx wy h k => h.trans (k.mono h.size))
  have hmix : Tryz.prog.follows .mixedOrders = true := by kernel_rfl
  have bD : Below W1.heap.size W1 W1.drew := Below.drew (Below.refl _ _)
  obtain ⟨y0, y1, y2, y3, y4⟩ := HC1.out _ bD
  dsimp only [bval] at HH
  gi_wp2
  clear hW1
  gi_cut [9] from 19 (fun u9 wx => ∃ (r : Bool) (w3 : World), u9 = .bool (!r) ∧ Below W1.heap.size W1 w3 ∧ Hid (PY J Jx F0 [mk (frameL (headS b))] w3 r wx))
  case first =>
    rename_i jj kk hjj hkk
    first | (gi_region_with_o (first
      | (refine ⟨trivial, fun h => by (cases h), ?_⟩; with_reducible refine (callsIn_wide.2 (HH.out _ bD)).mono ?_; rintro e w2 ⟨rfl, hb2⟩; have bE := HT.out _ _ bD hb2; obtain ⟨z0, z1, z2, z3, z4⟩ := HC1.out _ bE)
      | (refine ⟨trivial, fun h => by (cases h), ?_⟩; with_reducible refine (callsIn_wide.2 (HF.out _ bE)).mono ?_; rintro e w3 ⟨rfl, hb3⟩; have bF := HT.out _ _ bE hb3; obtain ⟨x0, x1, x2, x3, x4⟩ := HC1.out _ bF; obtain ⟨fn, tmps, assign, body, hy, hR⟩ := HY1.out _ bF)
      | (refine ⟨fun h => by (cases h), hR.mono ?_⟩; rintro e w4 ⟨r, rfl, hp⟩; have HP4 := hid hp; clear hp))) | (fail "region")
    all_goals
      refine hkk _ _ (Met.intro (hjj _ _ ?_))
      repeat apply Exists.intro
      refine ⟨?_, rfl⟩
      exact ⟨r, _, rfl, bF, HP4⟩
  case rest =>
    obtain ⟨r, w3, rfl, hb3, hP⟩ := hcut
    obtain ⟨⟨F1, hj1, hF1⟩, hC1⟩ := hP.out
    have nY : ¬ F0 W.heap.size := fun e => by have := hlt _ _ _ h0 _ e; omega
    have nB : ¬ F0 Bb := fun e => hFD _ e (.inl rfl)
    have nS : ¬ F0 0 := fun e => hFD _ e (.inr rfl)
    have o3Y := oY.same (hb3.block _ oY.lt)
    have o3B := oB.same (hb3.block _ oB.lt)
    have oYc := o3Y.chg hC1 nY
    have oBc := o3B.chg hC1 nB
    have hb3s := hb3.size
    have hcs := hC1.size
    have sWc : Steps wc := fun i hi => by
      have e1 := (hb3.cell (p := ⟨0, i, none⟩) (by show 0 < W1.heap.size; omega)).trans (sW1 i hi)
      rw [← e1]
      exact World.cell?_of_block (hC1.block _ (show 0 < w3.heap.size by omega) nS)
    have hdl : b.data.length ≤ 4000000 := (rightS_parts hb).2.2.2.2
    have hF1Y : ¬ F1 W.heap.size ∧ ¬ F1 Bb ∧ ¬ F1 0 := ⟨fun e => (hF1 _ e).elim nY (fun k => by omega), fun e => (hF1 _ e).elim nB (fun k => by omega), fun e => (hF1 _ e).elim nS (fun k => by omega)⟩
    clear HH HF HY1 HC1 HT y0 y1 y2 y3 y4 bD hP o3Y o3B
    have c0 := (oYc.cell 0).trans rfl
    have c1 := (oBc.cell 3).trans (rfl : (bcells b vv)[3]? = some (.string (mk b.data)))
    cases r with
    | false =>
      gi_wp2
      refine ⟨_, results_none rfl _ _ _, ?_⟩
      exact ⟨⟨_, rfl⟩, .inr ⟨F1, [mk (frameL (headS b))], ⟨_, rfl⟩, hj1⟩⟩
    | true =>
      gi_wp2_with (refine ⟨trivial, fun h => by (cases h), ?_⟩; with_reducible refine (callsIn_wide.2 (chunks_any _ _)).mono ?_; rintro e w5 ⟨rfl, rfl⟩)
      have hJ' : J F1 [mk (frameL (headS b))] wc := hj1
      obtain ⟨W5, hW5⟩ : ∃ W5, wc.alloc (.cells #[.string (mk b.data)] 9) = W5 := ⟨_, rfl⟩
      have oD : own W5 wc.heap.size #[.string (mk b.data)] 9 := by rw [← hW5]; exact own.new wc _ _
      have hb5 : Below wc.heap.size wc W5 := by rw [← hW5]; exact (Below.refl _ _).alloc (Nat.le_refl _) _
      have hz5 : W5.heap.size = wc.heap.size + 1 := by rw [← hW5]; simp
      have hF1l := hlt _ _ _ hJ'
      rw [hW5]
      refine wpIn_rangeT (gf := 76) (lb := #[.pointer (some ⟨wc.heap.size, 0, none⟩)]) rfl (enters_of Tryz.func76 (by kernel_rfl) rfl)
        (chunks_seq wc.heap.size b.data hdl W5 oD) (Below.refl _ _) (fun x e => by rw [e, hz5]; exact Nat.lt_succ_self _) (fun _ => rfl)
        (fun F pre Wx => J F (mk (frameL (headS b)) :: pre.map frB) Wx ∧ (own Wx W.heap.size #[.func (.yield l) #[] #[]] 83 ∧ Steps Wx) ∧ (¬ F W.heap.size ∧ ¬ F 0))
        (fun F pre Wx => Jx F (mk (frameL (headS b)) :: pre.map frB) Wx)
        ?hI ?hIx (fun F s A h => hlt _ _ _ h.1) (fun F s A h => hltx _ _ _ h) F1 (fun x e => by have := hF1l x e; omega) (fun x e k => by have := hF1l x e; omega)
        ?h0
        (fun x => { tmps := #[.func (.yield l) #[] #[], .pointer (some ⟨Bb, 0, none⟩), .pointer (some ⟨W.heap.size, 0, none⟩), .string x, u4, u5, u6, u7, u8, .bool false, .pointer (some ⟨Bb, 3, none⟩), .string (mk b.data), .func (.func 76) #[] #[.pointer (some ⟨wc.heap.size, 0, none⟩)], .string x, undef, undef, undef, undef, undef], defers := [] }) ?assign ?body ?done ?stop
      case hI =>
        rintro F s A C ⟨h1, ⟨h2, h3⟩, h4, h5⟩ hc
        have hc' : Chg (fun x => W.heap.size ≤ x ∧ ¬ F x) A C := hc.mono (fun x e => ⟨by omega, e.2⟩)
        have hw5 : W.heap.size < W5.heap.size := by omega
        refine ⟨hJ _ _ _ _ h1 hc', ⟨h2.chg hc (fun e => by omega), fun i hi => ?_⟩, h4, h5⟩
        rw [← h3 i hi]
        exact World.cell?_of_block (hc.block _ (show 0 < A.heap.size by have := h2.lt; omega) (fun e => by have e1 : W5.heap.size ≤ 0 := e.1; omega))
      case hIx =>
        intro F s A C h1 hc
        exact hJx _ _ _ _ h1 (hc.mono (fun x e => ⟨by omega, e.2⟩))
      case h0 =>
        refine ⟨abide_below hJ hJ' hb5, ⟨oYc.same (hb5.block _ oYc.lt), fun i hi => ?_⟩, hF1Y.1, hF1Y.2.2⟩
        exact (hb5.cell (p := ⟨0, i, none⟩) (show 0 < wc.heap.size by omega)).trans (sWc i hi)
      case assign =>
        intro l2 x Wx K hK
        unfold encB
        gi_wp2
        exact hK
      case body =>
        rintro l2 F pre x Wx ⟨hj, ⟨oy, hsx⟩, hny, hns⟩ hsp hsz
        clear hJ' hj1
        have hxs : x.size ≤ 1000 := chB_small (hsp.subset (by simp))
        have hstx : 0 < Wx.heap.size := by omega
        have HF2 := hid (fun wy (h : Below Wx.heap.size Wx wy) => snFrame_any x wy (by omega) (fun i hi => (h.cell (p := ⟨0, i, none⟩) hstx).trans (hsx i hi)) (by have := h.size; omega))
        have HY2 : Hid (∀ wy, Below Wx.heap.size Wx wy → ∃ fn tmps assign body, (Instr.yield l #[.string (mk (frameL x.data.toList))]).run Tryz.prog wy = .ok (.round l fn tmps assign body) wy ∧ RoundIn (Fence.wide.inRound l2) 0 Tryz.prog l fn tmps assign body wy (fun e w' => ∃ r : Bool, e = .returned (.bool r) ∧ PY J Jx F (mk (frameL (headS b)) :: (pre ++ [x]).map frB) wy r w')) := hid (fun wy h => by
          obtain ⟨fn, tmps, assign, body, hy, hR⟩ := yield_any (l2 := l2) (m' := 0) (hY F (mk (frameL (headS b)) :: pre.map frB) (frB x) wy (abide_below hJ hj h) (by
            obtain ⟨q, hq⟩ := hsp
            refine ⟨q.map frB, ?_⟩
            unfold framesB
            rw [← hq]
            simp))
          refine ⟨fn, tmps, assign, body, hy, hR.mono (fun e w' q => ?_)⟩
          have := roundT_py q
          rw [List.map_append]
          exact this)
        have HC2 : Hid (∀ wy, Below Wx.heap.size Wx wy → wy.cell? ⟨W.heap.size, 0, none⟩ = some (.func (.yield l) #[] #[])) := hid (fun wy h => (((oy.same (h.block _ oy.lt)).cell 0).trans rfl))
        have bD2 : Below Wx.heap.size Wx Wx.drew := Below.drew (Below.refl _ _)
        have HT2 : Hid (∀ wy wz, Below Wx.heap.size Wx wy → Below wy.heap.size wy wz → Below Wx.heap.size Wx wz) := hid (fun wy wz h k => h.trans (k.mono h.size))
        have y0 := HC2.out _ bD2
        have HO := hid oy
        have HS2 := hid hsx
        have HI2 := hid hsp
        clear hY hj hJ hJx hlt hFD h0 oD hb5 oYc oBc sWc sW1 vW1 oB oY oW hC1 hb3 hv hB hS hW hbW1 hbw1 oy hsx hsp hdl hxs c0 c1
        gi_wp2
        gi_cut [18] from 19 (fun u18 wx => ∃ (r : Bool) (w4 : World), u18 = .bool (!r) ∧ Below Wx.heap.size Wx w4 ∧ Hid (PY J Jx F (mk (frameL (headS b)) :: (pre ++ [x]).map frB) w4 r wx))
        case first =>
          rename_i jj kk hjj hkk
          first | (gi_region_with_o (first
            | (refine ⟨trivial, rfl, ?_⟩; with_reducible refine (CallsIn.inRound l2 (callsIn_wide.2 (HF2.out _ bD2))).mono ?_; rintro e w3 ⟨rfl, hb3⟩; have bF := HT2.out _ _ bD2 hb3; have x0 := HC2.out _ bF; obtain ⟨fn, tmps, assign, body, hy, hR⟩ := HY2.out _ bF)
            | (refine ⟨rfl, hR.mono ?_⟩; rintro e w4 ⟨r, rfl, hp⟩; have HP4 := hid hp; clear hp))) | (fail "region")
          all_goals
            refine hkk _ _ (Met.intro (hjj _ _ ?_))
            repeat apply Exists.intro
            refine ⟨?_, rfl⟩
            exact ⟨r, _, rfl, bF, HP4⟩
        case rest =>
          obtain ⟨r, w4, rfl, hb4, hP2⟩ := hcut
          obtain ⟨⟨F2, hj2, hF2⟩, hC2⟩ := hP2.out
          have hb4s := hb4.size
          have hCw : Chg F Wx wc := (Chg.of_below hb4).trans hC2 (fun x e => .inl e)
          have hF2' : ∀ x, F2 x → F x ∨ Wx.heap.size ≤ x := fun x e => (hF2 x e).imp id (fun k => by omega)
          have HCw := hid hCw
          have HF2' := hid hF2'
          cases r with
          | false =>
            have HE : Hid (∃ F', Jx F' (mk (frameL (headS b)) :: (pre ++ [x]).map frB) wc ∧ ∀ y, F' y → F y ∨ Wx.heap.size ≤ y) := hid ⟨F2, hj2, hF2'⟩
            clear hj2 hF2 hC2 hP2 hCw hF2'
            gi_wp2
            exact ⟨HE.out, HCw.out⟩
          | true =>
            have HE : Hid (∃ F', (J F' (mk (frameL (headS b)) :: (pre ++ [x]).map frB) wc ∧ (own wc W.heap.size #[.func (.yield l) #[] #[]] 83 ∧ Steps wc) ∧ (¬ F' W.heap.size ∧ ¬ F' 0)) ∧ ∀ y, F' y → F y ∨ Wx.heap.size ≤ y) := hid ⟨F2, ⟨hj2, ⟨HO.out.chg hCw hny, fun i hi => (World.cell?_of_block (hCw.block _ (show 0 < Wx.heap.size from hstx) hns)).trans (HS2.out i hi)⟩, fun e => (hF2' _ e).elim hny (fun k => by have := HO.out.lt; omega), fun e => (hF2' _ e).elim hns (fun k => by omega)⟩, hF2'⟩
            clear hj2 hF2 hC2 hP2 hCw hF2'
            gi_wp2
            exact ⟨HE.out, HCw.out⟩
      case done =>
        rintro K F xs Wx hK hFK rfl ⟨hj, -⟩ hKd
        have HE : Hid (J F (framesB b) Wx) := hid hj
        have HA := hid (hJ F (framesB b) Wx (Wx.putObj K (.deferred none)) hj ((chg_putObj Wx K _).mono (fun x e => ⟨by omega, by rw [e]; exact hFK⟩)))
        clear hj
        gi_wp2
        refine ⟨by simp, .inl ⟨_, _, rfl, run_takeDeferred hKd, ?_⟩⟩
        refine ⟨_, results_none rfl _ _ _, ⟨_, rfl⟩, .inl ⟨F, _, rfl, HA.out⟩⟩
      case stop =>
        rintro K F pre Wx hK hFK hsp hj hKd
        have HA := hid (hJx F _ Wx (Wx.putObj K (.deferred none)) hj ((chg_putObj Wx K _).mono (fun x e => ⟨by omega, by rw [e]; exact hFK⟩)))
        have HP : Hid (mk (frameL (headS b)) :: pre.map frB <+: framesB b) := hid (by
          obtain ⟨q, hq⟩ := hsp
          refine ⟨q.map frB, ?_⟩
          unfold framesB
          rw [← hq]
          simp)
        clear hj hsp
        gi_wp2
        refine ⟨by simp, .inl ⟨_, _, rfl, run_takeDeferred hKd, ?_⟩⟩
        refine ⟨_, results_none rfl _ _ _, ⟨_, rfl⟩, .inr ⟨F, _, HP.out, HA.out⟩⟩
end Go.Proofs.YtbccikefccdekaaGreatDoor

