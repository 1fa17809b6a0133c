import Derived.Test.YtbccikefccdekaaGreatDoorSnFrJ
import Derived.Test.YtbccikefccdekaaGreatDoorGBuild2J
/-
  LAYER 4 (snap), THE PROGRAM: Pack.
-/
namespace Go.Proofs.YtbccikefccdekaaGreatDoor
open Go.RowKit Go.Shelf
attribute [local go_sem] Oper.semAt_some
set_option linter.unusedVariables false
set_option maxRecDepth 100000

theorem blkOk_plainS : BlkOk 51 := ⟨by kernel_rfl, by decide⟩
def flatB (l : List ByteArray) : List UInt8 := l.flatMap (·.data.toList)
theorem flatB_snoc (l : List ByteArray) (x : ByteArray) : flatB (l ++ [x]) = flatB l ++ x.data.toList := by unfold flatB; simp
theorem flatB_frames (b : Bs) : flatB (framesB b) = packS b := by
  rw [framesB_is]
  unfold flatB packS
  rw [List.flatMap_map, List.flatten_eq_flatMap]
  rfl
theorem flatB_pre {l m : List ByteArray} (h : l <+: m) : (flatB l).length ≤ (flatB m).length := by
  obtain ⟨q, rfl⟩ := h
  unfold flatB
  rw [List.flatMap_append, List.length_append]
  omega
theorem packS_small {b : Bs} (h : rightS b = true) : (packS b).length ≤ 40000000 := by
  have h1 : (packS b).length = 8 + (headS b).length + (chunkBytes b.data).length := by rw [packS_is, List.length_append, frameL_length]
  have h2 : ∀ (k : Nat) (d : List UInt8), d.length ≤ k → (chunkBytes d).length ≤ 9 * d.length := by
    intro k
    induction k with
    | zero => intro d hd; have : d = [] := List.length_eq_zero_iff.1 (by omega); subst this; simp [chunkBytes, chunksS_nil]
    | succ k ih =>
      intro d hd
      by_cases h0 : d = []
      · subst h0; simp [chunkBytes, chunksS_nil]
      · have hpos := List.length_pos_iff.2 h0
        rw [chunkBytes_cons h0, List.length_append, frameL_length]
        have h3 := ih (d.drop 1000) (by rw [List.length_drop]; omega)
        rw [List.length_drop] at h3
        rw [List.length_take]
        omega
  have := h2 _ b.data (Nat.le_refl _)
  have := headS_len h
  have := (rightS_parts h).2.2.2.2
  omega
theorem packS_ne (b : Bs) : packS b ≠ [] := fun e => by
  have := congrArg List.length e
  rw [packS_is, List.length_append, frameL_length, List.length_nil] at this
  omega
def packR (b : Bs) : List UInt8 := if rightS b = true then packS b else []
def packE (b : Bs) : Int := if rightS b = true then 0 else 1
def PackPost (w : World) (b : Bs) (e : Ending) (w' : World) : Prop := e = .returned (.tuple #[.string (mk (packR b)), .int .i64 (packE b)]) ∧ Below w.heap.size w w'
/-- The builder between two rounds. -/
def PkI (w : World) (g : Nat) (F : Nat → Prop) (pre : List ByteArray) (W : World) : Prop := ∃ v, F = (fun x => x = g ∨ v.ownBlock = some x) ∧ Bu 51 g g v (flatB pre) W ∧ Below w.heap.size w W ∧ w.heap.size ≤ g
theorem pkI_abide (w : World) (g B : Nat) (hB : g < B) : Abide B (PkI w g) := by
  rintro F pre A C ⟨v, rfl, hb, hw, hg⟩ hc
  refine ⟨v, rfl, hb.chg hc (fun e => by omega) (fun x e k => k.2 (.inr e)), hw.trans (hc.below hw.size (fun x e => by omega)), hg⟩
theorem pkI_lt {w : World} {g : Nat} {F : Nat → Prop} {pre : List ByteArray} {W : World} (h : PkI w g F pre W) : ∀ x, F x → x < W.heap.size := by
  obtain ⟨v, rfl, hb, hw, hg⟩ := h
  rintro x (e | e)
  · rw [e]; exact hb.lt
  · exact (hb.row_lt x e).2
set_option maxHeartbeats 8000000 in
theorem snPack_any {w : World} {b : Bs} {vv : Value} (h : BAt w vv b) (hS : Steps w) (hs : 0 < w.heap.size) : Calls Tryz.prog 8 #[bval b vv] w (PackPost w b) := by
  obtain ⟨W0, hW0⟩ : ∃ W0, w.alloc (.cells (bcells b vv) 24) = W0 := ⟨_, rfl⟩
  have hb0 : Below w.heap.size w W0 := by rw [← hW0]; exact (Below.refl _ _).alloc (Nat.le_refl _) _
  have o0 : own W0 w.heap.size (bcells b vv) 24 := by rw [← hW0]; exact own.new w _ _
  have HR := hid (snRight_any (h.below hb0))
  unfold PackPost packR packE
  dsimp only [bval] at HR ⊢
  dsimp only [bcells] at o0 hW0
  have HK : Hid (∀ w1, Below W0.heap.size W0 w1 → w1.cell? ⟨w.heap.size, 0, none⟩ = some (.int .i64 b.ix) ∧ w1.cell? ⟨w.heap.size, 1, none⟩ = some (.int .i64 b.tm) ∧ w1.cell? ⟨w.heap.size, 2, none⟩ = some vv ∧ w1.cell? ⟨w.heap.size, 3, none⟩ = some (.string (mk b.data)) ∧ Below w.heap.size w w1 ∧ w.heap.size < w1.heap.size) := hid (fun w1 h1 => by
    have o1 := o0.same (h1.block _ o0.lt)
    exact ⟨(o1.cell 0).trans rfl, (o1.cell 1).trans rfl, (o1.cell 2).trans rfl, (o1.cell 3).trans rfl, hb0.trans (h1.mono hb0.size), o1.lt⟩)
  obtain ⟨z0, z1, z2, z3, -, -⟩ := HK.out _ (Below.refl _ _)
  cases hr : rightS b with
  | false =>
    rw [hr] at HR
    rw [if_neg (by simp), if_neg (by simp)]
    have HB := hid hb0
    clear hb0 o0 h hS hr HK
    go_enter Tryz.func8, Tryz.ntmps8
    go_wp2_with (go_at_call 10; (with_reducible refine HR.out.mono ?_); rintro e w1 ⟨rfl, hb1⟩)
    go_ret2
    exact ⟨rfl, HB.out.trans (hb1.mono HB.out.size)⟩
  | true =>
    rw [hr] at HR
    rw [if_pos rfl, if_pos rfl]
    refine (callsIn_wide (n := 9)).1 ?_
    refine callsIn_of_wp_marks Tryz.func8 rfl trivial ?_ rfl
    simp only [Tryz.ntmps8, List.size_toArray, List.length_cons, List.length_nil, Nat.reduceAdd, Nat.reduceSub, Array.replicate_succ, Array.replicate_zero, List.push_toArray, List.append_toArray, List.nil_append, List.cons_append]
    gi_wp2_with (refine ⟨trivial, ?_⟩; gi_at_call 10; with_reducible refine (callsIn_wide.2 HR.out).mono ?_; rintro e w1 ⟨rfl, hb1⟩; obtain ⟨c0, c1, c2, c3, hbw1, hlt1⟩ := HK.out _ hb1)
    clear z0 z1 z2 z3 hW0
    obtain ⟨W2, hW2⟩ : ∃ W2, w1.alloc (.cells #[.pointer none, .slice none 0 0] 51) = W2 := ⟨_, rfl⟩
    have hBu := Bu.fresh 51 w1
    rw [hW2] at hBu
    have hb2 : Below w1.heap.size w1 W2 := by rw [← hW2]; exact (Below.refl _ _).alloc (Nat.le_refl _) _
    obtain ⟨d0, d1, d2, d3, hbw2, hlt2⟩ := HK.out W2 (hb1.trans (hb2.mono hb1.size))
    obtain ⟨W3, hW3⟩ : ∃ W3, W2.alloc (.cells #[.int .i64 b.ix, .int .i64 b.tm, vv, .string (mk b.data)] 24) = W3 := ⟨_, rfl⟩
    have o3 : own W3 W2.heap.size (bcells b vv) 24 := by rw [← hW3]; exact own.new _ _ _
    have hb3 : Below W2.heap.size W2 W3 := by rw [← hW3]; exact (Below.refl _ _).alloc (Nat.le_refl _) _
    have hbw3 : Below w.heap.size w W3 := hbw2.trans (hb3.mono hbw2.size)
    have hBu3 := hBu.below hb3
    have hz2 := hb2.size
    have hz3 := hb3.size
    have hBlt := hBu.lt
    have z3s : W3.heap.size = W2.heap.size + 1 := by rw [← hW3]; simp
    have HFr := hid (frames_any .nilFunc (.int .i64 b.ix) (.int .i64 b.tm) vv (.string (mk b.data)) W2)
    rw [hW3] at HFr
    have hseq := frames_seq W2.heap.size b hr vv W3 o3 (h.below hbw3) (fun i hi => (hbw3.cell (p := ⟨0, i, none⟩) hs).trans (hS i hi)) (by have := hbw3.size; omega)
    have hpk := packS_small hr
    have hstw : 0 < w1.heap.size := by omega
    clear o3 HK hBu hb2 hb3 o0 hb0 hbw2 h hS HR
    clear hW3
    subst hW2
    have e2 : (w1.alloc (.cells #[.pointer none, .slice none 0 0] 51)).heap.size = w1.heap.size + 1 := by simp
    rw [e2] at hseq z3s hz2 hz3 hBlt
    gi_wp2_with (refine ⟨trivial, ?_⟩; gi_at_call 24; with_reducible refine (callsIn_wide.2 HFr.out).mono ?_; rintro e w5 ⟨rfl, rfl⟩)
    have hI0 : PkI w w1.heap.size (fun x => x = w1.heap.size ∨ (Value.slice none 0 0).ownBlock = some x) [] w5 := ⟨.slice none 0 0, rfl, hBu3, hbw3, hbw1.size⟩
    refine wpIn_rangeT (gf := 45) (lb := #[.pointer (some ⟨w1.heap.size + 1, 0, none⟩)]) rfl (enters_of Tryz.func45 (by kernel_rfl) rfl)
      hseq (Below.refl _ _) (fun x e => by rcases e with e | e <;> omega) (fun _ => rfl)
      (PkI w w1.heap.size) (fun _ _ _ => False)
      (pkI_abide w w1.heap.size w5.heap.size (by omega)) (fun _ _ _ _ h _ => h) (fun F s A h => pkI_lt h) (fun F s A h => h.elim) _ (pkI_lt hI0) (fun x e k => by
        rcases e with e | e
        · rcases k with k | k <;> omega
        · cases e) hI0
      (fun x => { tmps := #[.agg #[.int .i64 b.ix, .int .i64 b.tm, vv, .string (mk b.data)], .pointer (some ⟨w.heap.size, 0, none⟩), .string ⟨#[]⟩, .int .i64 0, .pointer (some ⟨w1.heap.size, 0, none⟩), .string x, .agg #[.int .i64 b.ix, .int .i64 b.tm, vv, .string (mk b.data)], .bool true, .bool false, .agg #[.int .i64 b.ix, .int .i64 b.tm, vv, .string (mk b.data)], .func (.func 45) #[] #[.pointer (some ⟨w1.heap.size + 1, 0, none⟩)], .string x, undef, undef, undef], defers := [] }) ?assign ?body ?done ?stop
    case assign =>
      intro l2 x Wx K hK
      unfold encB
      gi_wp2
      exact hK
    case body =>
      rintro l2 F pre x Wx ⟨v, rfl, hbu, hbw, hg⟩ hsp hsz
      have hle := flatB_pre hsp
      rw [flatB_frames, flatB_snoc, List.length_append, str_len] at hle
      have HW := hid (writeString_bu2 blkOk_plainS hbu x (by omega) (by have := hbu.lt; omega))
      have HE : Hid (∀ W', (∃ v', Bu 51 w1.heap.size w1.heap.size v' (flatB pre ++ x.data.toList) W' ∧ Chg (fun y => y = w1.heap.size ∨ v.ownBlock = some y) Wx W' ∧ ∀ y, v'.ownBlock = some y → v.ownBlock = some y ∨ Wx.heap.size ≤ y) → postT (PkI w w1.heap.size) (fun _ _ _ => False) (fun y => y = w1.heap.size ∨ v.ownBlock = some y) (pre ++ [x]) Wx .normal { tmps := #[], defers := [] } W') := hid (fun W' ⟨v', k1, k2, k3⟩ => by
        refine ⟨⟨_, ⟨v', rfl, by rw [flatB_snoc]; exact k1, hbw.trans (k2.below hbw.size (fun y e => ?_)), hg⟩, fun y e => ?_⟩, k2⟩
        · rcases e with e | e
          · omega
          · have := (hbu.row_lt y e).1; omega
        · rcases e with e | e
          · exact .inl (.inl e)
          · rcases k3 y e with q | q
            · exact .inl (.inr q)
            · exact .inr q)
      clear hbu hbw hg hsp hle hI0 hseq hBu3 hbw3
      gi_wp2_with (refine ⟨trivial, rfl, ?_⟩; with_reducible refine (CallsIn.inRound l2 (callsIn_wide.2 HW.out)).mono ?_; rintro e W' ⟨rfl, hq⟩)
      exact HE.out _ hq
    case done =>
      rintro K F xs Wx hK hFK rfl ⟨v, rfl, hbu, hbw, hg⟩ hKd
      rw [flatB_frames] at hbu
      have HS := hid (string_bu hbu (packS_ne b))
      have HE : Hid (∀ W', Chg (fun x => v.ownBlock = some x) Wx W' → W'.heap[K]? = some (.deferred (some [])) ∧ Below w.heap.size w (W'.putObj K (.deferred none))) := hid (fun W' hc => by
        have hKlt := (Array.getElem?_eq_some_iff.1 hKd).1
        refine ⟨(hc.block K hKlt (fun e => hFK (.inr e))).trans hKd, ?_⟩
        have hb := hbw.trans (hc.below hbw.size (fun x e => by have := (hbu.row_lt x e).1; omega))
        exact hb.trans ((chg_putObj W' K (.deferred none)).below hb.size (fun x e => by omega)))
      clear hbu hbw hg hI0 hseq hBu3 hbw3 hFK hKd
      gi_wp2_with (refine ⟨trivial, ?_⟩; gi_at_call 26; with_reducible refine (callsIn_wide.2 HS.out).mono ?_; rintro e W' ⟨rfl, hq⟩; obtain ⟨hKd, hbf⟩ := HE.out _ hq)
      refine ⟨by simp, .inl ⟨_, _, rfl, run_takeDeferred hKd, ?_⟩⟩
      exact ⟨_, results_tmp2 rfl _ _ _, rfl, hbf⟩
    case stop =>
      rintro K F pre Wx hK hFK hsp h hKd
      exact h.elim
end Go.Proofs.YtbccikefccdekaaGreatDoor

