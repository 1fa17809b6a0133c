import Derived.Test.YtbccikefccdekaaGreatDoorSnRpJ
import Derived.Test.YtbccikefccdekaaGreatDoorSnUp2J
/-
  LAYER 4 (snap), THE PROGRAM: replace.
-/
namespace Go.Proofs.YtbccikefccdekaaGreatDoor
open Go.RowKit Go.Shelf
attribute [local go_sem] Oper.semAt_some
set_option linter.unusedVariables false
set_option maxRecDepth 100000

/-- What follows the frames. -/
def restS (s : Dk) (b : Bs) : Dk × Int := thenS (syn s draftN) fun s => thenS (ren s draftN (Sn.segN b.ix)) fun s => dropOthersS s (Sn.segN b.ix)
theorem replaceS_is (s : Dk) (b : Bs) : replaceS s b = thenS (dropS s draftN) fun s => thenS (appsS s (framesS b)) fun s => restS s b := rfl
theorem thenS_bad {r : Dk × Int} {k : Dk → Dk × Int} (h : r.2 ≠ 0) : thenS r k = r := if_neg h
theorem thenS_ok {s : Dk} {k : Dk → Dk × Int} : thenS (s, 0) k = k s := if_pos rfl
abbrev draftB : ByteArray := ⟨#[116]⟩
theorem draftB_is : draftB.data.toList = draftN := rfl
set_option maxHeartbeats 16000000 in
theorem replace_any {w : World} {S : Nat → Prop} {a : Nat} {s : Dk} {b : Bs} {vv : Value} {B0 : Nat} (hd : DiskIs w S a s) (h : BAt w vv b) (hr : rightS b = true) (hg : Sn.Glob w B0) (hB0 : B0 ≤ w.heap.size) (hSB : ∀ x, S x → B0 ≤ x) (hvS : ∀ x, vv.ownBlock = some x → ¬ S x) :
    Calls Tryz.prog 34 #[.pointer (some ⟨a, 0, none⟩), bval b vv] w (OpPost w S a (replaceS s b)) := by
  have hSl := diskIs_ltS hd
  have hs : 0 < B0 := hg.hsteps
  dsimp only [bval]
  obtain ⟨W3, hW3⟩ : ∃ W3, ((w.alloc (.cells #[.pointer (some ⟨a, 0, none⟩)] 37)).alloc (.cells #[.int .i64 b.ix, .int .i64 b.tm, vv, .string (mk b.data)] 24)).alloc (.cells #[.int .i64 0] 27) = W3 := ⟨_, rfl⟩
  have z1 : (w.alloc (.cells #[.pointer (some ⟨a, 0, none⟩)] 37)).heap.size = w.heap.size + 1 := by simp
  have z2 : ((w.alloc (.cells #[.pointer (some ⟨a, 0, none⟩)] 37)).alloc (.cells #[.int .i64 b.ix, .int .i64 b.tm, vv, .string (mk b.data)] 24)).heap.size = w.heap.size + 2 := by simp
  have b1 : Below w.heap.size w (w.alloc (.cells #[.pointer (some ⟨a, 0, none⟩)] 37)) := (Below.refl _ _).alloc (Nat.le_refl _) _
  have b3 : Below w.heap.size w W3 := by rw [← hW3]; exact (b1.alloc (by omega) _).alloc (by omega) _
  have oq2 : own W3 w.heap.size #[.pointer (some ⟨a, 0, none⟩)] 37 := by
    rw [← hW3]
    exact ((own.new w _ _).same (Below.heap_alloc _ _ _ (by omega))).same (Below.heap_alloc _ _ _ (by omega))
  have oq3 : own W3 (w.heap.size + 1) (bcells b vv) 24 := by
    rw [← hW3, ← z1]
    exact (own.new _ _ _).same (Below.heap_alloc _ _ _ (by omega))
  have oq4 : own W3 (w.heap.size + 2) #[.int .i64 0] 27 := by rw [← hW3, ← z2]; exact own.new _ _ _
  have z3 : W3.heap.size = w.heap.size + 3 := by rw [← hW3]; simp
  have hRp : Rp w S a w.heap.size (w.heap.size + 1) (w.heap.size + 2) b vv S s W3 := ⟨diskIs_below hd b3, fun x e => .inl e, fun e => by have := hSl _ e; omega, fun e => by have := hSl _ e; omega, fun e => by have := hSl _ e; omega, oq2, oq3, ⟨_, oq4⟩, Chg.of_below b3⟩
  have hDr := drop_any hRp.disk draftB (by decide)
  rw [draftB_is] at hDr
  have HDr := hid hDr
  clear hDr
  rw [replaceS_is]
  obtain ⟨r1, hr1⟩ : ∃ r, dropS s draftN = r := ⟨_, rfl⟩
  rw [hr1] at HDr ⊢
  obtain ⟨s1, k1⟩ := r1
  have c2 := (oq2.cell 0).trans (rfl : #[Value.pointer (some ⟨a, 0, none⟩)][0]? = _)
  refine (callsIn_wide (n := 9)).1 ?_
  refine callsIn_of_wp_marks Tryz.func34 rfl trivial ?_ rfl
  simp only [Tryz.ntmps34, List.size_toArray, List.length_cons, List.length_nil, Nat.reduceAdd, Nat.reduceSub, Array.replicate_succ, Array.replicate_zero, List.push_toArray, List.append_toArray, List.nil_append, List.cons_append]
  by_cases hk1 : k1 = 0
  · subst hk1
    rw [thenS_ok]
    obtain ⟨R, hR⟩ : ∃ R, thenS (appsS s1 (framesS b)) (fun s => restS s b) = R := ⟨_, rfl⟩
    rw [hR]
    have HR4 : Hid (∀ W4, DiskIs W4 (grow S W3 W4) a s1 ∧ Chg S W3 W4 → Rp w S a w.heap.size (w.heap.size + 1) (w.heap.size + 2) b vv (grow S W3 W4) s1 W4 ∧ w.heap.size + 3 ≤ W4.heap.size) := hid (fun W4 hq => ⟨hRp.op (e := .returned (.int .i64 0)) (k := 0) ⟨rfl, hq⟩, by have := hq.2.size; omega⟩)
    have HC4 : Hid (∀ W4, DiskIs W4 (grow S W3 W4) a s1 ∧ Chg S W3 W4 → W4.cell? ⟨w.heap.size + 1, 0, none⟩ = some (.int .i64 b.ix) ∧ W4.cell? ⟨w.heap.size + 1, 1, none⟩ = some (.int .i64 b.tm) ∧ W4.cell? ⟨w.heap.size + 1, 2, none⟩ = some vv ∧ W4.cell? ⟨w.heap.size + 1, 3, none⟩ = some (.string (mk b.data))) := hid (fun W4 hq => by
      have o := (HR4.out W4 hq).1.o3
      exact ⟨(o.cell 0).trans rfl, (o.cell 1).trans rfl, (o.cell 2).trans rfl, (o.cell 3).trans rfl⟩)
    clear hRp oq2 oq3 oq4
    gi_wp2_with (first
      | (refine ⟨trivial, ?_⟩; gi_at_call 35; (with_reducible refine (callsIn_wide.2 HDr.out).mono ?_); rintro e W4 ⟨rfl, hq4⟩; obtain ⟨y0, y1, y2, y3⟩ := HC4.out W4 hq4)
      | (refine ⟨trivial, ?_⟩; gi_at_call 24; (with_reducible refine (callsIn_wide.2 (frames_any .nilFunc _ _ _ _ _)).mono ?_); rintro e W5 ⟨rfl, hW5⟩))
    obtain ⟨hrp4, hz4⟩ := HR4.out W4 hq4
    have hT4 := hrp4.lt
    have z5 : W5.heap.size = W4.heap.size + 1 := by rw [hW5]; simp
    have hb5 : Below W4.heap.size W4 W5 := by rw [hW5]; exact (Below.refl _ _).alloc (Nat.le_refl _) _
    have ob5 : own W5 W4.heap.size (bcells b vv) 24 := by rw [hW5]; exact own.new _ _ _
    have hrp5 := hrp4.below hb5
    have hcg5 : Chg S w W5 := hrp5.chg
    have hgl5 : Sn.Glob W5 B0 := hg.chg hcg5 hB0 hSB
    have hv5 : BAt W5 vv b := bAt_chg h hcg5 hvS
    have hseq := frames_seq W4.heap.size b hr vv W5 ob5 hv5 hgl5.steps (by omega)
    have hT4S : ∀ x, grow S W3 W4 x → S x ∨ (W3.heap.size ≤ x ∧ x < W4.heap.size) := fun x e => e
    have hI0 : RpI w S a w.heap.size (w.heap.size + 1) (w.heap.size + 2) b vv s1 (fun x => grow S W3 W4 x ∨ x = w.heap.size + 2) [] W5 := ⟨_, s1, rfl, hrp5, rfl⟩
    have hst : 0 < W4.heap.size := by omega
    have HW5l : Hid (w.heap.size + 3 ≤ W5.heap.size) := hid (by omega)
    rw [← hW5]
    clear HR4 HC4 y0 y1 y2 y3 hW5 hq4 hrp4 hrp5
    refine wpIn_rangeT (gf := 45) (lb := #[.pointer (some ⟨W4.heap.size, 0, none⟩)]) rfl (enters_of Tryz.func45 (by kernel_rfl) rfl)
      hseq (Below.refl _ _) (fun x e => by rcases e with e | e <;> omega) (fun _ => rfl)
      (RpI w S a w.heap.size (w.heap.size + 1) (w.heap.size + 2) b vv s1) (RpX w S a w.heap.size (w.heap.size + 1) (w.heap.size + 2) b vv s1)
      (rpI_abide w S a _ _ _ b vv s1 W5.heap.size (by omega) (by omega) (by omega) (by omega)) (rpX_abide w S a _ _ _ b vv s1 W5.heap.size (by omega) (by omega) (by omega) (by omega))
      (fun F s A h => rpI_lt h) (fun F s A h => rpX_lt h) (fun x => grow S W3 W4 x ∨ x = w.heap.size + 2) (rpI_lt hI0) (fun x e k => by
        rcases e with e | e
        · rcases hT4S x e with q | q
          · rcases k with k | k
            · have := hSl x q; omega
            · have := hSB x q; omega
          · rcases k with k | k <;> omega
        · rcases k with k | k <;> omega) hI0
      (fun x => { tmps := #[.pointer (some ⟨a, 0, none⟩), .agg #[.int .i64 b.ix, .int .i64 b.tm, vv, .string (mk b.data)], .pointer (some ⟨w.heap.size, 0, none⟩), .pointer (some ⟨w.heap.size + 1, 0, none⟩), .pointer (some ⟨w.heap.size + 2, 0, none⟩), .int .i64 0, .string x, undef, undef, undef, undef, .pointer (some ⟨a, 0, none⟩), .int .i64 0, .int .i64 0, .bool false, undef, .agg #[.int .i64 b.ix, .int .i64 b.tm, vv, .string (mk b.data)], .func (.func 45) #[] #[.pointer (some ⟨W4.heap.size, 0, none⟩)], .string x, undef, undef, undef, undef, undef, undef, undef, undef, undef, undef, undef, undef, undef, undef, undef, undef, undef, undef, undef, undef, undef, undef, undef], defers := [] }) ?assign ?body ?done ?stop
    case assign =>
      intro l2 x Wx K hK
      unfold encB
      gi_wp2
      exact hK
    case body =>
      rintro l2 F pre x Wx ⟨T, s', rfl, hrp, hap⟩ hsp hsz
      clear hI0
      have hxs : x.size ≤ 40000000 := by
        have := flatB_pre hsp
        rw [flatB_frames, flatB_snoc, List.length_append, str_len] at this
        have := packS_small hr
        omega
      have HA := append_any hrp.disk draftB x (by decide) (by omega)
      rw [draftB_is] at HA
      have hap2 : appsS s1 (rawB (pre ++ [x])) = app s' draftN x.data.toList := by
        rw [rawB_snoc, appsS_append, hap]
        simp only [if_true]
        rw [appsS_cons]
        by_cases h : (app s' draftN x.data.toList).2 = 0
        · rw [if_pos h]; exact Prod.ext rfl h.symm
        · rw [if_neg h]
      obtain ⟨r, hr⟩ : ∃ r, app s' draftN x.data.toList = r := ⟨_, rfl⟩
      rw [hr] at HA hap2
      obtain ⟨s2, k2⟩ := r
      have HAp := hid HA
      have c2 := (hrp.o2.cell 0).trans (rfl : #[Value.pointer (some ⟨a, 0, none⟩)][0]? = some (.pointer (some ⟨a, 0, none⟩)))
      have hgrow : ∀ W', ∀ y, (grow T Wx W' y ∨ y = w.heap.size + 2) → (T y ∨ y = w.heap.size + 2) ∨ Wx.heap.size ≤ y := fun W' y e => by
        rcases e with (e | e) | e
        · exact .inl (.inl e)
        · exact .inr e.1
        · exact .inl (.inr e)
      have HRp := hid hrp
      by_cases hk2 : k2 = 0
      · subst hk2
        have HE : Hid (∀ W', DiskIs W' (grow T Wx W') a s2 ∧ Chg T Wx W' → (∃ F', RpI w S a w.heap.size (w.heap.size + 1) (w.heap.size + 2) b vv s1 F' (pre ++ [x]) W' ∧ ∀ y, F' y → (T y ∨ y = w.heap.size + 2) ∨ Wx.heap.size ≤ y) ∧ Chg (fun y => T y ∨ y = w.heap.size + 2) Wx W') := hid (fun W' hq => ⟨⟨_, ⟨_, s2, rfl, HRp.out.op (e := .returned (.int .i64 0)) (k := 0) ⟨rfl, hq⟩, hap2⟩, hgrow W'⟩, hq.2.mono (fun y e => .inl e)⟩)
        clear HA hap hap2 hr hrp hgrow hsp hseq
        gi_wp2_with (refine ⟨trivial, rfl, ?_⟩; (with_reducible refine (CallsIn.inRound l2 (callsIn_wide.2 HAp.out)).mono ?_); rintro e W' ⟨rfl, hq⟩)
        exact HE.out _ hq
      · have HE : Hid (∀ W', DiskIs W' (grow T Wx W') a s2 ∧ Chg T Wx W' → (∃ e, W'.cell? ⟨w.heap.size + 2, 0, none⟩ = some (.int .i64 e)) ∧ W'.frozen? ⟨w.heap.size + 2, 0, none⟩ = false ∧ Hid ((∃ F', RpX w S a w.heap.size (w.heap.size + 1) (w.heap.size + 2) b vv s1 F' (pre ++ [x]) (W'.setCell ⟨w.heap.size + 2, 0, none⟩ (.int .i64 k2)) ∧ ∀ y, F' y → (T y ∨ y = w.heap.size + 2) ∨ Wx.heap.size ≤ y) ∧ Chg (fun y => T y ∨ y = w.heap.size + 2) Wx (W'.setCell ⟨w.heap.size + 2, 0, none⟩ (.int .i64 k2)))) := hid (fun W' hq => by
          have hr2 := HRp.out.op (e := .returned (.int .i64 k2)) (k := k2) ⟨rfl, hq⟩
          obtain ⟨e4, o4⟩ := hr2.o4
          obtain ⟨hr3, o5⟩ := hr2.ans (by omega) (by omega) (by omega) k2
          refine ⟨⟨e4, (o4.cell 0).trans rfl⟩, o4.frozen 0, hid ⟨⟨_, ⟨_, s2, k2, rfl, hr3, hap2, hk2, o5⟩, hgrow W'⟩, ?_⟩⟩
          exact (hq.2.mono (fun y e => .inl e)).trans ((Chg.setCell W' ⟨w.heap.size + 2, 0, none⟩ _).mono (fun y e => .inr e)) (fun y e => .inl e))
        have hq2 : (k2 == 0) = false := beq_eq_false_iff_ne.2 hk2
        clear HA hap hap2 hr hrp hgrow hsp hseq hk2
        gi_wp2_with (refine ⟨trivial, rfl, ?_⟩; (with_reducible refine (CallsIn.inRound l2 (callsIn_wide.2 HAp.out)).mono ?_); rintro e W' ⟨rfl, hq⟩; obtain ⟨⟨e4, n4⟩, f4, hp⟩ := HE.out W' hq)
        exact hp.out
    case done =>
      rintro K F xs Wx hK hFK rfl ⟨T, s2, rfl, hrp, hap⟩ hKd
      clear hI0
      rw [rawB_frames] at hap
      have hwl := HW5l.out
      have HRk : Hid (RpK w S a w.heap.size (w.heap.size + 1) (w.heap.size + 2) b vv K T s2 Wx) := hid ⟨hrp, hKd, fun e => hFK (.inl e)⟩
      have c2 := (hrp.o2.cell 0).trans (rfl : #[Value.pointer (some ⟨a, 0, none⟩)][0]? = some (.pointer (some ⟨a, 0, none⟩)))
      have hSy := sync_any hrp.disk draftB (by decide)
      rw [draftB_is] at hSy
      have hRe : restS s2 b = R := by rw [← hR, hap, thenS_ok]
      unfold restS at hRe
      obtain ⟨r, hr3⟩ : ∃ r, syn s2 draftN = r := ⟨_, rfl⟩
      rw [hr3] at hSy hRe
      obtain ⟨s3, k3⟩ := r
      have HSy := hid hSy
      have HF : Hid (∀ T' s' W' k, RpK w S a w.heap.size (w.heap.size + 1) (w.heap.size + 2) b vv K T' s' W' → RpE w S a (w.heap.size + 2) K (s', k) W') := hid (fun T' s' W' k h => h.fin hSl (by omega) (by omega) (by omega) (by omega) (by omega) k)
      clear hSy hrp hap hr3 hFK hKd hseq hb5 ob5 hcg5 hT4S hT4 hv5 hR
      by_cases hk3 : k3 = 0
      · subst hk3
        rw [thenS_ok] at hRe
        have hix : Sn.I64 b.ix := by have := (rightS_parts hr).1; unfold Sn.I64; omega
        have hsz : (mk (Sn.segN b.ix)).size ≤ maxLen := by
          have := Lib.itoa_length_le b.ix hix.1 hix.2
          rw [mk_size]; unfold Sn.segN maxLen
          simp only [List.length_cons]
          omega
        obtain ⟨r, hr4⟩ : ∃ r, ren s3 draftN (Sn.segN b.ix) = r := ⟨_, rfl⟩
        have HRn : Hid (∀ W' T', DiskIs W' T' a s3 → Calls Tryz.prog 61 #[.pointer (some ⟨a, 0, none⟩), .string draftB, .string (mk (Sn.segN b.ix))] W' (OpPost W' T' a r)) := hid (fun W' T' hd' => by
          have := ren_any hd' draftB (mk (Sn.segN b.ix)) (by decide) hsz
          rw [draftB_is, mk_data, hr4] at this
          exact this)
        rw [hr4] at hRe
        obtain ⟨s4, k4⟩ := r
        have HNm : Hid (∀ W', Sn.Glob W' B0 → Calls Tryz.prog 60 #[.int .i64 b.ix] W' fun e w' => e = .returned (.string (mk (Sn.segN b.ix))) ∧ Below W'.heap.size W' w') := hid (fun W' hg' => Sn.segName_any b.ix W' hg' hix)
        have HG : Hid (∀ T' s' W', RpK w S a w.heap.size (w.heap.size + 1) (w.heap.size + 2) b vv K T' s' W' → W'.cell? ⟨w.heap.size, 0, none⟩ = some (.pointer (some ⟨a, 0, none⟩)) ∧ W'.cell? ⟨w.heap.size + 1, 0, none⟩ = some (.int .i64 b.ix) ∧ Sn.Glob W' B0 ∧ B0 ≤ W'.heap.size) := hid (fun T' s' W' h => ⟨(h.rp.o2.cell 0).trans rfl, (h.rp.o3.cell 0).trans rfl, hg.chg h.rp.chg hB0 hSB, Nat.le_trans hB0 h.rp.chg.size⟩)
        have HS4 : Hid (∀ W4, OpPost Wx T a (s3, 0) (.returned (.int .i64 0)) W4 → W4.cell? ⟨w.heap.size, 0, none⟩ = some (.pointer (some ⟨a, 0, none⟩)) ∧ W4.cell? ⟨w.heap.size + 1, 0, none⟩ = some (.int .i64 b.ix) ∧ Hid (Sn.Glob W4 B0) ∧ Hid (RpK w S a w.heap.size (w.heap.size + 1) (w.heap.size + 2) b vv K (grow T Wx W4) s3 W4)) := hid (fun W4 ho => by
          have h1 := HRk.out.op ho
          obtain ⟨g1, g2, g3, g4⟩ := HG.out _ _ _ h1
          exact ⟨g1, g2, hid g3, hid h1⟩)
        have HS6 : Hid (∀ W4 W6, Hid (RpK w S a w.heap.size (w.heap.size + 1) (w.heap.size + 2) b vv K (grow T Wx W4) s3 W4) → Below W4.heap.size W4 W6 → W6.cell? ⟨w.heap.size, 0, none⟩ = some (.pointer (some ⟨a, 0, none⟩)) ∧ Hid (RpK w S a w.heap.size (w.heap.size + 1) (w.heap.size + 2) b vv K (grow T Wx W4) s3 W6)) := hid (fun W4 W6 h1 hb => ⟨(HG.out _ _ _ (h1.out.below hb)).1, hid (h1.out.below hb)⟩)
        by_cases hk4 : k4 = 0
        · subst hk4
          rw [thenS_ok] at hRe
          have HDo : Hid (∀ W' T', DiskIs W' T' a s4 → Sn.Glob W' B0 → B0 ≤ W'.heap.size → Calls Tryz.prog 62 #[.pointer (some ⟨a, 0, none⟩), .string (mk (Sn.segN b.ix))] W' (OpPost W' T' a R)) := hid (fun W' T' hd' hg' hB' => by
            have := dropOthers_any hd' hg' hB' (mk (Sn.segN b.ix)) hsz
            rw [mk_data, hRe] at this
            exact this)
          have HS7 : Hid (∀ W4 W6 W7, Hid (RpK w S a w.heap.size (w.heap.size + 1) (w.heap.size + 2) b vv K (grow T Wx W4) s3 W6) → OpPost W6 (grow T Wx W4) a (s4, 0) (.returned (.int .i64 0)) W7 → W7.cell? ⟨w.heap.size, 0, none⟩ = some (.pointer (some ⟨a, 0, none⟩)) ∧ Hid (Sn.Glob W7 B0 ∧ B0 ≤ W7.heap.size) ∧ Hid (RpK w S a w.heap.size (w.heap.size + 1) (w.heap.size + 2) b vv K (grow (grow T Wx W4) W6 W7) s4 W7)) := hid (fun W4 W6 W7 h1 ho => by
            have h2 := h1.out.op ho
            obtain ⟨g1, g2, g3, g4⟩ := HG.out _ _ _ h2
            exact ⟨g1, hid ⟨g3, g4⟩, hid h2⟩)
          clear hRe hr4 HG
          obtain ⟨s5, k5⟩ := R
          generalize mk (Sn.segN b.ix) = xb at *
          gi_wp2_with (first
            | (refine ⟨trivial, ?_⟩; gi_at_call 59; (with_reducible refine (callsIn_wide.2 HSy.out).mono ?_); rintro e W6 ⟨rfl, hq6⟩; obtain ⟨x2, x3, G6, R6⟩ := HS4.out W6 ⟨rfl, hq6⟩; clear hq6)
            | (refine ⟨trivial, ?_⟩; gi_at_call 60; (with_reducible refine (callsIn_wide.2 (HNm.out _ G6.out)).mono ?_); rintro e W7 ⟨rfl, hb7⟩; obtain ⟨x7, R7⟩ := HS6.out _ W7 R6 hb7; clear hb7)
            | (refine ⟨trivial, ?_⟩; gi_at_call 61; (with_reducible refine (callsIn_wide.2 (HRn.out _ _ R7.out.rp.disk)).mono ?_); rintro e W8 ⟨rfl, hq8⟩; obtain ⟨x8, G8, R8⟩ := HS7.out _ _ W8 R7 ⟨rfl, hq8⟩; clear hq8)
            | (refine ⟨trivial, ?_⟩; gi_at_call 62; (with_reducible refine (callsIn_wide.2 (HDo.out _ _ R8.out.rp.disk G8.out.1 G8.out.2)).mono ?_); rintro e W9 ⟨rfl, hq9⟩; obtain ⟨⟨e4, n4⟩, f4, kk, c5, hp⟩ := HF.out _ _ _ k5 (R8.out.op ⟨rfl, hq9⟩); clear hq9))
          refine ⟨by simp, .inl ⟨_, _, rfl, run_takeDeferred kk, ?_⟩⟩
          refine ⟨.int .i64 k5, ?_, hp.out⟩
          simp [results, Tryz.results34, go_sem, c5]
        · rw [thenS_bad hk4] at hRe
          subst hRe
          have hq4 : (k4 == 0) = false := beq_eq_false_iff_ne.2 hk4
          clear hr4 HG hk4
          generalize mk (Sn.segN b.ix) = xb at *
          gi_wp2_with (first
            | (refine ⟨trivial, ?_⟩; gi_at_call 59; (with_reducible refine (callsIn_wide.2 HSy.out).mono ?_); rintro e W6 ⟨rfl, hq6⟩; obtain ⟨x2, x3, G6, R6⟩ := HS4.out W6 ⟨rfl, hq6⟩; clear hq6)
            | (refine ⟨trivial, ?_⟩; gi_at_call 60; (with_reducible refine (callsIn_wide.2 (HNm.out _ G6.out)).mono ?_); rintro e W7 ⟨rfl, hb7⟩; obtain ⟨x7, R7⟩ := HS6.out _ W7 R6 hb7; clear hb7)
            | (refine ⟨trivial, ?_⟩; gi_at_call 61; (with_reducible refine (callsIn_wide.2 (HRn.out _ _ R7.out.rp.disk)).mono ?_); rintro e W8 ⟨rfl, hq8⟩; obtain ⟨⟨e4, n4⟩, f4, kk, c5, hp⟩ := HF.out _ _ _ k4 (R7.out.op ⟨rfl, hq8⟩); clear hq8))
          refine ⟨by simp, .inl ⟨_, _, rfl, run_takeDeferred kk, ?_⟩⟩
          refine ⟨.int .i64 k4, ?_, hp.out⟩
          simp [results, Tryz.results34, go_sem, c5]
      · rw [thenS_bad hk3] at hRe
        subst hRe
        have hq3 : (k3 == 0) = false := beq_eq_false_iff_ne.2 hk3
        clear hk3
        gi_wp2_with (refine ⟨trivial, ?_⟩; gi_at_call 59; (with_reducible refine (callsIn_wide.2 HSy.out).mono ?_); rintro e W6 ⟨rfl, hq6⟩; obtain ⟨⟨e4, n4⟩, f4, kk, c5, hp⟩ := HF.out _ _ _ k3 (HRk.out.op ⟨rfl, hq6⟩); clear hq6)
        refine ⟨by simp, .inl ⟨_, _, rfl, run_takeDeferred kk, ?_⟩⟩
        refine ⟨.int .i64 k3, ?_, hp.out⟩
        simp [results, Tryz.results34, go_sem, c5]
    case stop =>
      rintro K F pre Wx hK hFK hsp ⟨T, s2, k, rfl, hrp, hap, hk, o4⟩ hKd
      clear hI0
      have hwl := HW5l.out
      have h1 : appsS s1 (framesS b) = (s2, k) := by rw [← rawB_frames, apps_stop hsp (by rw [hap]; exact hk), hap]
      obtain rfl : (s2, k) = R := by rw [← hR, h1, thenS_bad hk]
      have hw0 : w.heap.size ≤ K := by omega
      have hP : OpPost w S a (s2, k) (.returned (.int .i64 k)) Wx := ⟨rfl, diskIs_widen hrp.disk (fun x e => (hrp.sub x e).elim .inl (fun q => .inr ⟨q, hrp.lt x e⟩)) (fun x e => e.elim (fun q => by have := hSl x q; have := hrp.chg.size; omega) (fun q => q.2)), hrp.chg⟩
      have HP := hid (opPost_put hP hw0 ⟨T, hrp.disk, (fun x e => (hrp.sub x e).elim .inl (fun q => .inr ⟨q, hrp.lt x e⟩)), fun e => hFK (.inl e)⟩)
      have hk4 : w.heap.size + 2 ≠ K := fun e => hFK (.inr e.symm)
      have c5 := ((o4.same (World.putObj_heap_other (w := Wx) (o := .deferred none) hk4)).cell 0).trans (rfl : #[Value.int .i64 k][0]? = some (.int .i64 k))
      clear hP hrp hap o4 hR h1 hk hseq hb5 ob5 hcg5
      gi_wp2
      refine ⟨by simp, .inl ⟨_, _, rfl, run_takeDeferred hKd, ?_⟩⟩
      refine ⟨.int .i64 k, ?_, HP.out⟩
      simp [results, Tryz.results34, go_sem, c5]
  · rw [thenS_bad hk1]
    have HE : Hid (∀ W4, OpPost W3 S a (s1, k1) (.returned (.int .i64 k1)) W4 → (∃ e, W4.cell? ⟨w.heap.size + 2, 0, none⟩ = some (.int .i64 e)) ∧ W4.frozen? ⟨w.heap.size + 2, 0, none⟩ = false ∧ (W4.setCell ⟨w.heap.size + 2, 0, none⟩ (.int .i64 k1)).cell? ⟨w.heap.size + 2, 0, none⟩ = some (.int .i64 k1) ∧ Hid (OpPost w S a (s1, k1) (.returned (.int .i64 k1)) (W4.setCell ⟨w.heap.size + 2, 0, none⟩ (.int .i64 k1)))) := hid (fun W4 ho => (hRp.op ho).fin hSl (by omega) k1)
    have hq : (k1 == 0) = false := beq_eq_false_iff_ne.2 hk1
    clear hRp oq2 oq3 oq4 b1 b3 hd h hr1 hk1
    gi_wp2_with (refine ⟨trivial, ?_⟩; gi_at_call 35; (with_reducible refine (callsIn_wide.2 HDr.out).mono ?_); rintro e W4 ⟨rfl, hq4⟩; obtain ⟨⟨e4, n4⟩, f4, n5, hp⟩ := HE.out W4 ⟨rfl, hq4⟩)
    refine ⟨.int .i64 k1, ?_, hp.out⟩
    simp [results, Tryz.results34, go_sem, n5]
end Go.Proofs.YtbccikefccdekaaGreatDoor

