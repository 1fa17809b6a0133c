import Derived.Test.YtbccikefccdekaaGreatDoorSnKeepDJ
/-
  LAYER 4 (snap), the law SnapKeeps: what the call does.
-/
namespace Go.Proofs.YtbccikefccdekaaGreatDoor
open Go.RowKit Go.Shelf
attribute [local go_sem] Oper.semAt_some
set_option linter.unusedVariables false
set_option maxRecDepth 100000

/-- How far the loop has come. -/
def KRel (W : World) (a P Q : Nat) (l : List Bs) (u : Value) (wr : World) : Prop := ∃ k : Nat, k ≤ l.length ∧ u = .int .i64 (k : Int) ∧ ∃ o nx s, Hid (KSt W a P Q o nx s wr)
theorem kst_begin {W w3 : World} {a : Nat} {T : Nat → Prop} {n : Int} (hd : DiskIs w3 T a (setFuse (newD 100000) n)) (hT : ∀ x, T x → W.heap.size ≤ x) (hb : Below W.heap.size W w3) :
    KSt W a w3.heap.size (w3.heap.size + 1) none bs0 (setFuse (newD 100000) n) ((w3.alloc (.cells zbox 24)).alloc (.cells zbox 24)) := by
  have z1 : (w3.alloc (.cells zbox 24)).heap.size = w3.heap.size + 1 := by simp
  have b1 : Below w3.heap.size w3 (w3.alloc (.cells zbox 24)) := (Below.refl _ _).alloc (Nat.le_refl _) _
  have b2 : Below w3.heap.size w3 ((w3.alloc (.cells zbox 24)).alloc (.cells zbox 24)) := b1.alloc (by omega) _
  have o2 := own.new (w3.alloc (.cells zbox 24)) zbox 24
  rw [z1] at o2
  have hlt := diskIs_ltS hd
  have hok := diskIs_ok hd
  exact ⟨⟨T, diskIs_below hd b2, hT, fun e => by have := hlt _ e; omega, fun e => by have := hlt _ e; omega⟩,
    ⟨.slice none 0 0, (own.new w3 _ _).same (Below.heap_alloc _ _ _ (by omega)), bAt_zero _, fun _ x e => by cases e⟩,
    ⟨.slice none 0 0, o2, bAt_zero _, fun _ x e => by cases e⟩,
    hb.trans (b2.mono hb.size), hb.size, by have := hb.size; omega, by omega, (fun b e => by cases e), fun _ => rfl, by show (0 : Nat) ≤ 10000; omega, .inl ⟨⟨hok, rfl, rfl⟩, rfl⟩⟩
set_option maxHeartbeats 16000000 in
theorem snapKeeps_main (W : World) {B0 : Nat} (bv kv nv : Value) (after : Int) (l : List Bs) (ks ns : List Int) (hg : Sn.Glob W B0) (hB0 : B0 ≤ W.heap.size) (hl : BesAt W W.heap.size bv l) (hin : ∀ x ∈ l, BIn x) (h10 : l.length ≤ 10) (hat : I64s after)
    (hk : IntsAt W W.heap.size kv ks) (hkl : ks.length ≤ 60) (hk64 : ∀ n ∈ ks, I64s n) (hn : IntsAt W W.heap.size nv ns) (hnl : ns.length ≤ 60) :
    Calls Tryz.prog 5 #[bv, .int .i64 after, kv, nv] W fun e W' => e = .returned (.bool true) ∧ Below W.heap.size W W' := by
  obtain ⟨la, lc, rfl, hcells⟩ := hl
  obtain ⟨ka, kc, rfl, -⟩ := id hk
  obtain ⟨na, nc, rfl, -⟩ := id hn
  obtain ⟨p, hp, hpn⟩ := pick4_at after (show 0 < 40 by omega)
  have HSh := hid (shown4_any W hg hB0)
  have HN : Hid (∀ wx, Calls Tryz.prog 16 #[.int .i64 100000] wx (NewPost wx (newD 100000))) := hid (fun wx => new_ok 100000 wx (by omega) (by omega))
  have HPi : Hid (∀ wx, Calls Tryz.prog 15 #[.int .i64 after, .int .i64 40] wx fun e w' => e = .returned (.int .i64 (p : Int)) ∧ wx = w') := hid (fun wx => by
    have := pick4_any after 40 wx (by omega) (by omega) hat
    rw [show (40 : Int) = ((40 : Nat) : Int) from rfl, hp] at this
    exact this)
  have HFu : Hid (∀ wx a T, DiskIs wx T a (newD 100000) → Calls Tryz.prog 17 #[.pointer (some ⟨a, 0, none⟩), .int .i64 (p : Int)] wx (FusePost wx T a (setFuse (newD 100000) (p : Int)))) := hid (fun wx a T h => fuse_any h _ (by omega))
  have HBe : Hid (∀ w1 w2 w3 a S, Below W.heap.size W w1 → Below w1.heap.size w1 w2 → (∀ b, S b → w1.heap.size ≤ b) → FusePost w2 S a (setFuse (newD 100000) (p : Int)) (.returned (.tuple #[])) w3 → KSt W a w3.heap.size (w3.heap.size + 1) none bs0 (setFuse (newD 100000) (p : Int)) ((w3.alloc (.cells zbox 24)).alloc (.cells zbox 24))) := hid (fun w1 w2 w3 a S h1 h2 hS hf => by
    have hb := h1.trans (h2.mono h1.size)
    have hS2 : ∀ b, S b → W.heap.size ≤ b := fun b e => Nat.le_trans h1.size (hS b e)
    refine kst_begin hf.2.1 (fun x e => ?_) (hb.trans (hf.2.2.below hb.size hS2))
    rcases e with e | e
    · exact hS2 x e
    · have := hb.size; omega)
  have HCe := hid hcells
  have HIn := hid hin
  have HK := hid hk
  have HNs := hid hn
  have HK64 := hid hk64
  have HG := hid hg
  clear hcells hin hk hn hk64 hg hp
  have hl1 : ¬ (10 : Int) < (l.length : Int) := by omega
  have hl2 : ¬ (60 : Int) < (ks.length : Int) := by omega
  have hl3 : ¬ (60 : Int) < (ns.length : Int) := by omega
  generalize newD 100000 = s0 at *
  go_enter Tryz.func5, Tryz.ntmps5
  go_wp2_with (first
    | (go_at_call 6; (with_reducible refine HSh.out.mono ?_); rintro e w1 ⟨rfl, hb1⟩)
    | (go_at_call 16; (with_reducible refine (HN.out _).mono ?_); rintro e w2 ⟨a, S, rfl, hD, hS, hb2⟩; have HD := hid hD; have HS := hid hS; clear hD hS)
    | (go_at_call 15; (with_reducible refine (HPi.out _).mono ?_); rintro e w ⟨rfl, rfl⟩)
    | (go_at_call 17; (with_reducible refine (HFu.out _ _ _ HD.out).mono ?_); rintro e w3 hf3; have HK0 := hid (HBe.out _ _ _ _ _ hb1 hb2 HS.out (by obtain ⟨rfl, h⟩ := hf3; exact ⟨rfl, h⟩)); obtain ⟨rfl, -, -⟩ := hf3))
  go_loopw [14] (KRel W a w3.heap.size (w3.heap.size + 1) l) (fun u _ => l.length - (intOf u).toNat)
  case atStart => exact ⟨0, Nat.zero_le _, by go_num, none, bs0, _, HK0⟩
  case round =>
    clear HSh HN HPi HFu HBe HK0
    obtain ⟨k, hk, rfl, o, nx, s, hKs⟩ := hrel
    have HD := hid hKs.out.dead
    have HCr := hid (hKs.out.crash HK.out HNs.out (by omega) (by omega) HK64.out)
    obtain ⟨last, hlast⟩ : ∃ last, o.getD bs0 = last := ⟨_, rfl⟩
    have HLa := hid hlast
    obtain ⟨sc, hsc⟩ : ∃ sc, crash s ks ns = sc := ⟨_, rfl⟩
    rw [hsc] at HCr
    obtain ⟨u, hu⟩ : ∃ u, (loadS sc).getD bs0 = u := ⟨_, rfl⟩
    obtain ⟨is, his⟩ : ∃ is, (loadS sc).isSome = is := ⟨_, rfl⟩
    have HLd : Hid (∀ wx, KEnd W a w3.heap.size (w3.heap.size + 1) o nx sc wx → Calls Tryz.prog 21 #[.pointer (some ⟨a, 0, none⟩)] wx fun e w' => ∃ va vc, e = .returned (.tuple #[.agg #[.int .i64 u.ix, .int .i64 u.tm, .slice va u.vot.length vc, .string (mk u.data)], .bool is, .int .i64 0]) ∧ Hid (KEnd W a w3.heap.size (w3.heap.size + 1) o nx sc w' ∧ BAt w' (.slice va u.vot.length vc) u)) := hid (fun wx h => by
      refine (h.load HG.out hB0).mono ?_
      rintro e w' ⟨vv, he, hb, hba, -⟩
      rw [hu] at he hba
      rw [his] at he
      obtain ⟨va, vc, rfl, -⟩ := hba.vot
      exact ⟨va, vc, he, hid ⟨h.later hb, hba⟩⟩)
    have HFd : Hid ((u = last ∨ u = nx) ∧ (is == decide ((0 : Int) < u.ix)) = true) := hid (by
      obtain ⟨h1, h2⟩ := kst_found hKs.out ks ns
      rw [hsc] at h1 h2
      rw [hu, hlast] at h1
      rw [his, hu] at h2
      exact ⟨h1, by rw [h2]; exact beq_self_eq_true _⟩)
    clear hsc hu his hlast
    have hcase : k = l.length ∨ (k < l.length ∧ s.dead = true) ∨ (k < l.length ∧ s.dead = false) := by
      rcases Nat.lt_or_ge k l.length with h | h
      · cases s.dead with
        | true => exact .inr (.inl ⟨h, rfl⟩)
        | false => exact .inr (.inr ⟨h, rfl⟩)
      · exact .inl (by omega)
    rcases hcase with hkl | ⟨hkl, hdd⟩ | ⟨hkl, hdd⟩
    case' inl => have hkI : ¬ (k : Int) < (l.length : Int) := by omega
    case' inr.inl =>
      have hkI : (k : Int) < (l.length : Int) := by omega
      rw [hdd] at HD
    case inr.inr =>
      rw [hdd] at HD
      have hkI : (k : Int) < (l.length : Int) := by omega
      obtain ⟨x, hx⟩ : ∃ x, l[k]? = some x := ⟨_, List.getElem?_eq_getElem hkl⟩
      obtain ⟨rb, ro, rfl, hrb, hrc⟩ := HCe.out (fun e => by rw [e] at hkl; exact absurd hkl (Nat.not_lt_zero _))
      obtain ⟨vv, hbe⟩ := hrc k x hx
      obtain ⟨xa, xc, rfl, hxv⟩ := id hbe.vot
      have HX : Hid (∀ wx, Below W.heap.size W wx → wx.cell? ⟨rb, ro + k * 4, none⟩ = some (.int .i64 x.ix) ∧ wx.cell? ⟨rb, ro + k * 4 + 1, none⟩ = some (.int .i64 x.tm) ∧ wx.cell? ⟨rb, ro + k * 4 + 2, none⟩ = some (.slice xa x.vot.length xc) ∧ wx.cell? ⟨rb, ro + k * 4 + 3, none⟩ = some (.string (mk x.data))) := hid (fun wx hb =>
        ⟨(hb.cell (p := ⟨rb, ro + k * 4, none⟩) hrb).trans hbe.c0, (hb.cell (p := ⟨rb, ro + k * 4 + 1, none⟩) hrb).trans hbe.c1, (hb.cell (p := ⟨rb, ro + k * 4 + 2, none⟩) hrb).trans hbe.c2, (hb.cell (p := ⟨rb, ro + k * 4 + 3, none⟩) hrb).trans hbe.c3⟩)
      have HSm : Hid (∀ wx, Calls Tryz.prog 7 #[.agg #[.int .i64 x.ix, .int .i64 x.tm, .slice xa x.vot.length xc, .string (mk x.data)]] wx fun e w' => e = .returned (.bool (smallB x)) ∧ Below wx.heap.size wx w') := hid (fun wx => snSmall_any ⟨xa, xc, rfl⟩)
      have hv : x.vot ≠ [] → ∀ y, (Value.slice xa x.vot.length xc).ownBlock = some y → y < W.heap.size := fun hn y e => by
        obtain ⟨sb, so, e2, hlt, _⟩ := hxv hn
        rw [e2] at e
        cases e
        exact hlt
      have hin := HIn.out x (List.mem_of_getElem? hx)
      have hbW := hKs.out.bel
      obtain ⟨x0, x1, x2, x3⟩ := HX.out _ hbW
      have HBW := hid hbW
      cases hsm : smallB x with
      | false =>
        rw [hsm] at HSm
        clear HCr HLd HFd hx hbe hxv hrc hv hin hbW hkl hk hrb
        as_aux_lemma =>
        go_wp2_with (first
          | (go_at_call 18; (with_reducible refine HD.out.mono ?_); rintro e w4 ⟨rfl, rfl⟩)
          | (go_at_call 7; (with_reducible refine (HSm.out _).mono ?_); rintro e w4 ⟨rfl, hb4⟩))
        go_ret
        exact ⟨rfl, HBW.out.trans (hb4.mono HBW.out.size)⟩
      | true =>
        rw [hsm] at HSm
        have hba := bat_of hbe hin hsm
        have hHs : Hs s o none := by
          rcases hKs.out.st with ⟨h, _⟩ | ⟨_, h, _⟩
          · exact h
          · rw [hdd] at h; cases h
        have HSv : Hid (∀ wx, Below wr.heap.size wr wx → Calls Tryz.prog 19 #[.pointer (some ⟨a, 0, none⟩), .agg #[.int .i64 x.ix, .int .i64 x.tm, .slice xa x.vot.length xc, .string (mk x.data)]] wx fun e w' => e = .returned (.int .i64 (saveS s x).2) ∧ KSv W a w3.heap.size (w3.heap.size + 1) o nx x s (saveS s x).2 w') := hid (fun wx hb => (hKs.out.later hb).save hHs (hba.below (hbW.trans (hb.mono hbW.size))) hv hsm HG.out hB0)
        have hout := hKs.out.outs hHs hsm
        have gP := hKs.out.gP
        have gQ := hKs.out.gQ
        have ne := hKs.out.ne
        have hro := hKs.out.ro
        have hln := hKs.out.len
        have HXc : Hid (∀ wx, Below W.heap.size W wx → BAt wx (.slice xa x.vot.length xc) x) := hid (fun wx hb => hba.below hb)
        have HNx : Hid (∀ wx nx' o' s', KSt W a w3.heap.size (w3.heap.size + 1) o' nx' s' wx → KRel W a w3.heap.size (w3.heap.size + 1) l (.int .i64 ((k : Int) + 1)) wx) := hid (fun wx nx' o' s' h => ⟨k + 1, by omega, by push_cast; rfl, o', nx', s', hid h⟩)
        have hmes : l.length - ((k : Int) + 1).toNat < l.length - (k : Int).toNat := by omega
        generalize (saveS s x).2 = kk at *
        rcases hout with rfl | rfl | rfl
        · have HK5 : Hid (∀ w5, KSv W a w3.heap.size (w3.heap.size + 1) o nx x s 0 w5 → ∃ WP WF, (∃ r0 r1 r2 r3, P4 w5 WP w3.heap.size x (.slice xa x.vot.length xc) r0 r1 r2 r3) ∧ (∃ r0 r1 r2 r3, P4 WP WF (w3.heap.size + 1) x (.slice xa x.vot.length xc) r0 r1 r2 r3) ∧ Below W.heap.size W w5 ∧ Hid (KRel W a w3.heap.size (w3.heap.size + 1) l (.int .i64 ((k : Int) + 1)) WF)) := hid (fun w5 h => by
            have hb5 : Below W.heap.size W w5 := by obtain ⟨_, _, _, _, h5, _⟩ := h; exact h5
            obtain ⟨h1, h2, s', h3⟩ := kstep0 h (HXc.out _ hb5) hv hsm gP gQ ne
            obtain ⟨WP, eP⟩ : ∃ WP, kst w5 w3.heap.size x (.slice xa x.vot.length xc) = WP := ⟨_, rfl⟩
            rw [eP] at h2 h3
            obtain ⟨WF, eF⟩ : ∃ WF, kst WP (w3.heap.size + 1) x (.slice xa x.vot.length xc) = WF := ⟨_, rfl⟩
            rw [eF] at h3
            exact ⟨WP, WF, puts_named h1 eP, puts_named h2 eF, hb5, hid (HNx.out _ _ _ _ h3)⟩)
          clear HCr HLd HFd hx hbe hxv hrc hv hin hbW hkl hk hrb hba hHs hro hln HXc HNx hKs
          as_aux_lemma =>
          go_wp2_with (first
            | (go_at_call 18; (with_reducible refine HD.out.mono ?_); rintro e w4 ⟨rfl, rfl⟩)
            | (go_at_call 7; (with_reducible refine (HSm.out _).mono ?_); rintro e w4 ⟨rfl, hb4⟩; obtain ⟨y0, y1, y2, y3⟩ := HX.out _ (HBW.out.trans (hb4.mono HBW.out.size)))
            | (go_at_call 19; (with_reducible refine (HSv.out _ hb4).mono ?_); rintro e w5 ⟨rfl, hsv⟩; obtain ⟨WP, WF, ⟨r0, r1, r2, r3, p0, p1, p2, p3, pf0, pf1, pf2, pf3, peq, pe0, pe1, pe2, pe3⟩, ⟨t0, t1, t2, t3, q0, q1, q2, q3, qf0, qf1, qf2, qf3, qeq, qe0, qe1, qe2, qe3⟩, hb5, HFin⟩ := HK5.out _ hsv; obtain ⟨z0, z1, z2, z3⟩ := HX.out _ hb5))
          go_roundw
          case rel => exact HFin.out
          case measure => exact hmes
        · have HK5 : Hid (∀ w5, KSv W a w3.heap.size (w3.heap.size + 1) o nx x s 1 w5 → ∃ va vc WF, BoxB w3.heap.size last (.slice va last.vot.length vc) w5 ∧ (∃ r0 r1 r2 r3, P4 w5 WF (w3.heap.size + 1) last (.slice va last.vot.length vc) r0 r1 r2 r3) ∧ Hid (KRel W a w3.heap.size (w3.heap.size + 1) l (.int .i64 ((k : Int) + 1)) WF)) := hid (fun w5 h => by
            obtain ⟨va, vc, h1, h2, s', h3⟩ := kstep1 h gP gQ ne hro hln
            rw [HLa.out] at h1 h2 h3
            obtain ⟨WF, eF⟩ : ∃ WF, kst w5 (w3.heap.size + 1) last (.slice va last.vot.length vc) = WF := ⟨_, rfl⟩
            rw [eF] at h3
            exact ⟨va, vc, WF, h1, puts_named h2 eF, hid (HNx.out _ _ _ _ h3)⟩)
          clear HCr HLd HFd hx hbe hxv hrc hv hin hbW hkl hk hrb hba hHs hro hln HXc HNx hKs
          as_aux_lemma =>
          go_wp2_with (first
            | (go_at_call 18; (with_reducible refine HD.out.mono ?_); rintro e w4 ⟨rfl, rfl⟩)
            | (go_at_call 7; (with_reducible refine (HSm.out _).mono ?_); rintro e w4 ⟨rfl, hb4⟩; obtain ⟨y0, y1, y2, y3⟩ := HX.out _ (HBW.out.trans (hb4.mono HBW.out.size)))
            | (go_at_call 19; (with_reducible refine (HSv.out _ hb4).mono ?_); rintro e w5 ⟨rfl, hsv⟩; obtain ⟨pa, pc, WF, ⟨p0, p1, p2, p3⟩, ⟨t0, t1, t2, t3, q0, q1, q2, q3, qf0, qf1, qf2, qf3, qeq, qe0, qe1, qe2, qe3⟩, HFin⟩ := HK5.out _ hsv))
          go_roundw
          case rel => exact HFin.out
          case measure => exact hmes
        · have HK5 : Hid (∀ w5, KSv W a w3.heap.size (w3.heap.size + 1) o nx x s 7 w5 → ∃ va vc WP WF, BoxB w3.heap.size last (.slice va last.vot.length vc) w5 ∧ (∃ r0 r1 r2 r3, P4 w5 WP (w3.heap.size + 1) last (.slice va last.vot.length vc) r0 r1 r2 r3) ∧ (∃ r0 r1 r2 r3, P4 WP WF (w3.heap.size + 1) x (.slice xa x.vot.length xc) r0 r1 r2 r3) ∧ Below W.heap.size W WP ∧ Hid (KRel W a w3.heap.size (w3.heap.size + 1) l (.int .i64 ((k : Int) + 1)) WF)) := hid (fun w5 h => by
            have hb5 : Below W.heap.size W w5 := by obtain ⟨_, _, _, _, h5, _⟩ := h; exact h5
            obtain ⟨va, vc, h1, h2, h4, s', h3⟩ := kstep7 h (HXc.out _ hb5) hv gP gQ ne hro hln
            rw [HLa.out] at h1 h2 h3 h4
            have hb6 : Below W.heap.size W (kst w5 (w3.heap.size + 1) last (.slice va last.vot.length vc)) := qst4_below hb5 gQ _ _ _ _
            obtain ⟨WP, eP⟩ : ∃ WP, kst w5 (w3.heap.size + 1) last (.slice va last.vot.length vc) = WP := ⟨_, rfl⟩
            rw [eP] at h4 h3 hb6
            obtain ⟨WF, eF⟩ : ∃ WF, kst WP (w3.heap.size + 1) x (.slice xa x.vot.length xc) = WF := ⟨_, rfl⟩
            rw [eF] at h3
            exact ⟨va, vc, WP, WF, h1, puts_named h2 eP, puts_named h4 eF, hb6, hid (HNx.out _ _ _ _ h3)⟩)
          clear HCr HLd HFd hx hbe hxv hrc hv hin hbW hkl hk hrb hba hHs hro hln HXc HNx hKs
          as_aux_lemma =>
          go_wp2_with (first
            | (go_at_call 18; (with_reducible refine HD.out.mono ?_); rintro e w4 ⟨rfl, rfl⟩)
            | (go_at_call 7; (with_reducible refine (HSm.out _).mono ?_); rintro e w4 ⟨rfl, hb4⟩; obtain ⟨y0, y1, y2, y3⟩ := HX.out _ (HBW.out.trans (hb4.mono HBW.out.size)))
            | (go_at_call 19; (with_reducible refine (HSv.out _ hb4).mono ?_); rintro e w5 ⟨rfl, hsv⟩; obtain ⟨pa, pc, WP, WF, ⟨p0, p1, p2, p3⟩, ⟨t0, t1, t2, t3, q0, q1, q2, q3, qf0, qf1, qf2, qf3, qeq, qe0, qe1, qe2, qe3⟩, ⟨s0, s1, s2, s3, v0, v1, v2, v3, vf0, vf1, vf2, vf3, veq, ve0, ve1, ve2, ve3⟩, hb6, HFin⟩ := HK5.out _ hsv; obtain ⟨z0, z1, z2, z3⟩ := HX.out _ hb6))
          go_roundw
          case rel => exact HFin.out
          case measure => exact hmes
    all_goals
      clear hkl hk HCe HIn HG hKs
      have HT : Hid (∀ w5 va vc, KEnd W a w3.heap.size (w3.heap.size + 1) o nx sc w5 ∧ BAt w5 (.slice va u.vot.length vc) u → ∃ pa pc qa qc, BoxB w3.heap.size last (.slice pa last.vot.length pc) (w5.alloc (.cells #[.int .i64 u.ix, .int .i64 u.tm, .slice va u.vot.length vc, .string (mk u.data)] 24)) ∧ BoxB w5.heap.size u (.slice va u.vot.length vc) (w5.alloc (.cells #[.int .i64 u.ix, .int .i64 u.tm, .slice va u.vot.length vc, .string (mk u.data)] 24)) ∧
          Hid (Calls Tryz.prog 14 #[.agg (bc u (.slice va u.vot.length vc)), .agg (bc last (.slice pa last.vot.length pc))] (w5.alloc (.cells #[.int .i64 u.ix, .int .i64 u.tm, .slice va u.vot.length vc, .string (mk u.data)] 24)) fun e w' => e = .returned (.bool (decide (u = last))) ∧ Below (w5.alloc (.cells #[.int .i64 u.ix, .int .i64 u.tm, .slice va u.vot.length vc, .string (mk u.data)] 24)).heap.size (w5.alloc (.cells #[.int .i64 u.ix, .int .i64 u.tm, .slice va u.vot.length vc, .string (mk u.data)] 24)) w') ∧
          Hid (∀ w7, Below (w5.alloc (.cells #[.int .i64 u.ix, .int .i64 u.tm, .slice va u.vot.length vc, .string (mk u.data)] 24)).heap.size (w5.alloc (.cells #[.int .i64 u.ix, .int .i64 u.tm, .slice va u.vot.length vc, .string (mk u.data)] 24)) w7 → BoxB w5.heap.size u (.slice va u.vot.length vc) w7 ∧ BoxB (w3.heap.size + 1) nx (.slice qa nx.vot.length qc) w7 ∧ Below W.heap.size W w7 ∧ Calls Tryz.prog 14 #[.agg (bc u (.slice va u.vot.length vc)), .agg (bc nx (.slice qa nx.vot.length qc))] w7 fun e w' => e = .returned (.bool (decide (u = nx))) ∧ w'.cell? ⟨w5.heap.size, 0, none⟩ = some (.int .i64 u.ix) ∧ Below W.heap.size W w')) := hid (fun w5 va vc h => kend_tail HLa.out h.1 h.2 rfl)
      obtain ⟨hf1, hf2⟩ := HFd.out
      have hb : decide (u = last) = true ∨ (decide (u = last) = false ∧ decide (u = nx) = true) := by
        by_cases h1 : u = last
        · exact .inl (decide_eq_true h1)
        · exact .inr ⟨decide_eq_false h1, decide_eq_true (hf1.resolve_left h1)⟩
      clear hf1 HFd
      generalize decide (u = last) = d1 at *
      generalize decide (u = nx) = d2 at *
      rcases hb with rfl | ⟨rfl, rfl⟩
      all_goals
        as_aux_lemma =>
        go_wp2_with (first
          | (go_at_call 18; (with_reducible refine HD.out.mono ?_); rintro e w4 ⟨rfl, rfl⟩)
          | (go_at_call 20; (with_reducible refine HCr.out.mono ?_); rintro e w4 ⟨rfl, hE⟩; have HE4 := hid hE; clear hE)
          | (go_at_call 21; (with_reducible refine (HLd.out _ HE4.out).mono ?_); rintro e w5 ⟨va, vc, rfl, hH⟩; obtain ⟨pa, pc, qa, qc, ⟨p0, p1, p2, p3⟩, ⟨y0, y1, y2, y3⟩, HS1, HS2⟩ := HT.out w5 va vc hH.out)
          | (go_at_call 14; (with_reducible refine HS1.out.mono ?_); rintro e w7 ⟨rfl, hb7⟩; obtain ⟨⟨v0, v1, v2, v3⟩, ⟨q0, q1, q2, q3⟩, hbW7, hS⟩ := HS2.out _ hb7; have HS3 := hid hS; clear hS hbW7 hb7)
          | (go_at_call 14; (with_reducible refine HS3.out.mono ?_); rintro e w8 ⟨rfl, z0, hb8⟩; have HB8 := hid hb8; clear hb8))
        go_ret
        exact ⟨rfl, HB8.out⟩
end Go.Proofs.YtbccikefccdekaaGreatDoor

