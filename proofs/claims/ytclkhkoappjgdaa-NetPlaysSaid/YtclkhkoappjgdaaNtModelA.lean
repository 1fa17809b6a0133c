/-
  LAYER 6 (net): the law's model: each act done by the document's net.
-/
import Derived.Test.YtclkhkoappjgdaaNtModel
namespace Go.Proofs.Ytclkhkoappjgdaa
open Go.RowKit
set_option linter.unusedVariables false
set_option maxRecDepth 100000

section
variable {w : World} {r : Nat} {lv gv : Value} {s : Nt}
theorem rTake_any (h : RNet w r lv gv s) (k : Int) :
    Calls Try.prog 29 #[.pointer (some ⟨r, 0, none⟩), .int .i64 k] w fun e w' => e = .returned (.tuple #[.agg #[.int .i64 (takeN s k).2.1.fr, .int .i64 (takeN s k).2.1.to_, .string (takeN s k).2.1.dt], .bool (takeN s k).2.2]) ∧ ∃ lv', RTurn w w' r lv lv' gv (takeN s k).1 := by
  unfold takeN
  cases hk : ltAt s k with
  | none => exact (rTake_no h (ltAt_none hk)).mono fun e w' ⟨he, hb⟩ => ⟨he, lv, RTurn.of_below h hb⟩
  | some q =>
    obtain ⟨n, x⟩ := q
    obtain ⟨hn, hx, rfl⟩ := ltAt_some hk
    by_cases ha : s.apart x.fr x.to_ = true
    · simp only [ha, if_true]
      exact (rTake_apart h hn hx ha).mono fun e w' ⟨he, hb⟩ => ⟨he, lv, RTurn.of_below h hb⟩
    · simp only [ha]
      exact rTake_yes h hn hx (by simpa using ha)
theorem rTwice_any (h : RNet w r lv gv s) (hl : s.L.length ≤ 300) (hlo : s.lost < 100000) (k : Int) :
    Calls Try.prog 30 #[.pointer (some ⟨r, 0, none⟩), .int .i64 k] w fun e w' => e = .returned (.bool (twiceN s k).2) ∧ ∃ lv', RTurn w w' r lv lv' gv (twiceN s k).1 := by
  unfold twiceN
  cases hk : ltAt s k with
  | none => exact (rTwice_no h (ltAt_none hk)).mono fun e w' ⟨he, hb⟩ => ⟨he, lv, by subst hb; exact RTurn.of_below h (Below.refl _ _)⟩
  | some q =>
    obtain ⟨n, x⟩ := q
    obtain ⟨hn, hx, rfl⟩ := ltAt_some hk
    exact rTwice_yes h hl hlo hn hx
theorem rLose_any (h : RNet w r lv gv s) (hlo : s.lost < 100000) (k : Int) :
    Calls Try.prog 31 #[.pointer (some ⟨r, 0, none⟩), .int .i64 k] w fun e w' => e = .returned (.bool (loseN s k).2) ∧ ∃ lv', RTurn w w' r lv lv' gv (loseN s k).1 := by
  unfold loseN
  cases hk : ltAt s k with
  | none => exact (rLose_no h (ltAt_none hk)).mono fun e w' ⟨he, hb⟩ => ⟨he, lv, by subst hb; exact RTurn.of_below h (Below.refl _ _)⟩
  | some q =>
    obtain ⟨n, x⟩ := q
    obtain ⟨hn, hx, rfl⟩ := ltAt_some hk
    exact rLose_yes h hlo hn
theorem rLate_any (h : RNet w r lv gv s) (hl : s.L.length ≤ 300) (k : Int) :
    Calls Try.prog 32 #[.pointer (some ⟨r, 0, none⟩), .int .i64 k] w fun e w' => e = .returned (.bool (lateN s k).2) ∧ ∃ lv', RTurn w w' r lv lv' gv (lateN s k).1 := by
  unfold lateN
  cases hk : ltAt s k with
  | none => exact (rLate_no h (ltAt_none hk)).mono fun e w' ⟨he, hb⟩ => ⟨he, lv, by subst hb; exact RTurn.of_below h (Below.refl _ _)⟩
  | some q =>
    obtain ⟨n, x⟩ := q
    obtain ⟨hn, hx, rfl⟩ := ltAt_some hk
    exact rLate_yes h hl hn hx
end
theorem takeN_G (s : Nt) (k : Int) : (takeN s k).1.G = s.G := by
  unfold takeN
  split
  · rfl
  · split <;> rfl
theorem send_G (s : Nt) (x : Lt) : (s.send x).G = s.G := by unfold Nt.send; split <;> rfl
theorem twiceN_G (s : Nt) (k : Int) : (twiceN s k).1.G = s.G := by
  unfold twiceN
  split
  · rfl
  · exact send_G _ _
theorem loseN_G (s : Nt) (k : Int) : (loseN s k).1.G = s.G := by unfold loseN; split <;> rfl
theorem lateN_G (s : Nt) (k : Int) : (lateN s k).1.G = s.G := by unfold lateN; split <;> rfl
/-- Another group. -/
theorem RNet.group {w : World} {r : Nat} {lv gv g2 : Value} {s : Nt} {G : List Int} (h : RNet w r lv gv s) (hg : RAt numTy w g2 G) (hG : G.length ≤ 1000) (hgr : G ≠ [] → g2.ownBlock ≠ some r) : RNet (w.setCell ⟨r, 1, none⟩ g2) r lv g2 { s with G := G } := by
  have hsz : (w.setCell ⟨r, 1, none⟩ g2).heap.size = w.heap.size := setCell_size _ _ _
  have hs : ∀ b, b ≠ r → (w.setCell ⟨r, 1, none⟩ g2).heap[b]? = w.heap[b]? := fun b hb => Below.heap_setCell _ _ _ _ hb
  exact ⟨h.head.set 1 g2, h.row.same (fun b e _ => hs b (fun h' => h.ap1 (by rw [e, h']))) (by omega), hg.keep (fun hG b e _ => hs b (fun h' => hgr hG (by rw [e, h']))) (by omega), h.ap1, hgr, h.ll, hG, h.lo, fun b e => by rw [hsz]; exact h.lt b e⟩
/-- .. and both boxes, as the walk writes that world. -/
theorem group_end {w : World} {r : Nat} {lv gv g2 : Value} {s : Nt} {G : List Int} {o1 o2 : Obj} (h : RNet w r lv gv s) (hg : RAt numTy w g2 G) (hG : G.length ≤ 1000) (hgr : G ≠ [] → g2.ownBlock ≠ some r) :
    MTurn w (((w.setCell ⟨r, 1, none⟩ g2).alloc o1).alloc o2) r lv lv gv g2 { s with G := G } := by
  have z1 : (w.setCell ⟨r, 1, none⟩ g2).heap.size = w.heap.size := setCell_size _ _ _
  have h2 := h.group hg hG hgr
  have hb : Below (w.setCell ⟨r, 1, none⟩ g2).heap.size (w.setCell ⟨r, 1, none⟩ g2) (((w.setCell ⟨r, 1, none⟩ g2).alloc o1).alloc o2) := ((Below.refl _ _).alloc (Nat.le_refl _) _).alloc (by simp) _
  exact ⟨h2.below hb, (Chg.setCell w ⟨r, 1, none⟩ g2).trans (T := fun _ => False) (Chg.of_below hb) (fun _ e => e.elim), fun q e => .inl e⟩
/-- What the model returns, and leaves. -/
structure ModelPost (w w' : World) (r : Nat) (lv gv : Value) (a : Na) (q : Nt × Lt × Bool) (e : Ending) : Prop where
  val : e = .returned (.tuple #[.agg #[.int .i64 q.2.1.fr, .int .i64 q.2.1.to_, .string q.2.1.dt], .bool q.2.2])
  turn : ∃ lv' gv', MTurn w w' r lv lv' gv gv' q.1 ∧ (gv' = gv ∨ gv' = a.gv ∨ gv' = .slice none 0 0)
abbrev actBox (a : Na) : Obj := .cells #[.int .i64 a.op, .int .i64 a.k, .int .i64 a.fr, .int .i64 a.to_, .string a.dt, .slice a.ga a.gn a.gc] 41
set_option maxHeartbeats 8000000 in
theorem model_any {w : World} {r : Nat} {lv gv : Value} {s : Nt} (h : RNet w r lv gv s) (hl : s.L.length ≤ 300) (hlo : s.lost < 100000) (a : Na) (G : List Int) (hop : I64' a.op) (hg : RAt numTy w a.gv G) (hG : G.length ≤ 1000) (hgr : G ≠ [] → a.gv.ownBlock ≠ some r) :
    Calls Try.prog 15 #[.pointer (some ⟨r, 0, none⟩), .agg #[.int .i64 a.op, .int .i64 a.k, .int .i64 a.fr, .int .i64 a.to_, .string a.dt, .slice a.ga a.gn a.gc]] w fun e w' => ModelPost w w' r lv gv a (actN s a G) e := by
  have z0 : (w.alloc (actBox a)).heap.size = w.heap.size + 1 := by simp
  have hb : Below w.heap.size w ((w.alloc (actBox a)).alloc res0) := ((Below.refl _ _).alloc (Nat.le_refl _) _).alloc (by omega) _
  have h0 := h.below hb
  have hr := h.head.lt
  have H := hid h
  have H0 := hid h0
  have HPk := hid (fun wx => pick_any a.op 10 wx (by omega) (by omega) hop.1 hop.2)
  obtain ⟨o, ho⟩ : ∃ o, pickZ a.op 10 = o := ⟨_, rfl⟩
  have hrng := pickZ_range a.op 10 (by omega)
  rw [ho] at HPk hrng
  have hact : actN s a G = (if o = 3 ∨ o = 4 then takeN s a.k else if o = 5 then ((twiceN s a.k).1, zl, (twiceN s a.k).2) else if o = 6 then ((loseN s a.k).1, zl, (loseN s a.k).2) else if o = 7 then ((lateN s a.k).1, zl, (lateN s a.k).2) else if o = 8 then ({ s with G := G }, zl, true) else if o = 9 then ({ s with G := [] }, zl, true) else (s.send ⟨a.fr, a.to_, a.dt⟩, zl, true)) := by unfold actN; rw [ho]
  rw [hact]
  clear ho hact hop h h0 hb
  by_cases h34 : o = 3 ∨ o = 4
  · rw [if_pos h34]
    have hC := rTake_any H0.out a.k
    have hGG := takeN_G s a.k
    generalize takeN s a.k = q at *
    obtain ⟨s1, x1, b1⟩ := q
    simp only at hC hGG
    have HC := hid hC
    have HE := hid (fun w3 lv' (ht : RTurn ((w.alloc (actBox a)).alloc res0) w3 r lv lv' gv s1) => model_end H.out ht hGG x1)
    clear hC hGG
    rcases h34 with rfl | rfl
    all_goals
      go_enter Try.func15, Try.ntmps15
      go_wp2_with (first
        | (go_at_call 11; (with_reducible refine (HPk.out _).mono ?_); rintro e w2 ⟨rfl, rfl⟩)
        | (go_at_call 29; (with_reducible refine HC.out.mono ?_); rintro e w3 ⟨rfl, lv', ht⟩; obtain ⟨⟨k0, k1, k2, f0, f1, f2, e0, e1, e2⟩, HT⟩ := HE.out _ _ ht; clear ht))
      exact bodyPost_ret (v := .tuple #[.agg #[.int .i64 x1.fr, .int .i64 x1.to_, .string x1.dt], .bool b1]) (by simp [results, Try.results15, go_sem, e0, e1, e2]) rfl ⟨rfl, lv', gv, HT.out.m, .inl rfl⟩
  rw [if_neg h34]
  by_cases h5 : o = 5
  · rw [if_pos h5]
    have hC := rTwice_any H0.out hl hlo a.k
    have hGG := twiceN_G s a.k
    generalize twiceN s a.k = q at *
    obtain ⟨s1, b1⟩ := q
    simp only at hC hGG
    have HC := hid hC
    have HE := hid (fun w3 lv' (ht : RTurn ((w.alloc (actBox a)).alloc res0) w3 r lv lv' gv s1) => model_end H.out ht hGG zl)
    clear hC hGG
    subst h5
    simp only [zl] at HE
    go_enter Try.func15, Try.ntmps15
    go_wp2_with (first
      | (go_at_call 11; (with_reducible refine (HPk.out _).mono ?_); rintro e w2 ⟨rfl, rfl⟩)
      | (go_at_call 30; (with_reducible refine HC.out.mono ?_); rintro e w3 ⟨rfl, lv', ht⟩; obtain ⟨⟨k0, k1, k2, f0, f1, f2, e0, e1, e2⟩, HT⟩ := HE.out _ _ ht; clear ht))
    exact bodyPost_ret (v := .tuple #[.agg #[.int .i64 0, .int .i64 0, .string ⟨#[]⟩], .bool b1]) (by simp [results, Try.results15, go_sem, e0, e1, e2]) rfl ⟨rfl, lv', gv, HT.out.m, .inl rfl⟩
  rw [if_neg h5]
  by_cases h6 : o = 6
  · rw [if_pos h6]
    have hC := rLose_any H0.out hlo a.k
    have hGG := loseN_G s a.k
    generalize loseN s a.k = q at *
    obtain ⟨s1, b1⟩ := q
    simp only at hC hGG
    have HC := hid hC
    have HE := hid (fun w3 lv' (ht : RTurn ((w.alloc (actBox a)).alloc res0) w3 r lv lv' gv s1) => model_end H.out ht hGG zl)
    clear hC hGG
    subst h6
    simp only [zl] at HE
    go_enter Try.func15, Try.ntmps15
    go_wp2_with (first
      | (go_at_call 11; (with_reducible refine (HPk.out _).mono ?_); rintro e w2 ⟨rfl, rfl⟩)
      | (go_at_call 31; (with_reducible refine HC.out.mono ?_); rintro e w3 ⟨rfl, lv', ht⟩; obtain ⟨⟨k0, k1, k2, f0, f1, f2, e0, e1, e2⟩, HT⟩ := HE.out _ _ ht; clear ht))
    exact bodyPost_ret (v := .tuple #[.agg #[.int .i64 0, .int .i64 0, .string ⟨#[]⟩], .bool b1]) (by simp [results, Try.results15, go_sem, e0, e1, e2]) rfl ⟨rfl, lv', gv, HT.out.m, .inl rfl⟩
  rw [if_neg h6]
  by_cases h7 : o = 7
  · rw [if_pos h7]
    have hC := rLate_any H0.out hl a.k
    have hGG := lateN_G s a.k
    generalize lateN s a.k = q at *
    obtain ⟨s1, b1⟩ := q
    simp only at hC hGG
    have HC := hid hC
    have HE := hid (fun w3 lv' (ht : RTurn ((w.alloc (actBox a)).alloc res0) w3 r lv lv' gv s1) => model_end H.out ht hGG zl)
    clear hC hGG
    subst h7
    simp only [zl] at HE
    go_enter Try.func15, Try.ntmps15
    go_wp2_with (first
      | (go_at_call 11; (with_reducible refine (HPk.out _).mono ?_); rintro e w2 ⟨rfl, rfl⟩)
      | (go_at_call 32; (with_reducible refine HC.out.mono ?_); rintro e w3 ⟨rfl, lv', ht⟩; obtain ⟨⟨k0, k1, k2, f0, f1, f2, e0, e1, e2⟩, HT⟩ := HE.out _ _ ht; clear ht))
    exact bodyPost_ret (v := .tuple #[.agg #[.int .i64 0, .int .i64 0, .string ⟨#[]⟩], .bool b1]) (by simp [results, Try.results15, go_sem, e0, e1, e2]) rfl ⟨rfl, lv', gv, HT.out.m, .inl rfl⟩
  rw [if_neg h7]
  by_cases h8 : o = 8
  · rw [if_pos h8]
    have HT := hid (fun o1 o2 => group_end (o1 := o1) (o2 := o2) H.out hg hG hgr)
    have c1 : ((w.alloc (.cells #[.int .i64 a.op, .int .i64 a.k, .int .i64 a.fr, .int .i64 a.to_, .string a.dt, .slice a.ga a.gn a.gc] 41)).alloc res0).cell? ⟨r, 1, none⟩ = some gv := (H0.out.head.cell 1).trans rfl
    have g1 := H0.out.head.frozen 1
    have n1 : ¬ w.heap.size + 1 = r := by omega
    have n2 : ¬ r = w.heap.size + 1 := by omega
    subst h8
    unfold Na.gv at *
    go_enter Try.func15, Try.ntmps15
    go_wp2_with (go_at_call 11; (with_reducible refine (HPk.out _).mono ?_); rintro e w2 ⟨rfl, rfl⟩)
    exact bodyPost_ret (v := .tuple #[.agg #[.int .i64 0, .int .i64 0, .string ⟨#[]⟩], .bool true]) (by simp [results, Try.results15, go_sem]) rfl ⟨rfl, lv, _, HT.out _ _, .inr (.inl rfl)⟩
  rw [if_neg h8]
  by_cases h9 : o = 9
  · rw [if_pos h9]
    have HT := hid (fun o1 o2 => group_end (o1 := o1) (o2 := o2) H.out (rAt_nil w) (Nat.zero_le _) (fun h => absurd rfl h))
    have c1 : ((w.alloc (.cells #[.int .i64 a.op, .int .i64 a.k, .int .i64 a.fr, .int .i64 a.to_, .string a.dt, .slice a.ga a.gn a.gc] 41)).alloc res0).cell? ⟨r, 1, none⟩ = some gv := (H0.out.head.cell 1).trans rfl
    have g1 := H0.out.head.frozen 1
    have n1 : ¬ w.heap.size + 1 = r := by omega
    have n2 : ¬ r = w.heap.size + 1 := by omega
    subst h9
    unfold Na.gv at *
    go_enter Try.func15, Try.ntmps15
    go_wp2_with (go_at_call 11; (with_reducible refine (HPk.out _).mono ?_); rintro e w2 ⟨rfl, rfl⟩)
    exact bodyPost_ret (v := .tuple #[.agg #[.int .i64 0, .int .i64 0, .string ⟨#[]⟩], .bool true]) (by simp [results, Try.results15, go_sem]) rfl ⟨rfl, lv, _, HT.out _ _, .inr (.inr rfl)⟩
  rw [if_neg h9]
  have q3 : (o == 3) = false := beq_eq_false_iff_ne.2 (by omega)
  have q4 : (o == 4) = false := beq_eq_false_iff_ne.2 (by omega)
  have q5 : (o == 5) = false := beq_eq_false_iff_ne.2 h5
  have q6 : (o == 6) = false := beq_eq_false_iff_ne.2 h6
  have q7 : (o == 7) = false := beq_eq_false_iff_ne.2 h7
  have q8 : (o == 8) = false := beq_eq_false_iff_ne.2 h8
  have q9 : (o == 9) = false := beq_eq_false_iff_ne.2 h9
  have HC := hid (rSend_any H0.out hl hlo ⟨a.fr, a.to_, a.dt⟩)
  have HE := hid (fun w3 lv' (ht : RTurn ((w.alloc (actBox a)).alloc res0) w3 r lv lv' gv (s.send ⟨a.fr, a.to_, a.dt⟩)) => model_end H.out ht (send_G _ _) zl)
  simp only [zl] at HE
  clear h34 h5 h6 h7 h8 h9
  go_enter Try.func15, Try.ntmps15
  go_wp2_with (first
    | (go_at_call 11; (with_reducible refine (HPk.out _).mono ?_); rintro e w2 ⟨rfl, rfl⟩)
    | (go_at_call 13; (with_reducible refine HC.out.mono ?_); rintro e w3 ⟨rfl, lv', ht⟩; obtain ⟨⟨k0, k1, k2, f0, f1, f2, e0, e1, e2⟩, HT⟩ := HE.out _ _ ht; clear ht))
  exact bodyPost_ret (v := .tuple #[.agg #[.int .i64 0, .int .i64 0, .string ⟨#[]⟩], .bool true]) (by simp [results, Try.results15, go_sem, e0, e1, e2]) rfl ⟨rfl, lv', gv, HT.out.m, .inl rfl⟩
end Go.Proofs.Ytclkhkoappjgdaa
