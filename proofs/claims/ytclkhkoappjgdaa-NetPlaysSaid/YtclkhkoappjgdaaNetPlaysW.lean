/-
  LAYER 6 (net): NetPlays: both nets side by side.
-/
import Derived.Test.YtclkhkoappjgdaaNpActs
namespace Go.Proofs.Ytclkhkoappjgdaa
open Go.RowKit Go.Maps
set_option linter.unusedVariables false
set_option maxRecDepth 100000

def docX (q : Nat) (lv : Value) : Nat → Prop := fun b => b = q ∨ lv.ownBlock = some b
structure BothN (w wr : World) (r q : Nat) (lv gv : Value) (s : Nt) : Prop where
  p : PHas w wr (docX q lv) r s
  d : RNet wr q lv gv s
  q0 : w.heap.size ≤ q
  g0 : s.G ≠ [] → ∀ b, gv.ownBlock = some b → b < w.heap.size
theorem BothN.later {w wr w' : World} {r q : Nat} {lv gv : Value} {s : Nt} (h : BothN w wr r q lv gv s) (hb : Below wr.heap.size wr w') : BothN w w' r q lv gv s := ⟨h.p.later hb, h.d.below hb, h.q0, h.g0⟩
/-- The program's net has turned: the document's is as it was. -/
theorem BothN.doc {w wr w' : World} {r q : Nat} {lv gv : Value} {s s1 : Nt} (h : BothN w wr r q lv gv s) (hg : PGo w wr w' (docX q lv) r s1) : RNet w' q lv gv s :=
  h.d.same hg.size (fun b e hlt => by
    rcases e with e | e | e
    · exact hg.same b (.inl e)
    · exact hg.same b (.inr e)
    · have hl := h.g0 e.1 b e.2
      rw [hg.has.below.block b hl, h.p.below.block b hl])
/-- .. and then the document's. -/
theorem BothN.both {w wr w1 w2 : World} {r q : Nat} {lv lv' gv gv' : Value} {s s1 : Nt} (h : BothN w wr r q lv gv s) (hp : PHas w w1 (docX q lv) r s1) (ht : MTurn w1 w2 q lv lv' gv gv' s1) (hg' : s1.G ≠ [] → ∀ b, gv'.ownBlock = some b → b < w.heap.size) : BothN w w2 r q lv' gv' s1 := by
  have z := hp.below.size
  have hq := h.q0
  have hb : Below w.heap.size w w2 := hp.below.trans (ht.chg.below z (fun b e => by rw [e]; exact hq))
  refine ⟨hp.turn (ht.chg.mono (fun b e => .inl e)) hb (fun b y => ?_), ht.is, hq, hg'⟩
  rcases y with y | y
  · exact ⟨.inl (.inl y), by rw [y]; exact ht.is.head.lt⟩
  · refine ⟨?_, ht.is.lt b y⟩
    rcases ht.new b y with k | k
    · exact .inl (.inr k)
    · exact .inr k.1
/-- The group that an act leaves with the document's net lies among the arguments. -/
theorem BothN.group {w wr w2 : World} {r q : Nat} {lv lv' gv gv' : Value} {s s1 : Nt} {a : Na} {G : List Int} (h : BothN w wr r q lv gv s) (hd : RNet w2 q lv' gv' s1) (hgv : gv' = gv ∨ gv' = a.gv ∨ gv' = .slice none 0 0) (ha : ActIn w a G) :
    s1.G ≠ [] → ∀ b, gv'.ownBlock = some b → b < w.heap.size := by
  intro hne b e
  have same_len : ∀ {w w' : World} {v : Value} {L M : List Int}, RAt numTy w v L → RAt numTy w' v M → L.length = M.length := by
    rintro w w' v L M ⟨a, c, rfl, _⟩ ⟨a', c', e, _⟩
    simp only [Value.slice.injEq] at e
    exact e.2.1
  rcases hgv with k | k | k
  · subst k
    have := same_len hd.grp h.d.grp
    exact h.g0 (fun e0 => hne (List.length_eq_zero_iff.1 (by rw [this, e0]; rfl))) b e
  · subst k
    have := same_len hd.grp ha.row
    exact ha.row.lt (fun e0 => hne (List.length_eq_zero_iff.1 (by rw [this, e0]; rfl))) b e
  · subst k
    simp [Value.ownBlock] at e
theorem BothN.few {w wr : World} {r q : Nat} {lv gv : Value} {s : Nt} (h : BothN w wr r q lv gv s) : s.L.length ≤ 300 := h.p.few
/-- Both nets done an act; both boxes laid. -/
structure ActEnd (w w3 w4 : World) (r q : Nat) (s1 : Nt) (x : Lt) (b : Bool) (e : Ending) : Prop where
  val : e = .returned (.tuple #[.agg #[.int .i64 x.fr, .int .i64 x.to_, .string x.dt], .bool b])
  k0 : (w4.alloc (rl1 x)).cell? ⟨w3.heap.size, 0, none⟩ = some (.int .i64 x.fr)
  k1 : (w4.alloc (rl1 x)).cell? ⟨w3.heap.size, 1, none⟩ = some (.int .i64 x.to_)
  k2 : (w4.alloc (rl1 x)).cell? ⟨w3.heap.size, 2, none⟩ = some (.string x.dt)
  both : ∃ lv' gv', BothN w (w4.alloc (rl1 x)) r q lv' gv' s1
theorem BothN.model {w wr w3 : World} {r q : Nat} {lv gv : Value} {s : Nt} {a : Na} {G : List Int} (h : BothN w wr r q lv gv s) (hlo : s.lost < 100000) (ha : ActIn w a G) (hg : PGo w wr w3 (docX q lv) r (actN s a G).1) :
    Calls Try.prog 15 #[.pointer (some ⟨q, 0, none⟩), .agg #[.int .i64 a.op, .int .i64 a.k, .int .i64 a.fr, .int .i64 a.to_, .string a.dt, .slice a.ga a.gn a.gc]] (w3.alloc (pl1 (actN s a G).2.1)) fun e w4 => ActEnd w w3 w4 r q (actN s a G).1 (actN s a G).2.1 (actN s a G).2.2 e := by
  have hb : Below w3.heap.size w3 (w3.alloc (pl1 (actN s a G).2.1)) := (Below.refl _ _).alloc (Nat.le_refl _) _
  have hz : (w3.alloc (pl1 (actN s a G).2.1)).heap.size = w3.heap.size + 1 := by simp
  have hd3 := h.doc hg
  have hd := hd3.below hb
  have hp := hg.has.later hb
  have hq3 : q < w3.heap.size := hd3.head.lt
  refine (model_any hd h.few hlo a G ha.inn.op (ha.row.below hp.below) (by have := ha.few; omega) (fun hne e => ?_)).mono ?_
  · have h1 := ha.row.lt hne q e
    have h2 := h.q0
    omega
  · rintro e w4 ⟨hv, lv', gv', ht, hgv⟩
    have hb4 : Below w4.heap.size w4 (w4.alloc (rl1 (actN s a G).2.1)) := (Below.refl _ _).alloc (Nat.le_refl _) _
    have z4 := ht.chg.size
    have o4 := ((own.new w3 #[.int .i64 (actN s a G).2.1.fr, .int .i64 (actN s a G).2.1.to_, .string (actN s a G).2.1.dt] 37).chg ht.chg (fun e => by omega)).same (hb4.block _ (by omega))
    exact ⟨hv, (o4.cell 0).trans rfl, (o4.cell 1).trans rfl, (o4.cell 2).trans rfl, lv', gv', (h.both hp ht (h.group ht.is hgv ha)).later hb4⟩
/-- .. and a letter sent. -/
theorem BothN.send {w wr w3 : World} {r q : Nat} {lv gv : Value} {s : Nt} (h : BothN w wr r q lv gv s) (hlo : s.lost < 100000) (x : Lt) (hg : PGo w wr w3 (docX q lv) r (s.send x)) :
    Calls Try.prog 13 #[.pointer (some ⟨q, 0, none⟩), .agg #[.int .i64 x.fr, .int .i64 x.to_, .string x.dt]] w3 fun e w4 => e = .returned (.tuple #[]) ∧ ∃ lv', BothN w w4 r q lv' gv (s.send x) := by
  refine (rSend_any (h.doc hg) h.few hlo x).mono ?_
  rintro e w4 ⟨rfl, lv', ht⟩
  exact ⟨rfl, lv', h.both hg.has ht.m (by rw [send_G]; exact h.g0)⟩
/-- A new pair. -/
theorem both_new {w w2 : World} {r : Nat} (h : PHas w w2 noX r nz) : BothN w (w2.alloc (.cells #[.slice none 0 0, .slice none 0 0, .int .i64 0] 31)) r w2.heap.size (.slice none 0 0) (.slice none 0 0) nz := by
  have hb : Below w2.heap.size w2 (w2.alloc (.cells #[.slice none 0 0, .slice none 0 0, .int .i64 0] 31)) := (Below.refl _ _).alloc (Nat.le_refl _) _
  have hz : (w2.alloc (.cells #[.slice none 0 0, .slice none 0 0, .int .i64 0] 31)).heap.size = w2.heap.size + 1 := by simp
  refine ⟨h.turn (X := noX) (Chg.of_below hb) (h.below.trans (hb.mono h.below.size)) (fun b y => ?_), ⟨own.new w2 _ _, rAt_nil _, rAt_nil _, by simp [Value.ownBlock], fun e => absurd rfl e, by simp, by simp, by simp, fun b e => by simp [Value.ownBlock] at e⟩, h.below.size, fun e => absurd rfl e⟩
  rcases y with y | y
  · exact ⟨.inr (by omega), by omega⟩
  · simp [Value.ownBlock] at y
/-- A row's letters, at the addresses that the walk spells. -/
theorem rat_letters' {w : World} {v : Value} {L : List Lt} (h : RAt plTy w v L) : ∃ a cap, v = .slice a L.length cap ∧ ∀ (k : Nat) x, L[k]? = some x → ∃ sb so, a = some ⟨sb, so, none⟩ ∧ sb < w.heap.size ∧ w.cell? ⟨sb, so + k * 3, none⟩ = some (.int .i64 x.fr) ∧ w.cell? ⟨sb, so + k * 3 + 1, none⟩ = some (.int .i64 x.to_) ∧ w.cell? ⟨sb, so + k * 3 + 2, none⟩ = some (.string x.dt) := by
  obtain ⟨a, cap, rfl, _, _, hc⟩ := h.at plTy_ok
  refine ⟨a, cap, rfl, fun k x hk => ?_⟩
  obtain ⟨sb, so, e, hlt, hcs⟩ := hc k x hk
  exact ⟨sb, so, e, hlt, hcs 0 _ rfl, hcs 1 _ rfl, hcs 2 _ rfl⟩
theorem BothN.apart {w wr : World} {r q : Nat} {lv gv : Value} {s : Nt} (h : BothN w wr r q lv gv s) {a b : Int} (ha : I64' a) (hb : I64' b) {wx : World} (hw : Below wr.heap.size wr wx) :
    Calls Try.prog 19 #[.pointer (some ⟨r, 0, none⟩), .int .i64 a, .int .i64 b] wx fun e w' => e = .returned (.bool (s.apart a b)) ∧ Below wr.heap.size wr w' := by
  obtain ⟨T, lv, fv, hp⟩ := (h.later hw).p.net
  exact (pApart_any hp ha hb).mono fun e w' ⟨he, hb'⟩ => ⟨he, hw.trans (hb'.mono hw.size)⟩
/-- Both rows of letters at the end, and one letter of both. -/
structure RowsAt (w6 : World) (q : Nat) (a2 : Option Addr) (cap2 : Nat) (la : Option Addr) (lcap : Nat) (L : List Lt) : Prop where
  at_ : ∀ j (hj : j < L.length), ∃ sb so sc sd, a2 = some ⟨sb, so, none⟩ ∧ la = some ⟨sc, sd, none⟩ ∧ ∀ wx, Below w6.heap.size w6 wx → wx.cell? ⟨q, 0, none⟩ = some (.slice la L.length lcap) ∧
    wx.cell? ⟨sb, so + j * 3, none⟩ = some (.int .i64 L[j].fr) ∧ wx.cell? ⟨sb, so + j * 3 + 1, none⟩ = some (.int .i64 L[j].to_) ∧ wx.cell? ⟨sb, so + j * 3 + 2, none⟩ = some (.string L[j].dt) ∧
    wx.cell? ⟨sc, sd + j * 3, none⟩ = some (.int .i64 L[j].fr) ∧ wx.cell? ⟨sc, sd + j * 3 + 1, none⟩ = some (.int .i64 L[j].to_) ∧ wx.cell? ⟨sc, sd + j * 3 + 2, none⟩ = some (.string L[j].dt)
theorem rowsAt_of {w6 : World} {q : Nat} {a2 la : Option Addr} {cap2 lcap : Nat} {gv : Value} {s : Nt} (hr : RAt plTy w6 (.slice a2 s.L.length cap2) s.L) (hd : RNet w6 q (.slice la s.L.length lcap) gv s) : RowsAt w6 q a2 cap2 la lcap s.L := by
  refine ⟨fun j hj => ?_⟩
  obtain ⟨a, c, e, hat⟩ := rat_letters' hr
  cases e
  obtain ⟨sb, so, rfl, hlt, c0, c1, c2⟩ := hat j _ (List.getElem?_eq_getElem hj)
  obtain ⟨sc, sd, cap, e, hlt2, d0, d1, d2⟩ := hd.letter hj rfl
  cases e
  have hq := hd.head.lt
  refine ⟨sb, so, sc, sd, rfl, rfl, fun wx hb => ⟨(hb.cell (p := ⟨q, 0, none⟩) hq).trans ((hd.head.cell 0).trans rfl), (hb.cell (p := ⟨sb, _, none⟩) hlt).trans c0, (hb.cell (p := ⟨sb, _, none⟩) hlt).trans c1, (hb.cell (p := ⟨sb, _, none⟩) hlt).trans c2, (hb.cell (p := ⟨sc, _, none⟩) hlt2).trans d0, (hb.cell (p := ⟨sc, _, none⟩) hlt2).trans d1, (hb.cell (p := ⟨sc, _, none⟩) hlt2).trans d2⟩⟩
def Ply3 (w6 : World) (N : Nat) (u : Value) (wr : World) : Prop := ∃ j : Nat, j ≤ N ∧ u = .int .i64 (j : Int) ∧ Below w6.heap.size w6 wr
def Ply1 (w : World) (r q kk : Nat) (u : Value) (wr : World) : Prop := ∃ (i : Nat) (s : Nt) (lv gv : Value), i ≤ kk ∧ u = .int .i64 (i : Int) ∧ BothN w wr r q lv gv s ∧ NtOk s i
def Ply2 (w : World) (r q n : Nat) (u : Value) (wr : World) : Prop := ∃ (k : Nat) (s : Nt) (lv gv : Value), k ≤ n ∧ u = .int .i64 (k : Int) ∧ BothN w wr r q lv gv s ∧ NtOk s (310 + k)
set_option maxHeartbeats 8000000 in
theorem netPlays_walk (v : Value) (l : List Na) (a b m : Int) (w : World) (hv : RAt naTy w v l) (hx : ∀ a ∈ l, NaIn w a) (hl : l.length ≤ maxLen) (ha : I64' a) (hb : I64' b) (hm : I64' m) : Calls Try.prog 3 #[v, .int .i64 a, .int .i64 b, .int .i64 m] w (ShownPost w) := by
  have HS := hid (shown_any w)
  have HSm := hid (fun wx (hb : Below w.heap.size w wx) => small_any wx v l (hv.below hb) hl)
  cases hs : smallN l with
  | false =>
    rw [hs] at HSm
    obtain ⟨ao, cap, rfl, _⟩ := na_at hv
    clear hv hx hs ha hb hm
    go_enter Try.func3, Try.ntmps3
    go_wp2_with (first
      | (go_at_call 8; (with_reducible refine HS.out.mono ?_); rintro e w1 ⟨rfl, hb1⟩)
      | (go_at_call 9; (with_reducible refine (HSm.out _ hb1).mono ?_); rintro e w2 ⟨rfl, rfl⟩))
    go_ret
    exact ⟨rfl, hb1⟩
  | true =>
    rw [hs] at HSm
    have hlen := small_len hs
    obtain ⟨ao, cap, rfl, hat⟩ := act_at hv hx hs
    have HAt := hid hat
    have HN := hid (fun wx (hb : Below w.heap.size w wx) => qNew (w0 := w) (w := wx) (X := noX) hb (fun _ e => e.elim))
    have HP := hid (fun wx => pick_any m 310 wx (by omega) (by omega) hm.1 hm.2)
    have hr := pickZ_range m 310 (by omega)
    obtain ⟨kk, hkk⟩ : ∃ kk : Nat, pickZ m 310 = (kk : Int) := ⟨(pickZ m 310).toNat, by omega⟩
    rw [hkk] at HP hr
    clear hv hx hs hat hl hkk hm
    generalize l.length = n at *
    go_enter Try.func3, Try.ntmps3
    go_wp2_with (first
      | (go_at_call 8; (with_reducible refine HS.out.mono ?_); rintro e w1 ⟨rfl, hb1⟩)
      | (go_at_call 9; (with_reducible refine (HSm.out _ hb1).mono ?_); rintro e w2 ⟨rfl, rfl⟩)
      | (go_at_call 10; (with_reducible refine (HN.out _ hb1).mono ?_); rintro e w2 ⟨r, rfl, hh0⟩; have HB := hid (both_new hh0.has); clear hh0))
    go_loopw [13] (Ply1 w r w2.heap.size kk) (fun u _ => kk - (intOf u).toNat)
    case atStart => exact ⟨0, nz, _, _, Nat.zero_le _, rfl, HB.out, ⟨by simp, by simp⟩⟩
    case round =>
      obtain ⟨i, s, lv, gv, hi, rfl, hh0, hok⟩ := hrel
      have hh := hid hh0
      clear hh0
      have hlo := hok.lost
      by_cases hik : i < kk
      · have hikI : (i : Int) < (kk : Int) := by omega
        have HSd := hid (qSend hh.out.p (d := ⟨#[120]⟩) (by omega) (i64s 1 (by omega) (by omega)) (i64s (i : Int) (by omega) (by omega)))
        have HSd2 := hid (fun w3 hg => hh.out.send (w3 := w3) (by omega) ⟨1, (i : Int), ⟨#[120]⟩⟩ hg)
        have hok2 := send_ok hok ⟨1, (i : Int), ⟨#[120]⟩⟩
        clear hok
        go_wp2_with (first
          | (go_at_call 11; (with_reducible refine (HP.out _).mono ?_); rintro e w3 ⟨rfl, rfl⟩)
          | (go_at_call 12; (with_reducible refine HSd.out.mono ?_); rintro e w3 ⟨rfl, hg⟩; have HG := hid hg; clear hg)
          | (go_at_call 13; (with_reducible refine (HSd2.out _ HG.out).mono ?_); rintro e w4 ⟨rfl, lv', hB⟩; have HB4 := hid hB; clear hB))
        go_roundw
        case rel => exact ⟨i + 1, _, _, _, by omega, by go_num, HB4.out, hok2⟩
        case measure => simp [intOf]; omega
      · obtain rfl : i = kk := by omega
        go_wp2_with (go_at_call 11; (with_reducible refine (HP.out _).mono ?_); rintro e w3 ⟨rfl, rfl⟩)
        go_loopw [14] (Ply2 w r w2.heap.size n) (fun u _ => n - (intOf u).toNat)
        case atStart => exact ⟨0, s, _, _, Nat.zero_le _, rfl, hh.out, ⟨hok.few, by omega⟩⟩
        case round =>
          clear hok hlo hh
          obtain ⟨k, t, lv2, gv2, hk, rfl, hh0, hok⟩ := hrel
          have hh := hid hh0
          clear hh0
          have hlo := hok.lost
          by_cases hkn : k < n
          · have hknI : (k : Int) < (n : Int) := by omega
            obtain ⟨x, G, sb, so, rfl, _, hA, hcs⟩ := HAt.out k hkn
            have HD := hid (does_act hh.out.p (by omega) hA)
            have HM := hid (fun w3 hg => hh.out.model (w3 := w3) (by omega) hA hg)
            have hok2 := actN_ok hok x G
            obtain ⟨c0, c1, c2, c3, c4, c5⟩ := hcs _ hh.out.p.below
            have HCs := hid (fun wx o (hb : Below w.heap.size w wx) => hcs (wx.alloc o) (hb.alloc hb.size o))
            clear hcs hA hok
            generalize actN t x G = qq at *
            obtain ⟨s1, y, b1⟩ := qq
            simp only at HM hok2
            have qb : (b1 != b1) = false := bne_self_eq_false _
            have qb2 : (b1 == b1) = true := beq_self_eq_true _
            have qb3 : ((s1.lost : Int) == (s1.lost : Int)) = true := beq_self_eq_true _
            have HAl : Hid (∀ wx lv' gv', BothN w wx r w2.heap.size lv' gv' s1 → Hid (Calls Try.prog 16 #[.agg #[.int .i64 y.fr, .int .i64 y.to_, .string y.dt], .agg #[.int .i64 y.fr, .int .i64 y.to_, .string y.dt]] wx fun e w5 => e = .returned (.bool true) ∧ w5.cell? ⟨w2.heap.size, 2, none⟩ = some (.int .i64 (s1.lost : Int)) ∧
                Hid (∀ nq, Calls Try.prog 17 #[.pointer (some ⟨r, 0, none⟩)] (w5.drewN nq) fun e w' => e = .returned (.int .i64 (s1.lost : Int)) ∧ w5.drewN nq = w') ∧ Hid (∀ nq, Ply2 w r w2.heap.size n (.int .i64 ((k : Int) + 1)) (w5.drewN nq)))) := hid (fun wx lv' gv' hB => hid ((alike_same wx y).mono fun e w5 ⟨he, hb5⟩ => by
              have h5 := hB.later hb5
              exact ⟨he, (h5.d.head.cell 2).trans rfl, hid (fun nq => qLost (h5.p.later (below_drew (Below.refl _ _) nq))), hid (fun nq => ⟨k + 1, s1, lv', gv', by omega, by push_cast; rfl, h5.later (below_drew (Below.refl _ _) nq), hok2⟩)⟩))
            clear hok2
            go_wp2_with (first
              | (go_at_call 14; (with_reducible refine HD.out.mono ?_); rintro e w3 ⟨rfl, hg⟩; have HG := hid hg; obtain ⟨d0, d1, d2, d3, d4, d5⟩ := HCs.out w3 (.cells #[.int .i64 y.fr, .int .i64 y.to_, .string y.dt] 37) hg.has.below; clear hg)
              | (go_at_call 15; (with_reducible refine (HM.out _ HG.out).mono ?_); rintro e w4 ⟨rfl, k0, k1, k2, lv3, gv3, hB⟩; have HAk := HAl.out _ _ _ hB; clear hB)
              | (go_at_call 16; (with_reducible refine HAk.out.mono ?_); rintro e w5 ⟨rfl, g2, HLo, HR⟩))
            go_quiet ((go_at_call 17; exact quiet_eq (HLo.out _)))
            all_goals
              go_wp2
              go_roundw
              case rel => exact HR.out _
              case measure => simp [intOf]; omega
          · obtain rfl : k = n := by omega
            have ht300 := hok.few
            clear hok hlo
            obtain ⟨la, lcap, rfl, _⟩ := hh.out.d.row.at rlTy_ok
            have HFl : Hid (Calls Try.prog 18 #[.pointer (some ⟨r, 0, none⟩)] wr fun e w6 => ∃ a2 cap2, e = .returned (.slice a2 t.L.length cap2) ∧ w6.cell? ⟨w2.heap.size, 0, none⟩ = some (.slice la t.L.length lcap) ∧ Hid (BothN w w6 r w2.heap.size (.slice la t.L.length lcap) gv2 t) ∧ Hid (RowsAt w6 w2.heap.size a2 cap2 la lcap t.L)) := hid ((qFlight hh.out.p).mono fun e w6 ⟨⟨a2, cap2, he, hm⟩, _⟩ => by
              have h6 := hh.out.later hm.below
              exact ⟨a2, cap2, he, (h6.d.head.cell 0).trans rfl, hid h6, hid (rowsAt_of hm.row.rAt h6.d)⟩)
            have HAp := hid (fun w6 (h : BothN w w6 r w2.heap.size (.slice la t.L.length lcap) gv2 t) => h.apart ha hb (Below.refl _ _))
            have HRp := hid (fun w6 wx (h : BothN w w6 r w2.heap.size (.slice la t.L.length lcap) gv2 t) (hw : Below w6.heap.size w6 wx) => rApart_any (h.d.below hw) a b)
            clear ha hb
            generalize t.apart a b = pp at *
            have qp : (pp != pp) = false := bne_self_eq_false _
            obtain ⟨N, hN⟩ : ∃ N, t.L.length = N := ⟨_, rfl⟩
            have HN2 := hid hN
            rw [hN] at HFl HAp HRp ht300
            go_wp2_with (first
              | (go_at_call 18; (with_reducible refine HFl.out.mono ?_); rintro e w6 ⟨a2, cap2, rfl, g0, H6, HRw⟩)
              | (go_at_call 19; (with_reducible refine (HAp.out _ H6.out).mono ?_); rintro e w7 ⟨rfl, hb7⟩)
              | (go_at_call 20; (with_reducible refine (HRp.out _ _ H6.out hb7).mono ?_); rintro e w8 ⟨rfl, rfl⟩))
            go_loopw [21] (Ply3 w6 N) (fun u _ => N - (intOf u).toNat)
            case atStart => exact ⟨0, Nat.zero_le _, rfl, hb7⟩
            case round =>
              obtain ⟨j, hj, rfl, hbw⟩ := hrel
              by_cases hjN : j < N
              · have hjI : (j : Int) < (N : Int) := by omega
                obtain ⟨sb, so, sc, sd, e1, e2, hcells⟩ := HRw.out.at_ j (by rw [hN]; exact hjN)
                subst e1 e2
                obtain ⟨p0, c0, c1, c2, d0, d1, d2⟩ := hcells _ hbw
                rw [hN] at p0
                have hjl : j < t.L.length := by rw [hN]; exact hjN
                obtain ⟨y, hy⟩ : ∃ y, t.L[j]'hjl = y := ⟨_, rfl⟩
                rw [hy] at c0 c1 c2 d0 d1 d2
                have HAl := hid (alike_same wr.drew y)
                have HNx : Hid (∀ w9, Below wr.drew.heap.size wr.drew w9 → Ply3 w6 N (.int .i64 ((j : Int) + 1)) w9) := hid (fun w9 h9 => ⟨j + 1, by omega, by push_cast; rfl, hbw.trans ((Below.drew (Below.refl wr.heap.size wr)).trans h9 |>.mono hbw.size)⟩)
                clear hcells hy hbw hN
                go_wp2
                go_still_tail 11, (by kernel_rfl)
                change wpList _ _ _ _ _ wr.drew
                go_wp2_with (go_at_call 16; (with_reducible refine HAl.out.mono ?_); rintro e w9 ⟨rfl, hb9⟩; have HR := hid (HNx.out _ hb9); clear hb9)
                go_roundw
                case rel => exact HR.out
                case measure => simp [intOf]; omega
              · obtain rfl : j = N := by omega
                have HB9 := hid (H6.out.later hbw).p.below
                clear hbw
                go_wp2
                go_ret
                exact ⟨rfl, HB9.out⟩
end Go.Proofs.Ytclkhkoappjgdaa
