/-
  LAYER 5 (agenda): Swap.
-/
import Derived.Test.YtmjgkhjjnfoolaaAgMap
import Derived.StillTailTactics
import Derived.Deep.DeepCutAuto
import Derived.Deep.CutRange
import Derived.Deep.RegionHeld3
namespace Go.Proofs.Ytmjgkhjjnfoolaa
open Go.RowKit Go.Maps
set_option linter.unusedVariables false
set_option maxRecDepth 100000

theorem own_new2 (w : World) (a b : Array Value) (T U : TypeId) : own ((w.alloc (.cells a T)).alloc (.cells b U)).drew (w.heap.size + 1) b U := by
  have h := own.new (w.alloc (.cells a T)) b U
  have hz : (w.alloc (.cells a T)).heap.size = w.heap.size + 1 := by simp
  rw [hz] at h
  exact h
structure SwapAt (w w1 : World) (p m g n cap : Nat) (L : List It) (x y : It) (bx bz : Nat) : Prop where
  rep : QRep w1 p (.slice (some ⟨g, 0, none⟩) n cap) (.map (some m)) L
  below : Below w.heap.size w w1
  ox : own w1 bx #[.int .i64 x.1, .int .i64 x.2] 60
  oz : own w1 bz #[.int .i64 y.1, .int .i64 y.2] 60
  nx : w.heap.size ≤ bx
  nz : w.heap.size ≤ bz
  gl : g < w.heap.size
  pl : p < w.heap.size
  ml : m < w.heap.size
structure SwapMid (w w2 : World) (p m g n cap : Nat) (L L2 : List It) (x y : It) (bx bz : Nat) : Prop where
  head : own w2 p #[.slice (some ⟨g, 0, none⟩) n cap, .map (some m)] 58
  row : ItRow w2 (.slice (some ⟨g, 0, none⟩) n cap) L2
  map : ∃ D, PMap w2 m D ∧ Places D L
  chg : Chg (Foot p (.slice (some ⟨g, 0, none⟩) n cap) (.map (some m))) w w2
  ox : own w2 bx #[.int .i64 x.1, .int .i64 x.2] 60
  oz : own w2 bz #[.int .i64 y.1, .int .i64 y.2] 60
theorem set4_heap (w1 : World) (g : Nat) (a b c d : Nat) (u1 u2 u3 u4 : Value) {q : Nat} (h : q ≠ g) :
    ((((w1.setCell ⟨g, a, none⟩ u1).setCell ⟨g, b, none⟩ u2).setCell ⟨g, c, none⟩ u3).setCell ⟨g, d, none⟩ u4).drew.heap[q]? = w1.heap[q]? := by
  show ((((w1.setCell _ _).setCell _ _).setCell _ _).setCell _ _).heap[q]? = _
  rw [Below.heap_setCell _ _ _ _ h, Below.heap_setCell _ _ _ _ h, Below.heap_setCell _ _ _ _ h, Below.heap_setCell _ _ _ _ h]
theorem set4_chg (w1 : World) (g : Nat) (a b c d : Nat) (u1 u2 u3 u4 : Value) :
    Chg (fun q => q = g) w1 ((((w1.setCell ⟨g, a, none⟩ u1).setCell ⟨g, b, none⟩ u2).setCell ⟨g, c, none⟩ u3).setCell ⟨g, d, none⟩ u4).drew :=
  ⟨rfl, rfl, rfl, by show _ ≤ ((((w1.setCell _ _).setCell _ _).setCell _ _).setCell _ _).heap.size; simp [World.setCell], fun q _ hq => set4_heap w1 g a b c d u1 u2 u3 u4 hq⟩
theorem swapMid_of {w w1 : World} {p m g n cap : Nat} {L : List It} {x y : It} {bx bz : Nat} (F : SwapAt w w1 p m g n cap L x y bx bz) {i j : Nat} (hx : gt L i = x) (hy : gt L j = y) :
    SwapMid w ((((w1.setCell ⟨g, i * 2, none⟩ (.int .i64 y.1)).setCell ⟨g, i * 2 + 1, none⟩ (.int .i64 y.2)).setCell ⟨g, j * 2, none⟩ (.int .i64 x.1)).setCell ⟨g, j * 2 + 1, none⟩ (.int .i64 x.2)).drew p m g n cap L (sw L i j) x y bx bz := by
  obtain ⟨r1, b1, o1, o2, nx, nz, gl, pl, ml⟩ := F
  have hgp : p ≠ g := fun e => r1.ap1 (by rw [e]; rfl)
  have hmg : m ≠ g := fun e => (r1.ap2 m rfl).2 (by rw [e]; rfl)
  subst hx hy
  refine ⟨r1.head.same (set4_heap _ _ _ _ _ _ _ _ _ _ hgp), (r1.row.set i (gt L j)).set j (gt L i), ?_, ?_, o1.same (set4_heap _ _ _ _ _ _ _ _ _ _ (by omega)), o2.same (set4_heap _ _ _ _ _ _ _ _ _ _ (by omega))⟩
  · rcases r1.map with ⟨e, _⟩ | ⟨m', D, e, hm, hP⟩
    · cases e
    · cases e
      exact ⟨D, hm.same (set4_heap _ _ _ _ _ _ _ _ _ _ hmg), hP⟩
  · exact ((Chg.of_below b1).trans (set4_chg w1 g _ _ _ _ _ _ _ _) (fun q hq => .inl (by subst hq; exact .inr (.inl rfl))))
/-- What the last region needs of the map. -/
structure SwapEnd (w2 : World) (p m bx bz i j : Nat) (x y : It) (L2 : List It) (v1 v2 : Value) (s1 s2 : Nat) (w3 w4 : World) : Prop where
  e1 : (Instr.mapEntry 54 (.map (some m)) (.int .i64 y.2)).run Try.prog w2.drew = .ok (.tuple #[v1, .int .i64 (s1 : Int)]) w2.drew
  t1 : (Instr.entryStore 54 (.map (some m)) (.int .i64 (s1 : Int)) (.int .i64 (i : Int))).run Try.prog w2.drew = .ok () w3
  e2 : (Instr.mapEntry 54 (.map (some m)) (.int .i64 x.2)).run Try.prog w3 = .ok (.tuple #[v2, .int .i64 (s2 : Int)]) w3
  t2 : (Instr.entryStore 54 (.map (some m)) (.int .i64 (s2 : Int)) (.int .i64 (j : Int))).run Try.prog w3 = .ok () w4
  c1 : Chg (fun b => b = m) w2 w4
  c3 : Chg (fun b => b = m) w2 w3
  map : ∃ D, PMap w4 m D ∧ Places D L2
theorem swapEnd_of {w w2 : World} {p m g n cap : Nat} {L : List It} {x y : It} {bx bz i j : Nat} (F : SwapMid w w2 p m g n cap L (sw L i j) x y bx bz) (hx : gt L i = x) (hy : gt L j = y) (hi : i < L.length) (hj : j < L.length) (hij : i ≠ j)
    (hn : (L.map Prod.snd).Nodup) (hr : ∀ z ∈ L, InR z) (hL : L.length ≤ 1000) : ∃ v1 v2 s1 s2 w3 w4, SwapEnd w2 p m bx bz i j x y (sw L i j) v1 v2 s1 s2 w3 w4 := by
  obtain ⟨D, hm, hP⟩ := F.map
  subst hx hy
  have hm0 : PMap w2.drew m D := hm.same rfl
  have hne := gt_snd_ne hn hi hj hij
  have ry := (hr _ (gt_mem hj)).2
  have rx := (hr _ (gt_mem hi)).2
  obtain ⟨v1, s1, e1, f1⟩ := entry_there keyedInt Try.underlying54 hm0 (zeroInt _) (keyInt ry) (hP.at_ j hj).1 (by rw [hP.size]; unfold maxLen; omega)
  obtain ⟨w3, t1, m1, c1⟩ := f1 w2.drew (.int .i64 (i : Int)) _ _ rfl (elInt (n := (i : Int)) (by unfold I64; omega))
  have m1' := ownsMap_tight m1
  have h2 : Maps.has (D.put (ky (gt L j).2) (.lit (.int .i64 (i : Int)))) (ky (gt L i).2) = true := by
    rw [has_put_other (ky_ne hne)]; exact (hP.at_ i hi).1
  have hPs := hP.swap hn hi hj hij
  obtain ⟨v2, s2, e2, f2⟩ := entry_there keyedInt Try.underlying54 m1' (zeroInt _) (keyInt rx) h2 (by rw [size_put hP.tidy, (hP.at_ j hj).1, hP.size]; simp; unfold maxLen; omega)
  obtain ⟨w4, t2, m2, c2⟩ := f2 w3 (.int .i64 (j : Int)) _ _ rfl (elInt (n := (j : Int)) (by unfold I64; omega))
  have h3 : Chg (fun b => b = m) w2 w3 := ((Chg.refl _ w2).drewN 1).trans (mapTurned_chg c1) (fun q hq => .inl hq)
  exact ⟨v1, v2, s1, s2, w3, w4, e1, t1, e2, t2, h3.trans (mapTurned_chg c2) (fun q hq => .inl hq), h3, _, ownsMap_tight m2, hPs⟩
def SwapCut (w w1 : World) (p m g n cap : Nat) (L : List It) (x y : It) (s6 s7 : Value) : Prop :=
  ∃ bx bz, s6 = .pointer (some ⟨bx, 0, none⟩) ∧ s7 = .pointer (some ⟨bz, 0, none⟩) ∧ SwapAt w w1 p m g n cap L x y bx bz
def SwS (p g n cap bx bz : Nat) (x y : It) (wx : World) : Prop :=
  wx.cell? ⟨p, 0, none⟩ = some (.slice (some ⟨g, 0, none⟩) n cap) ∧ wx.cell? ⟨bx, 0, none⟩ = some (.int .i64 x.1) ∧ wx.cell? ⟨bx, 1, none⟩ = some (.int .i64 x.2) ∧ wx.cell? ⟨bz, 0, none⟩ = some (.int .i64 y.1) ∧ wx.cell? ⟨bz, 1, none⟩ = some (.int .i64 y.2)
theorem swS_set {p g n cap bx bz a b : Nat} {x y : It} {u v : Value} {wx : World} (h1 : p ≠ g) (h2 : bx ≠ g) (h3 : bz ≠ g) (h : SwS p g n cap bx bz x y wx) : SwS p g n cap bx bz x y ((wx.setCell ⟨g, a, none⟩ u).setCell ⟨g, b, none⟩ v) := by
  have hk : ∀ q k, q ≠ g → ((wx.setCell ⟨g, a, none⟩ u).setCell ⟨g, b, none⟩ v).cell? ⟨q, k, none⟩ = wx.cell? ⟨q, k, none⟩ := fun q k hq => by
    simp only [World.cell?]
    rw [Below.heap_setCell _ _ _ _ hq, Below.heap_setCell _ _ _ _ hq]
  obtain ⟨a1, a2, a3, a4, a5⟩ := h
  exact ⟨(hk _ _ h1).trans a1, (hk _ _ h2).trans a2, (hk _ _ h2).trans a3, (hk _ _ h3).trans a4, (hk _ _ h3).trans a5⟩
theorem swapAt_a {w : World} {p m g n cap : Nat} {L : List It} {x y : It} (h : QRep w p (.slice (some ⟨g, 0, none⟩) n cap) (.map (some m)) L) (hg : g < w.heap.size) (hp : p < w.heap.size) (hm : m < w.heap.size) :
    SwapAt w ((w.alloc (.cells #[.int .i64 x.1, .int .i64 x.2] 60)).alloc (.cells #[.int .i64 y.1, .int .i64 y.2] 60)).drew p m g n cap L x y w.heap.size (w.heap.size + 1) :=
  have hb : Below w.heap.size w ((w.alloc (.cells #[.int .i64 x.1, .int .i64 x.2] 60)).alloc (.cells #[.int .i64 y.1, .int .i64 y.2] 60)).drew := (((Below.refl _ _).alloc (Nat.le_refl _) _).alloc (by simp) _).drew
  ⟨h.below hb, hb, (own.new w _ _).same (Below.heap_alloc _ _ _ (by simp)), own_new2 _ _ _ _ _, by omega, by omega, hg, hp, hm⟩
theorem swapAt_b {w : World} {p m g n cap : Nat} {L : List It} {x y : It} (h : QRep w p (.slice (some ⟨g, 0, none⟩) n cap) (.map (some m)) L) (hg : g < w.heap.size) (hp : p < w.heap.size) (hm : m < w.heap.size) :
    SwapAt w ((w.alloc (.cells #[.int .i64 y.1, .int .i64 y.2] 60)).alloc (.cells #[.int .i64 x.1, .int .i64 x.2] 60)).drew p m g n cap L x y (w.heap.size + 1) w.heap.size :=
  have hb : Below w.heap.size w ((w.alloc (.cells #[.int .i64 y.1, .int .i64 y.2] 60)).alloc (.cells #[.int .i64 x.1, .int .i64 x.2] 60)).drew := (((Below.refl _ _).alloc (Nat.le_refl _) _).alloc (by simp) _).drew
  ⟨h.below hb, hb, own_new2 _ _ _ _ _, (own.new w _ _).same (Below.heap_alloc _ _ _ (by simp)), by omega, by omega, hg, hp, hm⟩
set_option maxHeartbeats 4000000 in
theorem swap_any {w : World} {p m : Nat} {v : Value} {L : List It} (h : QRep w p v (.map (some m)) L) (i j : Nat) (hi : i < L.length) (hj : j < L.length) (hij : i ≠ j) :
    Calls Try.prog 52 #[.pointer (some ⟨p, 0, none⟩), .int .i64 (i : Int), .int .i64 (j : Int)] w fun e w' => e = .returned (.tuple #[]) ∧ QRep w' p v (.map (some m)) (sw L i j) ∧ Chg (Foot p v (.map (some m))) w w' := by
  obtain ⟨ao, cap, rfl, hcap, _, _⟩ := h.row.slice
  have hlen := h.len
  obtain ⟨g, rfl, hg, hcs, hfz⟩ := h.row.at (by omega)
  obtain ⟨c1, c2⟩ := hcs i hi
  obtain ⟨c3, c4⟩ := hcs j hj
  have c0 : w.cell? ⟨p, 0, none⟩ = some (.slice (some ⟨g, 0, none⟩) L.length cap) := (h.head.cell 0).trans rfl
  have cm : w.cell? ⟨p, 1, none⟩ = some (.map (some m)) := (h.head.cell 1).trans rfl
  have hp := h.head.lt
  have hml : m < w.heap.size := h.lt m (.inr (.inr rfl))
  have hiI : (i : Int) < (L.length : Int) := by omega
  have hjI : (j : Int) < (L.length : Int) := by omega
  clear hcs
  obtain ⟨x, hx⟩ : ∃ x, gt L i = x := ⟨_, rfl⟩
  obtain ⟨y, hy⟩ : ∃ y, gt L j = y := ⟨_, rfl⟩
  obtain ⟨n, hn⟩ : ∃ n, L.length = n := ⟨_, rfl⟩
  have HX := hid hx
  have HY := hid hy
  have HN := hid hn
  rw [hx] at c1 c2
  rw [hy] at c3 c4
  rw [hn] at c0 hiI hjI hlen hi hj hcap h ⊢
  have HH := hid h
  clear hx hy hn h
  go_enter Try.func52, Try.ntmps52
  go_upto_region 0 with (fail)
  go_cut [6, 7] (fun s6 s7 wx => SwapCut w wx p m g n cap L x y s6 s7)
  case first =>
    go_region
    · go_wp2_with fail
      go_meet
      exact ⟨_, _, rfl, rfl, swapAt_a HH.out hg hp hml⟩
    · go_wp2_with fail
      go_meet
      exact ⟨_, _, rfl, rfl, swapAt_b HH.out hg hp hml⟩
  case rest =>
    obtain ⟨bx, bz, rfl, rfl, F⟩ := hcut
    generalize wc = w1 at *
    clear c0 c1 c2 c3 c4 cm hfz
    have HF := hid F
    obtain ⟨r1, b1, o1, o2, nx, nz, gl, pl, ml⟩ := F
    have hgp : g ≠ p := fun e => r1.ap1 (by rw [e]; rfl)
    have hpg : p ≠ g := fun e => hgp e.symm
    have hbg : bx ≠ g := by omega
    have hzg : bz ≠ g := by omega
    have c0 : w1.cell? ⟨p, 0, none⟩ = some (.slice (some ⟨g, 0, none⟩) n cap) := (r1.head.cell 0).trans rfl
    have c1 : w1.cell? ⟨bx, 0, none⟩ = some (.int .i64 x.1) := (o1.cell 0).trans rfl
    have c2 : w1.cell? ⟨bx, 1, none⟩ = some (.int .i64 x.2) := (o1.cell 1).trans rfl
    have c3 : w1.cell? ⟨bz, 0, none⟩ = some (.int .i64 y.1) := (o2.cell 0).trans rfl
    have c4 : w1.cell? ⟨bz, 1, none⟩ = some (.int .i64 y.2) := (o2.cell 1).trans rfl
    obtain ⟨g', hgg, hg1, hcs1, hf1⟩ := r1.row.at (by rw [HN.out]; omega)
    obtain rfl : g = g' := by cases hgg; rfl
    obtain ⟨d1, d2⟩ := hcs1 i (by rw [HN.out]; exact hi)
    obtain ⟨d3, d4⟩ := hcs1 j (by rw [HN.out]; exact hj)
    have f1 := hf1 (i * 2)
    have f2 := hf1 (i * 2 + 1)
    have f3 := hf1 (j * 2)
    have f4 := hf1 (j * 2 + 1)
    have n1 : ¬ i * 2 = j * 2 := by omega
    have n2 : ¬ i * 2 + 1 = j * 2 := by omega
    have n3 : ¬ i * 2 = j * 2 + 1 := by omega
    have n4 : ¬ i = j := by omega
    have n5 : ¬ j = i := by omega
    have n6 : ¬ j * 2 = i * 2 := by omega
    have n7 : ¬ j * 2 + 1 = i * 2 := by omega
    have n8 : ¬ j * 2 = i * 2 + 1 := by omega
    clear hf1 hcs1 hgg r1 o1 o2
    go_upto_region 1 with (fail)
    go_cut [] (fun wx => SwapMid w wx p m g n cap L (sw L i j) x y bx bz)
    case first =>
      have s0 : w1.drew.cell? ⟨p, 0, none⟩ = some (.slice (some ⟨g, 0, none⟩) n cap) ∧ w1.drew.cell? ⟨bx, 0, none⟩ = some (.int .i64 x.1) ∧ w1.drew.cell? ⟨bx, 1, none⟩ = some (.int .i64 x.2) ∧ w1.drew.cell? ⟨bz, 0, none⟩ = some (.int .i64 y.1) ∧ w1.drew.cell? ⟨bz, 1, none⟩ = some (.int .i64 y.2) := ⟨c0, c1, c2, c3, c4⟩
      have s1 : ((w1.setCell ⟨g, i * 2, none⟩ (.int .i64 y.1)).setCell ⟨g, i * 2 + 1, none⟩ (.int .i64 y.2)).drew.cell? ⟨p, 0, none⟩ = some (.slice (some ⟨g, 0, none⟩) n cap) ∧ ((w1.setCell ⟨g, i * 2, none⟩ (.int .i64 y.1)).setCell ⟨g, i * 2 + 1, none⟩ (.int .i64 y.2)).drew.cell? ⟨bx, 0, none⟩ = some (.int .i64 x.1) ∧ ((w1.setCell ⟨g, i * 2, none⟩ (.int .i64 y.1)).setCell ⟨g, i * 2 + 1, none⟩ (.int .i64 y.2)).drew.cell? ⟨bx, 1, none⟩ = some (.int .i64 x.2) ∧ ((w1.setCell ⟨g, i * 2, none⟩ (.int .i64 y.1)).setCell ⟨g, i * 2 + 1, none⟩ (.int .i64 y.2)).drew.cell? ⟨bz, 0, none⟩ = some (.int .i64 y.1) ∧ ((w1.setCell ⟨g, i * 2, none⟩ (.int .i64 y.1)).setCell ⟨g, i * 2 + 1, none⟩ (.int .i64 y.2)).drew.cell? ⟨bz, 1, none⟩ = some (.int .i64 y.2) := swS_set (wx := w1) hpg hbg hzg ⟨c0, c1, c2, c3, c4⟩
      have s2 : ((((w1.setCell ⟨g, i * 2, none⟩ (.int .i64 y.1)).setCell ⟨g, i * 2 + 1, none⟩ (.int .i64 y.2)).setCell ⟨g, j * 2, none⟩ (.int .i64 x.1)).setCell ⟨g, j * 2 + 1, none⟩ (.int .i64 x.2)).drew.cell? ⟨p, 0, none⟩ = some (.slice (some ⟨g, 0, none⟩) n cap) ∧ ((((w1.setCell ⟨g, i * 2, none⟩ (.int .i64 y.1)).setCell ⟨g, i * 2 + 1, none⟩ (.int .i64 y.2)).setCell ⟨g, j * 2, none⟩ (.int .i64 x.1)).setCell ⟨g, j * 2 + 1, none⟩ (.int .i64 x.2)).drew.cell? ⟨bx, 0, none⟩ = some (.int .i64 x.1) ∧ ((((w1.setCell ⟨g, i * 2, none⟩ (.int .i64 y.1)).setCell ⟨g, i * 2 + 1, none⟩ (.int .i64 y.2)).setCell ⟨g, j * 2, none⟩ (.int .i64 x.1)).setCell ⟨g, j * 2 + 1, none⟩ (.int .i64 x.2)).drew.cell? ⟨bx, 1, none⟩ = some (.int .i64 x.2) ∧ ((((w1.setCell ⟨g, i * 2, none⟩ (.int .i64 y.1)).setCell ⟨g, i * 2 + 1, none⟩ (.int .i64 y.2)).setCell ⟨g, j * 2, none⟩ (.int .i64 x.1)).setCell ⟨g, j * 2 + 1, none⟩ (.int .i64 x.2)).drew.cell? ⟨bz, 0, none⟩ = some (.int .i64 y.1) ∧ ((((w1.setCell ⟨g, i * 2, none⟩ (.int .i64 y.1)).setCell ⟨g, i * 2 + 1, none⟩ (.int .i64 y.2)).setCell ⟨g, j * 2, none⟩ (.int .i64 x.1)).setCell ⟨g, j * 2 + 1, none⟩ (.int .i64 x.2)).drew.cell? ⟨bz, 1, none⟩ = some (.int .i64 y.2) := swS_set (wx := (w1.setCell ⟨g, i * 2, none⟩ (.int .i64 y.1)).setCell ⟨g, i * 2 + 1, none⟩ (.int .i64 y.2)) hpg hbg hzg s1
      go_region_held3 (fun wx => wx.cell? ⟨p, 0, none⟩ = some (.slice (some ⟨g, 0, none⟩) n cap) ∧ wx.cell? ⟨bx, 0, none⟩ = some (.int .i64 x.1) ∧ wx.cell? ⟨bx, 1, none⟩ = some (.int .i64 x.2) ∧ wx.cell? ⟨bz, 0, none⟩ = some (.int .i64 y.1) ∧ wx.cell? ⟨bz, 1, none⟩ = some (.int .i64 y.2)) (first | with_reducible exact s0 | with_reducible exact s1 | with_reducible exact s2) (fail)
      go_wp2_with fail
      go_meet
      exact swapMid_of HF.out HX.out HY.out
    case rest =>
      have M := hcut
      generalize wc = w2 at *
      clear c0 c1 c2 c3 c4 d1 d2 d3 d4 f1 f2 f3 f4
      obtain ⟨v1, v2, s1, s2, w3, w4, E⟩ := swapEnd_of M HX.out HY.out (by rw [HN.out]; exact hi) (by rw [HN.out]; exact hj) hij HH.out.ids HH.out.inr HH.out.len
      have HE := hid E
      have HM := hid M
      have c0 : w2.cell? ⟨p, 1, none⟩ = some (.map (some m)) := (M.head.cell 1).trans rfl
      have c1 : w2.cell? ⟨bx, 1, none⟩ = some (.int .i64 x.2) := (M.ox.cell 1).trans rfl
      have c2 : w2.cell? ⟨bz, 1, none⟩ = some (.int .i64 y.2) := (M.oz.cell 1).trans rfl
      have e1 := E.e1
      have e2 := E.e2
      have t1 := E.t1
      have t2 := E.t2
      have k3 : ∀ q k, q < w2.heap.size → q ≠ m → w3.cell? ⟨q, k, none⟩ = w2.cell? ⟨q, k, none⟩ := fun q k hq hm => by
        simp only [World.cell?]; rw [HE.out.c3.block q hq hm]
      have k4 : ∀ q k, q < w2.heap.size → q ≠ m → w4.cell? ⟨q, k, none⟩ = w2.cell? ⟨q, k, none⟩ := fun q k hq hm => by
        simp only [World.cell?]; rw [HE.out.c1.block q hq hm]
      have hbm : bx ≠ m := by omega
      have hzm : bz ≠ m := by omega
      have hpm : p ≠ m := fun e => (HH.out.ap2 m rfl).1 e.symm
      have lp := M.head.lt
      have lx := M.ox.lt
      have lz := M.oz.lt
      have r0 : w2.drew.cell? ⟨p, 1, none⟩ = some (.map (some m)) ∧ w2.drew.cell? ⟨bx, 1, none⟩ = some (.int .i64 x.2) ∧ w2.drew.cell? ⟨bz, 1, none⟩ = some (.int .i64 y.2) := ⟨c0, c1, c2⟩
      have r3 : w3.cell? ⟨p, 1, none⟩ = some (.map (some m)) ∧ w3.cell? ⟨bx, 1, none⟩ = some (.int .i64 x.2) ∧ w3.cell? ⟨bz, 1, none⟩ = some (.int .i64 y.2) := ⟨(k3 p 1 lp hpm).trans c0, (k3 bx 1 lx hbm).trans c1, (k3 bz 1 lz hzm).trans c2⟩
      have r4 : w4.cell? ⟨p, 1, none⟩ = some (.map (some m)) ∧ w4.cell? ⟨bx, 1, none⟩ = some (.int .i64 x.2) ∧ w4.cell? ⟨bz, 1, none⟩ = some (.int .i64 y.2) := ⟨(k4 p 1 lp hpm).trans c0, (k4 bx 1 lx hbm).trans c1, (k4 bz 1 lz hzm).trans c2⟩
      clear M E HF k3 k4
      go_wp2
      go_region_held3 (fun wx => wx.cell? ⟨p, 1, none⟩ = some (.map (some m)) ∧ wx.cell? ⟨bx, 1, none⟩ = some (.int .i64 x.2) ∧ wx.cell? ⟨bz, 1, none⟩ = some (.int .i64 y.2)) (first | with_reducible exact r0 | with_reducible exact r3 | with_reducible exact r4) (fail)
      go_wp2_with fail
      go_end0
      refine ⟨rfl, ?_, HM.out.chg.trans HE.out.c1 (fun q hq => .inl (by subst hq; exact .inr (.inr rfl)))⟩
      have h0 := HH.out
      have hmp := (h0.ap2 m rfl).1
      have hmg := (h0.ap2 m rfl).2
      obtain ⟨D, hD, hP⟩ := HE.out.map
      have hpm := sw_perm (L := L) (i := i) (j := j) (by rw [HN.out]; exact hi) (by rw [HN.out]; exact hj)
      exact ⟨HM.out.head.chg HE.out.c1 (fun e => hmp e.symm), HM.out.row.same (fun b hb => HE.out.c1.block b (World.ownsRow.lt HM.out.row b hb).2 (fun e => hmg (by rw [hb, e]))), .inr ⟨m, D, rfl, hD, hP⟩, h0.ap1, h0.ap2,
        ((hpm.map Prod.snd).nodup_iff).2 h0.ids, fun z hz => h0.inr z (hpm.mem_iff.1 hz), by rw [sw_length]; exact h0.len⟩
end Go.Proofs.Ytmjgkhjjnfoolaa
