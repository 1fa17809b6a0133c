/-
  LAYER 6 (net): NetSplits: its walk.
-/
import Derived.Test.YtclkhkoappjgdaaNpActs
import Derived.Deep.RegionHeld3
namespace Go.Proofs.Ytclkhkoappjgdaa
open Go.RowKit Go.Maps
set_option linter.unusedVariables false
set_option maxRecDepth 100000

/-- The last of those that haven't been tried. -/
theorem take_try (f R : List Lt) (G : List Int) (lost j : Nat) (hj : j < f.length) :
    takeN ⟨f.take (j + 1) ++ R, G, lost⟩ (j : Int) = if (⟨f, G, lost⟩ : Nt).apart f[j].fr f[j].to_ = true then (⟨f.take (j + 1) ++ R, G, lost⟩, zl, false) else (⟨f.take j ++ R, G, lost⟩, f[j], true) := by
  have hl : (f.take (j + 1)).length = j + 1 := by rw [List.length_take]; omega
  have hget : (f.take (j + 1) ++ R)[j]? = some f[j] := by
    rw [List.getElem?_append_left (by omega), List.getElem?_take, if_pos (by omega), List.getElem?_eq_getElem hj]
  have hat : ltAt ⟨f.take (j + 1) ++ R, G, lost⟩ (j : Int) = some (j, f[j]) := by
    unfold ltAt
    rw [if_pos (by simp only [List.length_append, hl]; omega)]
    simp [hget]
  have hout : outL (f.take (j + 1) ++ R) j = f.take j ++ R := by
    unfold outL
    rw [List.take_append_of_le_length (by omega), List.take_take, List.drop_append_of_le_length (by omega), List.drop_of_length_le (by omega)]
    simp
  unfold takeN
  rw [hat]
  simp only
  unfold Nt.apart Nt.out
  rw [hout]
theorem take_first (x : Lt) (L : List Lt) (lost : Nat) : takeN ⟨x :: L, [], lost⟩ 0 = (⟨L, [], lost⟩, x, true) := by
  have hat : ltAt ⟨x :: L, [], lost⟩ 0 = some (0, x) := by
    unfold ltAt
    rw [if_pos (by simp)]
    rfl
  unfold takeN
  rw [hat]
  simp only
  unfold Nt.apart Nt.out outL
  simp
theorem qApart' {w0 w : World} {X : Nat → Prop} {r : Nat} {s : Nt} (h : PHas w0 w X r s) {a b : Int} (ha : I64' a) (hb : I64' b) :
    Calls Try.prog 19 #[.pointer (some ⟨r, 0, none⟩), .int .i64 a, .int .i64 b] w fun e w' => e = .returned (.bool (s.apart a b)) ∧ Below w.heap.size w w' := by
  obtain ⟨T, lv, fv, hp⟩ := h.net
  exact pApart_any hp ha hb
/-- A row's letters, at the addresses that the walk spells. -/
theorem rat_letters {w : World} {v : Value} {L : List Lt} (h : RAt plTy w v L) : ∃ a cap, v = .slice a L.length cap ∧ ∀ (k : Nat) x, L[k]? = some x → ∃ sb so, a = some ⟨sb, so, none⟩ ∧ sb < w.heap.size ∧ w.cell? ⟨sb, so + k * 3, none⟩ = some (.int .i64 x.fr) ∧ w.cell? ⟨sb, so + k * 3 + 1, none⟩ = some (.int .i64 x.to_) ∧ w.cell? ⟨sb, so + k * 3 + 2, none⟩ = some (.string x.dt) := by
  obtain ⟨a, cap, rfl, _, _, hc⟩ := h.at plTy_ok
  refine ⟨a, cap, rfl, fun k x hk => ?_⟩
  obtain ⟨sb, so, e, hlt, hcs⟩ := hc k x hk
  exact ⟨sb, so, e, hlt, hcs 0 _ rfl, hcs 1 _ rfl, hcs 2 _ rfl⟩
def rowX (v : Value) : Nat → Prop := fun b => v.ownBlock = some b
/-- After Flight: the row lies apart from the net. -/
theorem qFlightX {w0 w : World} {r : Nat} {s : Nt} (h : PHas w0 w noX r s) :
    Calls Try.prog 18 #[.pointer (some ⟨r, 0, none⟩)] w fun e w' => ∃ a cap, e = .returned (.slice a s.L.length cap) ∧ RAt plTy w' (.slice a s.L.length cap) s.L ∧ PHas w0 w' (rowX (.slice a s.L.length cap)) r s := by
  refine (qFlight h).mono ?_
  rintro e w' ⟨⟨a, cap, rfl, hm⟩, hg⟩
  exact ⟨a, cap, rfl, hm.row.rAt, h.turn (Chg.of_below hm.below) hg.has.below (fun b y => ⟨.inr (hm.new b y), hm.row.lt b y⟩)⟩
def Spl1 (w : World) (r n : Nat) (u : Value) (wr : World) : Prop := ∃ (k : Nat) (s : Nt), k ≤ n ∧ u = .int .i64 (k : Int) ∧ PHas w wr noX r s ∧ NtOk s k
def Spl2 (w : World) (r : Nat) (fv : Value) (f : List Lt) (G : List Int) (lost : Nat) (u : Value) (wr : World) : Prop :=
  ∃ (j : Nat) (R : List Lt), j ≤ f.length ∧ u = .int .i64 ((j : Int) - 1) ∧ PHas w wr (rowX fv) r ⟨f.take j ++ R, G, lost⟩ ∧ RAt plTy wr fv f
def Spl3 (w : World) (r : Nat) (L : List Lt) (lost : Nat) (u : Value) (wr : World) : Prop := ∃ k : Nat, k ≤ L.length ∧ u = .int .i64 (k : Int) ∧ PHas w wr noX r ⟨L.drop k, [], lost⟩
theorem RAt.stay {α : Type} {R : RowTy α} {w w' : World} {v : Value} {L : List α} (h : RAt R w v L) (hs : ∀ b, v.ownBlock = some b → w'.heap[b]? = w.heap[b]?) : RAt R w' v L := by
  obtain ⟨a, cap, rfl, h1, h2, h3, h4⟩ := h
  refine ⟨a, cap, rfl, h1, h2, h3, fun hne => ?_⟩
  obtain ⟨sb, so, rfl, hlt, hc⟩ := h4 hne
  have e := hs sb rfl
  refine ⟨sb, so, rfl, ?_, fun j u hj => ?_⟩
  · rw [Array.getElem?_eq_getElem hlt] at e
    exact (Array.getElem?_eq_some_iff.1 e).1
  · have := hc j u hj
    unfold World.cell? at *
    rw [e]
    exact this
/-- What a try of the i-th letter leaves, its box laid. -/
structure TryAt (w w3 : World) (r : Nat) (fv : Value) (sb so i : Nat) (f R : List Lt) (g : List Int) (lost : Nat) (x y : Lt) : Prop where
  has : PHas w (w3.alloc (pl1 y)) (rowX fv) r ⟨f.take i ++ R, g, lost⟩
  row : RAt plTy (w3.alloc (pl1 y)) fv f
  keep : ∀ wx, Below (w3.alloc (pl1 y)).heap.size (w3.alloc (pl1 y)) wx → (wx.cell? ⟨sb, so + i * 3, none⟩ = some (.int .i64 x.fr) ∧ wx.cell? ⟨sb, so + i * 3 + 1, none⟩ = some (.int .i64 x.to_) ∧ wx.cell? ⟨sb, so + i * 3 + 2, none⟩ = some (.string x.dt) ∧ wx.cell? ⟨w3.heap.size, 0, none⟩ = some (.int .i64 y.fr) ∧ wx.cell? ⟨w3.heap.size, 1, none⟩ = some (.int .i64 y.to_) ∧ wx.cell? ⟨w3.heap.size, 2, none⟩ = some (.string y.dt)) ∧ Below (w3.alloc (pl1 y)).heap.size (w3.alloc (pl1 y)) wx
  apart : ∀ wx, Below (w3.alloc (pl1 y)).heap.size (w3.alloc (pl1 y)) wx → Calls Try.prog 19 #[.pointer (some ⟨r, 0, none⟩), .int .i64 x.fr, .int .i64 x.to_] wx fun e w' => e = .returned (.bool ((⟨f, g, lost⟩ : Nt).apart x.fr x.to_)) ∧ Below (w3.alloc (pl1 y)).heap.size (w3.alloc (pl1 y)) w'
theorem tryAt_of {w w3 : World} {r sb so cap i : Nat} {f R : List Lt} {g : List Int} {lost : Nat} {x y : Lt} (h : PHas w w3 (rowX (.slice (some ⟨sb, so, none⟩) f.length cap)) r ⟨f.take i ++ R, g, lost⟩) (hr : RAt plTy w3 (.slice (some ⟨sb, so, none⟩) f.length cap) f) (hx : f[i]? = some x) (h1 : I64' x.fr) (h2 : I64' x.to_) :
    TryAt w w3 r (.slice (some ⟨sb, so, none⟩) f.length cap) sb so i f R g lost x y := by
  have hb : Below w3.heap.size w3 (w3.alloc (pl1 y)) := (Below.refl _ _).alloc (Nat.le_refl _) _
  have hr2 := hr.below hb
  have hh2 := h.later hb
  have ob := own.new w3 #[.int .i64 y.fr, .int .i64 y.to_, .string y.dt] 37
  obtain ⟨a, c, e, hat⟩ := rat_letters hr2
  cases e
  obtain ⟨sb', so', e, hlt, c0, c1, c2⟩ := hat i x hx
  cases e
  refine ⟨hh2, hr2, fun wx hw => ⟨?_, hw⟩, fun wx hw => ?_⟩
  · have o2 := ob.same (hw.block _ ob.lt)
    exact ⟨(hw.cell (p := ⟨sb, _, none⟩) hlt).trans c0, (hw.cell (p := ⟨sb, _, none⟩) hlt).trans c1, (hw.cell (p := ⟨sb, _, none⟩) hlt).trans c2, (o2.cell 0).trans rfl, (o2.cell 1).trans rfl, (o2.cell 2).trans rfl⟩
  · refine (qApart' (hh2.later hw) h1 h2).mono ?_
    rintro e w' ⟨rfl, hb'⟩
    exact ⟨rfl, hw.trans (hb'.mono hw.size)⟩
theorem f_sane {w wx : World} {X : Nat → Prop} {r j : Nat} {f R : List Lt} {g : List Int} {lost : Nat} (h : PHas w wx X r ⟨f.take j ++ R, g, lost⟩) {i : Nat} (hi : i < j) {x : Lt} (hx : f[i]? = some x) : I64' x.fr ∧ I64' x.to_ := by
  refine h.sane x ?_
  show x ∈ f.take j ++ R
  refine List.mem_append_left _ (List.mem_of_getElem? (i := i) ?_)
  rw [List.getElem?_take, if_pos hi, hx]
set_option maxHeartbeats 8000000 in
theorem netSplits_walk (v gv : Value) (l : List Na) (g : List Int) (a b c : Int) (w : World) (hv : RAt naTy w v l) (hx : ∀ a ∈ l, NaIn w a) (hl : l.length ≤ maxLen)
    (hg : RAt numTy w gv g) (hgx : ∀ n ∈ g, I64' n) (hgl : g.length ≤ maxLen) (ha : I64' a) (hb : I64' b) (hc : I64' c) : Calls Try.prog 5 #[v, gv, .int .i64 a, .int .i64 b, .int .i64 c] w (ShownPost w) := by
  have HS := hid (shown_any w)
  have HSm := hid (fun wx (hb : Below w.heap.size w wx) => small_any wx v l (hv.below hb) hl)
  have HGv := hid hg
  obtain ⟨gao, gcap, rfl, _⟩ := hg.at numTy_ok
  cases hs : smallN l with
  | false =>
    rw [hs] at HSm
    obtain ⟨ao, cap, rfl, _⟩ := na_at hv
    clear hv hx hs hg ha hb hc
    go_enter Try.func5, Try.ntmps5
    go_wp2_with (first
      | (go_at_call 8; (with_reducible refine HS.out.mono ?_); rintro e w1 ⟨rfl, hb1⟩)
      | (go_at_call 9; (with_reducible refine (HSm.out _ hb1).mono ?_); rintro e w2 ⟨rfl, rfl⟩))
    go_ret
    exact ⟨rfl, hb1⟩
  | true =>
    rw [hs] at HSm
    by_cases hg40 : g.length ≤ 40
    · have hgI : (g.length : Int) ≤ 40 := by omega
      have hlen := small_len hs
      obtain ⟨ao, cap, rfl, hat⟩ := act_at hv hx hs
      have HAt := hid hat
      have HN := hid (fun wx (hb : Below w.heap.size w wx) => qNew (w0 := w) (w := wx) (X := noX) hb (fun _ e => e.elim))
      have HSp := hid (fun wx r s (h : PHas w wx noX r s) => qSplit h (HGv.out.below h.below) hgx (by omega))
      clear hv hx hs hat hl hg
      generalize l.length = n at *
      go_enter Try.func5, Try.ntmps5
      go_wp2_with (first
        | (go_at_call 8; (with_reducible refine HS.out.mono ?_); rintro e w1 ⟨rfl, hb1⟩)
        | (go_at_call 9; (with_reducible refine (HSm.out _ hb1).mono ?_); rintro e w2 ⟨rfl, rfl⟩)
        | (go_at_call 10; (with_reducible refine (HN.out _ hb1).mono ?_); rintro e w2 ⟨r, rfl, hh0⟩; have hh := hid hh0.has; clear hh0))
      go_loopw [14] (Spl1 w r n) (fun u _ => n - (intOf u).toNat)
      case atStart => exact ⟨0, nz, Nat.zero_le _, rfl, hh.out, ⟨by simp, by simp⟩⟩
      case round =>
        obtain ⟨k, s, hk, rfl, hh0, hok⟩ := hrel
        have hh := hid hh0
        clear hh0
        by_cases hkn : k < n
        · have hknI : (k : Int) < (n : Int) := by omega
          obtain ⟨x, G, sb, so, rfl, _, hA, hcs⟩ := HAt.out k hkn
          have hlo := hok.lost
          have HD := hid (does_act hh.out (by omega) hA)
          have hok2 := actN_ok hok x G
          obtain ⟨c0, c1, c2, c3, c4, c5⟩ := hcs _ hh.out.below
          clear hcs hA hok
          go_wp2_with (go_at_call 14; (with_reducible refine HD.out.mono ?_); rintro e w3 ⟨rfl, hg⟩; have hh2 := hid hg.has; clear hg)
          go_roundw
          case rel => exact ⟨k + 1, _, by omega, by go_num, hh2.out, hok2⟩
          case measure => simp [intOf]; omega
        · obtain rfl : k = n := by omega
          obtain ⟨f, G0, lost⟩ := s
          have hf300 : f.length ≤ 300 := hok.few
          clear hok
          have HAp : Hid (∀ wx x y, I64' x → I64' y → PHas w wx noX r ⟨f, g, lost⟩ → Calls Try.prog 19 #[.pointer (some ⟨r, 0, none⟩), .int .i64 x, .int .i64 y] wx fun e w' => e = .returned (.bool ((⟨f, g, lost⟩ : Nt).apart x y)) ∧ PHas w w' noX r ⟨f, g, lost⟩) := hid (fun wx x y h1 h2 h => (qApart h h1 h2).mono fun e w' ⟨he, hg⟩ => ⟨he, hg.has⟩)
          have Hab := hid (fun wx h => HAp.out wx a b ha hb h)
          have Hbc := hid (fun wx h => HAp.out wx b c hb hc h)
          have Hac := hid (fun wx h => HAp.out wx a c ha hc h)
          have Hba := hid (fun wx h => HAp.out wx b a hb ha h)
          have Haa := hid (fun wx h => HAp.out wx a a ha ha h)
          rw [apart_three _ a b c] at Hac
          rw [apart_comm _ b a] at Hba
          rw [apart_self] at Haa
          have HSp2 := hid (HSp.out _ _ _ hh.out)
          have HFl := hid (fun wx (h : PHas w wx noX r ⟨f, g, lost⟩) => qFlightX h)
          have hW0 : IntKind.i64.wrap ((f.length : Int) - 1) = (f.length : Int) - 1 := IntWalk.i64_in _ (by omega)
          clear HAp
          generalize (⟨f, g, lost⟩ : Nt).apart a b = p at *
          generalize (⟨f, g, lost⟩ : Nt).apart b c = q at *
          obtain ⟨m, hm⟩ : ∃ m, (p != q) = m := ⟨_, rfl⟩
          rw [hm] at Hac
          have qp : (p != p) = false := bne_self_eq_false _
          have qm : (!(m == !(p == q))) = false := by rw [← hm]; cases p <;> cases q <;> rfl
          clear hm
          go_wp2_with (first
            | (go_at_call 21; (with_reducible refine HSp2.out.mono ?_); rintro e w3 ⟨rfl, hg⟩; have hh3 := hid hg.has; clear hg)
            | (go_at_call 19; (with_reducible refine (Hab.out _ hh3.out).mono ?_); rintro e w3 ⟨rfl, hg⟩; have hh3 := hid hg; clear hg)
            | (go_at_call 19; (with_reducible refine (Hbc.out _ hh3.out).mono ?_); rintro e w3 ⟨rfl, hg⟩; have hh3 := hid hg; clear hg)
            | (go_at_call 19; (with_reducible refine (Hac.out _ hh3.out).mono ?_); rintro e w3 ⟨rfl, hg⟩; have hh3 := hid hg; clear hg)
            | (go_at_call 19; (with_reducible refine (Hba.out _ hh3.out).mono ?_); rintro e w3 ⟨rfl, hg⟩; have hh3 := hid hg; clear hg)
            | (go_at_call 19; (with_reducible refine (Haa.out _ hh3.out).mono ?_); rintro e w3 ⟨rfl, hg⟩; have hh3 := hid hg; clear hg)
            | (go_at_call 18; (with_reducible refine (HFl.out _ hh3.out).mono ?_); rintro e w3 ⟨a2, cap2, rfl, hrow, hg⟩; have hh4 := hid hg; have HRow := hid hrow; clear hg hrow))
          go_loopw [19] (Spl2 w r (.slice a2 f.length cap2) f g lost) (fun u _ => (intOf u + 1).toNat)
          case atStart => exact ⟨f.length, [], Nat.le_refl _, rfl, by rw [List.take_length, List.append_nil]; exact hh4.out, HRow.out⟩
          case round =>
            obtain ⟨j, R, hj, hu, hh0, hrow⟩ := hrel
            rcases Nat.eq_zero_or_pos j with h0 | hpos
            · subst h0
              rw [show (((0 : Nat) : Int) - 1) = -1 from rfl] at hu
              subst hu
              rw [List.take_zero, List.nil_append] at hh0
              have hh5 := hid (hh0.mono (Y := noX) (fun _ y => y.elim))
              have hR300 : R.length ≤ 300 := hh5.out.few
              have HWh := hid (qWhole hh5.out)
              have HFl2 := hid (fun wx (h : PHas w wx noX r ⟨R, [], lost⟩) => qFlight h)
              clear hh0 hrow
              go_wp2_with (first
                | (go_at_call 23; (with_reducible refine HWh.out.mono ?_); rintro e w4 ⟨rfl, hg⟩; have hh6 := hid hg.has; clear hg)
                | (go_at_call 18; (with_reducible refine (HFl2.out _ hh6.out).mono ?_); rintro e w5 ⟨⟨a6, cap6, rfl, -⟩, hg⟩; have hh7 := hid hg.has; clear hg))
              go_loopw [23] (Spl3 w r R lost) (fun u _ => R.length - (intOf u).toNat)
              case atStart => exact ⟨0, Nat.zero_le _, rfl, hh7.out⟩
              case round =>
                obtain ⟨k3, hk3, rfl, hh0⟩ := hrel
                have hh8 := hid hh0
                clear hh0
                by_cases hlt : k3 < R.length
                · have hltI : (k3 : Int) < (R.length : Int) := by omega
                  have hdrop : R.drop k3 = R[k3] :: R.drop (k3 + 1) := List.drop_eq_getElem_cons hlt
                  have hQ := qTake hh8.out 0
                  rw [hdrop, take_first] at hQ
                  generalize R[k3] = y at *
                  have HT := hid hQ
                  clear hQ hdrop
                  go_wp2_with (go_at_call 22; (with_reducible refine HT.out.mono ?_); rintro e w6 ⟨rfl, hg⟩; have hh9 := hid (hg.has.later ((Below.refl _ _).alloc (Nat.le_refl _) (.cells #[.int .i64 y.fr, .int .i64 y.to_, .string y.dt] 37))); clear hg)
                  go_roundw
                  case rel => exact ⟨k3 + 1, by omega, by go_num, hh9.out⟩
                  case measure => simp [intOf]; omega
                · obtain rfl : k3 = R.length := by omega
                  rw [List.drop_length] at hh8
                  have HFl3 := hid (fun wx (h : PHas w wx noX r ⟨[], [], lost⟩) => qFlight h)
                  have HA3 := hid (fun wx (h : PHas w wx noX r ⟨[], [], lost⟩) => qApart h ha hb)
                  rw [apart_whole _ rfl] at HA3
                  simp only [List.length_nil, ClonePost] at HFl3
                  go_wp2_with (first
                    | (go_at_call 18; (with_reducible refine (HFl3.out _ hh8.out).mono ?_); rintro e w7 ⟨⟨a7, cap7, rfl, -⟩, hg⟩; have hh9 := hid hg.has; clear hg)
                    | (go_at_call 19; (with_reducible refine (HA3.out _ hh9.out).mono ?_); rintro e w8 ⟨rfl, hg⟩; have hh10 := hid hg.has.below; clear hg))
                  go_ret
                  exact ⟨rfl, hh10.out⟩
            · obtain ⟨i, rfl⟩ : ∃ i, j = i + 1 := ⟨j - 1, by omega⟩
              rw [show (((i + 1 : Nat) : Int) - 1) = (i : Int) by omega] at hu
              subst hu
              have hi : i < f.length := by omega
              obtain ⟨x, hx⟩ : ∃ x, f[i] = x := ⟨_, rfl⟩
              have hxi : f[i]? = some x := by rw [List.getElem?_eq_getElem hi, hx]
              obtain ⟨i1, i2⟩ := f_sane hh0 (Nat.lt_succ_self i) hxi
              obtain ⟨a3, cap3, e3, hat3⟩ := rat_letters hrow
              cases e3
              obtain ⟨sb2, so2, rfl, _, c0, c1, c2⟩ := hat3 i x hxi
              have hiI : (i : Int) < (f.length : Int) := by omega
              have hWi : IntKind.i64.wrap ((i : Int) - 1) = (i : Int) - 1 := IntWalk.i64_in _ (by omega)
              have hTk := take_try f R g lost i hi
              rw [hx] at hTk
              have hQ := qTake hh0 (i : Int)
              rw [hTk] at hQ
              have hcons : f.take (i + 1) ++ R = f.take i ++ (x :: R) := by rw [List.take_add_one, hxi]; simp
              by_cases hap : (⟨f, g, lost⟩ : Nt).apart x.fr x.to_ = true
              · rw [if_pos hap] at hQ
                simp only [zl] at hQ
                rw [hcons] at hQ
                have HT : Hid (Calls Try.prog 22 #[.pointer (some ⟨r, 0, none⟩), .int .i64 (i : Int)] wr fun e w' => e = .returned (.tuple #[.agg #[.int .i64 0, .int .i64 0, .string ⟨#[]⟩], .bool false]) ∧ PHas w w' (rowX (.slice (some ⟨sb2, so2, none⟩) f.length cap2)) r ⟨f.take i ++ (x :: R), g, lost⟩ ∧ RAt plTy w' (.slice (some ⟨sb2, so2, none⟩) f.length cap2) f) := hid (hQ.mono fun e w' ⟨he, hg⟩ => ⟨he, hg.has, hrow.stay (fun b e => hg.same b e)⟩)
                go_wp2_with (go_at_call 22; (with_reducible refine HT.out.mono ?_); rintro e w3 ⟨rfl, hh0, hrow0⟩; have hTr := tryAt_of (y := ⟨0, 0, ⟨#[]⟩⟩) hh0 hrow0 hxi i1 i2; have HTr := hid hTr; obtain ⟨-, -, hkp, hap2⟩ := hTr; rw [hap] at hap2; have HKp := hid hkp; have HAp := hid hap2; clear hkp hap2 hh0 hrow0)
                obtain ⟨⟨d0, d1, d2, -, -, -⟩, -⟩ := HKp.out _ (Below.refl _ _)
                first
                  | (go_region_with (first | (go_at_call 19; (with_reducible refine (HAp.out _ (Below.drew (Below.refl _ _))).mono ?_); rintro e w4 ⟨rfl, hb4⟩)))
                  | (fail "region")
                all_goals
                  go_wp2
                  go_roundw
                  case rel => exact ⟨i, x :: R, by omega, rfl, HTr.out.has.later hb4, HTr.out.row.below hb4⟩
                  case measure => first | (simp [intOf]; done) | (simp [intOf]; omega)
              · rw [if_neg hap] at hQ
                have hap' : (⟨f, g, lost⟩ : Nt).apart x.fr x.to_ = false := by simpa using hap
                have HT : Hid (Calls Try.prog 22 #[.pointer (some ⟨r, 0, none⟩), .int .i64 (i : Int)] wr fun e w' => e = .returned (.tuple #[.agg #[.int .i64 x.fr, .int .i64 x.to_, .string x.dt], .bool true]) ∧ PHas w w' (rowX (.slice (some ⟨sb2, so2, none⟩) f.length cap2)) r ⟨f.take i ++ R, g, lost⟩ ∧ RAt plTy w' (.slice (some ⟨sb2, so2, none⟩) f.length cap2) f) := hid (hQ.mono fun e w' ⟨he, hg⟩ => ⟨he, hg.has, hrow.stay (fun b e => hg.same b e)⟩)
                have e1 : (x.fr == x.fr) = true := beq_self_eq_true _
                have e2 : (x.to_ == x.to_) = true := beq_self_eq_true _
                have e3 : (x.dt.toList == x.dt.toList) = true := beq_self_eq_true _
                go_wp2_with (go_at_call 22; (with_reducible refine HT.out.mono ?_); rintro e w3 ⟨rfl, hh0, hrow0⟩; have hTr := tryAt_of (y := x) hh0 hrow0 hxi i1 i2; have HTr := hid hTr; obtain ⟨-, -, hkp, hap2⟩ := hTr; rw [hap'] at hap2; have HKp := hid hkp; have HAp := hid hap2; clear hkp hap2 hh0 hrow0)
                go_region_held3 (fun wx => (wx.cell? ⟨sb2, so2 + i * 3, none⟩ = some (.int .i64 x.fr) ∧ wx.cell? ⟨sb2, so2 + i * 3 + 1, none⟩ = some (.int .i64 x.to_) ∧ wx.cell? ⟨sb2, so2 + i * 3 + 2, none⟩ = some (.string x.dt) ∧ wx.cell? ⟨w3.heap.size, 0, none⟩ = some (.int .i64 x.fr) ∧ wx.cell? ⟨w3.heap.size, 1, none⟩ = some (.int .i64 x.to_) ∧ wx.cell? ⟨w3.heap.size, 2, none⟩ = some (.string x.dt)) ∧ Below (w3.alloc (.cells #[.int .i64 x.fr, .int .i64 x.to_, .string x.dt] 37)).heap.size (w3.alloc (.cells #[.int .i64 x.fr, .int .i64 x.to_, .string x.dt] 37)) wx) (first | (with_reducible exact HKp.out _ (Below.drew (Below.refl _ _))) | (with_reducible exact HKp.out _ hb4) | (with_reducible assumption)) (first | (go_at_call 19; (with_reducible refine (HAp.out _ (And.right (by assumption))).mono ?_); rintro e w4 ⟨rfl, hb4⟩))
                all_goals
                  go_wp2
                  go_roundw
                  case rel => exact ⟨i, R, by omega, rfl, HTr.out.has.later hb4, HTr.out.row.below hb4⟩
                  case measure => first | (simp [intOf]; done) | (simp [intOf]; omega)
    · have hgI : (40 : Int) < (g.length : Int) := by omega
      obtain ⟨ao, cap, rfl, _⟩ := na_at hv
      clear hv hx hs hg ha hb hc
      go_enter Try.func5, Try.ntmps5
      go_wp2_with (first
        | (go_at_call 8; (with_reducible refine HS.out.mono ?_); rintro e w1 ⟨rfl, hb1⟩)
        | (go_at_call 9; (with_reducible refine (HSm.out _ hb1).mono ?_); rintro e w2 ⟨rfl, rfl⟩))
      go_ret
      exact ⟨rfl, hb1⟩
end Go.Proofs.Ytclkhkoappjgdaa
