/-
  LAYER 11 (xml), THE PROGRAM: opening.
-/
import Derived.Test.YtbiiaepmemdlgaaDoorXmMo
namespace Go.Proofs.YtbiiaepmemdlgaaDoor
open Go.RowKit
set_option linter.unusedVariables false
set_option maxRecDepth 100000

theorem attrs_cases (rest : List UInt8) (l : List AtX) : (∃ q, past [62] (rest.dropWhile spcX) = some q ∧ attrsX rest l = some (l, false, q)) ∨
    (past [62] (rest.dropWhile spcX) = none ∧ ∃ q, past [47, 62] (rest.dropWhile spcX) = some q ∧ attrsX rest l = some (l, true, q)) ∨
    (past [62] (rest.dropWhile spcX) = none ∧ past [47, 62] (rest.dropWhile spcX) = none ∧ attrsX rest l = (attrX (rest.dropWhile spcX)).bind fun x => if (rest.dropWhile spcX).length < rest.length ∧ hasX l x.1.n = false then attrsX x.2 (l ++ [x.1]) else none) := by
  rw [attrsX_eq]
  unfold attrsG
  split
  · rename_i q e; left; exact ⟨q, by rw [e]; rfl, rfl⟩
  · rename_i q e; right; left; exact ⟨by rw [e]; rfl, q, by rw [e]; rfl, rfl⟩
  · rename_i n1 n2
    right; right
    cases hd : rest.dropWhile spcX with
    | nil => exact ⟨rfl, rfl, rfl⟩
    | cons x xs =>
      have h1 : x ≠ 62 := fun e => n1 xs (by rw [hd, e])
      refine ⟨by simp [past, List.isPrefixOf, Ne.symm h1], ?_, rfl⟩
      cases xs with
      | nil => simp [past, List.isPrefixOf]
      | cons y ys =>
        by_cases h2 : x = 47
        · have h3 : y ≠ 62 := fun e => n2 ys (by rw [hd, e, h2])
          simp [past, List.isPrefixOf, Ne.symm h3]
        · simp [past, List.isPrefixOf, Ne.symm h2]
def restSz (w : World) (b : Nat) : Nat := match w.cell? ⟨b, 0, none⟩ with
  | some v => strSz v
  | none => 0
section
variable {B : Nat} {F : Nat → Prop} {w w1 w2 : World} {b : Nat} {s s' : RSt} {tb : Nat} {nm : List UInt8} {a : Option Addr} {m c : Nat} {l : List AtX}
theorem restSz_go (k : OpGo B F w w1 b s tb nm a m c l) : restSz w1 b = s.rest.length := by
  obtain ⟨F1, i, _⟩ := k
  unfold restSz
  rw [(rIs_rest i).1]
  exact mk_size _
def GOpen (B : Nat) (F : Nat → Prop) (w : World) (b : Nat) (s : RSt) (o : Option (List TkX × List UInt8)) (e : Ending) (w2 : World) : Prop :=
  (∀ x, o = some x → e = .returned (.bool true) ∧ RGo B F w w2 b ⟨x.2, [], s.toks ++ endW s.words ++ x.1⟩) ∧ (o = none → GFail B F w b (.bool false) e w2)
theorem gOpen_no {o : Option (List TkX × List UInt8)} {e : Ending} (ho : o = none) (he : e = .returned (.bool false)) (k : RGo B F w w2 b s') : GOpen B F w b s o e w2 := ⟨fun x hx => (by rw [ho] at hx; cases hx), fun _ => ⟨he, s', k⟩⟩
set_option maxHeartbeats 8000000 in
theorem gOpening (k : RGo B F w w1 b s) (hl : s.rest.length ≤ 50000) (ht : s.toks.length ≤ 80000) :
    Calls Tryd.prog 23 #[.pointer (some ⟨b, 0, none⟩)] w1 (GOpen B F w b s (tagX s.rest)) := by
  have HN := hid (gName k (by omega))
  have hnl := nameX_len s.rest
  by_cases hn : (nameX s.rest).1 = []
  · have hd : decide ((nameX s.rest).1 ≠ []) = false := by simp [hn]
    rw [hd] at HN
    have HT : Hid (tagX s.rest = none) := hid (by unfold tagX; rw [if_pos hn])
    clear k hn hd hnl hl ht
    go_enter Tryd.func23, Tryd.ntmps23
    go_wp2_with (go_at_call 35; (with_reducible refine HN.out.mono ?_); rintro e w2 ⟨rfl, k2⟩)
    go_ret
    exact gOpen_no HT.out rfl k2
  · have hd : decide ((nameX s.rest).1 ≠ []) = true := by simp [hn]
    rw [hd] at HN
    have HT : Hid (tagX s.rest = (attrsX (nameX s.rest).2 []).map fun x => (openT (nameX s.rest).1 x.1 :: (if x.2.1 then [closeT (nameX s.rest).1] else []), x.2.2)) := hid (by unfold tagX; rw [if_neg hn])
    have hnr : (nameX s.rest).2.length ≤ s.rest.length := by omega
    clear k hn hd hnl
    generalize (nameX s.rest).1 = nm at *
    generalize (nameX s.rest).2 = r0 at *
    go_enter Tryd.func23, Tryd.ntmps23
    go_wp2_with (go_at_call 35; (with_reducible refine HN.out.mono ?_))
    first | rintro e w2 rfl k2 | rintro e w2 ⟨rfl, k2⟩
    have HB : Hid (∀ w3, own w3 w2.heap.size #[.int .i64 1, .string (mk nm), .slice none 0 0, .string ⟨#[]⟩] 36 → Below w2.heap.size w2 w3 → OpGo B F w w3 b ⟨r0, s.words, s.toks⟩ w2.heap.size nm none 0 0 []) := hid (fun w3 h1 h2 => opGo_start k2 h1 h2)
    have HI := hid (HB.out _ (own.new w2 _ _) ((Below.refl _ _).alloc (Nat.le_refl _) _))
    clear k2 HB HN
    go_wp2
    generalize w2.heap.size = tb at *
    go_loopw [6] (fun _ wr => ∃ (rest : List UInt8) (l : List AtX) (a : Option Addr) (m c : Nat), Hid (OpGo B F w wr b ⟨rest, s.words, s.toks⟩ tb nm a m c l) ∧ l.length + rest.length ≤ s.rest.length ∧ Hid (attrsX r0 [] = attrsX rest l)) (fun _ wr => restSz wr b)
    case atStart => exact ⟨r0, [], none, 0, 0, HI, by simpa using hnr, hid rfl⟩
    case round =>
      obtain ⟨rest, l, a, m, c, hI, hln, hA⟩ := hrel
      clear HI
      have HMs := hid (restSz_go hI.out)
      have hdl := dropW_len spcX rest
      have HSp := hid (fun (o : Bool) (h : decide ((rest.dropWhile spcX).length < rest.length) = o) => oSpace (s := ⟨rest, s.words, s.toks⟩) hI.out h)
      have hac := attrs_cases rest l
      obtain ⟨o, ho⟩ : ∃ o, decide ((rest.dropWhile spcX).length < rest.length) = o := ⟨_, rfl⟩
      have HS := hid (HSp.out o ho)
      have hrl : (rest.dropWhile spcX).length ≤ 100000 := by omega
      clear HSp hI
      generalize hrr : rest.dropWhile spcX = r' at *
      rcases hac with ⟨q, h1, h2⟩ | ⟨h1, q, h2, h3⟩ | ⟨h1, h2, h3⟩
      · have HP := hid (fun (w3 : World) (k3 : OpGo B F w w3 b ⟨r', s.words, s.toks⟩ tb nm a m c l) => oPast_yes k3 ⟨#[62]⟩ h1)
        have HG := hid (fun (w3 : World) (k3 : OpGo B F w w3 b ⟨q, s.words, s.toks⟩ tb nm a m c l) => oTag k3 (by show s.toks.length ≤ _; omega))
        have HZ : Hid (tagX s.rest = some ([openT nm l], q)) := hid (by rw [HT.out, hA.out, h2]; rfl)
        clear h1 h2 hA HT ho hrr hdl
        go_wp2_with (first
          | (go_at_call 36; (with_reducible refine HS.out.mono ?_); rintro e w3 ⟨rfl, k3⟩)
          | (go_at_call 18; (with_reducible refine (HP.out _ k3).mono ?_); rintro e w4 ⟨rfl, k4⟩; obtain ⟨d0, d1, d2, d3, -⟩ := opGo_box k4)
          | (go_at_call 37; (with_reducible refine (HG.out _ k4).mono ?_); rintro e w5 ⟨rfl, k5⟩))
        go_ret
        exact ⟨fun x hx => (by rw [HZ.out] at hx; cases hx; exact ⟨rfl, k5⟩), fun hx => (by rw [HZ.out] at hx; cases hx)⟩
      · have HP := hid (fun (w3 : World) (k3 : OpGo B F w w3 b ⟨r', s.words, s.toks⟩ tb nm a m c l) => oPast_no k3 ⟨#[62]⟩ h1)
        have HP2 := hid (fun (w3 : World) (k3 : OpGo B F w w3 b ⟨r', s.words, s.toks⟩ tb nm a m c l) => oPast_yes k3 ⟨#[47, 62]⟩ h2)
        have HG := hid (fun (w3 : World) (k3 : OpGo B F w w3 b ⟨q, s.words, s.toks⟩ tb nm a m c l) => oTag k3 (by show s.toks.length ≤ _; omega))
        have hwl : (endW s.words).length ≤ 1 := by unfold endW; split <;> simp
        have HG2 := hid (fun (w3 : World) (k3 : RGo B F w w3 b ⟨q, [], s.toks ++ endW s.words ++ [openT nm l]⟩) => gTag0 k3 (by simp; omega) 2 nm)
        have HZ : Hid (tagX s.rest = some ([openT nm l, closeT nm], q)) := hid (by rw [HT.out, hA.out, h3]; rfl)
        clear h1 h2 h3 hA HT ho hrr hdl hwl
        go_wp2_with (first
          | (go_at_call 36; (with_reducible refine HS.out.mono ?_); rintro e w3 ⟨rfl, k3⟩)
          | (go_at_call 18; (with_reducible refine (HP.out _ k3).mono ?_); rintro e w4 ⟨rfl, k4⟩)
          | (go_at_call 18; (with_reducible refine (HP2.out _ k4).mono ?_); rintro e w5 ⟨rfl, k5⟩; obtain ⟨d0, d1, d2, d3, -⟩ := opGo_box k5)
          | (go_at_call 37; (with_reducible refine (HG.out _ k5).mono ?_); rintro e w6 ⟨rfl, k6⟩)
          | (go_at_call 37; (with_reducible refine (HG2.out _ k6).mono ?_); rintro e w7 ⟨rfl, k7⟩))
        go_ret
        exact ⟨fun x hx => (by rw [HZ.out] at hx; cases hx; exact ⟨rfl, by simpa [endW, closeT] using k7⟩), fun hx => (by rw [HZ.out] at hx; cases hx)⟩
      · have HP := hid (fun (w3 : World) (k3 : OpGo B F w w3 b ⟨r', s.words, s.toks⟩ tb nm a m c l) => oPast_no k3 ⟨#[62]⟩ h1)
        have HP2 := hid (fun (w3 : World) (k3 : OpGo B F w w3 b ⟨r', s.words, s.toks⟩ tb nm a m c l) => oPast_no k3 ⟨#[47, 62]⟩ h2)
        have HAt := hid (fun (w3 : World) (k3 : OpGo B F w w3 b ⟨r', s.words, s.toks⟩ tb nm a m c l) => oAttr k3 (by show r'.length ≤ _; omega))
        clear h1 h2
        cases hx : attrX r' with
        | none =>
          have HA2 : Hid (∀ w3, OpGo B F w w3 b ⟨r', s.words, s.toks⟩ tb nm a m c l → Calls Tryd.prog 38 #[.pointer (some ⟨b, 0, none⟩)] w3 fun e w4 => ∃ x y s', e = .returned (.tuple #[.agg #[.string x, .string y], .bool false]) ∧ RGo B F w w4 b s') := hid (fun w3 k3 => (HAt.out w3 k3).mono fun e w4 ⟨s', ⟨_, h⟩, k4⟩ => by
            obtain ⟨x, y, he⟩ := h hx
            exact ⟨x, y, s', he, opGo_fail k4⟩)
          have HZ : Hid (tagX s.rest = none) := hid (by rw [HT.out, hA.out, h3, hx]; rfl)
          clear h3 hA HT ho hrr hdl hx HAt
          cases o
          all_goals
            go_wp2_with (first
              | (go_at_call 36; (with_reducible refine HS.out.mono ?_); rintro e w3 ⟨rfl, k3⟩)
              | (go_at_call 18; (with_reducible refine (HP.out _ k3).mono ?_); rintro e w4 ⟨rfl, k4⟩)
              | (go_at_call 18; (with_reducible refine (HP2.out _ k4).mono ?_); rintro e w5 ⟨rfl, k5⟩)
              | (go_at_call 38; (with_reducible refine (HA2.out _ k5).mono ?_); rintro e w6 ⟨x, y, s6, rfl, k6⟩))
            go_ret
            exact gOpen_no HZ.out rfl (rGo_later k6 ((Below.refl _ _).alloc (Nat.le_refl _) _))
        | some xq =>
          obtain ⟨x, q⟩ := xq
          have hql := attrX_lt hx
          rw [hx, Option.bind_some] at h3
          simp only at h3
          have HA2 : Hid (∀ w3, OpGo B F w w3 b ⟨r', s.words, s.toks⟩ tb nm a m c l → Calls Tryd.prog 38 #[.pointer (some ⟨b, 0, none⟩)] w3 fun e w4 => e = .returned (.tuple #[.agg #[.string (mk x.n), .string (mk x.v)], .bool true]) ∧ OpGo B F w w4 b ⟨q, s.words, s.toks⟩ tb nm a m c l) := hid (fun w3 k3 => (HAt.out w3 k3).mono fun e w4 ⟨s', ⟨h, _⟩, k4⟩ => by
            obtain ⟨he, hs⟩ := h _ hx
            rw [hs] at k4
            exact ⟨he, k4⟩)
          have HLa : Hid (∀ w3, OpGo B F w w3 b ⟨q, s.words, s.toks⟩ tb nm a m c l → OpGo B F w (w3.alloc (.cells #[.string (mk x.n), .string (mk x.v)] 38)) b ⟨q, s.words, s.toks⟩ tb nm a m c l ∧ own (w3.alloc (.cells #[.string (mk x.n), .string (mk x.v)] 38)) w3.heap.size #[.string (mk x.n), .string (mk x.v)] 38) := hid (fun w3 k3 => ⟨opGo_later k3 ((Below.refl _ _).alloc (Nat.le_refl _) _), own.new w3 _ _⟩)
          have HH := hid (fun (w3 : World) (k3 : OpGo B F w w3 b ⟨q, s.words, s.toks⟩ tb nm a m c l) => oHas k3 (by omega) x.n)
          clear hx HAt
          have hlt3 : l.length ≤ 100000 := by omega
          cases o with
          | false =>
            have hno : ¬ (r'.length < rest.length) := by simpa using ho
            have HZ : Hid (tagX s.rest = none) := hid (by rw [HT.out, hA.out, h3, if_neg (fun h => hno h.1)]; rfl)
            clear h3 hA HT ho hrr hdl hno
            go_wp2_with (first
              | (go_at_call 36; (with_reducible refine HS.out.mono ?_); rintro e w3 ⟨rfl, k3⟩)
              | (go_at_call 18; (with_reducible refine (HP.out _ k3).mono ?_); rintro e w4 ⟨rfl, k4⟩)
              | (go_at_call 18; (with_reducible refine (HP2.out _ k4).mono ?_); rintro e w5 ⟨rfl, k5⟩)
              | (go_at_call 38; (with_reducible refine (HA2.out _ k5).mono ?_); rintro e w6 ⟨rfl, k6⟩; have k6f := opGo_fail (HLa.out _ k6).1))
            go_ret
            exact gOpen_no HZ.out rfl k6f
          | true =>
            have hyes : r'.length < rest.length := by simpa using ho
            cases hh : hasX l x.n with
            | true =>
              have HZ : Hid (tagX s.rest = none) := hid (by rw [HT.out, hA.out, h3, if_neg (fun h => by rw [hh] at h; exact absurd h.2 (by decide))]; rfl)
              rw [hh] at HH
              clear h3 hA HT ho hrr hdl hyes hh
              go_wp2_with (first
                | (go_at_call 36; (with_reducible refine HS.out.mono ?_); rintro e w3 ⟨rfl, k3⟩)
                | (go_at_call 18; (with_reducible refine (HP.out _ k3).mono ?_); rintro e w4 ⟨rfl, k4⟩)
                | (go_at_call 18; (with_reducible refine (HP2.out _ k4).mono ?_); rintro e w5 ⟨rfl, k5⟩)
                | (go_at_call 38; (with_reducible refine (HA2.out _ k5).mono ?_); rintro e w6 ⟨rfl, k6⟩; obtain ⟨k7, ob⟩ := HLa.out _ k6; obtain ⟨d0, d1, d2, d3, -⟩ := opGo_box k7)
                | (go_at_call 39; (with_reducible refine (HH.out _ k7).mono ?_); rintro e w8 ⟨rfl, k8, hb8⟩))
              go_ret
              exact gOpen_no HZ.out rfl (opGo_fail k8)
            | false =>
              have HZ : Hid (attrsX r0 [] = attrsX q (l ++ [x])) := hid (by rw [hA.out, h3, if_pos ⟨hyes, hh⟩])
              rw [hh] at HH
              have HL : Hid ((l ++ [x]).length + q.length ≤ s.rest.length ∧ q.length < rest.length) := hid (by rw [List.length_append]; simp; omega)
              have HPu := hid (fun (w8 : World) (k8 : OpGo B F w w8 b ⟨q, s.words, s.toks⟩ tb nm a m c l) => opGo_push k8 hlt3 x)
              clear h3 hA HT ho hrr hdl hyes hh
              go_wp2_with (first
                | (go_at_call 36; (with_reducible refine HS.out.mono ?_); rintro e w3 ⟨rfl, k3⟩)
                | (go_at_call 18; (with_reducible refine (HP.out _ k3).mono ?_); rintro e w4 ⟨rfl, k4⟩)
                | (go_at_call 18; (with_reducible refine (HP2.out _ k4).mono ?_); rintro e w5 ⟨rfl, k5⟩)
                | (go_at_call 38; (with_reducible refine (HA2.out _ k5).mono ?_); rintro e w6 ⟨rfl, k6⟩; obtain ⟨k7, ob⟩ := HLa.out _ k6; obtain ⟨d0, d1, d2, d3, -⟩ := opGo_box k7)
                | (go_at_call 39; (with_reducible refine (HH.out _ k7).mono ?_); rintro e w8 ⟨rfl, k8, hb8⟩; obtain ⟨e0, e1, e2, e3, -⟩ := opGo_box k8; have ob8 := ob.same (hb8.block _ ob.lt); have n0 := ob8.cell 0; have n1 := ob8.cell 1; simp at n0 n1; obtain ⟨a2, c2, w9, hrun, g0, g1, k9⟩ := HPu.out _ k8; have HRUN := hid hrun; have HK9 := hid k9; clear hrun k9 ob8)
                | (at_builtin; refine wpList_append_at HRUN.out (by with_reducible rfl) rfl _ _ rfl rfl rfl rfl ?_))
              go_roundw
              case rel => exact ⟨q, l ++ [x], a2, _, c2, HK9, HL.out.1, HZ⟩
              case measure => rw [restSz_go HK9.out, HMs.out]; exact HL.out.2
end
end Go.Proofs.YtbiiaepmemdlgaaDoor
