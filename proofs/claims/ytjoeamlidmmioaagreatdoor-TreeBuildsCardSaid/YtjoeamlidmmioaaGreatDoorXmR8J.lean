import Derived.Test.YtjoeamlidmmioaaGreatDoorXmR7J
/-
  LAYER 11 (xml), THE DOCUMENT's: an open tag.
-/
namespace Go.Proofs.YtjoeamlidmmioaaGreatDoor
open Go.RowKit
set_option linter.unusedVariables false
set_option maxRecDepth 100000

/-- Tokens that were made since w. -/
def RkNew (w w' : World) (v : Value) (L : List TkX) : Prop := ∃ V, RAt rkTy w' v V ∧ RksIs w' V L ∧ ∀ x ∈ V, ∀ g, (Value.slice x.a x.m x.c).ownBlock = some g → w.heap.size ≤ g ∧ g < w'.heap.size
/-- The tag's box, and its row of attributes. -/
structure TgIs (b : Nat) (W wr : World) (n : List UInt8) (acc : List AtX) (ao : Option Addr) (cap : Nat) : Prop where
  below : Below b W wr
  box : own wr b #[.int .i64 1, .string (mk n), .slice ao acc.length cap, .string ⟨#[]⟩] 50
  row : ROwn raTy wr (.slice ao acc.length cap) acc
  new : ∀ g, (Value.slice ao acc.length cap).ownBlock = some g → b < g
theorem tgIs_later {b : Nat} {W wr wx : World} {n : List UInt8} {acc : List AtX} {ao : Option Addr} {cap : Nat} (h : TgIs b W wr n acc ao cap) (hb : Below wr.heap.size wr wx) : TgIs b W wx n acc ao cap :=
  ⟨h.below.trans (hb.mono (Nat.le_of_lt h.box.lt)), h.box.same (hb.block _ h.box.lt), h.row.below hb, h.new⟩
theorem tgIs_push {b : Nat} {W wr : World} {n : List UInt8} {acc : List AtX} {ao : Option Addr} {cap : Nat} (h : TgIs b W wr n acc ao cap) (hbW : b < W.heap.size) (x : AtX) (hk : acc.length ≤ 100000) (ty : TypeId) :
    ∃ a2 c2 w6, (Builtin.append_ #[34, 34] ty #[.slice ao acc.length cap, .slice (some ⟨wr.heap.size, 0, none⟩) 1 1]).run Tryz.prog (wr.alloc (.cells #[.string (mk x.n), .string (mk x.v)] 45)) = .ok (.slice a2 (acc.length + 1) c2) w6 ∧ own w6 b #[.int .i64 1, .string (mk n), .slice ao acc.length cap, .string ⟨#[]⟩] 50 ∧ TgIs b W (w6.setCell ⟨b, 2, none⟩ (.slice a2 (acc.length + 1) c2)) n (acc ++ [x]) a2 c2 := by
  have ht : (acc ++ [x]).take acc.length = acc := List.take_left ..
  obtain ⟨a2, c2, w6, h1, h2, h3, h4, h5, h6⟩ := as_attr (t := ⟨1, n, acc ++ [x], []⟩) (k := acc.length) (T2 := 45) hbW h.below h.box (by show ROwn raTy wr _ ((acc ++ [x]).take acc.length); rw [ht]; exact h.row) h.new x (by show (acc ++ [x])[acc.length]? = some x; simp) hk ty
  have hl : (acc ++ [x]).length = acc.length + 1 := by simp
  refine ⟨a2, c2, w6, h1, h2, h3, by rw [hl]; exact h4, ?_, by rw [hl]; exact h6⟩
  have h5' : ROwn raTy _ _ ((acc ++ [x]).take (acc.length + 1)) := h5
  rw [List.take_of_length_le (by rw [hl]; exact Nat.le_refl _)] at h5'
  rw [hl]
  exact h5'
theorem tgIs_out1 {b : Nat} {w W wr : World} {n : List UInt8} {acc : List AtX} {ao : Option Addr} {cap : Nat} (h : TgIs b W wr n acc ao cap) (hw : w.heap.size ≤ b) :
    RkNew w (wr.alloc (.cells #[.int .i64 1, .string (mk n), .slice ao acc.length cap, .string ⟨#[]⟩] 50)) (.slice (some ⟨wr.heap.size, 0, none⟩) 1 1) [openT n acc] := by
  have hb : Below wr.heap.size wr (wr.alloc (.cells #[.int .i64 1, .string (mk n), .slice ao acc.length cap, .string ⟨#[]⟩] 50)) := (Below.refl _ _).alloc (Nat.le_refl _) _
  refine ⟨[⟨1, n, ao, acc.length, cap, []⟩], rAt_box rkTy_ok (own.new wr _ _) rfl, ⟨rfl, fun i x t hx ht => ?_⟩, fun x hx g hg => ?_⟩
  · match i, hx, ht with
    | 0, hx, ht => cases hx; cases ht; exact ⟨rfl, rfl, rfl, h.row.rAt.below hb⟩
    | i + 1, hx, ht => simp at hx
  · simp at hx
    subst hx
    have h1 := h.new g hg
    have h2 := h.row.lt g hg
    have h3 := hb.size
    exact ⟨by omega, by omega⟩
theorem tgIs_out2 {b : Nat} {w W wr : World} {n : List UInt8} {acc : List AtX} {ao : Option Addr} {cap : Nat} (h : TgIs b W wr n acc ao cap) (hw : w.heap.size ≤ b) :
    RkNew w (wr.alloc (.cells #[.int .i64 1, .string (mk n), .slice ao acc.length cap, .string ⟨#[]⟩, .int .i64 2, .string (mk n), .slice none 0 0, .string ⟨#[]⟩] 50)) (.slice (some ⟨wr.heap.size, 0, none⟩) 2 2) [openT n acc, closeT n] := by
  have hb : Below wr.heap.size wr (wr.alloc (.cells #[.int .i64 1, .string (mk n), .slice ao acc.length cap, .string ⟨#[]⟩, .int .i64 2, .string (mk n), .slice none 0 0, .string ⟨#[]⟩] 50)) := (Below.refl _ _).alloc (Nat.le_refl _) _
  refine ⟨[⟨1, n, ao, acc.length, cap, []⟩, ⟨2, n, none, 0, 0, []⟩], rAt_own rkTy_ok (own.new wr _ _) rfl 2 rfl (by decide), ⟨rfl, fun i x t hx ht => ?_⟩, fun x hx g hg => ?_⟩
  · match i, hx, ht with
    | 0, hx, ht => cases hx; cases ht; exact ⟨rfl, rfl, rfl, h.row.rAt.below hb⟩
    | 1, hx, ht => cases hx; cases ht; exact ⟨rfl, rfl, rfl, rAt_nil _⟩
    | i + 2, hx, ht => simp at hx
  · simp at hx
    rcases hx with rfl | rfl
    · have h1 := h.new g hg
      have h2 := h.row.lt g hg
      have h3 := hb.size
      exact ⟨by omega, by omega⟩
    · simp [Value.ownBlock] at hg
def tagO (y : List UInt8) : Option (List TkX × Nat) := (tagX y).map fun x => (x.1, 1 + y.length - x.2.length)
def TagPost (w : World) (o : Option (List TkX × Nat)) (e : Ending) (w' : World) : Prop :=
  Below w.heap.size w w' ∧ ((o = none ∧ e = .returned (.tuple #[.slice none 0 0, .int .i64 0])) ∨ ∃ L m a c, o = some (L, m) ∧ e = .returned (.tuple #[.slice a L.length c, .int .i64 (m : Nat)]) ∧ RkNew w w' (.slice a L.length c) L)
theorem attrs_self {s r : List UInt8} {l : List AtX} (h : s.dropWhile spcX = 47 :: 62 :: r) : attrsX s l = some (l, true, r) := by rw [attrsX_eq]; unfold attrsG; rw [h]; rfl
theorem attrs_end {s r : List UInt8} {l : List AtX} (h : s.dropWhile spcX = 62 :: r) : attrsX s l = some (l, false, r) := by rw [attrsX_eq]; unfold attrsG; rw [h]; rfl
theorem attrs_att {s : List UInt8} {l : List AtX} (h1 : ([47, 62] : List UInt8).isPrefixOf (s.dropWhile spcX) = false) (h2 : ([62] : List UInt8).isPrefixOf (s.dropWhile spcX) = false) : attrsX s l = (attrX (s.dropWhile spcX)).bind fun x => if (s.dropWhile spcX).length < s.length ∧ hasX l x.1.n = false then attrsX x.2 (l ++ [x.1]) else none := by
  rw [attrsX_eq]
  unfold attrsG
  split
  · rename_i r e; rw [e] at h2; simp at h2
  · rename_i r e; rw [e] at h1; simp at h1
  · rfl
theorem hasX_not {l : List AtX} {n : List UInt8} (h : ∀ (j : Nat) z, l[j]? = some z → z.n ≠ n) : hasX l n = false := by
  unfold hasX
  rw [List.any_eq_false]
  intro z hz
  obtain ⟨j, hj, rfl⟩ := List.getElem_of_mem hz
  have := h j l[j] (by simp [hj])
  simpa using this
theorem hasX_at {l : List AtX} {n : List UInt8} {j : Nat} {z : AtX} (h : l[j]? = some z) (e : z.n = n) : hasX l n = true := by
  unfold hasX
  rw [List.any_eq_true]
  exact ⟨z, List.mem_of_getElem? h, by simpa using e⟩
theorem attrX_suffix {s r : List UInt8} {a : AtX} (h : attrX s = some (a, r)) : ∃ p, p ++ r = s := by
  unfold attrX at h
  split at h
  · cases h
  have h0 := nameX_eq s
  have h1 := List.dropWhile_suffix spcX (l := (nameX s).2)
  split at h
  · rename_i r2 e2
    rw [e2] at h1
    have h3 := List.dropWhile_suffix spcX (l := r2)
    split at h
    · rename_i q r4 e4
      rw [e4] at h3
      split at h
      · obtain ⟨⟨x, y⟩, h4, h5⟩ := Option.bind_eq_some_iff.1 h
        simp only at h5
        split at h5
        · cases h5
        · obtain ⟨v, h7, h6⟩ := Option.map_eq_some_iff.1 h5
          cases h6
          have h8 := (upTo_lt h4).2
          have s1 : r <:+ r4 := ⟨x ++ [q], h8.symm⟩
          have s2 : r <:+ s := (s1.trans (List.suffix_cons _ _)).trans (h3.trans ((List.suffix_cons _ _).trans (h1.trans ⟨(nameX s).1, h0⟩)))
          exact s2
      · cases h
    · cases h
  · cases h
theorem attrX_drop {s r : List UInt8} {a : AtX} (h : attrX s = some (a, r)) : s.drop (s.length - r.length) = r := by
  obtain ⟨p, hp⟩ := attrX_suffix h
  rw [← hp, List.length_append, Nat.add_sub_cancel, List.drop_left]
theorem attV_form (o : Option (AtX × List UInt8)) (n : Nat) : ∃ u v m, attV o n = .tuple #[.agg #[.string u, .string v], .int .i64 m] := by
  cases o with
  | none => exact ⟨_, _, _, rfl⟩
  | some x => exact ⟨_, _, _, rfl⟩
def DpRel (W : World) (acc : List AtX) (xn : List UInt8) (i : Value) (wr : World) : Prop := ∃ j : Nat, j ≤ acc.length ∧ i = .int .i64 j ∧ Below W.heap.size W wr ∧ Hid (∀ (t : Nat) z, t < j → acc[t]? = some z → z.n ≠ xn)
def TgRel (b : Nat) (W : World) (s n rest : List UInt8) (i : Value) (wr : World) : Prop := ∃ (k : Nat) (acc : List AtX) (ao : Option Addr) (cap : Nat), k ≤ s.length ∧ i = .int .i64 k ∧ acc.length ≤ k ∧ Hid (TgIs b W wr n acc ao cap) ∧ Hid (attrsX rest [] = attrsX (s.drop k) acc)
set_option maxHeartbeats 16000000 in
theorem tag_any (y : List UInt8) (hy : y.length ≤ 90000) (w : World) :
    Calls Tryz.prog 60 #[.string (mk (60 :: y))] w (TagPost w (tagO y)) := by
  have hms : (mk (60 :: y)).size = y.length + 1 := by rw [mk_size]; rfl
  have HN := hid (name_any y (by omega))
  obtain ⟨ht1, ht2⟩ := name_take y
  have hln := nameX_len y
  have x0 := fun wx => s_from (a := 60 :: y) (k := 1) (by simp) (q := 1) rfl wx
  rw [show (60 :: y).drop 1 = y from rfl] at x0
  have hT : tagO y = if (nameX y).1 = [] then none else (attrsX (nameX y).2 []).map fun x => (openT (nameX y).1 x.1 :: (if x.2.1 then [closeT (nameX y).1] else []), 1 + y.length - x.2.2.length) := by
    unfold tagO tagX
    split
    · rfl
    · cases attrsX (nameX y).2 [] <;> rfl
  rw [hT]
  generalize nameX y = nx at *
  obtain ⟨n, rest⟩ := nx
  simp only at HN ht1 ht2 hln ⊢
  have HO0 : Hid (n = [] → (if n = [] then none else (attrsX rest []).map fun x => (openT n x.1 :: (if x.2.1 then [closeT n] else []), 1 + y.length - x.2.2.length)) = none) := hid (fun h => if_pos h)
  have HO1 : Hid (¬ n = [] → (if n = [] then none else (attrsX rest []).map fun x => (openT n x.1 :: (if x.2.1 then [closeT n] else []), 1 + y.length - x.2.2.length)) = (attrsX rest []).map fun x => (openT n x.1 :: (if x.2.1 then [closeT n] else []), 1 + y.length - x.2.2.length)) := hid (fun h => if_neg h)
  generalize (if n = [] then none else (attrsX rest []).map fun x => (openT n x.1 :: (if x.2.1 then [closeT n] else []), 1 + y.length - x.2.2.length)) = O at *
  have hns : (mk n).size = n.length := mk_size n
  have hbW : Below w.heap.size w (w.alloc (.cells #[.int .i64 1, .string (mk n), .slice none 0 0, .string ⟨#[]⟩] 50)) := (Below.refl _ _).alloc (Nat.le_refl _) _
  have HI : Hid (TgIs w.heap.size (w.alloc (.cells #[.int .i64 1, .string (mk n), .slice none 0 0, .string ⟨#[]⟩] 50)) (w.alloc (.cells #[.int .i64 1, .string (mk n), .slice none 0 0, .string ⟨#[]⟩] 50)) n [] none 0) := hid ⟨Below.refl _ _, own.new w _ _, rOwn_nil _, fun g e => by simp [Value.ownBlock] at e⟩
  have hWs : w.heap.size < (w.alloc (.cells #[.int .i64 1, .string (mk n), .slice none 0 0, .string ⟨#[]⟩] 50)).heap.size := by simp
  have hrl : rest.length ≤ y.length := by omega
  have hsd : (60 :: y).drop (1 + n.length) = rest := by rw [Nat.add_comm, List.drop_succ_cons, ht2]
  have hsl : (60 :: y).length = y.length + 1 := rfl
  generalize hs : (60 :: y) = s at *
  clear hT hs ht1 ht2
  have HB := hid hbW
  clear hbW
  go_enter Tryz.func60, Tryz.ntmps60
  go_wp2_with (go_at_call 58; (with_reducible refine (HN.out _).mono ?_); rintro e w1 ⟨rfl, rfl⟩)
  generalize hW : w.alloc (.cells #[.int .i64 1, .string (mk n), .slice none 0 0, .string ⟨#[]⟩] 50) = W at *
  clear hW HN x0
  go_loopw [6] (TgRel w.heap.size W s n rest) (fun i _ => s.length - (intOf i).toNat)
  case atStart => exact ⟨1 + n.length, [], none, 0, by omega, by go_num, by simp, HI, hid (by rw [hsd])⟩
  case round =>
    obtain ⟨k, acc, ao, cap, hk, rfl, hacc, hI, hE⟩ := hrel
    clear HI
    have hbr := HB.out.trans hI.out.below
    by_cases hn : n = []
    · have HR := hid (HO0.out hn)
      have q1 := mkE_nil
      have q2 : ((mk ([] : List UInt8)).toList != (⟨#[]⟩ : ByteArray).toList) = false := by rw [Lib.toList_data, mk_data, toL_nil]; rfl
      subst hn
      clear hI hE
      go_wp2
      go_ret2
      exact ⟨hbr, .inl ⟨HR.out, rfl⟩⟩
    · obtain ⟨q1, q2, q3⟩ := mkE_cons hn
      have hq4 : ((mk n).toList != (⟨#[]⟩ : ByteArray).toList) = true := by simp only [bne, q1, Bool.not_false]
      have hO := HO1.out hn
      rw [hE.out] at hO
      have x1 := fun wx => s_from (a := s) (k := k) hk (q := (k : Int)) rfl wx
      have hdl : (s.drop k).length + k = s.length := by rw [List.length_drop]; omega
      have HB1 := hid (blanks_any (s.drop k) (by omega))
      have hbl := blkN_le (s.drop k)
      have hdr := drop_blk (s.drop k)
      rw [List.drop_drop] at hdr
      generalize hb1 : blkN (s.drop k) = b1 at *
      have x2 := fun wx => s_from (a := s) (k := k + b1) (by omega) (q := (k : Int) + (b1 : Int)) (by omega) wx
      rw [hdr] at x2
      have hd'l : ((s.drop k).dropWhile spcX).length + (k + b1) = s.length := by rw [← hdr, List.length_drop]; omega
      have H1 := hid (begs_any ((s.drop k).dropWhile spcX) ⟨#[47, 62]⟩)
      have H2 := hid (begs_any ((s.drop k).dropWhile spcX) ⟨#[62]⟩)
      rw [show (⟨#[47, 62]⟩ : ByteArray).data.toList = [47, 62] from rfl] at H1
      rw [show (⟨#[62]⟩ : ByteArray).data.toList = [62] from rfl] at H2
      have z0 := hI.out.box.cell 0
      have z1 := hI.out.box.cell 1
      have z2 := hI.out.box.cell 2
      have z3 := hI.out.box.cell 3
      simp only [List.getElem?_toArray, List.getElem?_cons_zero, List.getElem?_cons_succ] at z0 z1 z2 z3
      have hkl : k ≤ 90001 := by omega
      have hbl1 : k + b1 ≤ 90001 := by omega
      cases p1 : ([47, 62] : List UInt8).isPrefixOf ((s.drop k).dropWhile spcX) with
      | true =>
        rw [p1] at H1
        obtain ⟨r, hr⟩ : ∃ r, (s.drop k).dropWhile spcX = 47 :: 62 :: r := by
          obtain ⟨r, e⟩ := List.isPrefixOf_iff_prefix.1 p1
          exact ⟨r, e.symm⟩
        have HR : Hid (O = some ([openT n acc, closeT n], k + b1 + 2)) := hid (by
          rw [hO, attrs_self hr]
          rw [hr] at hd'l
          simp only [List.length_cons] at hd'l
          simp only [Option.map_some, if_true, Option.some.injEq, Prod.mk.injEq, true_and]
          omega)
        have HX := hid (tgIs_out2 (w := w) hI.out (Nat.le_refl _))
        clear hr p1 hO hE hdr hdl hd'l
        generalize (s.drop k).dropWhile spcX = d' at *
        go_wp2_with (first
          | (go_at_call 59; (with_reducible refine (HB1.out _).mono ?_); rintro e w1 ⟨rfl, rfl⟩)
          | (go_at_call 56; (with_reducible refine (H1.out _).mono ?_); rintro e w1 ⟨rfl, rfl⟩))
        go_ret2
        exact ⟨hbr.alloc hbr.size _, .inr ⟨_, k + b1 + 2, _, _, HR.out, by simp, HX.out⟩⟩
      | false =>
        rw [p1] at H1
        cases p2 : ([62] : List UInt8).isPrefixOf ((s.drop k).dropWhile spcX) with
        | true =>
          rw [p2] at H2
          obtain ⟨r, hr⟩ : ∃ r, (s.drop k).dropWhile spcX = 62 :: r := by
            obtain ⟨r, e⟩ := List.isPrefixOf_iff_prefix.1 p2
            exact ⟨r, e.symm⟩
          have HR : Hid (O = some ([openT n acc], k + b1 + 1)) := hid (by
            rw [hO, attrs_end hr]
            rw [hr] at hd'l
            simp only [List.length_cons] at hd'l
            simp only [Option.map_some, Bool.false_eq_true, if_false, Option.some.injEq, Prod.mk.injEq, true_and]
            omega)
          have HX := hid (tgIs_out1 (w := w) hI.out (Nat.le_refl _))
          clear hr p1 p2 hO hE hdr hdl hd'l
          generalize (s.drop k).dropWhile spcX = d' at *
          go_wp2_with (first
            | (go_at_call 59; (with_reducible refine (HB1.out _).mono ?_); rintro e w1 ⟨rfl, rfl⟩)
            | (go_at_call 56; first
              | ((with_reducible refine (H1.out _).mono ?_); rintro e w1 ⟨rfl, rfl⟩)
              | ((with_reducible refine (H2.out _).mono ?_); rintro e w1 ⟨rfl, rfl⟩)))
          go_ret2
          exact ⟨hbr.alloc hbr.size _, .inr ⟨_, k + b1 + 1, _, _, HR.out, by simp, HX.out⟩⟩
        | false =>
          rw [p2] at H2
          rw [attrs_att p1 p2] at hO
          have hA0 := attr_any ((s.drop k).dropWhile spcX) (by omega)
          by_cases hb0 : b1 = 0
          · subst hb0
            have e0 : (s.drop k).dropWhile spcX = s.drop k := by rw [← hdr]; rfl
            have HR : Hid (O = none) := hid (by
              rw [hO, e0]
              cases attrX (s.drop k) with
              | none => rfl
              | some x => simp only [Option.bind_some]; rw [if_neg (by omega)]; rfl)
            rw [e0] at H1 H2 hA0
            obtain ⟨u, v, m, hf⟩ := attV_form (attrX (s.drop k)) (s.drop k).length
            rw [hf] at hA0
            have HA := hid (fun wx => hA0 wx)
            clear p1 p2 hO hE hdr hdl hd'l hA0 x2 e0 hf hb1
            go_wp2_with (first
            | (go_at_call 59; (with_reducible refine (HB1.out _).mono ?_); rintro e w1 ⟨rfl, rfl⟩)
            | (go_at_call 56; first
              | ((with_reducible refine (H1.out _).mono ?_); rintro e w1 ⟨rfl, rfl⟩)
              | ((with_reducible refine (H2.out _).mono ?_); rintro e w1 ⟨rfl, rfl⟩))
            | (go_at_call 91; (with_reducible refine (HA.out _).mono ?_); rintro e w2 ⟨rfl, hb2⟩))
            go_ret2
            have hbb := hbr.trans (hb2.mono hbr.size)
            exact ⟨hbb.alloc hbb.size _, .inl ⟨HR.out, rfl⟩⟩
          · have hb0' : ((b1 : Int) == 0) = false := by simpa using hb0
            cases hx : attrX ((s.drop k).dropWhile spcX) with
            | none =>
              rw [hx] at hO hA0
              have HA := hid (fun wx => hA0 wx)
              unfold attV at HA
              simp only at HA
              have HR : Hid (O = none) := hid hO
              clear p1 p2 hO hE hdr hdl hd'l hA0 hx
              generalize (s.drop k).dropWhile spcX = d' at *
              go_wp2_with (first
            | (go_at_call 59; (with_reducible refine (HB1.out _).mono ?_); rintro e w1 ⟨rfl, rfl⟩)
            | (go_at_call 56; first
              | ((with_reducible refine (H1.out _).mono ?_); rintro e w1 ⟨rfl, rfl⟩)
              | ((with_reducible refine (H2.out _).mono ?_); rintro e w1 ⟨rfl, rfl⟩))
            | (go_at_call 91; (with_reducible refine (HA.out _).mono ?_); rintro e w2 ⟨rfl, hb2⟩))
              go_ret2
              have hbb := hbr.trans (hb2.mono hbr.size)
              exact ⟨hbb.alloc hbb.size _, .inl ⟨HR.out, rfl⟩⟩
            | some y' =>
              obtain ⟨x, r⟩ := y'
              rw [hx] at hO hA0
              have hxl := attrX_lt hx
              have hxd := attrX_drop hx
              obtain ⟨m, hm⟩ : ∃ m, m = ((s.drop k).dropWhile spcX).length - r.length := ⟨_, rfl⟩
              have hm0 : ((m : Int) == 0) = false := by
                have : ¬ m = 0 := by omega
                simpa using this
              rw [← hm] at hxd
              rw [← hdr, List.drop_drop] at hxd
              simp only [Option.bind_some] at hO
              have HA := hid (fun wx => hA0 wx)
              unfold attV at HA
              simp only at HA
              rw [← hm] at HA
              have hsm : k + b1 + m ≤ s.length := by omega
              have hm1 : 1 ≤ m := by omega
              have HO2 : Hid (hasX acc x.n = true → O = none) := hid (fun h => by rw [hO, if_neg (fun k => by rw [h] at k; cases k.2)]; rfl)
              have HO3 : Hid (hasX acc x.n = false → attrsX rest [] = attrsX (s.drop (k + b1 + m)) (acc ++ [x])) := hid (fun h => by
                rw [hE.out, attrs_att p1 p2, hx]
                simp only [Option.bind_some]
                rw [if_pos ⟨by omega, h⟩, hxd])
              have hgoal : Hid (∀ (a2 : Option Addr) (c2 : Nat) w6, TgIs w.heap.size W w6 n (acc ++ [x]) a2 c2 → attrsX rest [] = attrsX (s.drop (k + b1 + m)) (acc ++ [x]) → ∀ i, i = .int .i64 ((k + b1 + m : Nat) : Int) → TgRel w.heap.size W s n rest i w6) := hid (fun a2 c2 w6 h1 h2 i hi => ⟨k + b1 + m, acc ++ [x], a2, c2, hsm, hi, by rw [List.length_append]; simp; omega, hid h1, hid h2⟩)
              have hbm : k + b1 + m ≤ 90001 := by omega
              clear p1 p2 hO hE hdr hdl hd'l hA0 hx hxl hxd hm
              generalize (s.drop k).dropWhile spcX = d' at *
              have HI2 := hid (fun w2 (hb2 : Below wr.heap.size wr w2) => tgIs_later hI.out hb2)
              clear hI
              go_wp2_with (first
            | (go_at_call 59; (with_reducible refine (HB1.out _).mono ?_); rintro e w1 ⟨rfl, rfl⟩)
            | (go_at_call 56; first
              | ((with_reducible refine (H1.out _).mono ?_); rintro e w1 ⟨rfl, rfl⟩)
              | ((with_reducible refine (H2.out _).mono ?_); rintro e w1 ⟨rfl, rfl⟩))
            | (go_at_call 91; (with_reducible refine (HA.out _).mono ?_); rintro e w2 ⟨rfl, hb2⟩))
              have hbx : Below w2.heap.size w2 (w2.alloc (.cells #[.string (mk x.n), .string (mk x.v)] 45)) := (Below.refl _ _).alloc (Nat.le_refl _) _
              have hI3 := tgIs_later (HI2.out w2 hb2) hbx
              have hoa : own (w2.alloc (.cells #[.string (mk x.n), .string (mk x.v)] 45)) w2.heap.size #[.string (mk x.n), .string (mk x.v)] 45 := own.new w2 _ _
              have hb3 := hbr.trans ((hb2.trans (hbx.mono hb2.size)).mono hbr.size)
              clear z0 z1 z2 z3 hbx
              generalize hW2 : w2.alloc (.cells #[.string (mk x.n), .string (mk x.v)] 45) = W2 at *
              clear hW2
              have HI3 := hid hI3
              have HOA := hid hoa
              clear hI3 hoa
              go_loopw [11] (DpRel W2 acc x.n) (fun i _ => acc.length - (intOf i).toNat)
              case atStart => exact ⟨0, Nat.zero_le _, rfl, Below.refl _ _, hid (fun t z h => by omega)⟩
              case round =>
                obtain ⟨j, hj, rfl, hbj, hD⟩ := hrel
                have hIw := tgIs_later HI3.out hbj
                have hbw := hb3.trans (hbj.mono hb3.size)
                have z2 := hIw.box.cell 2
                simp only [List.getElem?_toArray, List.getElem?_cons_zero, List.getElem?_cons_succ] at z2
                have hoa := HOA.out.same (hbj.block _ HOA.out.lt)
                have w0 := hoa.cell 0
                have w1 := hoa.cell 1
                simp only [List.getElem?_toArray, List.getElem?_cons_zero, List.getElem?_cons_succ] at w0 w1
                by_cases hjl : j < acc.length
                · have hjI : (j : Int) < (acc.length : Int) := by omega
                  have hz : acc[j]? = some acc[j] := by simp [hjl]
                  generalize acc[j] = z at hz
                  obtain ⟨_, _, e1, g1⟩ := ras_at hIw.row.rAt
                  cases e1
                  obtain ⟨sb, so, rfl, f1⟩ := g1 j z hz
                  obtain ⟨v0, v1⟩ := f1 _ (Below.refl _ _)
                  have HB9 := hid (fun nq => below_drew hbj nq)
                  have HBW := hid (fun nq => below_drew hbw nq)
                  have hq5 := mk_eqb z.n x.n
                  by_cases he : z.n = x.n
                  · have HR := hid (HO2.out (hasX_at hz he))
                    have q5 : ((mk z.n).toList == (mk x.n).toList) = true := by rw [hq5, he]; simp
                    clear hD hIw hbw hoa hz f1 g1 he hq5 hbj
                    go_wp2
                    go_quiet (fail)
                    all_goals
                      go_wp2
                      go_ret2
                      exact ⟨HBW.out _, .inl ⟨HR.out, rfl⟩⟩
                  · have q5 : ((mk z.n).toList == (mk x.n).toList) = false := by rw [hq5]; exact beq_eq_false_iff_ne.2 he
                    have HD2 : Hid (∀ (t : Nat) y, t < j + 1 → acc[t]? = some y → y.n ≠ x.n) := hid (fun t y ht hy => by
                      rcases Nat.lt_or_ge t j with h | h
                      · exact hD.out t y h hy
                      · obtain rfl : t = j := by omega
                        rw [hz] at hy; cases hy; exact he)
                    clear hD hIw hbw hoa hz f1 g1 he hq5 hbj
                    go_wp2
                    go_quiet (fail)
                    all_goals
                      go_wp2
                      go_roundw
                      case rel => exact ⟨j + 1, by omega, by go_num, HB9.out _, HD2⟩
                      case measure => simp [intOf]; omega
                · obtain rfl : j = acc.length := by omega
                  have hjI : ¬ (((acc.length : Nat) : Int) < (acc.length : Int)) := by omega
                  have hno : hasX acc x.n = false := hasX_not (fun t z ht => hD.out t z (List.getElem?_eq_some_iff.1 ht).1 ht)
                  obtain ⟨a2, c2, w6, hrun, o6, hp⟩ := tgIs_push hIw hWs x (by omega) 34
                  have HG := hid (hgoal.out a2 c2 _ hp (HO3.out hno))
                  have d2 : w6.cell? ⟨w.heap.size, 2, none⟩ = some (.slice ao acc.length cap) := by rw [o6.cell]; rfl
                  have f2 : w6.frozen? ⟨w.heap.size, 2, none⟩ = false := o6.frozen 2
                  clear hD hIw hbw hoa hbj hno hp o6
                  go_wp2_with (at_builtin; refine wpList_append_at hrun rfl rfl _ _ rfl rfl rfl rfl ?_)
                  go_roundw
                  case rel => exact HG.out _ (by go_num)
                  case measure => simp [intOf]; omega
end Go.Proofs.YtjoeamlidmmioaaGreatDoor

