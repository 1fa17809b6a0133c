import Derived.Test.YtjoeamlidmmioaaGreatDoorXmR6J
import Derived.Laws.ResultCell
/-
  LAYER 11 (xml), THE DOCUMENT's: an attribute.
-/
namespace Go.Proofs.YtjoeamlidmmioaaGreatDoor
open Go.RowKit
set_option linter.unusedVariables false
set_option maxRecDepth 100000

def attV (o : Option (AtX × List UInt8)) (n : Nat) : Value := match o with | some x => .tuple #[.agg #[.string (mk x.1.n), .string (mk x.1.v)], .int .i64 ((n - x.2.length : Nat) : Int)] | none => .tuple #[.agg #[.string ⟨#[]⟩, .string ⟨#[]⟩], .int .i64 0]
theorem upTo_mem {c : UInt8} : ∀ {l : List UInt8}, c ∈ l → ∃ x, upTo [c] l = some x
  | d :: r, h => by
    by_cases e : d = c
    · subst e; exact ⟨([], r), by rw [upTo]; simp⟩
    · have h2 : c ∈ r := by
        rcases List.mem_cons.1 h with k | k
        · exact absurd k.symm e
        · exact k
      obtain ⟨x, hx⟩ := upTo_mem h2
      refine ⟨(d :: x.1, x.2), ?_⟩
      rw [upTo, if_neg (by simp [List.isPrefixOf]; exact fun k => e k.symm), hx]
      rfl
theorem upTo_free {c : UInt8} : ∀ {l : List UInt8}, c ∉ l → upTo [c] l = none
  | [], _ => rfl
  | d :: r, h => by
    have h1 : ¬ c = d := fun k => h (by rw [k]; exact List.mem_cons_self ..)
    have h2 : c ∉ r := fun k => h (List.mem_cons_of_mem d k)
    rw [upTo, if_neg (by simp [List.isPrefixOf]; exact h1), upTo_free h2]
    rfl
/-- The box of the result, zeroed, then stored. -/
theorem box2 {w : World} {T : TypeId} {u0 v0 u v : Value} {wr : World} (hb : Below (w.alloc (.cells #[u0, v0] T)).heap.size (w.alloc (.cells #[u0, v0] T)) wr) :
    own ((wr.setCell ⟨w.heap.size, 0, none⟩ u).setCell ⟨w.heap.size, 1, none⟩ v) w.heap.size #[u, v] T ∧ Below w.heap.size w ((wr.setCell ⟨w.heap.size, 0, none⟩ u).setCell ⟨w.heap.size, 1, none⟩ v) ∧ own wr w.heap.size #[u0, v0] T := by
  have ho := own.new w #[u0, v0] T
  have h1 := ho.same (hb.block _ ho.lt)
  have hb0 : Below w.heap.size w (w.alloc (.cells #[u0, v0] T)) := (Below.refl _ _).alloc (Nat.le_refl _) _
  refine ⟨by simpa using (h1.set 0 u).set 1 v, ?_, h1⟩
  exact ((hb0.trans (hb.mono hb0.size)).setCell (Nat.le_refl _) _).setCell (Nat.le_refl _) _
def attG (n rest : List UInt8) : Option (AtX × List UInt8) :=
  if n = [] then none else
  match rest.dropWhile spcX with
  | 61 :: r2 => match r2.dropWhile spcX with
    | q :: r4 => if q = 34 ∨ q = 39 then (upTo [q] r4).bind fun x => if (60 : UInt8) ∈ x.1 then none else (saidX x.1).map fun v => (⟨n, v⟩, x.2) else none
    | [] => none
  | _ => none
theorem u8_nb {c : UInt8} {a : UInt8} {q : Int} (hq : q = (a.toNat : Nat)) (h : ¬ c = a) : ((c.toNat : Int) != q) = true := by
  have := u8_neq hq h
  simp only [bne, this, Bool.not_false]
theorem attrX_G (s : List UInt8) : attrX s = attG (nameX s).1 (nameX s).2 := rfl
theorem attG_1 {n rest : List UInt8} (h : rest.dropWhile spcX = [] ∨ ∃ c r, rest.dropWhile spcX = c :: r ∧ c ≠ 61) : attG n rest = none := by
  unfold attG
  split
  · rfl
  · rcases h with h | ⟨c, r, h, hc⟩
    · rw [h]
    · rw [h]
      split
      · rename_i k; exact absurd (List.cons.inj k).1 hc
      · rfl
theorem attG_2 {n rest r2 : List UInt8} (h1 : rest.dropWhile spcX = 61 :: r2) (h : r2.dropWhile spcX = [] ∨ ∃ q r, r2.dropWhile spcX = q :: r ∧ q ≠ 34 ∧ q ≠ 39) : attG n rest = none := by
  unfold attG
  split
  · rfl
  · rw [h1]
    simp only
    rcases h with h | ⟨q, r, h, h34, h39⟩
    · rw [h]
    · rw [h]
      simp only
      rw [if_neg (fun k => k.elim h34 h39)]
theorem attG_3 {n rest r2 r4 : List UInt8} {q : UInt8} (hn : n ≠ []) (h1 : rest.dropWhile spcX = 61 :: r2) (h2 : r2.dropWhile spcX = q :: r4) (hq : q = 34 ∨ q = 39) : attG n rest = (upTo [q] r4).bind fun x => if (60 : UInt8) ∈ x.1 then none else (saidX x.1).map fun v => (⟨n, v⟩, x.2) := by
  unfold attG
  rw [if_neg hn, h1]
  simp only
  rw [h2]
  simp only
  rw [if_pos hq]
set_option maxHeartbeats 16000000 in
theorem attr_any (a : List UInt8) (ha : a.length ≤ 200000) (w : World) :
    Calls Tryz.prog 91 #[.string (mk a)] w fun e w' => e = .returned (attV (attrX a) a.length) ∧ Below w.heap.size w w' := by
  have hms : (mk a).size = a.length := mk_size a
  have HN := hid (name_any a (by omega))
  obtain ⟨ht1, ht2⟩ := name_take a
  have hln := nameX_len a
  rw [attrX_G]
  generalize nameX a = nx at *
  obtain ⟨n, rest⟩ := nx
  simp only at HN ht1 ht2 hln ⊢
  have hns : (mk n).size = n.length := mk_size n
  have x1 := fun wx => s_from (a := a) (k := n.length) (by omega) (q := (n.length : Nat)) rfl wx
  rw [ht2] at x1
  have HB1 := hid (blanks_any rest (by omega))
  have hbl := blkN_le rest
  have hdr := drop_blk rest
  rw [← ht2, List.drop_drop, ht2] at hdr
  have HBX := hid (fun wr (hb : Below (w.alloc (.cells #[.string ⟨#[]⟩, .string ⟨#[]⟩] 45)).heap.size (w.alloc (.cells #[.string ⟨#[]⟩, .string ⟨#[]⟩] 45)) wr) (u v : Value) => box2 (u := u) (v := v) hb)
  have HBW := hid (HBX.out _ (Below.refl _ _) (.string ⟨#[]⟩) (.string ⟨#[]⟩))
  have HB0 : Hid (Below w.heap.size w (w.alloc (.cells #[.string ⟨#[]⟩, .string ⟨#[]⟩] 45))) := hid ((Below.refl _ _).alloc (Nat.le_refl _) _)
  by_cases hn : n = []
  · have HR : Hid (attV (attG n rest) a.length = .tuple #[.agg #[.string ⟨#[]⟩, .string ⟨#[]⟩], .int .i64 0]) := hid (by unfold attG; rw [if_pos hn]; rfl)
    have q1 := mkE_nil
    subst hn
    have x0 := fun wx => s_from (a := a) (k := 0) (by omega) (q := 0) rfl wx
    rw [List.drop_zero] at x0
    have hra : rest = a := by rw [← ht2]; rfl
    subst hra
    clear ht1 ht2 hln hdr x1 hns
    have hns : (mk ([] : List UInt8)).size = 0 := rfl
    go_enter Tryz.func91, Tryz.ntmps91
    go_wp2_with (first | (go_at_call 58; (with_reducible refine (HN.out _).mono ?_); rintro e w1 ⟨rfl, rfl⟩) | (go_at_call 59; first | ((with_reducible refine (HB1.out _).mono ?_); rintro e w1 ⟨rfl, rfl⟩)))
    (try simp only [Exit.inBlock, Exit.then])
    refine bodyPost_ret (v := .tuple #[.agg #[.string ⟨#[]⟩, .string ⟨#[]⟩], .int .i64 0]) ?_ rfl ⟨by rw [HR.out], by first | exact HB0.out | exact HBW.out.2.1⟩
    rw [results_cell_tmp rfl]
    go_simp
  · obtain ⟨-, q1, -⟩ := mkE_cons hn
    generalize hb1 : blkN rest = b1 at *
    cases hd1 : rest.dropWhile spcX with
    | nil =>
      have HR : Hid (attV (attG n rest) a.length = .tuple #[.agg #[.string ⟨#[]⟩, .string ⟨#[]⟩], .int .i64 0]) := hid (by rw [attG_1 (.inl hd1)]; rfl)
      rw [hd1] at hdr
      have hle := List.drop_eq_nil_iff.1 hdr
      have c1 : ((mk a).size : Int) ≤ (n.length : Int) + (b1 : Int) := by omega
      clear ht1 ht2 hdr hd1 hb1
      go_enter Tryz.func91, Tryz.ntmps91
      go_wp2_with (first | (go_at_call 58; (with_reducible refine (HN.out _).mono ?_); rintro e w1 ⟨rfl, rfl⟩) | (go_at_call 59; first | ((with_reducible refine (HB1.out _).mono ?_); rintro e w1 ⟨rfl, rfl⟩)))
      (try simp only [Exit.inBlock, Exit.then])
      refine bodyPost_ret (v := .tuple #[.agg #[.string ⟨#[]⟩, .string ⟨#[]⟩], .int .i64 0]) ?_ rfl ⟨by rw [HR.out], by first | exact HB0.out | exact HBW.out.2.1⟩
      rw [results_cell_tmp rfl]
      go_simp
    | cons c r2 =>
      rw [hd1] at hdr
      have hx1 : a[n.length + b1]? = some c := by
        have : (a.drop (n.length + b1))[0]? = some c := by rw [hdr]; rfl
        rw [List.getElem?_drop] at this
        simpa using this
      have hlt1 : n.length + b1 < a.length := (List.getElem?_eq_some_iff.1 hx1).1
      have c1 : ¬ ((mk a).size : Int) ≤ (n.length : Int) + (b1 : Int) := by omega
      have i1 := fun wx => ix_at hx1 (q := (n.length : Int) + (b1 : Int)) (by omega) wx
      by_cases hc : c = 61
      · subst hc
        have hdr2 : a.drop (n.length + b1 + 1) = r2 := by rw [← List.drop_drop, hdr]; rfl
        have hl2 : n.length + b1 + 1 + r2.length = a.length := by rw [← hdr2, List.length_drop]; omega
        have x2 := fun wx => s_from (a := a) (k := n.length + b1 + 1) (by omega) (q := (n.length : Int) + (b1 : Int) + 1) (by omega) wx
        rw [hdr2] at x2
        have HB2 := hid (blanks_any r2 (by omega))
        have hbl2 := blkN_le r2
        have hdrr := drop_blk r2
        rw [← hdr2, List.drop_drop, hdr2] at hdrr
        generalize hb2 : blkN r2 = b2 at *
        cases hd2 : r2.dropWhile spcX with
        | nil =>
          have HR : Hid (attV (attG n rest) a.length = .tuple #[.agg #[.string ⟨#[]⟩, .string ⟨#[]⟩], .int .i64 0]) := hid (by rw [attG_2 hd1 (.inl hd2)]; rfl)
          rw [hd2] at hdrr
          have hle := List.drop_eq_nil_iff.1 hdrr
          have c2 : ((mk a).size : Int) ≤ (n.length : Int) + (b1 : Int) + 1 + (b2 : Int) := by omega
          clear ht1 ht2 hdr hd1 hdr2 hd2 hdrr hx1 hb1 hb2
          go_enter Tryz.func91, Tryz.ntmps91
          go_wp2_with (first | (go_at_call 58; (with_reducible refine (HN.out _).mono ?_); rintro e w1 ⟨rfl, rfl⟩) | (go_at_call 59; first | ((with_reducible refine (HB1.out _).mono ?_); rintro e w1 ⟨rfl, rfl⟩) | ((with_reducible refine (HB2.out _).mono ?_); rintro e w1 ⟨rfl, rfl⟩)))
          (try simp only [Exit.inBlock, Exit.then])
          refine bodyPost_ret (v := .tuple #[.agg #[.string ⟨#[]⟩, .string ⟨#[]⟩], .int .i64 0]) ?_ rfl ⟨by rw [HR.out], by first | exact HB0.out | exact HBW.out.2.1⟩
          rw [results_cell_tmp rfl]
          go_simp
        | cons q r4 =>
          rw [hd2] at hdrr
          have hx2 : a[n.length + b1 + 1 + b2]? = some q := by
            have : (a.drop (n.length + b1 + 1 + b2))[0]? = some q := by rw [hdrr]; rfl
            rw [List.getElem?_drop] at this
            simpa using this
          have hlt2 : n.length + b1 + 1 + b2 < a.length := (List.getElem?_eq_some_iff.1 hx2).1
          have c2 : ¬ ((mk a).size : Int) ≤ (n.length : Int) + (b1 : Int) + 1 + (b2 : Int) := by omega
          have i2 := fun wx => ix_at hx2 (q := (n.length : Int) + (b1 : Int) + 1 + (b2 : Int)) (by omega) wx
          by_cases hq : q = 34 ∨ q = 39
          · obtain ⟨k, hk⟩ : ∃ k, k = n.length + b1 + 1 + b2 + 1 := ⟨_, rfl⟩
            have hdk : a.drop k = r4 := by rw [hk, ← List.drop_drop, hdrr]; rfl
            have hlk : k + r4.length = a.length := by rw [← hdk, List.length_drop]; omega
            have hkI : (n.length : Int) + (b1 : Int) + 1 + (b2 : Int) + 1 = (k : Int) := by omega
            have hk1 : 1 ≤ k := by omega
            have x3 := fun wx => s_mid (a := a) (i := n.length + b1 + 1 + b2) (j := k) (by omega) (by omega) (p := (n.length : Int) + (b1 : Int) + 1 + (b2 : Int)) (q := (k : Int)) (by omega) rfl wx
            have e3 : (a.drop (n.length + b1 + 1 + b2)).take (k - (n.length + b1 + 1 + b2)) = [q] := by
              rw [hdrr, show k - (n.length + b1 + 1 + b2) = 1 by omega]; rfl
            rw [e3] at x3
            have hF0 := fun wx => find_any a (by omega) k (by omega) (k : Int) rfl (mk [q]) (by rw [mk_size]; simp) (by rw [mk_size]; simp) wx
            rw [mk_data] at hF0
            have hG := attG_3 hn hd1 hd2 hq
            cases hu : upTo [q] r4 with
            | none =>
              have e4 : fndI [q] a k = -1 := by unfold fndI; rw [hdk, hu]
              rw [e4] at hF0
              have HF := hid hF0
              have HR : Hid (attV (attG n rest) a.length = .tuple #[.agg #[.string ⟨#[]⟩, .string ⟨#[]⟩], .int .i64 0]) := hid (by rw [hG, hu]; rfl)
              clear ht1 ht2 hdr hd1 hdr2 hd2 hdrr hx1 hx2 hb1 hb2 hdk e3 e4 hF0 hG hu hk
              rcases hq with rfl | rfl
              all_goals
                go_enter Tryz.func91, Tryz.ntmps91
                go_wp2_with (first | (go_at_call 58; (with_reducible refine (HN.out _).mono ?_); rintro e w1 ⟨rfl, rfl⟩) | (go_at_call 59; first | ((with_reducible refine (HB1.out _).mono ?_); rintro e w1 ⟨rfl, rfl⟩) | ((with_reducible refine (HB2.out _).mono ?_); rintro e w1 ⟨rfl, rfl⟩)) | (go_at_call 33; first | ((with_reducible refine (HF.out _).mono ?_); rintro e w1 ⟨rfl, rfl⟩)))
                (try simp only [Exit.inBlock, Exit.then])
                refine bodyPost_ret (v := .tuple #[.agg #[.string ⟨#[]⟩, .string ⟨#[]⟩], .int .i64 0]) ?_ rfl ⟨by rw [HR.out], by first | exact HB0.out | exact HBW.out.2.1⟩
                rw [results_cell_tmp rfl]
                go_simp
            | some y =>
              obtain ⟨x, y⟩ := y
              have hr4 := (upTo_lt hu).2
              obtain ⟨E, hE⟩ : ∃ E, E = k + x.length := ⟨_, rfl⟩
              have e4 : fndI [q] a k = (E : Int) := by unfold fndI; rw [hdk, hu, hE]
              rw [e4] at hF0
              have HF := hid hF0
              have hEl : E + 1 + y.length = a.length := by
                have := congrArg List.length hr4
                simp only [List.length_append, List.length_cons, List.length_nil] at this
                omega
              have hEk : k ≤ E := by omega
              have x4 := fun wx => s_to (a := a) (k := E) (by omega) (q := (E : Int)) rfl wx
              have x5 := fun wx => s_mid (a := a) (i := k) (j := E) hEk (by omega) (p := (k : Int)) (q := (E : Int)) rfl rfl wx
              have e5 : (a.drop k).take (E - k) = x := by rw [hdk, hr4, show E - k = x.length by omega]; simp
              rw [e5] at x5
              have c4 : ¬ ((E : Int) < 0) := by omega
              have hG0 := fun wx => find_any (a.take E) (by rw [List.length_take]; omega) k (by rw [List.length_take]; omega) (k : Int) rfl ⟨#[60]⟩ (by decide) (by decide) wx
              have e6 : fndI [60] (a.take E) k = match upTo [60] x with | some z => ((k + z.1.length : Nat) : Int) | none => -1 := by
                unfold fndI
                rw [List.drop_take, e5]
                cases upTo [60] x <;> rfl
              have e60 : (⟨#[60]⟩ : ByteArray).data.toList = [60] := rfl
              rw [e60, e6] at hG0
              by_cases h60 : (60 : UInt8) ∈ x
              · obtain ⟨z, hz⟩ := upTo_mem h60
                rw [hz] at hG0
                simp only at hG0
                obtain ⟨m, hm⟩ : ∃ m, m = k + z.1.length := ⟨_, rfl⟩
                rw [← hm] at hG0
                have HG := hid hG0
                have c5 : (0 : Int) ≤ (m : Int) := by omega
                have HR : Hid (attV (attG n rest) a.length = .tuple #[.agg #[.string ⟨#[]⟩, .string ⟨#[]⟩], .int .i64 0]) := hid (by rw [hG, hu]; simp only [Option.bind_some]; rw [if_pos h60]; rfl)
                clear ht1 ht2 hdr hd1 hdr2 hd2 hdrr hx1 hx2 hb1 hb2 hdk e3 e4 e5 e6 hF0 hG hG0 hu hk hr4 hE hz hm h60
                rcases hq with rfl | rfl
                all_goals
                  go_enter Tryz.func91, Tryz.ntmps91
                  go_wp2_with (first | (go_at_call 58; (with_reducible refine (HN.out _).mono ?_); rintro e w1 ⟨rfl, rfl⟩) | (go_at_call 59; first | ((with_reducible refine (HB1.out _).mono ?_); rintro e w1 ⟨rfl, rfl⟩) | ((with_reducible refine (HB2.out _).mono ?_); rintro e w1 ⟨rfl, rfl⟩)) | (go_at_call 33; first | ((with_reducible refine (HF.out _).mono ?_); rintro e w1 ⟨rfl, rfl⟩) | ((with_reducible refine (HG.out _).mono ?_); rintro e w1 ⟨rfl, rfl⟩)))
                  (try simp only [Exit.inBlock, Exit.then])
                  refine bodyPost_ret (v := .tuple #[.agg #[.string ⟨#[]⟩, .string ⟨#[]⟩], .int .i64 0]) ?_ rfl ⟨by rw [HR.out], by first | exact HB0.out | exact HBW.out.2.1⟩
                  rw [results_cell_tmp rfl]
                  go_simp
              · rw [upTo_free h60] at hG0
                simp only at hG0
                have HG := hid hG0
                have hS0 := said_any x (by omega)
                have hsx := saidX_E x.length x (Nat.le_refl _)
                rw [hu] at hG
                simp only [Option.bind_some] at hG
                rw [if_neg h60, hsx] at hG
                cases hs : (saidE x).2 with
                | some bad =>
                  rw [hs] at hG
                  have e7 : saV (saidE x) x.length = .tuple #[.string ⟨#[]⟩, .int .i64 ((x.length - bad.length : Nat) : Int)] := by unfold saV; rw [hs]
                  rw [e7] at hS0
                  obtain ⟨m, hm⟩ : ∃ m, m = x.length - bad.length := ⟨_, rfl⟩
                  rw [← hm] at hS0
                  have HS := hid hS0
                  have c5 : (0 : Int) ≤ (m : Int) := by omega
                  have HR : Hid (attV (attG n rest) a.length = .tuple #[.agg #[.string ⟨#[]⟩, .string ⟨#[]⟩], .int .i64 0]) := hid (by rw [hG]; rfl)
                  clear ht1 ht2 hdr hd1 hdr2 hd2 hdrr hx1 hx2 hb1 hb2 hdk e3 e4 e5 e6 e7 hF0 hG hG0 hu hk hr4 hE hm h60 hS0 hs hsx
                  rcases hq with rfl | rfl
                  all_goals
                    go_enter Tryz.func91, Tryz.ntmps91
                    go_wp2_with (first | (go_at_call 58; (with_reducible refine (HN.out _).mono ?_); rintro e w1 ⟨rfl, rfl⟩) | (go_at_call 59; first | ((with_reducible refine (HB1.out _).mono ?_); rintro e w1 ⟨rfl, rfl⟩) | ((with_reducible refine (HB2.out _).mono ?_); rintro e w1 ⟨rfl, rfl⟩)) | (go_at_call 33; first | ((with_reducible refine (HF.out _).mono ?_); rintro e w1 ⟨rfl, rfl⟩) | ((with_reducible refine (HG.out _).mono ?_); rintro e w1 ⟨rfl, rfl⟩)) | (go_at_call 34; (with_reducible refine (HS.out _).mono ?_); rintro e w2 ⟨rfl, hb2⟩; obtain ⟨k1, k2, k3⟩ := HBX.out w2 hb2 (.string ⟨#[]⟩) (.string ⟨#[]⟩); (have z0 := k3.cell 0); (have z1 := k3.cell 1); (have y0 := k3.frozen 0); (have y1 := k3.frozen 1); (simp at z0 z1)))
                    (try simp only [Exit.inBlock, Exit.then])
                    refine bodyPost_ret (v := .tuple #[.agg #[.string ⟨#[]⟩, .string ⟨#[]⟩], .int .i64 0]) ?_ rfl ⟨by rw [HR.out], k2⟩
                    rw [results_cell_tmp rfl]
                    go_simp
                | none =>
                  rw [hs] at hG
                  have e7 : saV (saidE x) x.length = .tuple #[.string (mk (saidE x).1), .int .i64 (-1)] := by unfold saV; rw [hs]
                  rw [e7] at hS0
                  have HS := hid hS0
                  have hE2 : a.length - y.length = E + 1 := by omega
                  have HR : Hid (attV (attG n rest) a.length = .tuple #[.agg #[.string (mk n), .string (mk (saidE x).1)], .int .i64 ((E + 1 : Nat) : Int)]) := hid (by rw [hG]; simp only [Option.map_some, attV]; rw [hE2])
                  clear ht1 ht2 hdr hd1 hdr2 hd2 hdrr hx1 hx2 hb1 hb2 hdk e3 e4 e5 e6 e7 hF0 hG hG0 hu hk hr4 hE h60 hS0 hs hsx hE2
                  generalize (saidE x).1 = sv at *
                  rcases hq with rfl | rfl
                  all_goals
                    go_enter Tryz.func91, Tryz.ntmps91
                    go_wp2_with (first | (go_at_call 58; (with_reducible refine (HN.out _).mono ?_); rintro e w1 ⟨rfl, rfl⟩) | (go_at_call 59; first | ((with_reducible refine (HB1.out _).mono ?_); rintro e w1 ⟨rfl, rfl⟩) | ((with_reducible refine (HB2.out _).mono ?_); rintro e w1 ⟨rfl, rfl⟩)) | (go_at_call 33; first | ((with_reducible refine (HF.out _).mono ?_); rintro e w1 ⟨rfl, rfl⟩) | ((with_reducible refine (HG.out _).mono ?_); rintro e w1 ⟨rfl, rfl⟩)) | (go_at_call 34; (with_reducible refine (HS.out _).mono ?_); rintro e w2 ⟨rfl, hb2⟩; obtain ⟨k1, k2, k3⟩ := HBX.out w2 hb2 (.string ⟨#[]⟩) (.string ⟨#[]⟩); (have z0 := k3.cell 0); (have z1 := k3.cell 1); (have y0 := k3.frozen 0); (have y1 := k3.frozen 1); (simp at z0 z1)))
                    (try simp only [Exit.inBlock, Exit.then])
                    obtain ⟨k4, k5, -⟩ := HBX.out w2 hb2 (.string (mk n)) (.string (mk sv))
                    refine bodyPost_ret (v := .tuple #[.agg #[.string (mk n), .string (mk sv)], .int .i64 ((E + 1 : Nat) : Int)]) ?_ rfl ⟨by rw [HR.out], k5⟩
                    rw [results_cell_tmp rfl]
                    go_simp
          · have h34 : ¬ q = 34 := fun e => hq (.inl e)
            have h39 : ¬ q = 39 := fun e => hq (.inr e)
            have HR : Hid (attV (attG n rest) a.length = .tuple #[.agg #[.string ⟨#[]⟩, .string ⟨#[]⟩], .int .i64 0]) := hid (by rw [attG_2 hd1 (.inr ⟨q, r4, hd2, h34, h39⟩)]; rfl)
            have q2 := u8_neq (q := 34) rfl h34
            have q3 := u8_neq (q := 39) rfl h39
            have q2b := u8_nb (q := 34) rfl h34
            have q3b := u8_nb (q := 39) rfl h39
            clear ht1 ht2 hdr hd1 hdr2 hd2 hdrr hx1 hx2 hb1 hb2 hq h34 h39
            go_enter Tryz.func91, Tryz.ntmps91
            go_wp2_with (first | (go_at_call 58; (with_reducible refine (HN.out _).mono ?_); rintro e w1 ⟨rfl, rfl⟩) | (go_at_call 59; first | ((with_reducible refine (HB1.out _).mono ?_); rintro e w1 ⟨rfl, rfl⟩) | ((with_reducible refine (HB2.out _).mono ?_); rintro e w1 ⟨rfl, rfl⟩)))
            (try simp only [Exit.inBlock, Exit.then])
            refine bodyPost_ret (v := .tuple #[.agg #[.string ⟨#[]⟩, .string ⟨#[]⟩], .int .i64 0]) ?_ rfl ⟨by rw [HR.out], by first | exact HB0.out | exact HBW.out.2.1⟩
            rw [results_cell_tmp rfl]
            go_simp
      · have HR : Hid (attV (attG n rest) a.length = .tuple #[.agg #[.string ⟨#[]⟩, .string ⟨#[]⟩], .int .i64 0]) := hid (by rw [attG_1 (.inr ⟨c, r2, hd1, hc⟩)]; rfl)
        have q2 := u8_neq (q := 61) rfl hc
        have q2b := u8_nb (q := 61) rfl hc
        clear ht1 ht2 hdr hd1 hx1 hb1 hc
        go_enter Tryz.func91, Tryz.ntmps91
        go_wp2_with (first | (go_at_call 58; (with_reducible refine (HN.out _).mono ?_); rintro e w1 ⟨rfl, rfl⟩) | (go_at_call 59; first | ((with_reducible refine (HB1.out _).mono ?_); rintro e w1 ⟨rfl, rfl⟩)))
        (try simp only [Exit.inBlock, Exit.then])
        refine bodyPost_ret (v := .tuple #[.agg #[.string ⟨#[]⟩, .string ⟨#[]⟩], .int .i64 0]) ?_ rfl ⟨by rw [HR.out], by first | exact HB0.out | exact HBW.out.2.1⟩
        rw [results_cell_tmp rfl]
        go_simp
end Go.Proofs.YtjoeamlidmmioaaGreatDoor

