import Derived.Test.YtpcafkinpkepcaaGreatDoorWq21
/-
  Wq22: DkI, in one text.
-/
/-
  LAYER 2 (disk): Crash.
-/
namespace Go.Proofs.YtpcafkinpkepcaaGreatDoor
open Go.RowKit Go.Maps
set_option linter.unusedVariables false
set_option maxRecDepth 100000

theorem IntsAt.same {w w' : World} {B : Nat} {v : Value} {xs : List Int} (h : IntsAt w B v xs) (hs : ∀ b, b < B → w'.heap[b]? = w.heap[b]?) : IntsAt w' B v xs := by
  obtain ⟨a, cap, hv, hc⟩ := h
  refine ⟨a, cap, hv, fun hne => ?_⟩
  obtain ⟨sb, so, ha, hlt, hcell⟩ := hc hne
  exact ⟨sb, so, ha, hlt, fun j x hj => (World.cell?_of_block (w := w) (a := ⟨sb, so + j, none⟩) (hs sb hlt)).trans (hcell j x hj)⟩
/-- A slice of ints in blocks of T. -/
def IntsIn (w : World) (T : Nat → Prop) (v : Value) (xs : List Int) : Prop :=
  ∃ a cap, v = .slice a xs.length cap ∧ (xs ≠ [] → ∃ sb so, a = some ⟨sb, so, none⟩ ∧ T sb ∧ ∀ j x, xs[j]? = some x → w.cell? ⟨sb, so + j, none⟩ = some (.int .i64 x))
theorem IntsAt.isIn {w : World} {B : Nat} {v : Value} {xs : List Int} (h : IntsAt w B v xs) : IntsIn w (fun b => b < B) v xs := h
theorem IntsIn.same {w w' : World} {T : Nat → Prop} {v : Value} {xs : List Int} (h : IntsIn w T v xs) (hs : ∀ b, T b → w'.heap[b]? = w.heap[b]?) : IntsIn w' T v xs := by
  obtain ⟨a, cap, hv, hc⟩ := h
  refine ⟨a, cap, hv, fun hne => ?_⟩
  obtain ⟨sb, so, ha, hlt, hcell⟩ := hc hne
  exact ⟨sb, so, ha, hlt, fun j x hj => (World.cell?_of_block (w := w) (a := ⟨sb, so + j, none⟩) (hs sb hlt)).trans (hcell j x hj)⟩
theorem at_in (v : Value) (xs : List Int) (w : World) {T : Nat → Prop} (hv : IntsIn w T v xs) (hT : ∀ b, T b → b < w.heap.size) (hx : xs.length ≤ 1000) (k : Nat) (hk : k ≤ 1000) :
    Calls Tryz.prog 92 #[v, .int .i64 (k : Int)] w fun e w' => e = .returned (.int .i64 (xs.getD k 0)) ∧ w = w' := by
  refine at_any v xs w (B := w.heap.size) ?_ hx k hk
  obtain ⟨a, cap, hv, hc⟩ := hv
  refine ⟨a, cap, hv, fun hne => ?_⟩
  obtain ⟨sb, so, ha, hlt, hcell⟩ := hc hne
  exact ⟨sb, so, ha, hT sb hlt, hcell⟩
theorem names_cell {w : World} {B : Nat} {v : Value} {l : List (List UInt8)} (h : NamesAt w B v l) {j : Nat} (hj : j < l.length) : ∃ g cap, v = .slice (some ⟨g, 0, none⟩) l.length cap ∧ B ≤ g ∧ g < w.heap.size ∧ l.length ≤ cap ∧ w.cell? ⟨g, j, none⟩ = some (.string (mk l[j])) := by
  have hlt := World.ownsRow.lt h
  have hcs := fun g hg => World.ownsRow.cells h (g := g) hg
  rcases h.2 with ⟨_, hz⟩ | ⟨g, cap, cur, rfl, hB, hg, hnc, hcm, hcs', htake⟩
  · omega
  · refine ⟨g, cap, rfl, hB, (hlt g rfl).2, hnc, ?_⟩
    have := hcs g rfl j (.string (mk l[j])) (by simp [hj]; rfl)
    have hadd : (⟨g, 0, none⟩ : Addr).add j = ⟨g, j, none⟩ := by unfold Addr.add; split <;> simp_all
    rw [hadd] at this
    exact this
theorem names_slice {w : World} {B : Nat} {v : Value} {l : List (List UInt8)} (h : NamesAt w B v l) : ∃ ao cap, v = .slice ao l.length cap := by
  rcases h.2 with ⟨hv, hz⟩ | ⟨g, cap, cur, hv, _⟩
  · exact ⟨none, 0, by rw [hv, hz]⟩
  · exact ⟨_, _, hv⟩

section
variable {w w' : World} {S : Nat → Prop} {a mb : Nat} {F : List Fl} {s : Dk}
theorem look1_some (h : DiskRep w S a mb F s) {n : ByteArray} (hn : n.size ≤ maxLen) {x : Fl} (hx : fndK Fl.key n.data.toList F = some x) :
    (Instr.lookup 103 (.map (some mb)) (.string n) false).run Tryz.prog w = .ok (.pointer (some ⟨x.g, 0, none⟩)) w := by
  obtain ⟨v, ps, hrun, hv⟩ := h.map.lookup keyedStr Tryz.underlying103 (zeroPtr w) (zd := .nil) (zp := []) rfl (keyStr n hn)
  rw [atKey_ent, hx] at hv
  obtain rfl := ptrElem_inv hv
  exact hrun

theorem crL_nil (ks ns : List Int) : crL [] ks ns = [] := rfl
theorem crL_yes {f : AF} {r : List AF} {ks ns : List Int} {k : Nat} (h : f.synced < f.data.length) : crL (f :: r) (ks.drop k) (ns.drop k) = crF f (ks.getD k 0) (ns.getD k 0) :: crL r (ks.drop (k + 1)) (ns.drop (k + 1)) := by
  have e : ∀ l : List Int, (l.drop k).headD 0 = l.getD k 0 := fun l => by
    rw [List.headD_eq_head?_getD, List.head?_drop]; rfl
  have e2 : ∀ l : List Int, (l.drop k).tail = l.drop (k + 1) := fun l => List.tail_drop
  rw [crL, if_pos h, e, e, e2, e2]
theorem crL_no {f : AF} {r : List AF} {ks ns : List Int} (h : ¬ f.synced < f.data.length) : crL (f :: r) ks ns = f :: crL r ks ns := by
  rw [crL, if_neg h]
theorem updK_split {L A C : List AF} {f : AF} (e : L = A ++ f :: C) (hr : RiseK AF.key L) (H : AF → AF) : updK AF.key f.name H L = A ++ H f :: C := by
  subst e
  have hne : ∀ g ∈ A ++ C, AF.key g ≠ f.name := by
    intro g hg e
    have hp := hr
    unfold RiseK at hp
    rw [List.pairwise_append] at hp
    obtain ⟨_, h2, h3⟩ := hp
    rcases List.mem_append.1 hg with hg | hg
    · have := h3 g hg f (List.mem_cons_self ..)
      rw [e] at this
      exact blt_irrefl _ this
    · have := (List.pairwise_cons.1 h2).1 g hg
      rw [e] at this
      exact blt_irrefl _ this
  have key : ∀ l : List AF, (∀ g ∈ l, AF.key g ≠ f.name) → l.map (fun x => if AF.key x = f.name then H x else x) = l := by
    intro l hl
    conv => rhs; rw [← List.map_id l]
    apply List.map_congr_left
    intro g hg
    rw [if_neg (hl g hg)]; rfl
  unfold updK
  rw [List.map_append, List.map_cons, key _ (fun f hf => hne f (List.mem_append.2 (.inl hf))), key _ (fun f hf => hne f (List.mem_append.2 (.inr hf))), if_pos rfl]
theorem updK_set {L : List AF} (hr : RiseK AF.key L) {j : Nat} (hj : j < L.length) (H : AF → AF) : updK AF.key L[j].name H L = L.take j ++ H L[j] :: L.drop (j + 1) :=
  updK_split (by rw [← List.drop_eq_getElem_cons hj, List.take_append_drop]) hr H

theorem take_mid {α : Type} {A C : List α} {f : α} {j : Nat} (h : A.length = j) : (A ++ f :: C).take (j + 1) = A ++ [f] := by
  subst h
  rw [List.take_append, List.take_of_length_le (by omega), show A.length + 1 - A.length = 1 by omega]; rfl
theorem drop_mid {α : Type} {A C : List α} {f : α} {j : Nat} (h : A.length = j) : (A ++ f :: C).drop (j + 1) = C := by
  subst h
  simp
/-- A round of the loop: what it is at, and what comes of it. -/
structure RoundAt (w1 : World) (S : Nat → Prop) (a : Nat) (s : Dk) (ks ns : List Int) (j k : Nat) (L' : List AF) (wr : World) : Prop where
  is : DiskIs wr (grow S w1 wr) a { s with L := L' }
  chg : Chg S w1 wr
  eq : crL s.L ks ns = L'.take j ++ crL (L'.drop j) (ks.drop k) (ns.drop k)
  names : L'.map AF.name = s.L.map AF.name
  le : j ≤ s.L.length ∧ k ≤ j
theorem RoundAt.len {w1 wr : World} {ks ns : List Int} {j k : Nat} {L' : List AF} (h : RoundAt w1 S a s ks ns j k L' wr) : L'.length = s.L.length := by simpa using congrArg List.length h.names
theorem RoundAt.no {w1 wr wr' : World} {ks ns : List Int} {j k : Nat} {L' : List AF} (h : RoundAt w1 S a s ks ns j k L' wr) (hb : Below wr.heap.size wr wr') (hj : j < L'.length) (ht : ¬ L'[j].synced < L'[j].data.length) : RoundAt w1 S a s ks ns (j + 1) k L' wr' := by
  obtain ⟨mb, F, hD⟩ := h.is
  have hl := h.len
  have hc' := h.chg.trans (T := fun _ => False) (Chg.of_below hb) (fun _ e => e.elim)
  refine ⟨⟨mb, F, (hD.below hb).widen (fun b hb' => grow_grow h.chg.size hb.size b (.inl hb')) (fun b hb' => ?_)⟩, hc', ?_, h.names, by have := h.le; omega⟩
  · rcases hb' with hb' | hb'
    · have := hD.lt b (.inl hb'); have := hb.size; omega
    · exact hb'.2
  · rw [h.eq, List.drop_eq_getElem_cons hj, crL_no ht, show L'.take (j + 1) = L'.take j ++ [L'[j]] from List.take_succ_eq_append_getElem hj, List.append_assoc]; rfl
theorem RoundAt.yes {w1 wr wr' : World} {ks ns : List Int} {j k : Nat} {L' : List AF} (h : RoundAt w1 S a s ks ns j k L' wr) (hj : j < L'.length) (ht : L'[j].synced < L'[j].data.length) (hr : RiseK AF.key L')
    (hd : DiskIs wr' (grow S w1 wr') a { s with L := updK AF.key L'[j].name (fun f => crF f (ks.getD k 0) (ns.getD k 0)) L' }) (hc : Chg S w1 wr') :
    RoundAt w1 S a s ks ns (j + 1) (k + 1) (updK AF.key L'[j].name (fun f => crF f (ks.getD k 0) (ns.getD k 0)) L') wr' := by
  have hl := h.len
  have hlt : (L'.take j).length = j := by rw [List.length_take]; omega
  refine ⟨hd, hc, ?_, ?_, by have := h.le; omega⟩
  · rw [h.eq, List.drop_eq_getElem_cons hj, crL_yes ht, updK_set hr hj, take_mid hlt, drop_mid hlt]
    simp
  · rw [← h.names]
    unfold updK
    rw [List.map_map]
    apply List.map_congr_left
    intro f _
    simp only [Function.comp_apply]
    split <;> rfl

def LoopRel (w1 : World) (S : Nat → Prop) (a : Nat) (s : Dk) (ks ns : List Int) (u6 u13 : Value) (wr : World) : Prop :=
  ∃ (j k : Nat) (L' : List AF), u6 = .int .i64 k ∧ u13 = .int .i64 j ∧ RoundAt w1 S a s ks ns j k L' wr

set_option maxHeartbeats 4000000 in
theorem crash_in (h : DiskIs w S a s) {T : Nat → Prop} (hT : ∀ b, T b → b < w.heap.size ∧ ¬ S b) {kv nv : Value} {ks ns : List Int} (hkv : IntsIn w T kv ks) (hnv : IntsIn w T nv ns) (hkl : ks.length ≤ 1000) (hnl : ns.length ≤ 1000)
    (hk64 : ∀ n ∈ ks, -9223372036854775808 ≤ n ∧ n ≤ 9223372036854775807) :
    Calls Tryz.prog 37 #[.pointer (some ⟨a, 0, none⟩), kv, nv] w (CrashTail w S a (crash s ks ns)) := by
  obtain ⟨mb, F, h⟩ := h
  have HL := hid (list_any h)
  have hD := hid h
  have hlt := hid h.lt
  have hnm := hid h.ok.names
  have hmany := h.ok.many
  have HK := hid hkv
  have HN := hid hnv
  obtain ⟨ka, kc, rfl, _⟩ := hkv
  obtain ⟨na, nc, rfl, _⟩ := hnv
  clear h
  go_enter Tryz.func37, Tryz.ntmps37
  go_wp2_with (go_at_call 64; (with_reducible refine HL.out.mono ?_); rintro e w1 ⟨v, rfl, hv, hb1⟩; obtain ⟨ao, cap, rfl⟩ := names_slice hv; have HV := hid hv; clear hv)
  go_loopw [6, 13] (LoopRel w1 S a s ks ns) (fun _ i _ => s.L.length - (intOf i).toNat)
  case atStart =>
    exact ⟨0, 0, s.L, rfl, rfl, ⟨mb, F, (hD.out.below hb1).widen grow_mono (grow_lt (fun b hb => by have := hlt.out b hb; have := hb1.size; omega) (Nat.le_refl _))⟩, Chg.refl _ _, by simp, rfl, by omega⟩
  case round =>
    obtain ⟨j, k, L', rfl, rfl, hR⟩ := hrel
    have hlen := hR.len
    have hle := hR.le
    have hRR := hid hR
    obtain ⟨mb', F', hDr⟩ := hR.is
    have hRise : RiseK AF.key L' := hDr.ok.rise
    have hz1 := hR.chg.size
    have hbl1 : ∀ b, w.heap.size ≤ b → b < w1.heap.size → wr.heap[b]? = w1.heap[b]? := fun b h1 h2 => hR.chg.block b h2 (fun hS => by have := hlt.out b hS; omega)
    by_cases hj : j < L'.length
    · have hjn : j < (s.L.map AF.name).length := by simpa using (by omega : j < s.L.length)
      obtain ⟨g, cap', hve, hgB, hg1, hnc, hcell⟩ := names_cell HV.out hjn
      have hnames := hR.names
      have hnj : (s.L.map AF.name)[j] = L'[j].name := by
        have h1 : (L'.map AF.name)[j]'(by simpa using hj) = L'[j].name := by simp
        rw [← h1]
        congr 1
        exact hnames.symm
      rw [hnj] at hcell
      simp only [Value.slice.injEq] at hve
      obtain ⟨rfl, _, rfl⟩ := hve
      have hcw : wr.cell? ⟨g, j, none⟩ = some (.string (mk L'[j].name)) := (World.cell?_of_block (w := w1) (a := ⟨g, j, none⟩) (hbl1 g hgB hg1)).trans hcell
      -- the file
      have hfA : fndK AF.key L'[j].name L' = some L'[j] := fndK_of_mem hRise (List.getElem_mem hj)
      have hfx : ∃ x, fndK Fl.key L'[j].name F' = some x ∧ x.abs = L'[j] := by
        have := hDr.fnd L'[j].name
        rw [show fndK AF.key L'[j].name ({ s with L := L' } : Dk).L = some L'[j] from hfA] at this
        cases hq : fndK Fl.key L'[j].name F' with
        | none => rw [hq] at this; cases this
        | some x => rw [hq] at this; exact ⟨x, rfl, (Option.some.inj this).symm⟩
      obtain ⟨x, hx, hxa⟩ := hfx
      have hn24 : (mk L'[j].name).size ≤ maxLen := by
        have h1 := hDr.ok.names _ (List.getElem_mem hj)
        unfold isName at h1
        simp at h1
        rw [mk_size]; unfold maxLen; omega
      have hlk := look1_some hDr (n := mk L'[j].name) hn24 hx
      have hfl := file_len hDr hx
      have hTl := hasTail_any (hDr.files x (fndK_some hx).1) hfl.1 hfl.2
      have hsy : x.synced = L'[j].synced := by rw [← hxa]; rfl
      have hdl : x.data.length = L'[j].data.length := by rw [← hxa]; rfl
      obtain ⟨leftr, hwr, _⟩ := hDr.head
      have c1 := hwr.cell 1
      simp at c1
      have hj40 : j < s.L.length := by omega
      by_cases ht : L'[j].synced < L'[j].data.length
      · have hq : decide (x.synced < x.data.length) = true := by rw [hsy, hdl]; simpa using ht
        rw [hq] at hTl
        have HT := hid hTl
        have hsm : ∀ wx, Below wr.heap.size wr wx → ∀ b, T b → wx.heap[b]? = w.heap[b]? := fun wx hb b hTb => by
          have h1 := hT b hTb
          have h2 := hb1.block b h1.1
          have h3 := hR.chg.block b (by have := hb1.size; omega) h1.2
          rw [hb.block b (by have := hb1.size; omega), h3, h2]
        have hKI : ∀ wx, Below wr.heap.size wr wx → IntsIn wx T (.slice ka ks.length kc) ks := fun wx hb => HK.out.same (hsm wx hb)
        have hNI : ∀ wx, Below wr.heap.size wr wx → IntsIn wx T (.slice na ns.length nc) ns := fun wx hb => HN.out.same (hsm wx hb)
        have hTx : ∀ wx, Below wr.heap.size wr wx → ∀ b, T b → b < wx.heap.size := fun wx hb b hTb => by have := hT b hTb; have := hb1.size; have := hb.size; omega
        have HA1 := hid (fun wx hb => at_in _ ks wx (hKI wx hb) (hTx wx hb) hkl k (by omega))
        have HA2 := hid (fun wx hb => at_in _ ns wx (hNI wx hb) (hTx wx hb) hnl k (by omega))
        have hkr : -9223372036854775808 ≤ ks.getD k 0 ∧ ks.getD k 0 ≤ 9223372036854775807 := by
          by_cases hkk : k < ks.length
          · have : ks.getD k 0 ∈ ks := by rw [show ks.getD k 0 = ks[k] by simp [List.getD, hkk]]; exact List.getElem_mem hkk
            exact hk64 _ this
          · rw [show ks.getD k 0 = 0 by simp [List.getD, List.getElem?_eq_none (Nat.le_of_not_lt hkk)]]; omega
        have hCr : ∀ wx, Below wr.heap.size wr wx → Calls Tryz.prog 91 #[.pointer (some ⟨x.g, 0, none⟩), .int .i64 (ks.getD k 0), .int .i64 (ns.getD k 0)] wx
            (fun e w' => e = .returned (.tuple #[]) ∧ RoundAt w1 S a s ks ns (j + 1) (k + 1) (updK AF.key L'[j].name (fun f => crF f (ks.getD k 0) (ns.getD k 0)) L') w') := by
          intro wx hb
          have hDx := hDr.below hb
          have hcx : Chg S w1 wx := hR.chg.trans (T := fun _ => False) (Chg.of_below hb) (fun _ e => e.elim)
          have hcl : Calls Tryz.prog 91 #[.pointer (some ⟨x.g, 0, none⟩), .int .i64 (ks.getD k 0), .int .i64 (ns.getD k 0)] wx (CrashTail wx (grow S w1 wr) a { s with L := updK AF.key L'[j].name (fun f => crF f (ks.getD k 0) (ns.getD k 0)) L' }) := by
            by_cases hK0 : min (max (ks.getD k 0) 0) ((x.data.length : Int) - (x.synced : Int)) = 0
            · exact fileCrash_none hDx hx _ _ hK0 hkr
            · have hfl2 := hfl.2
              exact fileCrash_some hDx hx _ _ (((x.synced : Int) + min (max (ks.getD k 0) 0) ((x.data.length : Int) - (x.synced : Int)) - 1).toNat) _ rfl (by omega) (by omega) hkr
          refine hcl.mono ?_
          rintro e w' ⟨he, ⟨mb2, F2, hD2⟩, hc2⟩
          have hc3 : Chg S w1 w' := hcx.trans hc2 (fun b hb' => by rcases hb' with hb' | hb'; exact .inl hb'; exact .inr hb'.1)
          refine ⟨he, hR.yes hj ht hRise ⟨mb2, F2, hD2.widen (fun b hb' => ?_) (fun b hb' => ?_)⟩ hc3⟩
          · rcases hb' with (hb' | hb') | hb'
            · exact .inl hb'
            · exact .inr ⟨hb'.1, by have := hb.size; have := hc2.size; omega⟩
            · exact .inr ⟨by have := hcx.size; omega, hb'.2⟩
          · rcases hb' with hb' | hb'
            · have := hlt.out b hb'; have := hb1.size; have := hc3.size; omega
            · exact hb'.2
        have HC := hid hCr
        have hjI : (j : Int) < (s.L.length : Int) := by omega
        have hkI : (k : Int) ≤ (j : Int) := by omega
        have hj40' : (j : Int) < 40 := by omega
        generalize mk L'[j].name = nb at *
        clear hCr hKI hNI hTx hsm hTl hq hfA hwr hRise hR hDr hbl1 hnj hnames hcell hx hxa hsy hdl hfl hn24 hkr
        generalize ks.getD k 0 = kk at *
        generalize ns.getD k 0 = nn at *
        go_wp2_with (first
          | (go_at_call 90; (with_reducible refine HT.out.mono ?_); rintro e w2 ⟨rfl, hb2⟩)
          | (go_at_call 92; first
              | ((with_reducible refine (HA1.out _ hb2).mono ?_); rintro e w3 ⟨rfl, rfl⟩)
              | ((with_reducible refine (HA2.out _ hb2).mono ?_); rintro e w3 ⟨rfl, rfl⟩))
          | (go_at_call 91; (with_reducible refine (HC.out _ hb2).mono ?_); rintro e w4 ⟨rfl, hR4⟩))
        go_roundw
        case rel => exact ⟨j + 1, k + 1, _, by go_num, by go_num, hR4⟩
        case measure => simp [intOf]; omega
      · have hq : decide (x.synced < x.data.length) = false := by rw [hsy, hdl]; simpa using ht
        rw [hq] at hTl
        have HT := hid hTl
        have HRn := hid (fun wx hb => hR.no (wr' := wx) hb hj ht)
        have hjI : (j : Int) < (s.L.length : Int) := by omega
        have hj40' : (j : Int) < 40 := by omega
        generalize mk L'[j].name = nb at *
        clear hTl hq hfA hwr hRise hR hDr hbl1 hnj hnames hcell hx hxa hsy hdl hfl hn24 ht
        go_wp2_with (go_at_call 90; (with_reducible refine HT.out.mono ?_); rintro e w2 ⟨rfl, hb2⟩)
        go_roundw
        case rel => exact ⟨j + 1, k, _, rfl, by go_num, HRn.out _ hb2⟩
        case measure => simp [intOf]; omega
    · obtain rfl : j = s.L.length := by omega
      have heq := hR.eq
      rw [List.take_of_length_le (by omega), List.drop_of_length_le (by omega), crL_nil, List.append_nil] at heq
      subst heq
      obtain ⟨leftr, hwr, _⟩ := hDr.head
      have hw1 := hwr.set 2 (.bool false)
      have hw2 := hw1.set 3 (.int .i64 0)
      have hw3 := hw2.set 4 (.bool false)
      have d2 := hwr.cell 2
      have f2 := hwr.frozen 2
      have d3 := hw1.cell 3
      have f3 := hw1.frozen 3
      have d4 := hw2.cell 4
      have f4 := hw2.frozen 4
      simp at d2 d3 d4
      have hc : Chg (fun b => b = a) wr (((wr.setCell ⟨a, 2, none⟩ (.bool false)).setCell ⟨a, 3, none⟩ (.int .i64 0)).setCell ⟨a, 4, none⟩ (.bool false)) := ((Chg.setCell wr ⟨a, 2, none⟩ _).trans (Chg.setCell _ ⟨a, 3, none⟩ _) (fun b hb => .inl hb)).trans (Chg.setCell _ ⟨a, 4, none⟩ _) (fun b hb => .inl hb)
      have hDf := hDr.turn (fu := -1) (left := 0) (dd := false) (w' := ((wr.setCell ⟨a, 2, none⟩ (.bool false)).setCell ⟨a, 3, none⟩ (.int .i64 0)).setCell ⟨a, 4, none⟩ (.bool false)) (by simpa using hw3) (fun h0 => by omega) hc (by omega)
      have hcS : Chg S w1 (((wr.setCell ⟨a, 2, none⟩ (.bool false)).setCell ⟨a, 3, none⟩ (.int .i64 0)).setCell ⟨a, 4, none⟩ (.bool false)) := hR.chg.trans hc (fun b e => by rw [e]; exact .inl (hD.out.inA))
      have hcW : Chg S w (((wr.setCell ⟨a, 2, none⟩ (.bool false)).setCell ⟨a, 3, none⟩ (.int .i64 0)).setCell ⟨a, 4, none⟩ (.bool false)) := (Chg.of_below hb1).trans hcS (fun b hb => .inl hb)
      have HF := hid (show CrashTail w S a (crash s ks ns) (.returned (.tuple #[])) (((wr.setCell ⟨a, 2, none⟩ (.bool false)).setCell ⟨a, 3, none⟩ (.int .i64 0)).setCell ⟨a, 4, none⟩ (.bool false)) from
        ⟨rfl, ⟨mb', F', hDf.widen (fun b hb => by
          rcases hb with hb | hb
          · exact .inl hb
          · exact .inr ⟨by have := hb1.size; omega, by have := hc.size; omega⟩) (grow_lt hlt.out hcW.size)⟩, hcW⟩)
      clear hcW hcS hDf hc hw1 hw2 hw3 hwr hDr hR hbl1 hRise
      go_wp2
      go_end0
      exact HF.out
theorem crash_any (h : DiskIs w S a s) {B : Nat} (hB : B ≤ w.heap.size) (hSB : ∀ b, S b → B ≤ b) {kv nv : Value} {ks ns : List Int} (hkv : IntsAt w B kv ks) (hnv : IntsAt w B nv ns) (hkl : ks.length ≤ 1000) (hnl : ns.length ≤ 1000)
    (hk64 : ∀ n ∈ ks, -9223372036854775808 ≤ n ∧ n ≤ 9223372036854775807) :
    Calls Tryz.prog 37 #[.pointer (some ⟨a, 0, none⟩), kv, nv] w (CrashTail w S a (crash s ks ns)) :=
  crash_in h (T := fun b => b < B) (fun b hb => ⟨by omega, fun hS => by have := hSB b hS; omega⟩) hkv.isIn hnv.isIn hkl hnl hk64
end
end Go.Proofs.YtpcafkinpkepcaaGreatDoor

