import Derived.Test.YtpcafkinpkepcaaGreatDoorWq15
import Derived.Test.YtpcafkinpkepcaaGreatDoorWq12
import Derived.Lib.BufferWrite
import Derived.Lib.UnsafeStr
/-
  Wq16: DkB, DkC, Clone, in one text.
-/
/-
  LAYER 2 (disk), the program's calls that read: Read, Size, List.
-/
namespace Go.Proofs.YtpcafkinpkepcaaGreatDoor
open Go.RowKit Go.Maps
set_option linter.unusedVariables false
set_option maxRecDepth 100000

/-- string(f.data). -/
theorem file_string {w : World} {x : Fl} (h : FileOk w x) : (convert 93 9 x.v).run Tryz.prog w = .ok (.string (mk x.data)) w := by
  by_cases h0 : x.data = []
  · obtain ⟨ao, cap, hv⟩ := h.slice
    rw [hv, h0]
    have := run_convert_bytes_arg (P := Tryz.prog) w 93 5 Tryz.underlying93 Tryz.underlying5 0 0 0 0 [] rfl (fun i hi => by omega) 9 Tryz.underlying9
    cases ao with
    | none => rfl
    | some q =>
      have hb : (∃ g, q = ⟨g, 0, none⟩) := by
        rcases h.row.2 with ⟨hv', _⟩ | ⟨g, cap', cur, hv', _⟩
        · rw [hv] at hv'; simp at hv'
        · rw [hv] at hv'; simp at hv'; exact ⟨g, hv'.1⟩
      obtain ⟨g, rfl⟩ := hb
      have := run_convert_bytes_arg (P := Tryz.prog) w 93 5 Tryz.underlying93 Tryz.underlying5 g 0 0 cap [] rfl (fun i hi => by omega) 9 Tryz.underlying9
      exact this
  · obtain ⟨g, cap, hv, _, _, _, _, hc, _⟩ := h.row.shape h0
    rw [hv]
    exact run_string rfl hc

section
variable {w w' : World} {S : Nat → Prop} {a mb : Nat} {F : List Fl} {s : Dk}

def ReadV (r : List UInt8 × Int) : Value := .tuple #[.string (mk r.1), .int .i64 r.2]
theorem read_any (h : DiskRep w S a mb F s) (n : ByteArray) (hn : n.size ≤ maxLen) : Calls Tryz.prog 69 #[.pointer (some ⟨a, 0, none⟩), .string n] w fun e w' =>
    e = .returned (ReadV (rd s n.data.toList)) ∧ w = w' := by
  have hfind := fun w h => find_any (w := w) (S := S) (a := a) (mb := mb) (F := F) (s := s) h n hn
  cases hd : s.dead with
  | true =>
    have hv : FindV s F n.data.toList = .tuple #[.pointer none, .int .i64 7] := by unfold FindV; rw [hd]; rfl
    have hr : ReadV (rd s n.data.toList) = .tuple #[.string ⟨#[]⟩, .int .i64 7] := by unfold rd; rw [hd]; rfl
    rw [hv] at hfind
    rw [hr]
    have H := hid h
    have HF := hid hfind
    clear hd hv hr hfind h
    go_enter Tryz.func69, Tryz.ntmps69
    go_wp2_with (go_at_call 131; (with_reducible refine (HF.out _ H.out).mono ?_); rintro e w1 ⟨rfl, rfl⟩)
    go_ret2
    exact ⟨rfl, rfl⟩
  | false =>
    have hfa := h.fnd n.data.toList
    cases hx : fndK Fl.key n.data.toList F with
    | none =>
      rw [hx] at hfa
      have hv : FindV s F n.data.toList = .tuple #[.pointer none, .int .i64 4] := by unfold FindV; rw [hd, hx]; rfl
      have hr : ReadV (rd s n.data.toList) = .tuple #[.string ⟨#[]⟩, .int .i64 4] := by unfold rd; rw [hd, hfa]; rfl
      rw [hv] at hfind
      rw [hr]
      have H := hid h
      have HF := hid hfind
      clear hd hv hr hfind h hx hfa
      go_enter Tryz.func69, Tryz.ntmps69
      go_wp2_with (go_at_call 131; (with_reducible refine (HF.out _ H.out).mono ?_); rintro e w1 ⟨rfl, rfl⟩)
      go_ret2
      exact ⟨rfl, rfl⟩
    | some x =>
      rw [hx] at hfa
      have hv : FindV s F n.data.toList = .tuple #[x.ptr, .int .i64 0] := by unfold FindV; rw [hd, hx]; rfl
      have hr : ReadV (rd s n.data.toList) = .tuple #[.string (mk x.data), .int .i64 0] := by unfold rd; rw [hd, hfa]; rfl
      rw [hv] at hfind
      rw [hr]
      have hf := h.files x (fndK_some hx).1
      have c0 := hf.blk.cell 0
      simp at c0
      have hs := file_string hf
      have H := hid h
      have HF := hid hfind
      clear hd hv hr hfind h hx hfa hf
      unfold Fl.ptr at *
      generalize mk x.data = z at *
      go_enter Tryz.func69, Tryz.ntmps69
      go_wp2_with (go_at_call 131; (with_reducible refine (HF.out _ H.out).mono ?_); rintro e w1 ⟨rfl, rfl⟩)
      go_ret2
      exact ⟨rfl, rfl⟩

/-! ### Size -/
/-- What the range has met: the files whose names are not left. -/
def met (left : Lit → Bool) (F : List Fl) : Nat := ((F.filter fun x => !left (.string x.name)).map fun x => x.data.length).sum
theorem met_all {left : Lit → Bool} (h : ∀ kl, left kl = false) (F : List Fl) : met left F = sz (F.map Fl.abs) := by
  unfold met sz
  rw [List.filter_eq_self.2 (fun x _ => by simp [h])]
  simp [List.map_map, Function.comp_def, Fl.abs]
theorem met_none (F : List Fl) : met (Maps.has (.map (entOf F))) F = 0 := by
  unfold met
  have : F.filter (fun x => !Maps.has (.map (entOf F)) (.string x.name)) = [] := by
    rw [List.filter_eq_nil_iff]
    intro x hx
    rw [has_ent]
    have : (fndK Fl.key x.name F).isSome = true := by
      unfold fndK
      rw [List.find?_isSome]
      exact ⟨x, hx, by simp⟩
    simp [this]
  rw [this]; rfl
theorem met_step {left : Lit → Bool} {x : Fl} : ∀ {F : List Fl}, RiseK Fl.key F → x ∈ F → left (.string x.name) = true → met (fun z => left z && !z.sameKey (.string x.name)) F = met left F + x.data.length
  | [], _, h, _ => by cases h
  | y :: r, hr, h, hl => by
    obtain ⟨h1, h2⟩ := List.pairwise_cons.1 hr
    have hcons : ∀ (lf : Lit → Bool), met lf (y :: r) = (if lf (.string y.name) = true then 0 else y.data.length) + met lf r := by
      intro lf
      unfold met
      by_cases hb : lf (.string y.name) = true
      · rw [List.filter_cons_of_neg (by simp [hb]), if_pos hb]; omega
      · rw [List.filter_cons_of_pos (by simpa using hb), if_neg hb]; simp
    rw [hcons, hcons]
    by_cases hxy : x = y
    · subst hxy
      have hrest : met (fun z => left z && !z.sameKey (.string x.name)) r = met left r := by
        unfold met
        congr 2
        apply List.filter_congr
        intro z hz
        have : z.name ≠ x.name := fun e => blt_ne (h1 z hz) e.symm
        simp [sameKey_string, this]
      rw [hrest, if_neg (by simp [sameKey_string]), if_pos hl]; omega
    · have hxr : x ∈ r := by
        rcases List.mem_cons.1 h with e | e
        · exact absurd e hxy
        · exact e
      have hne : y.name ≠ x.name := blt_ne (h1 x hxr)
      rw [met_step h2 hxr hl]
      have : (left (.string y.name) && !(Lit.string y.name).sameKey (.string x.name)) = left (.string y.name) := by simp [sameKey_string, hne]
      simp only [this]; omega
theorem met_le (left : Lit → Bool) (F : List Fl) : met left F ≤ sz (F.map Fl.abs) := by
  induction F with
  | nil => simp [met, sz]
  | cons y r ih =>
    unfold met sz at *
    by_cases hb : left (.string y.name) = true
    · rw [List.filter_cons_of_neg (by simp [hb])]; simp at ih ⊢; omega
    · rw [List.filter_cons_of_pos (by simpa using hb)]; simp [Fl.abs] at ih ⊢; omega

set_option maxHeartbeats 2000000 in
theorem size_any (h : DiskRep w S a mb F s) : Calls Tryz.prog 41 #[.pointer (some ⟨a, 0, none⟩)] w fun e w' => e = .returned (.int .i64 (sz s.L)) ∧ Below w.heap.size w w' := by
  obtain ⟨left, hw, _⟩ := h.head
  have c1 := hw.cell 1
  simp at c1
  have hown := h.map
  have hrise := h.rise
  have htot : sz s.L ≤ 10000000 := by have := h.ok.room; have := h.ok.most; omega
  have hfiles := hid h.files
  rw [h.abs] at htot ⊢
  have hlt : a < w.heap.size := hw.lt
  clear hw h
  go_enter Tryz.func41, Tryz.ntmps41
  go_wp2_with (first
    | (at_range; refine wpList_range_own _ rfl _ 103 rfl 9 119 keyedStr Tryz.underlying103 ptrElem mb F.length _ rfl hown ?_; intro w0 hrg0 hg0 hs0)
    | go_in)
  go_frame
  have hb0 : Below w.heap.size w w0 := ⟨hg0.os, hg0.tape, hg0.output, hg0.size, fun k hk => hg0.block k hk (by simp)⟩
  clear hg0
  go_loopw [3] (fun u wr => ∃ (left : Lit → Bool) (cnt : Nat), wr.ranges Tryz.prog 9 ptrElem mb w.heap.size F.length (.map (entOf F)) left cnt ∧ u = .int .i64 (met left F : Int) ∧ Below w.heap.size w wr)
    (fun _ wr => wr.rangeLeft mb w.heap.size)
  case atStart => exact ⟨_, _, hrg0, by rw [met_none]; rfl, hb0⟩
  case round =>
    obtain ⟨left, cnt, hrg, rfl, hbw⟩ := hrel
    go_wp2_with (first
      | (at_next; refine wpList_next_ranges (α := List UInt8) (β := Value) _ rfl _ rfl 9 keyedStr ptrElem encStr (fun v => v) (fun key kl hk => by obtain ⟨x, hx, _⟩ := Maps.keyOf_str Tryz.underlying9 hk; exact ⟨x, hx⟩) (fun v y _ => ⟨v, rfl⟩) mb w.heap.size F.length _ _ _ rfl hrg ?_ ?_)
      | go_in)
    · intro _ hl0
      go_wp2
      go_ret
      exact ⟨by rw [met_all hl0]; rfl, hbw⟩
    · intro n c kl y1 y2 w1 cnt1 hkey hlk hc hat hrg1 hlt1 hg1 hs1 hen
      obtain ⟨x0, hx0, hkl, _⟩ := Maps.keyOf_str Tryz.underlying9 hkey
      obtain rfl : n = x0 := encStr_inj hx0
      subst hkl
      have hxf : ∃ x ∈ F, x.name = n ∧ c = .pointer (some ⟨x.g, 0, none⟩) := by
        have e1 := hat .nil
        have e2 := hat (.lit (.int .i64 (-1)))
        rw [atKey_ent_any] at e1 e2
        cases hf : fndK Fl.key n F with
        | none => rw [hf] at e1 e2; rw [← e2] at e1; cases e1
        | some x =>
          rw [hf] at e1
          obtain ⟨hm, hk⟩ := fndK_some hf
          have : ptrElem c = some (.lit (.int .i64 (x.g : Int)), y2) := by rw [hc, show (DataW.lit (.int .i64 (x.g : Int)) : DataW Unit) = y1 from e1]
          exact ⟨x, hm, hk, ptrElem_inv this⟩
      obtain ⟨x, hxm, rfl, rfl⟩ := hxf
      have hf := hfiles.out x hxm
      have hbw1 : Below w.heap.size w w1 := hbw.trans ⟨hg1.os, hg1.tape, hg1.output, hg1.size, fun k hk => hg1.block k (by have := hbw.size; omega) (fun e => by cases e; omega)⟩
      have c0 := (hf.blk.same (hbw1.block x.g hf.blk.lt)).cell 0
      simp at c0
      obtain ⟨ao, cap, hv⟩ := hf.slice
      rw [hv] at c0
      have hm1 := met_step hrise hxm hlk
      have hm2 := met_le (fun z => left z && !z.sameKey (.string x.name)) F
      have hm3 : ((met left F : Nat) : Int) + (x.data.length : Int) ≤ 10000000 := by omega
      have hm4 : ((met left F : Nat) : Int) + (x.data.length : Int) = (met (fun z => left z && !z.sameKey (.string x.name)) F : Nat) := by omega
      have HM := hid hm4
      have Hrg := hid hrg.left_eq
      clear hm1 hm2 hm4 hv hf hat hc hkey hx0 hlk hg1 hs1
      go_wp2
      go_roundw
      case rel => exact ⟨_, cnt1, hrg1, by rw [← HM.out], hbw1⟩
      case measure => rw [hrg1.left_eq, Hrg.out]; exact hlt1
end

end Go.Proofs.YtpcafkinpkepcaaGreatDoor

/-
  LAYER 2 (disk): List, by the library's own slices.Sorted and maps.Keys.
-/
namespace Go.Proofs.YtpcafkinpkepcaaGreatDoor
open Go.RowKit Go.Maps Go.Sort Go.Shelf
set_option linter.unusedVariables false
set_option maxRecDepth 100000

theorem sortsA (m : Nat) : AnyZ.SortsIn Tryz.prog Tryz.sortedA_ren Fence.wide m :=
  ⟨fun blk off cap ss W hH hblk hsz => callsIn_wide.2 (AnyM.slices_Sort_string Tryz.sortA blk off cap ss W hH hblk hsz),
   fun p cap W => callsIn_wide.2 (AnyM.slices_Sort_string_none Tryz.sortA p cap W)⟩

theorem sorted_eq {l m : List (List UInt8)} (hp : l.Perm m) (hs : m.Pairwise (· < ·)) : l.mergeSort (fun x y => decide (x ≤ y)) = m := by
  rw [show l.mergeSort (fun x y => decide (x ≤ y)) = m.mergeSort (fun x y => decide (x ≤ y)) from mergeSort_of_perm hp]
  apply List.mergeSort_of_pairwise
  refine hs.imp fun {x y} h => ?_
  simp only [decide_eq_true_eq]
  exact List.not_lt.1 (blt_asymm h)

/-- The names as they lie in memory. -/
def NamesAt (w : World) (B : Nat) (v : Value) (l : List (List UInt8)) : Prop := w.ownsRow B 9 1 v l.length (l.map encStr)

set_option maxHeartbeats 1000000 in
theorem list_any {w : World} {S : Nat → Prop} {a mb : Nat} {F : List Fl} {s : Dk} (h : DiskRep w S a mb F s) : Calls Tryz.prog 64 #[.pointer (some ⟨a, 0, none⟩)] w fun e w' =>
    ∃ v, e = .returned v ∧ NamesAt w' w.heap.size v (s.L.map AF.name) ∧ Below w.heap.size w w' := by
  obtain ⟨left, hw, _⟩ := h.head
  have c1 := hw.cell 1
  simp at c1
  have hown := h.map
  have hmany : F.length ≤ 40 := by rw [h.len]; exact h.ok.many
  have hnames : s.L.map AF.name = F.map Fl.name := by rw [h.abs, List.map_map]; rfl
  have hsorted : (F.map Fl.name).Pairwise (· < ·) := List.pairwise_map.2 h.rise
  rw [hnames]
  have hsz : Maps.size (.map (entOf F)) = F.length := size_ent F
  have hks : strKeys (.map (entOf F)) = F.map Fl.name := strKeys_ent F
  clear h hw
  refine (callsIn_wide (n := 6)).1 ?_
  have hbl := hown.lt
  have hseq : SeqGives Fence.wide 2 Tryz.prog 170 #[.pointer (some ⟨w.heap.size, 0, none⟩)] encStr (fun ss => ss.Perm (strKeys (.map (entOf F)))) (Maps.size (.map (entOf F))) (w.alloc (.cells #[.map (some mb)] 103)) :=
    AnyZ.keys_gives (ρ := Tryz.keysA_ren) { Tryz.keysA with } Fence.wide _ trivial rfl (by omega) w.heap.size mb F.length _ _ (by simp) (by simp) (by
      obtain ⟨es, clock, hb, Ft, hs, hD⟩ := hown
      exact ⟨es, clock, (Below.heap_alloc _ _ mb hbl).trans hb, Ft, hs, hD⟩)
  have cK : ∀ mb W, CallsIn Fence.wide 5 Tryz.prog 126 #[.map mb] W fun e w' => e = .returned (.func (.func 170) #[] #[.pointer (some ⟨W.heap.size, 0, none⟩)]) ∧ w' = W.alloc (.cells #[.map mb] 103) := fun mb W => AnyZ.keys_in Tryz.keysA Fence.wide 5 trivial rfl mb W
  have cS := AnyZ.sorted_in Tryz.sortedA Fence.wide 5 trivial trivial trivial trivial rfl (by omega) (sortsA _) (enters_of Tryz.func169 (by kernel_rfl) rfl) 170 #[.pointer (some ⟨w.heap.size, 0, none⟩)] trivial (enters_of Tryz.func170 (by kernel_rfl) rfl) _ _ (by rw [hsz]; unfold maxLen; omega) (by rw [hsz]; omega) _ hseq
  change CallsIn _ _ Tryz.prog 125 _ _ _ at cS
  have hfK : Fence.wide.fn 126 := trivial
  have hfS : Fence.wide.fn 125 := trivial
  have hks' := hid hks
  have hsz' := hid hsz
  have hs' := hid hsorted
  clear hks hsz hsorted hseq hnames
  refine callsIn_of_wp Tryz.func64 rfl trivial ?_ rfl
  simp only [Tryz.ntmps64, List.size_toArray, List.length_cons, List.length_nil, Nat.reduceAdd, Nat.reduceSub, Array.replicate_succ, Array.replicate_zero, List.push_toArray, List.append_toArray, List.nil_append, List.cons_append]
  gi_wp2_with (first
    | (gi_at_call 126; refine (cK _ _).mono ?_; rintro e w' ⟨rfl, rfl⟩)
    | (gi_at_call 125; refine cS.mono ?_; rintro e w' ⟨v, ss, rfl, hS, hrow, hnil, hb⟩))
  go_ret
  refine ⟨v, rfl, ?_, ((Below.refl _ w).alloc (Nat.le_refl _) _).trans (hb.mono (by simp))⟩
  rw [hks'.out] at hS
  rw [sorted_eq hS hs'.out, hS.length_eq] at hrow
  unfold NamesAt
  exact ownsRow_base_a hrow (by simp)
end Go.Proofs.YtpcafkinpkepcaaGreatDoor

/-
  strings.Clone: the same text; only new memory.
-/
namespace Go.Proofs.YtpcafkinpkepcaaGreatDoor
open Go.RowKit
set_option linter.unusedVariables false
set_option maxRecDepth 100000

theorem setRow_size (w : World) (g : Nat) (cs : Array Value) : (w.setRow g cs).heap.size = w.heap.size := by simp [World.setRow]
theorem setRow_other (w : World) (g : Nat) (cs : Array Value) (b : Nat) (hb : b ≠ g) : (w.setRow g cs).heap[b]? = w.heap[b]? := by
  simp only [World.setRow, Array.getElem?_modify]
  rw [if_neg (fun e => hb e.symm)]
theorem setRow_same {w : World} {g : Nat} {cur : Array Value} {t : TypeId} {fz : Nat × Nat} (hg : w.heap[g]? = some (.cells cur t fz)) (cs : Array Value) : (w.setRow g cs).heap[g]? = some (.cells cs t fz) := by
  simp [World.setRow, Array.getElem?_modify, hg]

set_option maxHeartbeats 1000000 in
theorem litClone_any (s : ByteArray) (w : World) (hs : s.size ≤ 140737488355328) :
    Calls Tryz.prog 183 #[.string s] w fun e w' => e = .returned (.string s) ∧ Below w.heap.size w w' := by
  by_cases h0 : s.size = 0
  · have hs0 : s = ⟨#[]⟩ := by
      apply str_ext
      exact List.length_eq_zero_iff.1 (by rw [str_len]; exact h0)
    subst hs0
    go_enter Tryz.func183, Tryz.ntmps183
    go_wp2
    go_ret
    exact ⟨rfl, Below.refl _ _⟩
  · obtain ⟨w1, hmake, hby, hb1, hz1⟩ := make_bytes w w.heap.size s.size (Nat.le_refl _) hs
    have hrow := hby
    rcases hrow.2 with ⟨hv, _⟩ | ⟨g, cap, cur, hv, hBg, hg, hnc, hcm, hcs, htake⟩
    · simp at hv
    · have hg0 : g = w.heap.size := by
        simp only [Value.slice.injEq, Option.some.injEq, Addr.mk.injEq] at hv
        exact hv.1.1.symm
      have hcap : cap = s.size := by
        simp only [Value.slice.injEq] at hv
        have := hv.2.2
        simpa using this.symm
      subst hg0
      subst hcap
      have hcopy := Lib.run_copy_row_string (P := Tryz.prog) w1 93 9 3 5 w.heap.size 0 s.size s.size s cur 5 Tryz.underlying93 (by obtain ⟨i0, hi, hz, hsz, _⟩ := infoByte_parts; rw [hi]; simp [hsz]) hg (Nat.le_refl _) (by rw [hcs]; simp)
      have hnew : (cur.toList.take 0 ++ Lib.byteCells s.data.toList ++ cur.toList.drop (0 + s.size)).toArray = (Lib.byteCells s.data.toList).toArray := by
        have : cur.toList.length = s.size := by simpa using hcs
        rw [List.drop_of_length_le (by omega)]
        simp
      rw [hnew] at hcopy
      have hg2 := setRow_same hg (Lib.byteCells s.data.toList).toArray
      have hz2 := setRow_size w1 w.heap.size (Lib.byteCells s.data.toList).toArray
      have hb2 : Below w.heap.size w (w1.setRow w.heap.size (Lib.byteCells s.data.toList).toArray) := hb1.trans ⟨rfl, rfl, rfl, by rw [hz2]; exact Nat.le_refl _, fun k hk => setRow_other _ _ _ _ (by omega)⟩
      generalize w1.setRow w.heap.size (Lib.byteCells s.data.toList).toArray = w2 at *
      have hlen : (Lib.byteCells s.data.toList).length = s.size := by rw [Lib.byteCells_length, str_len]
      have hUS : (Builtin.unsafeString_ #[196, 3] 9 #[.pointer (some ⟨w.heap.size, 0, none⟩), .int .i64 s.size]).run Tryz.prog w2 = .ok (.string s) (w2.freeze ⟨w.heap.size, 0, none⟩ s.size) := by
        have := Lib.run_unsafeString_row (P := Tryz.prog) w2 196 3 9 5 Tryz.underlying196 cellsByte w.heap.size s.size (by simp [World.shape?, hg2, hlen]) s.data.toList (by intro e; apply h0; rw [← str_len, e]; rfl) (by rw [str_len]; exact Nat.le_refl _) (by rw [str_len]; omega) ?_
        · rw [str_len] at this; exact this
        · intro j x hx
          rw [show (⟨w.heap.size, 0, none⟩ : Addr).add j = ⟨w.heap.size, j, none⟩ by unfold Addr.add; split <;> simp_all, Lib.cell_of_heap hg2]
          simp [Lib.byteCells, hx]
      have hb3 := Lib.below_freeze hb2 (p := ⟨w.heap.size, 0, none⟩) (Nat.le_refl _) s.size
      have HB := hid hb3
      have hpos : 0 < s.size := by omega
      have hlt63 : s.size < 9223372036854775807 := by omega
      clear hb3 hb2 hb1 hz1 hz2 hg2 hg hby hrow hv hnew htake hcs hlen hcm hnc hBg h0
      go_enter Tryz.func183, Tryz.ntmps183
      go_wp2
      go_ret
      exact ⟨rfl, HB.out⟩
theorem clone_any (s : ByteArray) (w : World) (hs : s.size ≤ 140737488355328) :
    Calls Tryz.prog 132 #[.string s] w fun e w' => e = .returned (.string s) ∧ Below w.heap.size w w' := by
  go_enter Tryz.func132, Tryz.ntmps132
  go_wp2_with (go_at_call 183; (with_reducible refine (litClone_any s _ hs).mono ?_); rintro e w1 ⟨rfl, hb1⟩)
  go_ret
  exact ⟨rfl, hb1⟩
end Go.Proofs.YtpcafkinpkepcaaGreatDoor

