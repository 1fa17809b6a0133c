import Derived.Test.YtpcafkinpkepcaaGreatDoorWq1
import Derived.Maps.RangeWalk
import Derived.Test.YtpcafkinpkepcaaGreatDoorWq0
import Derived.Test.YtpcafkinpkepcaaGreatDoorWq11
import Derived.WalkLawsBesides
import Derived.Lib.ItoaLen
/-
  Wq12: Chg, WlNum, in one text.
-/
/-
  SMALL LAWS THAT EVERY LAYER WITH OBJECTS USES: what a call may turn ('Chg S w w'': the blocks of S, and new ones); a block known whole ('own').
-/
namespace Go.Proofs.YtpcafkinpkepcaaGreatDoor
open Go.RowKit
set_option linter.unusedVariables false
set_option maxRecDepth 100000

/-- Of what was there, only blocks of S have turned. -/
structure Chg (S : Nat → Prop) (w w' : World) : Prop where
  os : w'.os = w.os
  tape : w'.tape = w.tape
  output : w'.output = w.output
  size : w.heap.size ≤ w'.heap.size
  block : ∀ b, b < w.heap.size → ¬ S b → w'.heap[b]? = w.heap[b]?
/-- S, and what has been laid since. -/
def grow (S : Nat → Prop) (w w' : World) : Nat → Prop := fun b => S b ∨ (w.heap.size ≤ b ∧ b < w'.heap.size)

theorem Chg.refl (S : Nat → Prop) (w : World) : Chg S w w := ⟨rfl, rfl, rfl, Nat.le_refl _, fun _ _ _ => rfl⟩
theorem Chg.trans {S T : Nat → Prop} {a b c : World} (h : Chg S a b) (k : Chg T b c) (hT : ∀ x, T x → S x ∨ a.heap.size ≤ x) : Chg S a c :=
  ⟨k.os.trans h.os, k.tape.trans h.tape, k.output.trans h.output, Nat.le_trans h.size k.size, fun x hx hs =>
    (k.block x (Nat.lt_of_lt_of_le hx h.size) (fun ht => by rcases hT x ht with h1 | h1; exact hs h1; omega)).trans (h.block x hx hs)⟩
theorem Chg.mono {S T : Nat → Prop} {w w' : World} (h : Chg S w w') (hs : ∀ x, S x → T x) : Chg T w w' := ⟨h.os, h.tape, h.output, h.size, fun b hb ht => h.block b hb (fun k => ht (hs b k))⟩
theorem Chg.of_below {S : Nat → Prop} {w w' : World} (h : Below w.heap.size w w') : Chg S w w' := ⟨h.os, h.tape, h.output, h.size, fun b hb _ => h.block b hb⟩
theorem Chg.below {S : Nat → Prop} {w w' : World} {B : Nat} (h : Chg S w w') (hB : B ≤ w.heap.size) (hS : ∀ b, S b → B ≤ b) : Below B w w' :=
  ⟨h.os, h.tape, h.output, h.size, fun b hb => h.block b (by omega) (fun k => by have := hS b k; omega)⟩
theorem Chg.of_grown {w w' : World} {row : Option Nat} (h : w.grownBy w' row) : Chg (fun b => row = some b) w w' := ⟨h.os, h.tape, h.output, h.size, fun b hb hn => h.block b hb (fun e => hn e.symm)⟩
theorem Chg.setCell (w : World) (p : Addr) (u : Value) : Chg (fun b => b = p.block) w (w.setCell p u) := ⟨rfl, rfl, rfl, by simp [World.setCell], fun b hb hn => Below.heap_setCell _ _ _ _ hn⟩
theorem Chg.alloc (S : Nat → Prop) (w : World) (o : Obj) : Chg S w (w.alloc o) := ⟨rfl, rfl, rfl, by simp, fun b hb _ => Below.heap_alloc _ _ _ hb⟩
theorem Chg.drewN {S : Nat → Prop} {a w : World} (h : Chg S a w) (n : Nat) : Chg S a (w.drewN n) := ⟨h.os, h.tape, h.output, h.size, h.block⟩
theorem setCell_size (w : World) (p : Addr) (u : Value) : (w.setCell p u).heap.size = w.heap.size := by simp [World.setCell]
theorem Chg.keep {S T : Nat → Prop} {w w' : World} (h : Chg S w w') (hT : ∀ b, T b → b < w.heap.size ∧ ¬ S b) : ∀ b, T b → w'.heap[b]? = w.heap[b]? := fun b hb => h.block b (hT b hb).1 (hT b hb).2
theorem grow_mono {S : Nat → Prop} {w w' : World} : ∀ b, S b → grow S w w' b := fun b h => .inl h
theorem grow_lt {S : Nat → Prop} {w w' : World} (hS : ∀ b, S b → b < w.heap.size) (hs : w.heap.size ≤ w'.heap.size) : ∀ b, grow S w w' b → b < w'.heap.size := fun b h => by
  rcases h with h | h
  · have := hS b h; omega
  · exact h.2
theorem grow_ge {S : Nat → Prop} {w w' : World} {B : Nat} (hS : ∀ b, S b → B ≤ b) (hB : B ≤ w.heap.size) : ∀ b, grow S w w' b → B ≤ b := fun b h => by
  rcases h with h | h
  · exact hS b h
  · omega

/-- A block of cells, known whole. -/
def own (w : World) (b : Nat) (cs : Array Value) (T : TypeId) : Prop := w.heap[b]? = some (.cells cs T (0, 0))
theorem own.cell {w : World} {b : Nat} {cs : Array Value} {T : TypeId} (h : own w b cs T) (k : Nat) : w.cell? ⟨b, k, none⟩ = cs[k]? := Lib.cell_of_heap h k
theorem own.frozen {w : World} {b : Nat} {cs : Array Value} {T : TypeId} (h : own w b cs T) (k : Nat) : w.frozen? ⟨b, k, none⟩ = false := Lib.frozen_of_heap h k
theorem own.lt {w : World} {b : Nat} {cs : Array Value} {T : TypeId} (h : own w b cs T) : b < w.heap.size := (Array.getElem?_eq_some_iff.1 h).1
theorem own.set {w : World} {b : Nat} {cs : Array Value} {T : TypeId} (h : own w b cs T) (k : Nat) (v : Value) : own (w.setCell ⟨b, k, none⟩ v) b (cs.setIfInBounds k v) T := by
  unfold own at *
  simp [World.setCell, Array.getElem?_modify, h]
theorem own.other {w : World} {b : Nat} {cs : Array Value} {T : TypeId} (h : own w b cs T) {p : Addr} (hp : b ≠ p.block) (v : Value) : own (w.setCell p v) b cs T := by
  unfold own at *
  rw [Below.heap_setCell _ _ _ _ hp]; exact h
theorem own.new (w : World) (cs : Array Value) (T : TypeId) : own (w.alloc (.cells cs T)) w.heap.size cs T := heap_alloc_new w _
theorem own.chg {w w' : World} {S : Nat → Prop} {b : Nat} {cs : Array Value} {T : TypeId} (h : own w b cs T) (hc : Chg S w w') (hb : ¬ S b) : own w' b cs T := by
  unfold own at *
  rw [hc.block b (Array.getElem?_eq_some_iff.1 h).1 hb]; exact h
theorem own.same {w w' : World} {b : Nat} {cs : Array Value} {T : TypeId} (h : own w b cs T) (hb : w'.heap[b]? = w.heap[b]?) : own w' b cs T := by
  unfold own at *
  rw [hb]; exact h

theorem ownsRow_same {w w' : World} {B : Nat} {e : TypeId} {size : Nat} {v : Value} {n : Nat} {xs : List Value} (h : w.ownsRow B e size v n xs) (hs : ∀ b, v.ownBlock = some b → w'.heap[b]? = w.heap[b]?) : w'.ownsRow B e size v n xs := by
  obtain ⟨h1, h2⟩ := h
  refine ⟨h1, ?_⟩
  rcases h2 with h2 | ⟨g, cap, cur, hv, hB, hg, h3⟩
  · exact .inl h2
  · exact .inr ⟨g, cap, cur, hv, hB, by rw [hs g (by rw [hv]; rfl)]; exact hg, h3⟩
theorem ownsMap_same {H : Type} {w w' : World} {P : Program} {k : TypeId} {R : Value → Option (DataW H × List MemPlace)} {b n : Nat} {D : DataW H} (h : w.ownsMap P k R b n D) (hs : w'.heap[b]? = w.heap[b]?) : w'.ownsMap P k R b n D := by
  obtain ⟨es, clock, hb, r⟩ := h
  exact ⟨es, clock, by rw [hs]; exact hb, r⟩
theorem ownsMap_tight {H : Type} {w : World} {P : Program} {k : TypeId} {R : Value → Option (DataW H × List MemPlace)} {b n : Nat} {D : DataW H} (h : w.ownsMap P k R b n D) : w.ownsMap P k R b (Maps.size D) D := by
  obtain ⟨es, clock, hb, F, _, rfl⟩ := h
  exact ⟨es, clock, hb, F, by simp [Maps.size, length_sorted], rfl⟩
theorem mapTurned_chg {w w' : World} {b : Nat} (h : w.mapTurned w' b) : Chg (fun x => x = b) w w' := (Chg.of_grown h.grown).mono (fun x e => by cases e; rfl)
theorem mapTurned_size {w w' : World} {b : Nat} (h : w.mapTurned w' b) : w'.heap.size = w.heap.size := by
  obtain ⟨es, clock, es', clock', hb, rfl⟩ := h
  simp [ChangeMaps.setBlock]

/-- One segment of a row of numbers exchanged for another. -/
theorem nodup_swap {A X Y B : List Nat} {N : Nat} (h : (A ++ (X ++ B)).Nodup) (hY : Y.Nodup) (hlt : ∀ b ∈ A ++ (X ++ B), b < N) (hsub : ∀ b ∈ Y, b ∈ X ∨ N ≤ b) : (A ++ (Y ++ B)).Nodup := by
  rw [List.nodup_append] at h ⊢
  obtain ⟨hA, hXB, hd⟩ := h
  rw [List.nodup_append] at hXB ⊢
  obtain ⟨hX, hB, hd2⟩ := hXB
  refine ⟨hA, ⟨hY, hB, fun b hb c hc e => ?_⟩, fun b hb c hc e => ?_⟩
  · subst e
    rcases hsub b hb with h1 | h1
    · exact hd2 b h1 b hc rfl
    · have := hlt b (by simp [hc]); omega
  · subst e
    rcases List.mem_append.1 hc with hc | hc
    · rcases hsub b hc with h1 | h1
      · exact hd b hb b (by simp [h1]) rfl
      · have := hlt b (by simp [hb]); omega
    · exact hd b hb b (by simp [hc]) rfl
end Go.Proofs.YtpcafkinpkepcaaGreatDoor

/-
  LAYER 3 (wal): names of segments.
-/
namespace Go.Proofs.YtpcafkinpkepcaaGreatDoor
open Go.RowKit
set_option linter.unusedVariables false
set_option maxRecDepth 100000

/-- The package-level variables that the layer's calls read; all lie below block B. -/
structure Glob (w : World) (B : Nat) : Prop where
  steps : Steps w
  hsteps : 0 < B
  pow : Lib.TabIs Tryz.prog w "internal/strconv.uint64pow10" .u64 Lib.pow10Tab
  hpow : 3 < B
  syn : ∃ ev, w.cell? ⟨1, 0, none⟩ = some ev ∧ (ev = .nilIface ∨ ∃ te pe, ev = .iface te pe)
  hsyn : 1 < B
  rng : ∃ ev, w.cell? ⟨2, 0, none⟩ = some ev ∧ (ev = .nilIface ∨ ∃ te pe, ev = .iface te pe)
  hrng : 2 < B
theorem gPow : Tryz.prog.globalNamed "internal/strconv.uint64pow10" = some 3 := by kernel_rfl
theorem Glob.same {w w' : World} {B : Nat} (h : Glob w B) (hs : ∀ b, b < B → w'.heap[b]? = w.heap[b]?) : Glob w' B := by
  obtain ⟨h1, h2, h3, h4, ⟨e1, h5, h6⟩, h7, ⟨e2, h8, h9⟩, h10⟩ := h
  refine ⟨fun i hi => (World.cell?_of_block (w := w) (a := ⟨0, i, none⟩) (hs _ h2)).trans (h1 i hi), h2, ?_, h4, ⟨e1, (World.cell?_of_block (w := w) (a := ⟨1, 0, none⟩) (hs _ h7)).trans h5, h6⟩, h7, ⟨e2, (World.cell?_of_block (w := w) (a := ⟨2, 0, none⟩) (hs _ h10)).trans h8, h9⟩, h10⟩
  unfold Lib.TabIs World.var? at *
  rw [gPow] at h3 ⊢
  simp only [Option.bind_some] at h3 ⊢
  rw [hs _ h4]; exact h3
theorem Glob.below {w w' : World} {B : Nat} (h : Glob w B) {B' : Nat} (hb : Below B' w w') (hB : B ≤ B') : Glob w' B := h.same fun b hlt => hb.block b (by omega)
theorem Glob.chg {w w' : World} {B : Nat} {S : Nat → Prop} (h : Glob w B) (hc : Chg S w w') (hB : B ≤ w.heap.size) (hS : ∀ b, S b → B ≤ b) : Glob w' B := h.same fun b hlt => hc.block b (by omega) (fun k => by have := hS b k; omega)

theorem below_ahead (w : World) (n : Nat) (os : Array Obj) : Below w.heap.size w (Sort.grow (w.drewN n) os) :=
  ⟨rfl, rfl, rfl, by show w.heap.size ≤ (w.heap ++ os).size; rw [Array.size_append]; omega, fun b hb => by show (w.heap ++ os)[b]? = _; exact Array.getElem?_append_left hb⟩
theorem itoa_any (n : Int) (w : World) {B : Nat} (hg : Glob w B) (h : I64 n) : Calls Tryz.prog 134 #[.int .i64 n] w fun e w' => e = .returned (.string (mk (Lib.itoa n))) ∧ Below w.heap.size w w' :=
  (Any.strconv_Itoa Tryz.itoaA n h.1 h.2 w hg.pow).mono fun e w' ⟨he, k, os, hw⟩ => ⟨he, by rw [hw]; exact below_ahead w k os⟩
/-- A segment's name. -/
def segN (n : Int) : List UInt8 := 119 :: Lib.itoa n
theorem segName_any (n : Int) (w : World) {B : Nat} (hg : Glob w B) (h : I64 n) : Calls Tryz.prog 79 #[.int .i64 n] w fun e w' => e = .returned (.string (mk (segN n))) ∧ Below w.heap.size w w' := by
  have HI := hid (itoa_any n w hg h)
  have he : (ByteArray.mk #[119]) ++ mk (Lib.itoa n) = mk (segN n) := mk_append [119] (Lib.itoa n)
  have hd : (mk (Lib.itoa n)).size ≤ 21 := by rw [mk_size]; exact Lib.itoa_length_le n h.1 h.2
  clear h hg
  generalize mk (segN n) = r at *
  generalize mk (Lib.itoa n) = d at *
  go_enter Tryz.func79, Tryz.ntmps79
  go_wp2_with (go_at_call 134; (with_reducible refine HI.out.mono ?_); rintro e w1 ⟨rfl, hb⟩)
  go_ret
  exact ⟨rfl, hb⟩

/-! ### strconv.Atoi -/
def atoiV (l : List UInt8) (v ev : Value) : Prop := match Lib.atoiAll l with
  | .ok n => v = .int .i64 n ∧ ev = .nilIface
  | _ => ∃ k te pe, v = .int .i64 k ∧ ev = .iface te pe
theorem atoi_any (s : ByteArray) (w : World) {B : Nat} (hg : Glob w B) (hB : B ≤ w.heap.size) (hs : s.size ≤ 1000) : Calls Tryz.prog 171 #[.string s] w fun e w' => ∃ v ev, e = .returned (.tuple #[v, ev]) ∧ atoiV s.data.toList v ev ∧ Below w.heap.size w w' := by
  cases h : Lib.atoiAll s.data.toList with
  | ok n =>
    refine (Any.strconv_Atoi_ok Tryz.atoiA s (by omega) n h w).mono ?_
    rintro e w' ⟨he, hw⟩
    refine ⟨_, _, he, by unfold atoiV; rw [h]; exact ⟨rfl, rfl⟩, ?_⟩
    rcases hw with rfl | ⟨t, rfl⟩
    · exact Below.refl _ _
    · exact ⟨rfl, rfl, rfl, by rw [Lib.bytesWorld_size]; omega, fun k hk => Lib.bytesWorld_at_old w _ t k hk⟩
  | range =>
    obtain ⟨ev, h1, h2⟩ := hg.rng
    refine (Any.strconv_Atoi_range Tryz.atoiA s (by omega) h ev w h1 h2).mono ?_
    rintro e w' ⟨N, he, _, _, hb⟩
    exact ⟨_, _, he, by unfold atoiV; rw [h]; exact ⟨_, _, _, rfl, rfl⟩, hb⟩
  | _ =>
    obtain ⟨ev, h1, h2⟩ := hg.syn
    refine (Any.strconv_Atoi_syntax Tryz.atoiA s (by omega) h ev w h1 h2).mono ?_
    rintro e w' ⟨N, he, _, _, hb⟩
    exact ⟨_, _, he, by unfold atoiV; rw [h]; exact ⟨_, _, _, rfl, rfl⟩, hb⟩
/-- The number of a segment's name; 0: it is none. -/
def segV (l : List UInt8) : Nat := match l with
  | [] => 0
  | c :: r => match Lib.atoiAll r with
    | .ok v => if 1 ≤ v ∧ v ≤ 999999 ∧ c :: r = segN v then v.toNat else 0
    | _ => 0
theorem segV_le (l : List UInt8) : segV l ≤ 999999 := by
  unfold segV
  split
  · omega
  · split
    · split <;> omega
    · omega
theorem segV_nil : segV [] = 0 := rfl
theorem segV_cons (c : UInt8) (r : List UInt8) : segV (c :: r) = match Lib.atoiAll r with
    | .ok v => if 1 ≤ v ∧ v ≤ 999999 ∧ c :: r = segN v then v.toNat else 0
    | _ => 0 := rfl
set_option maxHeartbeats 2000000 in
theorem segNum_any (s : ByteArray) (w : World) {B : Nat} (hg : Glob w B) (hB : B ≤ w.heap.size) (hs : s.size ≤ 1000) : Calls Tryz.prog 127 #[.string s] w fun e w' => e = .returned (.int .i64 (segV s.data.toList : Int)) ∧ Below w.heap.size w w' := by
  cases hl : s.data.toList with
  | nil =>
    have hq : (s.toList == []) = true := by rw [Lib.toList_data, hl]; rfl
    have hq1 : s.toList = [] := by rw [Lib.toList_data, hl]
    rw [segV_nil]
    go_enter Tryz.func127, Tryz.ntmps127
    go_wp2
    go_ret
    exact ⟨rfl, Below.refl _ _⟩
  | cons c r =>
    have hz : s.size = r.length + 1 := by rw [← str_len, hl]; rfl
    have hq : (s.toList == []) = false := by rw [Lib.toList_data, hl]; rfl
    have hq1 : s.toList ≠ [] := by rw [Lib.toList_data, hl]; simp
    have l1 := fun wx => slice_l (s := s) (lo := 1) (l := r) (by omega) (by omega) (by rw [hl]; rfl) wx
    have hA := hid (atoi_any (mk r) w hg hB (by rw [mk_size]; omega))
    rw [mk_data] at hA
    unfold atoiV at hA
    have hseg := segV_cons c r
    cases ha : Lib.atoiAll r with
    | ok v =>
      rw [ha] at hA hseg
      simp only at hA hseg
      have hvb := Lib.atoiAll_bounds ha
      have HA : Hid (Calls Tryz.prog 171 #[.string (mk r)] w fun e w' => e = .returned (.tuple #[.int .i64 v, .nilIface]) ∧ Below w.heap.size w w') := hid (hA.out.mono fun e w' ⟨v', ev, he, ⟨h1, h2⟩, hb⟩ => ⟨by rw [he, h1, h2], hb⟩)
      clear hA
      by_cases h1 : v < 1
      · rw [hseg, if_neg (by omega)]
        clear hseg ha hl hg
        generalize mk r = rb at *
        go_enter Tryz.func127, Tryz.ntmps127
        go_wp2_with (go_at_call 171; (with_reducible refine HA.out.mono ?_); rintro e w1 ⟨rfl, hb⟩)
        go_ret
        exact ⟨rfl, hb⟩
      · by_cases h2 : 999999 < v
        · rw [hseg, if_neg (by omega)]
          clear hseg ha hl hg
          generalize mk r = rb at *
          go_enter Tryz.func127, Tryz.ntmps127
          go_wp2_with (go_at_call 171; (with_reducible refine HA.out.mono ?_); rintro e w1 ⟨rfl, hb⟩)
          go_ret
          exact ⟨rfl, hb⟩
        · have HS := hid (fun wx (hb : Below w.heap.size w wx) => segName_any v wx (hg.below hb hB) ⟨by omega, by omega⟩)
          by_cases h3 : c :: r = segN v
          · rw [hseg, if_pos ⟨by omega, by omega, h3⟩]
            have he : mk (segN v) = s := str_ext (by rw [mk_data, hl, h3])
            rw [he] at HS
            have hv : ((v.toNat : Nat) : Int) = v := by omega
            rw [hv]
            clear hseg ha hl hg h3 he hv
            generalize mk r = rb at *
            go_enter Tryz.func127, Tryz.ntmps127
            go_wp2_with (first | (go_at_call 171; (with_reducible refine HA.out.mono ?_); rintro e w1 ⟨rfl, hb⟩) | (go_at_call 79; (with_reducible refine (HS.out _ hb).mono ?_); rintro e w2 ⟨rfl, hb2⟩))
            go_ret
            exact ⟨rfl, hb.trans (hb2.mono hb.size)⟩
          · rw [hseg, if_neg (fun h => h3 h.2.2)]
            have hne : (s.toList == (mk (segN v)).toList) = false := by rw [beq_eq_false_iff_ne, Lib.toList_data, Lib.toList_data, mk_data, hl]; exact h3
            clear hseg ha hl hg h3
            generalize mk r = rb at *
            generalize mk (segN v) = sb at *
            go_enter Tryz.func127, Tryz.ntmps127
            go_wp2_with (first | (go_at_call 171; (with_reducible refine HA.out.mono ?_); rintro e w1 ⟨rfl, hb⟩) | (go_at_call 79; (with_reducible refine (HS.out _ hb).mono ?_); rintro e w2 ⟨rfl, hb2⟩))
            go_ret
            exact ⟨rfl, hb.trans (hb2.mono hb.size)⟩
    | _ =>
      rw [ha] at hA hseg
      simp only at hA hseg
      rw [hseg]
      clear hseg ha hl hg
      generalize mk r = rb at *
      go_enter Tryz.func127, Tryz.ntmps127
      go_wp2_with (go_at_call 171; (with_reducible refine hA.out.mono ?_); rintro e w1 ⟨v, ev, rfl, ⟨k, te, pe, rfl, rfl⟩, hb⟩)
      go_ret
      exact ⟨rfl, hb⟩
theorem notSeg_any (s : ByteArray) (w : World) {B : Nat} (hg : Glob w B) (hB : B ≤ w.heap.size) (hs : s.size ≤ 1000) : Calls Tryz.prog 65 #[.string s] w fun e w' => e = .returned (.bool (decide (segV s.data.toList = 0))) ∧ Below w.heap.size w w' := by
  have HN := hid (segNum_any s w hg hB hs)
  have hq : (((segV s.data.toList : Nat) : Int) == 0) = decide (segV s.data.toList = 0) := by rw [Bool.eq_iff_iff]; simp
  have HQ := hid hq
  clear hg hq
  generalize hn : segV s.data.toList = n at *
  clear hn
  by_cases h0 : n = 0
  · subst h0
    go_enter Tryz.func65, Tryz.ntmps65
    go_wp2_with (go_at_call 127; (with_reducible refine HN.out.mono ?_); rintro e w1 ⟨rfl, hb⟩)
    go_ret
    exact ⟨rfl, hb⟩
  · have h1 : ((n : Int) == 0) = false := beq_eq_false_iff_ne.2 (by omega)
    rw [show decide (n = 0) = false by simpa using h0]
    go_enter Tryz.func65, Tryz.ntmps65
    go_wp2_with (go_at_call 127; (with_reducible refine HN.out.mono ?_); rintro e w1 ⟨rfl, hb⟩)
    go_ret
    exact ⟨rfl, hb⟩
end Go.Proofs.YtpcafkinpkepcaaGreatDoor

