/-
  LAYER 2 (disk): what the laws share: an act in a round; what an act does to the fuse.
-/
import Derived.Test.YtcinegkikahchaaDkShown
namespace Go.Proofs.Ytcinegkikahchaa
open Go.RowKit Go.Maps
set_option linter.unusedVariables false
set_option maxRecDepth 100000

def RoundPost (w1 : World) (S : Nat → Prop) (a : Nat) (r : Dk × List UInt8 × Int) (e : Ending) (w' : World) : Prop :=
  e = .returned (.tuple #[.string (mk r.2.1), .int .i64 r.2.2]) ∧ Hid (DiskIs w' (grow S w1 w') a r.1 ∧ Chg S w1 w')
theorem round_does {w1 wr : World} {S : Nat → Prop} {a : Nat} {s : Dk} {B : Nat} (hD : DiskIs wr (grow S w1 wr) a s) (hc : Chg S w1 wr) (hlS : ∀ b, S b → b < w1.heap.size) (hSB : ∀ b, S b → B ≤ b) (hB : B ≤ w1.heap.size)
    (ac : Ac) (ho : AcOk ac) (kv nv : Value) (hk : IntsAt wr B kv ac.keep) (hn : IntsAt wr B nv ac.noise) :
    Calls Try.prog 16 #[.pointer (some ⟨a, 0, none⟩), .agg #[.int .i64 ac.op, .int .i64 ac.n, .string ac.name, .string ac.to, .string ac.data, kv, nv]] wr (RoundPost w1 S a (act s ac)) := by
  refine (does_any hD (B := B) (by have := hc.size; omega) (fun b hb => by
    rcases hb with hb | hb
    · exact hSB b hb
    · omega) ac ho kv nv hk hn).mono ?_
  rintro e w' ⟨rfl, ⟨mb2, F2, hD2⟩, hc2⟩
  refine ⟨rfl, hid ⟨⟨mb2, F2, ?_⟩, hc.trans hc2 (fun b hb => by rcases hb with hb | hb; exact .inl hb; exact .inr hb.1)⟩⟩
  refine hD2.widen (fun b hb => ?_) (grow_lt hlS (by have := hc.size; have := hc2.size; omega))
  rcases hb with (hb | hb) | hb
  · exact .inl hb
  · exact .inr ⟨hb.1, by have := hc2.size; omega⟩
  · exact .inr ⟨by have := hc.size; omega, hb.2⟩

/-- What a call that changes does to the fuse. -/
def Sh (s : Dk) (r : Dk × Int) : Prop :=
  (r.1 = s ∧ r.2 ≠ 0 ∧ (r.2 = 7 → s.dead = true)) ∨ (s.dead = false ∧ s.fuse = 0 ∧ r = ({ s with dead := true }, 7)) ∨ (s.dead = false ∧ s.fuse ≠ 0 ∧ r.2 = 0 ∧ r.1.fuse = (ticked s).fuse ∧ r.1.dead = false)
theorem Sh_spends {s : Dk} (hd : s.dead = false) {k : Dk → Dk} (hk : ∀ s', (k s').fuse = s'.fuse ∧ (k s').dead = s'.dead) : Sh s (spends s k) := by
  by_cases hf : s.fuse = 0
  · exact .inr (.inl ⟨hd, hf, spends_dead hf k⟩)
  · rw [spends_ok hf]
    exact .inr (.inr ⟨hd, hf, rfl, (hk _).1, (hk _).2.trans hd⟩)
theorem Sh_need {s : Dk} {n : List UInt8} {k : AF → Dk × Int} (hk : s.dead = false → ∀ f, Sh s (k f)) : Sh s (need s n k) := by
  unfold need
  cases hd : s.dead with
  | true => rw [if_pos rfl]; exact .inl ⟨rfl, (by decide : (7 : Int) ≠ 0), fun _ => hd⟩
  | false =>
    rw [if_neg (by simp)]
    cases fndK AF.key n s.L with
    | none => exact .inl ⟨rfl, (by decide : (4 : Int) ≠ 0), fun h => absurd h (by decide : ¬ (4 : Int) = 7)⟩
    | some f => exact hk hd f
theorem Sh_err {s : Dk} (k : Int) (h0 : k ≠ 0) (h7 : k ≠ 7) : Sh s (s, k) := .inl ⟨rfl, h0, fun h => absurd h h7⟩
theorem Sh_syn (s : Dk) (n : List UInt8) : Sh s (syn s n) := Sh_need fun hd f => Sh_spends hd fun _ => ⟨rfl, rfl⟩
theorem Sh_trunc (s : Dk) (n : List UInt8) (k : Int) : Sh s (trunc s n k) := Sh_need fun hd f => by
  split
  · exact Sh_err 2 (by decide) (by decide)
  · exact Sh_spends hd fun _ => ⟨rfl, rfl⟩
theorem Sh_ren (s : Dk) (n t : List UInt8) : Sh s (ren s n t) := Sh_need fun hd f => by
  split
  · exact Sh_err 3 (by decide) (by decide)
  · exact Sh_spends hd fun _ => ⟨rfl, rfl⟩
theorem Sh_dele (s : Dk) (n : List UInt8) : Sh s (dele s n) := Sh_need fun hd f => Sh_spends hd fun _ => ⟨rfl, rfl⟩
theorem Sh_app (s : Dk) (n d : List UInt8) : Sh s (app s n d) := by
  unfold app
  cases hd : s.dead with
  | true => rw [if_pos rfl]; exact .inl ⟨rfl, (by decide : (7 : Int) ≠ 0), fun _ => hd⟩
  | false =>
    rw [if_neg (by simp)]
    split
    · exact Sh_err 3 (by decide) (by decide)
    · split
      · split
        · exact Sh_err 11 (by decide) (by decide)
        · split
          · exact Sh_err 6 (by decide) (by decide)
          · exact Sh_spends hd fun _ => ⟨rfl, rfl⟩
      · split
        · exact Sh_err 6 (by decide) (by decide)
        · exact Sh_spends hd fun _ => ⟨rfl, rfl⟩

theorem Sh_act {s : Dk} {a : Ac} (h : pickZ a.op 11 < 8) : Sh s ((act s a).1, (act s a).2.2) := by
  have hr := pickZ_range a.op 11 (by omega)
  unfold act
  simp only
  by_cases h4 : pickZ a.op 11 = 4
  · rw [if_pos h4]; exact Sh_syn s _
  · rw [if_neg h4]
    by_cases h5 : pickZ a.op 11 = 5
    · rw [if_pos h5]; exact Sh_trunc s _ _
    · rw [if_neg h5]
      by_cases h6 : pickZ a.op 11 = 6
      · rw [if_pos h6]; exact Sh_ren s _ _
      · rw [if_neg h6]
        by_cases h7 : pickZ a.op 11 = 7
        · rw [if_pos h7]; exact Sh_dele s _
        · rw [if_neg h7, if_neg (by omega), if_neg (by omega), if_neg (by omega)]; exact Sh_app s _ _
theorem act_read {s : Dk} {a : Ac} (h : pickZ a.op 11 = 8) : act s a = (s, (rd s a.name.data.toList).1, (rd s a.name.data.toList).2) := by
  unfold act
  simp only
  rw [h]; rfl
theorem rd_seven {s : Dk} {n : List UInt8} (h : (rd s n).2 = 7) : s.dead = true := by
  unfold rd at h
  cases hd : s.dead with
  | true => rfl
  | false =>
    rw [hd] at h
    simp only [Bool.false_eq_true, if_false] at h
    split at h
    · exact absurd h (by decide)
    · exact absurd h (by show ¬ (0 : Int) = 7; decide)
/-- The fuse's count, over one act. -/
structure Burns (s : Dk) (many most : Int) : Prop where
  f0 : 0 ≤ s.fuse
  dead : s.dead = true → s.fuse = 0
  sum : many + s.fuse = most
theorem burns_act {s : Dk} {many most : Int} (h : Burns s many most) {a : Ac} (ho : pickZ a.op 11 ≤ 8) :
    Burns (act s a).1 (many + if pickZ a.op 11 < 8 ∧ (act s a).2.2 = 0 then 1 else 0) most ∧ ((act s a).2.2 = 7 → (many + if pickZ a.op 11 < 8 ∧ (act s a).2.2 = 0 then 1 else 0) = most) := by
  obtain ⟨h0, h1, h2⟩ := h
  by_cases h8 : pickZ a.op 11 < 8
  · rcases Sh_act (s := s) h8 with ⟨e1, e2, e3⟩ | ⟨e1, e2, e3⟩ | ⟨e1, e2, e3, e4, e5⟩
    · rw [if_neg (fun hh => e2 hh.2)]
      have e1' : (act s a).1 = s := e1
      rw [e1']
      exact ⟨⟨h0, h1, by omega⟩, fun h7 => by have := h1 (e3 h7); omega⟩
    · have e3' : (act s a).1 = { s with dead := true } ∧ (act s a).2.2 = 7 := by simpa using e3
      rw [e3'.1, e3'.2, if_neg (fun hh => absurd hh.2 (by decide))]
      exact ⟨⟨h0, fun _ => e2, by show many + 0 + s.fuse = most; omega⟩, fun _ => by omega⟩
    · have e3' : (act s a).2.2 = 0 := e3
      have e4' : (act s a).1.fuse = (ticked s).fuse := e4
      have e5' : (act s a).1.dead = false := e5
      have ht : (ticked s).fuse = s.fuse - 1 := if_pos (by omega)
      rw [if_pos ⟨h8, e3'⟩]
      exact ⟨⟨by rw [e4', ht]; omega, fun hh => (by rw [e5'] at hh; cases hh), by rw [e4', ht]; omega⟩, fun hh => by rw [e3'] at hh; exact absurd hh (by decide)⟩
  · have h8' : pickZ a.op 11 = 8 := by omega
    rw [if_neg (fun hh => h8 hh.1), act_read h8']
    exact ⟨⟨h0, h1, by show many + 0 + s.fuse = most; omega⟩, fun hh => by have := h1 (rd_seven hh); omega⟩

/-- What a disk holds stays what it was. -/
theorem most_spends (s : Dk) {k : Dk → Dk} (hk : ∀ s', (k s').most = s'.most) : (spends s k).1.most = s.most := by
  unfold spends
  split
  · rfl
  · rw [hk]
theorem most_need (s : Dk) (n : List UInt8) {k : AF → Dk × Int} (hk : ∀ f, (k f).1.most = s.most) : (need s n k).1.most = s.most := by
  unfold need
  split
  · rfl
  · split
    · rfl
    · exact hk _
theorem most_act (s : Dk) (a : Ac) : (act s a).1.most = s.most := by
  unfold act
  simp only
  repeat' split
  · exact most_need s _ fun f => most_spends s fun _ => rfl
  · refine most_need s _ fun f => ?_
    split
    · rfl
    · exact most_spends s fun _ => rfl
  · refine most_need s _ fun f => ?_
    split
    · rfl
    · exact most_spends s fun _ => rfl
  · exact most_need s _ fun f => most_spends s fun _ => rfl
  · rfl
  · rfl
  · rfl
  · unfold app
    split
    · rfl
    · split
      · rfl
      · split
        · split
          · rfl
          · split
            · rfl
            · exact most_spends s fun _ => rfl
        · split
          · rfl
          · exact most_spends s fun _ => rfl
theorem most_acts : ∀ (l : List Ac) (s : Dk), (acts s l).most = s.most
  | [], _ => rfl
  | a :: l, s => (most_acts l _).trans (most_act s a)
theorem ActsAt.below {w wx : World} {v : Value} {l : List Ac} (hv : ActsAt w w.heap.size v l) (hb : Below w.heap.size w wx) : ActsAt wx w.heap.size v l := by
  obtain ⟨a, cap, rfl, hc⟩ := hv
  refine ⟨a, cap, rfl, fun hne => ?_⟩
  obtain ⟨b, o, rfl, hbB, hact⟩ := hc hne
  refine ⟨b, o, rfl, hbB, fun i ac hi => ?_⟩
  obtain ⟨kv, nv, hA⟩ := hact i ac hi
  exact ⟨kv, nv, hA.same hbB (fun b hb' => hb.block b hb')⟩
theorem sz_take {L : List AF} {k : Nat} (hk : k < L.length) : sz (L.take (k + 1)) = sz (L.take k) + L[k].data.length := by
  rw [List.take_succ_eq_append_getElem hk]
  unfold sz
  rw [List.map_append, List.sum_append]
  simp
theorem sz_take_le (L : List AF) (k : Nat) : sz (L.take k) ≤ sz L := by
  have h : sz (L.take k ++ L.drop k) = sz L := by rw [List.take_append_drop]
  rw [← h]
  unfold sz
  rw [List.map_append, List.sum_append]
  omega
theorem rd_at {s : Dk} (h : s.Ok) (hd : s.dead = false) {k : Nat} (hk : k < s.L.length) : rd s s.L[k].name = (s.L[k].data, 0) := by
  unfold rd
  rw [hd, show fndK AF.key s.L[k].name s.L = some s.L[k] from fndK_of_mem h.rise (List.getElem_mem hk)]
  rfl
theorem rise_at {L : List AF} (h : RiseK AF.key L) {i j : Nat} (hij : i < j) (hj : j < L.length) : (L[i]'(by omega)).name < L[j].name := by
  unfold RiseK at h
  rw [List.pairwise_iff_getElem] at h
  exact h i j (by omega) hj hij
theorem names_slice2 {w : World} {B : Nat} {v : Value} {L : List AF} (h : NamesAt w B v (L.map AF.name)) : ∃ ao cap, v = .slice ao L.length cap := by
  obtain ⟨ao, cap, hv⟩ := names_slice h
  exact ⟨ao, cap, by rw [hv]; simp⟩
theorem names_cell2 {w : World} {B : Nat} {ao : Option Addr} {cp : Nat} {L : List AF} (h : NamesAt w B (.slice ao L.length cp) (L.map AF.name)) {j : Nat} (hj : j < L.length) :
    ∃ g, ao = some ⟨g, 0, none⟩ ∧ B ≤ g ∧ g < w.heap.size ∧ ∀ i (hi : i < L.length), w.cell? ⟨g, i, none⟩ = some (.string (mk L[i].name)) := by
  obtain ⟨g, cp', hv, h1, h2, _, _⟩ := names_cell h (j := j) (by simpa using hj)
  simp only [Value.slice.injEq] at hv
  obtain ⟨rfl, _, rfl⟩ := hv
  refine ⟨g, rfl, h1, h2, fun i hi => ?_⟩
  obtain ⟨g2, cp2, hv2, _, _, _, hc⟩ := names_cell h (j := i) (by simpa using hi)
  simp only [Value.slice.injEq, Option.some.injEq, Addr.mk.injEq] at hv2
  obtain rfl : g = g2 := hv2.1.1
  simpa using hc

/-- What is done with one file leaves another one as it is. -/
def Oth (n : List UInt8) (s : Dk) (r : Dk × Int) : Prop := r.1.dead = false → s.dead = false ∧ fndK AF.key n r.1.L = fndK AF.key n s.L
theorem Oth_spends {n : List UInt8} {s : Dk} (hd : s.dead = false) {k : Dk → Dk} (hk : ∀ s' : Dk, s'.L = s.L → fndK AF.key n (k s').L = fndK AF.key n s.L) : Oth n s (spends s k) := by
  intro h
  unfold spends at h ⊢
  split at h
  · cases h
  · rename_i hf
    rw [if_neg hf]
    exact ⟨hd, hk _ rfl⟩
theorem Oth_same (n : List UInt8) (s : Dk) (k : Int) : Oth n s (s, k) := fun h => ⟨h, rfl⟩
theorem Oth_need {n m : List UInt8} {s : Dk} {k : AF → Dk × Int} (hk : s.dead = false → ∀ f, Oth n s (k f)) : Oth n s (need s m k) := by
  unfold need
  cases hd : s.dead with
  | true => rw [if_pos rfl]; exact Oth_same n s 7
  | false =>
    rw [if_neg (by simp)]
    cases fndK AF.key m s.L with
    | none => exact Oth_same n s 4
    | some f => exact hk hd f
theorem Oth_act {n : List UInt8} {s : Dk} {a : Ac} (h9 : pickZ a.op 11 < 9) (h1 : n ≠ a.name.data.toList) (h2 : n ≠ a.to.data.toList) : Oth n s ((act s a).1, (act s a).2.2) := by
  have hr := pickZ_range a.op 11 (by omega)
  have hu : ∀ g : AF → AF, (∀ f, (g f).name = f.name) → ∀ s' : Dk, s'.L = s.L → fndK AF.key n (updK AF.key a.name.data.toList g s'.L) = fndK AF.key n s.L := fun g hg s' e => by rw [e, fndK_upd hg, if_neg h1]
  unfold act
  simp only
  by_cases h4 : pickZ a.op 11 = 4
  · rw [if_pos h4]; exact Oth_need fun hd f => Oth_spends hd (hu syncF fun _ => rfl)
  · rw [if_neg h4]
    by_cases h5 : pickZ a.op 11 = 5
    · rw [if_pos h5]
      refine Oth_need fun hd f => ?_
      split
      · exact Oth_same n s 2
      · exact Oth_spends hd (hu _ fun _ => rfl)
    · rw [if_neg h5]
      by_cases h6 : pickZ a.op 11 = 6
      · rw [if_pos h6]
        refine Oth_need fun hd f => ?_
        split
        · exact Oth_same n s 3
        · refine Oth_spends hd fun s' e => ?_
          show fndK AF.key n (insK AF.key { f with name := a.to.data.toList } (delK AF.key a.to.data.toList (delK AF.key a.name.data.toList s'.L))) = _
          rw [fndK_ins (fun x hx => (delK_mem.1 hx).2), if_neg h2, fndK_del, if_neg h2, fndK_del, if_neg h1, e]
      · rw [if_neg h6]
        by_cases h7 : pickZ a.op 11 = 7
        · rw [if_pos h7]
          refine Oth_need fun hd f => Oth_spends hd fun s' e => ?_
          show fndK AF.key n (delK AF.key a.name.data.toList s'.L) = _
          rw [fndK_del, if_neg h1, e]
        · rw [if_neg h7]
          by_cases h8 : pickZ a.op 11 = 8
          · rw [if_pos h8]; exact Oth_same n s _
          · rw [if_neg h8, if_neg (by omega), if_neg (by omega)]
            show Oth n s (app s a.name.data.toList a.data.data.toList)
            unfold app
            cases hd : s.dead with
            | true => rw [if_pos rfl]; exact Oth_same n s 7
            | false =>
              rw [if_neg (by simp)]
              split
              · exact Oth_same n s 3
              · cases hf : fndK AF.key a.name.data.toList s.L with
                | none =>
                  simp only
                  split
                  · exact Oth_same n s 11
                  · split
                    · exact Oth_same n s 6
                    · refine Oth_spends hd fun s' e => ?_
                      show fndK AF.key n (insK AF.key (newF a.name.data.toList a.data.data.toList) s'.L) = _
                      rw [e, fndK_ins (fndK_none hf), if_neg (show ¬ n = AF.key (newF a.name.data.toList a.data.data.toList) from h1)]
                | some f =>
                  simp only
                  split
                  · exact Oth_same n s 6
                  · exact Oth_spends hd (hu _ fun _ => rfl)
theorem rd_other {n : List UInt8} {s : Dk} {a : Ac} (h9 : pickZ a.op 11 < 9) (h1 : n ≠ a.name.data.toList) (h2 : n ≠ a.to.data.toList) (hd : (act s a).1.dead = false) : rd (act s a).1 n = rd s n := by
  obtain ⟨e1, e2⟩ := Oth_act (s := s) h9 h1 h2 hd
  have e2' : fndK AF.key n (act s a).1.L = fndK AF.key n s.L := e2
  unfold rd
  rw [hd, e1, e2']

/-- An act in a box, by its cells. -/
structure BoxAt (w : World) (b : Nat) (a : Ac) (kv nv : Value) : Prop where
  c0 : w.cell? ⟨b, 0, none⟩ = some (.int .i64 a.op)
  c1 : w.cell? ⟨b, 1, none⟩ = some (.int .i64 a.n)
  c2 : w.cell? ⟨b, 2, none⟩ = some (.string a.name)
  c3 : w.cell? ⟨b, 3, none⟩ = some (.string a.to)
  c4 : w.cell? ⟨b, 4, none⟩ = some (.string a.data)
  c5 : w.cell? ⟨b, 5, none⟩ = some kv
  c6 : w.cell? ⟨b, 6, none⟩ = some nv
theorem BoxAt.of_own {w : World} {b : Nat} {a : Ac} {kv nv : Value} (h : own w b #[.int .i64 a.op, .int .i64 a.n, .string a.name, .string a.to, .string a.data, kv, nv] 38) : BoxAt w b a kv nv :=
  ⟨h.cell 0, h.cell 1, h.cell 2, h.cell 3, h.cell 4, h.cell 5, h.cell 6⟩
theorem BoxAt.below {w w' : World} {b : Nat} {a : Ac} {kv nv : Value} (h : BoxAt w b a kv nv) (hlt : b < w.heap.size) (hb : Below w.heap.size w w') : BoxAt w' b a kv nv := by
  have hc : ∀ k, w'.cell? ⟨b, k, none⟩ = w.cell? ⟨b, k, none⟩ := fun k => hb.cell (p := ⟨b, k, none⟩) hlt
  exact ⟨(hc _).trans h.c0, (hc _).trans h.c1, (hc _).trans h.c2, (hc _).trans h.c3, (hc _).trans h.c4, (hc _).trans h.c5, (hc _).trans h.c6⟩
theorem IntsAt.mono {w : World} {B B' : Nat} {v : Value} {xs : List Int} (h : IntsAt w B v xs) (hB : B ≤ B') : IntsAt w B' v xs := by
  obtain ⟨a, cap, hv, hc⟩ := h
  refine ⟨a, cap, hv, fun hne => ?_⟩
  obtain ⟨sb, so, h1, h2, h3⟩ := hc hne
  exact ⟨sb, so, h1, by omega, h3⟩
/-- small of one act, in a slice laid just ahead of it. -/
theorem one_any (wx : World) (B : Nat) (hB : B ≤ wx.heap.size) (a : Ac) (hin : AcIn a) (kv nv : Value) (hk : IntsAt wx B kv a.keep) (hn : IntsAt wx B nv a.noise) :
    Calls Try.prog 10 #[.slice (some ⟨wx.heap.size, 0, none⟩) 1 1] (wx.alloc (.cells #[.int .i64 a.op, .int .i64 a.n, .string a.name, .string a.to, .string a.data, kv, nv] 38)) fun e w' => e = .returned (.bool (smallB [a])) ∧ Below wx.heap.size wx w' := by
  have hb := Below.alloc (Below.refl wx.heap.size wx) (Nat.le_refl _) (.cells #[.int .i64 a.op, .int .i64 a.n, .string a.name, .string a.to, .string a.data, kv, nv] 38)
  have hbox := BoxAt.of_own (own.new wx #[.int .i64 a.op, .int .i64 a.n, .string a.name, .string a.to, .string a.data, kv, nv] 38)
  refine (small_any (.slice (some ⟨wx.heap.size, 0, none⟩) 1 1) [a] _ (wx.heap.size + 1) ⟨_, 1, rfl, fun _ => ⟨wx.heap.size, 0, rfl, by omega, fun i ac hi => ?_⟩⟩ (by simpa using hin) (by simp [maxLen])).mono ?_
  · match i, hi with
    | 0, hi =>
      simp at hi
      subst hi
      exact ⟨kv, nv, hbox.c0, hbox.c1, hbox.c2, hbox.c3, hbox.c4, hbox.c5, hbox.c6, (hk.same (fun b h => hb.block b (by omega))).mono (by omega), (hn.same (fun b h => hb.block b (by omega))).mono (by omega)⟩
    | i + 1, hi => simp at hi
  · rintro e w' ⟨rfl, rfl⟩
    exact ⟨rfl, hb⟩
end Go.Proofs.Ytcinegkikahchaa
