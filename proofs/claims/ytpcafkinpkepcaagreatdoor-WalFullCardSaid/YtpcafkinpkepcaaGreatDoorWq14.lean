import Derived.Test.YtpcafkinpkepcaaGreatDoorWq12
import Derived.Test.YtpcafkinpkepcaaGreatDoorWq13
import Derived.Sort.KeysCollected
/-
  Wq14: DkRep, in one text.
-/
/-
  LAYER 2 (disk): HOW A DISK LIES IN MEMORY: a struct, a map from names to pointers, and for each file a struct and a row of bytes.
-/
namespace Go.Proofs.YtpcafkinpkepcaaGreatDoor
open Go.RowKit Go.Maps
set_option linter.unusedVariables false
set_option maxRecDepth 100000

structure Fl where
  name : List UInt8
  data : List UInt8
  synced : Nat
  g : Nat
  v : Value
abbrev Fl.key (x : Fl) : List UInt8 := x.name
def Fl.abs (x : Fl) : AF := ⟨x.name, x.data, x.synced⟩
def Fl.foot (x : Fl) : List Nat := x.g :: x.v.ownBlock.toList
def Fl.ptr (x : Fl) : Value := .pointer (some ⟨x.g, 0, none⟩)

/-- How an element of the map reads: by its block. -/
def ptrElem : Value → Option (DataW Unit × List MemPlace)
  | .pointer none => some (.nil, [])
  | .pointer (some a) => if a = ⟨a.block, 0, none⟩ then some (.lit (.int .i64 a.block), []) else none
  | _ => none
def entOf (F : List Fl) : List (Lit × DataW Unit) := F.map fun x => (.string x.name, .lit (.int .i64 x.g))

theorem ptrElem_ptr (g : Nat) : ptrElem (.pointer (some ⟨g, 0, none⟩)) = some (.lit (.int .i64 (g : Int)), []) := by simp [ptrElem]
theorem ptrElem_inv {v : Value} {n : Nat} {ps : List MemPlace} (h : ptrElem v = some (.lit (.int .i64 (n : Int)), ps)) : v = .pointer (some ⟨n, 0, none⟩) := by
  unfold ptrElem at h
  split at h
  · cases h
  · split at h
    · rename_i a ha
      simp at h
      obtain ⟨b, o, sp⟩ := a
      simp at ha h
      obtain ⟨rfl, rfl⟩ := ha
      obtain ⟨h1, _⟩ := h
      have : b = n := by omega
      rw [this]
    · cases h
  · cases h
theorem ptrElem_nil {v : Value} {ps : List MemPlace} (h : ptrElem v = some (.nil, ps)) : v = .pointer none := by
  unfold ptrElem at h
  split at h
  · rfl
  · split at h <;> cases h
  · cases h

theorem sameKey_string (a b : List UInt8) : (Lit.string a).sameKey (.string b) = decide (a = b) := by
  unfold Lit.sameKey
  rw [Bool.eq_iff_iff]; simp
theorem has_ent (F : List Fl) (n : List UInt8) : Maps.has (.map (entOf F)) (.string n) = (fndK Fl.key n F).isSome := by
  rw [Maps.has_eq]
  unfold entOf fndK
  rw [List.any_map, Bool.eq_iff_iff, List.find?_isSome]
  simp [sameKey_string]
theorem atKey_ent_any (F : List Fl) (n : List UInt8) (zd : DataW Unit) : DataW.atKey (.map (entOf F)) (.string n) zd = (match fndK Fl.key n F with | none => zd | some x => .lit (.int .i64 (x.g : Int))) := by
  unfold DataW.atKey entOf fndK
  simp only [List.find?_map]
  have he : ((fun p : Lit × DataW Unit => p.1.sameKey (.string n)) ∘ fun x : Fl => (Lit.string x.name, DataW.lit (.int .i64 (x.g : Int)))) = fun x : Fl => decide (x.key = n) := by
    funext x; simp [sameKey_string]
  rw [he]
  cases List.find? (fun x : Fl => decide (x.key = n)) F <;> rfl
theorem atKey_ent (F : List Fl) (n : List UInt8) : DataW.atKey (.map (entOf F)) (.string n) .nil = (match fndK Fl.key n F with | none => .nil | some x => .lit (.int .i64 (x.g : Int))) := atKey_ent_any F n .nil
theorem insert_ent (x : Fl) : ∀ F : List Fl, DataW.insert ((Lit.string x.name, DataW.lit (.int .i64 (x.g : Int))) : Lit × DataW Unit) (entOf F) = entOf (insK Fl.key x F)
  | [] => rfl
  | y :: r => by
    unfold insK
    show DataW.insert _ ((Lit.string y.name, _) :: entOf r) = _
    unfold DataW.insert
    simp only [Lit.before, bytesBefore_lt]
    by_cases h : x.name < y.name
    · simp [h, entOf]
    · simp [h, insert_ent x r]; rfl
theorem filter_ent (n : List UInt8) (F : List Fl) : (entOf F).filter (fun p => !p.1.sameKey (.string n)) = entOf (delK Fl.key n F) := by
  unfold entOf delK
  rw [List.filter_map]
  congr 1
  apply List.filter_congr
  intro x _
  simp [sameKey_string]
theorem del_ent (n : List UInt8) (F : List Fl) : DataW.del (.map (entOf F)) (.string n) = .map (entOf (delK Fl.key n F)) := by
  unfold DataW.del
  rw [← filter_ent]
theorem put_ent (x : Fl) (F : List Fl) : DataW.put (.map (entOf F)) (.string x.name) (.lit (.int .i64 (x.g : Int))) = .map (entOf (insK Fl.key x (delK Fl.key x.name F))) := by
  unfold DataW.put
  rw [← insert_ent, ← filter_ent]
theorem size_ent (F : List Fl) : Maps.size (.map (entOf F)) = F.length := by simp [Maps.size_eq, entOf]
theorem strKeys_ent (F : List Fl) : strKeys (.map (entOf F)) = F.map Fl.name := by simp [strKeys, entOf, strOf]

theorem flatMap_sub {α β : Type} (f : α → List β) {l m : List α} (h : List.Sublist l m) : List.Sublist (l.flatMap f) (m.flatMap f) := by
  induction h with
  | slnil => exact List.Sublist.refl _
  | cons a _ ih => rw [List.flatMap_cons]; exact ih.trans (List.sublist_append_right _ _)
  | cons_cons a _ ih => rw [List.flatMap_cons, List.flatMap_cons]; exact List.Sublist.append (List.Sublist.refl _) ih

/-- One file. -/
structure FileOk (w : World) (x : Fl) : Prop where
  blk : own w x.g #[x.v, .int .i64 x.synced] 123
  row : Bytes w 0 x.v x.data
  apart : x.v.ownBlock ≠ some x.g

theorem bytes_slice {w : World} {B : Nat} {v : Value} {l : List UInt8} (h : Bytes w B v l) : ∃ ao cap, v = .slice ao l.length cap := by
  rcases h.2 with ⟨hv, hz⟩ | ⟨g, cap, cur, hv, _⟩
  · exact ⟨none, 0, by rw [hv, hz]⟩
  · exact ⟨_, _, hv⟩
theorem FileOk.slice {w : World} {x : Fl} (h : FileOk w x) : ∃ ao cap, x.v = .slice ao x.data.length cap := bytes_slice h.row
theorem FileOk.same {w w' : World} {x : Fl} (h : FileOk w x) (hs : ∀ b ∈ x.foot, w'.heap[b]? = w.heap[b]?) : FileOk w' x :=
  ⟨h.blk.same (hs _ (by simp [Fl.foot])), ownsRow_same h.row (fun b hb => hs b (by simp [Fl.foot, hb])), h.apart⟩

/-- A disk: mb: the map's block; F: the files. -/
structure DiskRep (w : World) (S : Nat → Prop) (a mb : Nat) (F : List Fl) (s : Dk) : Prop where
  head : ∃ left : Int, own w a #[.int .i64 s.most, .map (some mb), .bool (decide (0 ≤ s.fuse)), .int .i64 left, .bool s.dead] 105 ∧ (0 ≤ s.fuse → left = s.fuse)
  abs : s.L = F.map Fl.abs
  map : w.ownsMap Tryz.prog 9 ptrElem mb F.length (.map (entOf F))
  files : ∀ x ∈ F, FileOk w x
  apart : (a :: mb :: F.flatMap Fl.foot).Nodup
  inS : ∀ b ∈ a :: mb :: F.flatMap Fl.foot, S b
  lt : ∀ b, S b → b < w.heap.size
  ok : s.Ok
def DiskIs (w : World) (S : Nat → Prop) (a : Nat) (s : Dk) : Prop := ∃ mb F, DiskRep w S a mb F s

section
variable {w w' : World} {S : Nat → Prop} {a mb : Nat} {F : List Fl} {s : Dk}
theorem DiskRep.same (h : DiskRep w S a mb F s) (hz : w.heap.size ≤ w'.heap.size) (hs : ∀ b, S b → w'.heap[b]? = w.heap[b]?) : DiskRep w' S a mb F s := by
  obtain ⟨⟨left, h1, h2⟩, h3, h4, h5, h6, h7, h8, h9⟩ := h
  refine ⟨⟨left, h1.same (hs a (h7 a (by simp))), h2⟩, h3, ownsMap_same h4 (hs mb (h7 mb (by simp))), fun x hx => (h5 x hx).same (fun b hb => hs b (h7 b ?_)), h6, h7, fun b hb => by have := h8 b hb; omega, h9⟩
  simp only [List.mem_cons, List.mem_flatMap]
  exact .inr (.inr ⟨x, hx, hb⟩)
theorem DiskIs.same (h : DiskIs w S a s) (hz : w.heap.size ≤ w'.heap.size) (hs : ∀ b, S b → w'.heap[b]? = w.heap[b]?) : DiskIs w' S a s := by
  obtain ⟨mb, F, h⟩ := h
  exact ⟨mb, F, h.same hz hs⟩
theorem DiskIs.below (h : DiskIs w S a s) (hb : Below w.heap.size w w') : DiskIs w' S a s := by
  obtain ⟨mb, F, h⟩ := h
  exact ⟨mb, F, h.same hb.size (fun b hs => hb.block b (h.lt b hs))⟩
theorem DiskRep.below (h : DiskRep w S a mb F s) (hb : Below w.heap.size w w') : DiskRep w' S a mb F s := h.same hb.size (fun b hs => hb.block b (h.lt b hs))
theorem DiskRep.widen (h : DiskRep w S a mb F s) {T : Nat → Prop} (hT : ∀ b, S b → T b) (hlt : ∀ b, T b → b < w.heap.size) : DiskRep w T a mb F s :=
  ⟨h.head, h.abs, h.map, h.files, h.apart, fun b hb => hT b (h.inS b hb), hlt, h.ok⟩
theorem DiskRep.inA (h : DiskRep w S a mb F s) : S a := h.inS a (by simp)
theorem DiskRep.inM (h : DiskRep w S a mb F s) : S mb := h.inS mb (by simp)
theorem DiskRep.neAM (h : DiskRep w S a mb F s) : a ≠ mb := by
  have := h.apart
  simp at this
  exact fun e => this.1.1 e
theorem DiskRep.neAF (h : DiskRep w S a mb F s) {x : Fl} (hx : x ∈ F) {b : Nat} (hb : b ∈ x.foot) : b ≠ a ∧ b ≠ mb := by
  have := h.apart
  rw [List.nodup_cons, List.nodup_cons] at this
  have hm : b ∈ F.flatMap Fl.foot := List.mem_flatMap.2 ⟨x, hx, hb⟩
  exact ⟨fun e => this.1 (by subst e; simp [hm]), fun e => this.2.1 (by subst e; exact hm)⟩
theorem DiskRep.rise (h : DiskRep w S a mb F s) : RiseK Fl.key F := by
  have h1 := h.ok.rise
  rw [h.abs] at h1
  unfold RiseK at h1
  exact (List.pairwise_map (f := Fl.abs)).1 h1
theorem DiskRep.fnd (h : DiskRep w S a mb F s) (n : List UInt8) : fndK AF.key n s.L = (fndK Fl.key n F).map Fl.abs := by
  rw [h.abs]
  exact fndK_map (fun _ => rfl) n F
theorem DiskRep.len (h : DiskRep w S a mb F s) : F.length = s.L.length := by rw [h.abs]; simp

/-- The head's fuse and power turned. -/
theorem DiskRep.turn (h : DiskRep w S a mb F s) {fu left : Int} {dd : Bool} (hw : own w' a #[.int .i64 s.most, .map (some mb), .bool (decide (0 ≤ fu)), .int .i64 left, .bool dd] 105) (hl : 0 ≤ fu → left = fu)
    (hc : Chg (fun b => b = a) w w') (hf : -1 ≤ fu ∧ fu ≤ 9223372036854775807) : DiskRep w' S a mb F { s with fuse := fu, dead := dd } := by
  obtain ⟨h1, h3, h4, h5, h6, h7, h8, h9⟩ := h
  have h' : DiskRep w S a mb F s := ⟨h1, h3, h4, h5, h6, h7, h8, h9⟩
  refine ⟨⟨left, hw, hl⟩, h3, ownsMap_same h4 (hc.block _ (h8 _ (h7 _ (by simp))) (fun e => h'.neAM e.symm)), fun x hx => (h5 x hx).same (fun b hb => ?_), h6, h7, fun b hb => by have := h8 b hb; have := hc.size; omega, ⟨h9.rise, h9.names, h9.sync, h9.many, h9.room, h9.most, hf⟩⟩
  exact hc.block _ (h8 _ (h7 _ (by simp only [List.mem_cons, List.mem_flatMap]; exact .inr (.inr ⟨x, hx, hb⟩)))) (h'.neAF hx hb).1

theorem fl_split {n : List UInt8} {x : Fl} : ∀ {F : List Fl}, RiseK Fl.key F → fndK Fl.key n F = some x → ∃ F1 F2, F = F1 ++ x :: F2 ∧ (∀ g : Fl → Fl, updK Fl.key n g F = F1 ++ g x :: F2) ∧ delK Fl.key n F = F1 ++ F2
  | [], _, h => by simp [fndK] at h
  | y :: r, hr, h => by
    obtain ⟨h1, h2⟩ := List.pairwise_cons.1 hr
    by_cases hy : y.key = n
    · have hx : x = y := by
        unfold fndK at h
        rw [List.find?_cons_of_pos (by simpa using hy)] at h
        exact (Option.some.inj h).symm
      subst hx
      have hall : ∀ z ∈ r, z.key ≠ n := fun z hz e => by
        have := h1 z hz
        rw [e, hy] at this
        exact blt_irrefl _ this
      refine ⟨[], r, rfl, fun g => ?_, ?_⟩
      · unfold updK
        simp only [List.map_cons, hy, if_true, List.nil_append]
        congr 1
        conv => rhs; rw [← List.map_id r]
        apply List.map_congr_left
        intro z hz
        rw [if_neg (hall z hz)]; rfl
      · unfold delK
        rw [List.filter_cons_of_neg (by simp [hy]), List.filter_eq_self.2 (fun z hz => by simpa using hall z hz)]; rfl
    · have hf : fndK Fl.key n r = some x := by
        unfold fndK at h ⊢
        rwa [List.find?_cons_of_neg (by simpa using hy)] at h
      obtain ⟨F1, F2, e1, e2, e3⟩ := fl_split h2 hf
      refine ⟨y :: F1, F2, by rw [e1]; rfl, fun g => ?_, ?_⟩
      · have := e2 g
        unfold updK at *
        simp only [List.map_cons, if_neg hy, this, List.cons_append]
      · unfold delK at *
        rw [List.filter_cons_of_pos (by simpa using hy), e3]; rfl

/-- A file is exchanged for another one of the same name and block. -/
theorem DiskRep.set (h : DiskRep w S a mb F s) {n : List UInt8} {x x' : Fl} (hx : fndK Fl.key n F = some x) (hn : x'.name = x.name) (hg : x'.g = x.g) {H : AF → AF} (hH : x'.abs = H x.abs) (hHn : ∀ f, (H f).name = f.name)
    (hw : FileOk w' x') (hc : Chg (fun b => b ∈ x.foot) w w') (hsub : ∀ b ∈ x'.foot, b ∈ x.foot ∨ w.heap.size ≤ b) (hok : ({ s with L := updK AF.key n H s.L } : Dk).Ok) :
    ∃ F', DiskRep w' (grow S w w') a mb F' { s with L := updK AF.key n H s.L } ∧ fndK Fl.key n F' = some x' := by
  obtain ⟨F1, F2, e1, e2, e3⟩ := fl_split h.rise hx
  obtain ⟨hxm, hxn⟩ := fndK_some hx
  have hr := h.rise
  have hin : ∀ b ∈ a :: mb :: F.flatMap Fl.foot, b < w.heap.size := fun b hb => h.lt b (h.inS b hb)
  have hU : updK Fl.key n (fun y => { x' with name := y.name }) F = F1 ++ x' :: F2 := by
    rw [e2]
    congr 2
    rw [← hn]
  have hap := h.apart
  rw [e1] at hap hin
  simp only [List.flatMap_append, List.flatMap_cons] at hap hin
  have hY : x'.foot.Nodup := by
    unfold Fl.foot
    cases hv : x'.v.ownBlock with
    | none => simp
    | some b =>
      have := hw.apart
      rw [hv] at this
      simp; exact fun e => this (by rw [e])
  have hlt' : ∀ b ∈ x'.foot, b < w'.heap.size := by
    intro b hb
    unfold Fl.foot at hb
    rcases List.mem_cons.1 hb with rfl | hb
    · exact hw.blk.lt
    · exact ((World.ownsRow.lt hw.row) b (by simpa using hb)).2
  refine ⟨updK Fl.key n (fun y => { x' with name := y.name }) F, ⟨?_, ?_, ?_, ?_, ?_, ?_, grow_lt h.lt hc.size, hok⟩, ?_⟩
  · obtain ⟨left, hl1, hl2⟩ := h.head
    exact ⟨left, hl1.chg hc (fun hb => (h.neAF hxm hb).1 rfl), hl2⟩
  · show updK AF.key n H s.L = _
    rw [hU, h.abs]
    rw [e1]
    simp only [updK, List.map_append, List.map_cons]
    rw [if_pos (show AF.key x.abs = n from hxn), hH]
    have hne : ∀ y ∈ F1 ++ F2, ¬ AF.key y.abs = n := by
      intro y hy
      have : y ∈ delK Fl.key n F := by rw [e3]; exact hy
      exact (delK_mem.1 this).2
    congr 1
    · rw [List.map_map]
      apply List.map_congr_left
      intro y hy
      simp only [Function.comp_apply]
      rw [if_neg (hne y (by simp [hy]))]
    · congr 1
      rw [List.map_map]
      apply List.map_congr_left
      intro y hy
      simp only [Function.comp_apply]
      rw [if_neg (hne y (by simp [hy]))]
  · have h4 : entOf (updK Fl.key n (fun y => { x' with name := y.name }) F) = entOf F := by
      rw [hU, e1]
      unfold entOf
      simp [hn, hg]
    rw [h4, updK_length]
    exact ownsMap_same h.map (hc.block _ (h.lt _ h.inM) (fun hb => (h.neAF hxm hb).2 rfl))
  · intro y hy
    rw [hU] at hy
    rcases List.mem_append.1 hy with hy | hy
    · refine (h.files y (by rw [e1]; simp [hy])).same (fun b hb => hc.block b (hin b ?_) (fun hbx => ?_))
      · simp only [List.mem_cons, List.mem_append, List.mem_flatMap]; exact .inr (.inr (.inl ⟨y, hy, hb⟩))
      · rw [List.nodup_cons, List.nodup_cons, List.nodup_append] at hap
        exact hap.2.2.2.2 b (List.mem_flatMap.2 ⟨y, hy, hb⟩) b (List.mem_append.2 (.inl hbx)) rfl
    · rcases List.mem_cons.1 hy with rfl | hy
      · exact hw
      · refine (h.files y (by rw [e1]; simp [hy])).same (fun b hb => hc.block b (hin b ?_) (fun hbx => ?_))
        · simp only [List.mem_cons, List.mem_append, List.mem_flatMap]; exact .inr (.inr (.inr (.inr ⟨y, hy, hb⟩)))
        · rw [List.nodup_cons, List.nodup_cons, List.nodup_append] at hap
          have := hap.2.2.2.1
          rw [List.nodup_append] at this
          exact this.2.2 b hbx b (List.mem_flatMap.2 ⟨y, hy, hb⟩) rfl
  · rw [hU]
    simp only [List.flatMap_append, List.flatMap_cons]
    have := nodup_swap (A := a :: mb :: F1.flatMap Fl.foot) (X := x.foot) (Y := x'.foot) (B := F2.flatMap Fl.foot) (N := w.heap.size) hap hY hin hsub
    exact this
  · intro b hb
    rw [hU] at hb
    have hb' : b ∈ x'.foot ∨ b ∈ a :: mb :: F.flatMap Fl.foot := by
      rw [e1]
      simp only [List.flatMap_append, List.flatMap_cons, List.mem_cons, List.mem_append] at hb ⊢
      rcases hb with h | h | h | h | h
      · exact .inr (.inl h)
      · exact .inr (.inr (.inl h))
      · exact .inr (.inr (.inr (.inl h)))
      · exact .inl h
      · exact .inr (.inr (.inr (.inr (.inr h))))
    rcases hb' with hb' | hb'
    · rcases hsub b hb' with h1 | h1
      · exact .inl (h.inS b (by simp only [List.mem_cons, List.mem_flatMap]; exact .inr (.inr ⟨x, hxm, h1⟩)))
      · exact .inr ⟨h1, hlt' b hb'⟩
    · exact .inl (h.inS b hb')
  · have h5 := fndK_upd (key := Fl.key) (n := n) (m := n) (g := fun y => { x' with name := y.name }) (fun _ => rfl) F
    rw [h5, if_pos rfl, hx]
    show some ({ x' with name := x.name } : Fl) = some x'
    rw [← hn]

/-- A file is taken out of the map. -/
theorem DiskRep.del (h : DiskRep w S a mb F s) (n : List UInt8) (hm : w'.ownsMap Tryz.prog 9 ptrElem mb F.length (DataW.del (.map (entOf F)) (.string n))) (hc : Chg (fun b => b = mb) w w') :
    DiskRep w' S a mb (delK Fl.key n F) { s with L := delK AF.key n s.L } := by
  have hsub : ∀ b ∈ (delK Fl.key n F).flatMap Fl.foot, b ∈ F.flatMap Fl.foot := by
    intro b hb
    obtain ⟨x, hx, hb⟩ := List.mem_flatMap.1 hb
    exact List.mem_flatMap.2 ⟨x, (delK_mem.1 hx).1, hb⟩
  refine ⟨?_, ?_, ?_, ?_, ?_, ?_, fun b hb => by have := h.lt b hb; have := hc.size; omega, Ok_del h.ok n⟩
  · obtain ⟨left, hl1, hl2⟩ := h.head
    exact ⟨left, hl1.chg hc h.neAM, hl2⟩
  · show delK AF.key n s.L = _
    rw [h.abs]
    exact (delK_map (fun _ => rfl) n F).symm
  · rw [del_ent] at hm
    have := ownsMap_tight hm
    rwa [size_ent] at this
  · intro x hx
    have hxF := (delK_mem.1 hx).1
    refine (h.files x hxF).same (fun b hb => hc.block b (h.lt b (h.inS b ?_)) (h.neAF hxF hb).2)
    simp only [List.mem_cons, List.mem_flatMap]; exact .inr (.inr ⟨x, hxF, hb⟩)
  · have := h.apart
    refine List.Nodup.sublist ?_ this
    exact ((flatMap_sub _ List.filter_sublist).cons_cons mb).cons_cons a
  · intro b hb
    refine h.inS b ?_
    rcases List.mem_cons.1 hb with rfl | hb
    · simp
    · rcases List.mem_cons.1 hb with rfl | hb
      · simp
      · simp [hsub b hb]

/-- A file that the map does not have is put in; one of its name goes. -/
theorem DiskRep.put' (h : DiskRep w S a mb F s) {x : Fl} (hx : FileOk w x) (hxa : ∀ b ∈ x.foot, b ∉ a :: mb :: F.flatMap Fl.foot) (hxS : ∀ b ∈ x.foot, S b) {k : Nat} (hk : k < maxLen)
    (hm : w'.ownsMap Tryz.prog 9 ptrElem mb k (DataW.put (.map (entOf F)) (.string x.name) (.lit (.int .i64 (x.g : Int))))) (hc : Chg (fun b => b = mb) w w')
    (hok : ({ s with L := insK AF.key x.abs (delK AF.key x.name s.L) } : Dk).Ok) :
    DiskRep w' S a mb (insK Fl.key x (delK Fl.key x.name F)) { s with L := insK AF.key x.abs (delK AF.key x.name s.L) } := by
  have hY : x.foot.Nodup := by
    unfold Fl.foot
    cases hv : x.v.ownBlock with
    | none => simp
    | some b =>
      have := hx.apart
      rw [hv] at this
      simp; exact fun e => this (by rw [e])
  have hsub : ((a :: mb :: (delK Fl.key x.name F).flatMap Fl.foot)).Sublist (a :: mb :: F.flatMap Fl.foot) := ((flatMap_sub _ List.filter_sublist).cons_cons mb).cons_cons a
  have hp : (a :: mb :: (insK Fl.key x (delK Fl.key x.name F)).flatMap Fl.foot).Perm (x.foot ++ (a :: mb :: (delK Fl.key x.name F).flatMap Fl.foot)) := by
    have h1 : ((insK Fl.key x (delK Fl.key x.name F)).flatMap Fl.foot).Perm (x.foot ++ (delK Fl.key x.name F).flatMap Fl.foot) := by
      have := (insK_perm (key := Fl.key) x (delK Fl.key x.name F)).flatMap_right Fl.foot
      simpa using this
    refine ((h1.cons mb).cons a).trans ?_
    have : (a :: mb :: (x.foot ++ (delK Fl.key x.name F).flatMap Fl.foot)).Perm ([a, mb] ++ (x.foot ++ (delK Fl.key x.name F).flatMap Fl.foot)) := List.Perm.refl _
    refine this.trans ?_
    rw [← List.append_assoc]
    exact (List.perm_append_comm.append_right _).trans (by rw [List.append_assoc]; exact List.Perm.refl _)
  refine ⟨?_, ?_, ?_, ?_, ?_, ?_, fun b hb => by have := h.lt b hb; have := hc.size; omega, hok⟩
  · obtain ⟨left, hl1, hl2⟩ := h.head
    exact ⟨left, hl1.chg hc h.neAM, hl2⟩
  · show insK AF.key x.abs (delK AF.key x.name s.L) = _
    rw [h.abs, ← delK_map (key := Fl.key) (key' := AF.key) (h := Fl.abs) (fun _ => rfl) x.name F]
    exact (insK_map (fun _ => rfl) x _).symm
  · rw [put_ent] at hm
    have := ownsMap_tight hm
    rwa [size_ent] at this
  · intro y hy
    rcases insK_mem.1 hy with rfl | hy
    · refine hx.same (fun b hb => hc.block b (h.lt b (hxS b hb)) (fun e => ?_))
      exact hxa b hb (by rw [e]; simp)
    · have hy := (delK_mem.1 hy).1
      refine (h.files y hy).same (fun b hb => hc.block b (h.lt b (h.inS b ?_)) (h.neAF hy hb).2)
      simp only [List.mem_cons, List.mem_flatMap]; exact .inr (.inr ⟨y, hy, hb⟩)
  · refine hp.nodup_iff.2 ?_
    rw [List.nodup_append]
    exact ⟨hY, h.apart.sublist hsub, fun b hb c hc' e => hxa b hb (by rw [e]; exact hsub.subset hc')⟩
  · intro b hb
    rcases List.mem_append.1 (hp.mem_iff.1 hb) with hb | hb
    · exact hxS b hb
    · exact h.inS b (hsub.subset hb)
/-- .. where the map does not have the name. -/
theorem DiskRep.put (h : DiskRep w S a mb F s) {x : Fl} (hno : fndK Fl.key x.name F = none) (hx : FileOk w x) (hxa : ∀ b ∈ x.foot, b ∉ a :: mb :: F.flatMap Fl.foot) (hxS : ∀ b ∈ x.foot, S b) (hk : F.length + 1 < maxLen)
    (hm : w'.ownsMap Tryz.prog 9 ptrElem mb (F.length + 1) (DataW.put (.map (entOf F)) (.string x.name) (.lit (.int .i64 (x.g : Int))))) (hc : Chg (fun b => b = mb) w w')
    (hok : ({ s with L := insK AF.key x.abs s.L } : Dk).Ok) :
    DiskRep w' S a mb (insK Fl.key x F) { s with L := insK AF.key x.abs s.L } := by
  have hnA : fndK AF.key x.name s.L = none := by rw [h.fnd, hno]; rfl
  have e1 := delK_none hno
  have e2 := delK_none hnA
  have := h.put' hx hxa hxS hk hm hc (by rw [e2]; exact hok)
  rwa [e1, e2] at this
end
end Go.Proofs.YtpcafkinpkepcaaGreatDoor

