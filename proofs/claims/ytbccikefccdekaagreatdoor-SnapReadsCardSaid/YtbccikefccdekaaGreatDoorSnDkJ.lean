import Derived.Test.YtbccikefccdekaaGreatDoorMq1J
import Derived.Test.YtbccikefccdekaaGreatDoorMq5J
/-
  LAYER 4 (snap), plain mathematics: Save and Load on a disk; what a Save makes of a disk that holds one snapshot, or none, whenever the power goes.
-/
namespace Go.Proofs.YtbccikefccdekaaGreatDoor
set_option linter.unusedVariables false
set_option maxRecDepth 100000

def draftN : List UInt8 := [116]
def dropS (s : Dk) (n : List UInt8) : Dk × Int := if (dele s n).2 = 4 then ((dele s n).1, 0) else dele s n
def appsS : Dk → List (List UInt8) → Dk × Int
  | s, [] => (s, 0)
  | s, f :: r => if (app s draftN f).2 = 0 then appsS (app s draftN f).1 r else app s draftN f
def filesL (L : List AF) : List (List UInt8) := (L.map AF.name).filter Sn.isSeg
def dropEach (k : List UInt8) : Dk → List (List UInt8) → Dk × Int
  | s, [] => (s, 0)
  | s, n :: r => if n = k then dropEach k s r else if (dele s n).2 = 0 then dropEach k (dele s n).1 r else dele s n
def dropOthersS (s : Dk) (k : List UInt8) : Dk × Int := dropEach k s (filesL s.L)
def thenS (r : Dk × Int) (k : Dk → Dk × Int) : Dk × Int := if r.2 = 0 then k r.1 else r
def replaceS (s : Dk) (b : Bs) : Dk × Int :=
  thenS (dropS s draftN) fun s => thenS (appsS s (framesS b)) fun s => thenS (syn s draftN) fun s => thenS (ren s draftN (Sn.segN b.ix)) fun s => dropOthersS s (Sn.segN b.ix)
def saveS (s : Dk) (b : Bs) : Dk × Int :=
  if rightS b = false then (s, 1) else
  if (replaceS s b).2 = 0 ∨ (replaceS s b).2 = 7 then replaceS s b else
  if (dropS (replaceS s b).1 draftN).2 = 7 then ((dropS (replaceS s b).1 draftN).1, 7) else ((dropS (replaceS s b).1 draftN).1, (replaceS s b).2)
def readS (s : Dk) (n : List UInt8) : Option Bs := if (unpackS (rd s n).1).2 = 0 ∧ Sn.segN (unpackS (rd s n).1).1.ix = n then some (unpackS (rd s n).1).1 else none
def loadS (s : Dk) : Option Bs := (Sn.sortSeg (filesL s.L)).findSome? (readS s)

/-! ### the names -/
theorem ix_nat {b : Bs} (h : rightS b = true) : ∃ n : Nat, b.ix = (n : Int) ∧ 1 ≤ n ∧ n ≤ 1099511627776 := by
  obtain ⟨⟨h1, h2⟩, _⟩ := rightS_parts h
  exact ⟨b.ix.toNat, by omega, by omega, by omega⟩
def nameS (b : Bs) : List UInt8 := Sn.segN b.ix
theorem nameS_is {b : Bs} (h : rightS b = true) : isName (nameS b) = true ∧ Sn.isSeg (nameS b) = true ∧ (Sn.segV (nameS b) : Int) = b.ix := by
  obtain ⟨n, hn, h1, h2⟩ := ix_nat h
  unfold nameS
  rw [hn]
  have := Sn.segV_segN h1 h2
  exact ⟨Sn.isName_segN h2, by unfold Sn.isSeg; rw [this]; simp; omega, by rw [this]⟩
theorem nameS_lt {b : Bs} : nameS b < draftN := by
  unfold nameS Sn.segN draftN
  exact List.cons_lt_cons_iff.2 (.inl (by decide))
theorem nameS_eq {a b : Bs} (ha : rightS a = true) (hb : rightS b = true) : nameS a = nameS b ↔ a.ix = b.ix :=
  ⟨fun h => by rw [← (nameS_is ha).2.2, ← (nameS_is hb).2.2, h], fun h => by unfold nameS; rw [h]⟩
theorem draft_not : Sn.isSeg draftN = false := by decide
theorem draft_name : isName draftN = true := by decide

/-! ### the disk's files: of the last snapshot, of the one that is being written -/
def snF (b : Bs) : AF := ⟨nameS b, packS b, (packS b).length⟩
def heldL : Option Bs → List AF
  | none => []
  | some b => [snF b]
def tF (d : List UInt8) (y : Nat) : AF := ⟨draftN, d, y⟩
def oRight (o : Option Bs) : Prop := ∀ b, o = some b → rightS b = true
def oLen : Option Bs → Nat
  | none => 0
  | some b => (packS b).length
theorem sz_held (o : Option Bs) : sz (heldL o) = oLen o := by
  cases o with
  | none => rfl
  | some b => simp [heldL, sz, snF, oLen]
theorem sz_app (L M : List AF) : sz (L ++ M) = sz L + sz M := by unfold sz; rw [List.map_append, List.sum_append]
theorem held_ne {o : Option Bs} : ∀ f ∈ heldL o, f.name ≠ draftN := by
  intro f hf
  cases o with
  | none => simp [heldL] at hf
  | some b =>
    simp [heldL] at hf
    subst hf
    exact blt_ne nameS_lt
theorem fnd_held (o : Option Bs) : fndK AF.key draftN (heldL o) = none := by
  unfold fndK
  rw [List.find?_eq_none]
  intro f hf
  simpa using held_ne f hf
theorem fnd_t (o : Option Bs) (d : List UInt8) (y : Nat) : fndK AF.key draftN (heldL o ++ [tF d y]) = some (tF d y) := by
  have := fnd_held o
  unfold fndK at this ⊢
  rw [List.find?_append, this]
  simp [tF, AF.key]
theorem ins_t (o : Option Bs) (d : List UInt8) (y : Nat) : insK AF.key (tF d y) (heldL o) = heldL o ++ [tF d y] := by
  cases o with
  | none => rfl
  | some b =>
    have h : ¬ draftN < nameS b := blt_asymm nameS_lt
    simp [heldL, insK, tF, snF, AF.key, h]
theorem upd_t (o : Option Bs) (d : List UInt8) (y : Nat) (g : AF → AF) : updK AF.key draftN g (heldL o ++ [tF d y]) = heldL o ++ [g (tF d y)] := by
  unfold updK
  rw [List.map_append]
  have e : (heldL o).map (fun x => if AF.key x = draftN then g x else x) = heldL o := by
    conv => rhs; rw [← List.map_id (heldL o)]
    apply List.map_congr_left
    intro f hf
    rw [if_neg (held_ne f hf)]; rfl
  rw [e]
  simp [tF, AF.key]
theorem del_t (o : Option Bs) (d : List UInt8) (y : Nat) : delK AF.key draftN (heldL o ++ [tF d y]) = heldL o := by
  unfold delK
  rw [List.filter_append, List.filter_eq_self.2 (fun f hf => by simpa using held_ne f hf)]
  simp [tF, AF.key]

/-- A disk that lives: the last snapshot, and what stands in the draft. -/
structure Hs (s : Dk) (o : Option Bs) (x : Option (List UInt8 × Nat)) : Prop where
  ok : s.Ok
  dead : s.dead = false
  L : s.L = heldL o ++ (match x with | none => [] | some p => [tF p.1 p.2])
/-- Or it has died over a draft whose bytes are not safe, or are. -/
def Dies (s : Dk) (o : Option Bs) : Prop := s.Ok ∧ s.dead = true ∧ (s.L = heldL o ∨ ∃ d y, s.L = heldL o ++ [tF d y])
def tick (f : Int) : Int := if 0 < f then f - 1 else f
theorem spends_cases (s : Dk) (k : Dk → Dk) : (s.fuse = 0 ∧ spends s k = ({ s with dead := true }, 7)) ∨ (s.fuse ≠ 0 ∧ spends s k = (k { s with fuse := tick s.fuse }, 0)) := by
  unfold spends tick
  by_cases h : s.fuse = 0
  · exact .inl ⟨h, by rw [if_pos h]⟩
  · exact .inr ⟨h, by rw [if_neg h]⟩
theorem Ok_dead {s : Dk} (h : s.Ok) : ({ s with dead := true } : Dk).Ok := ⟨h.rise, h.names, h.sync, h.many, h.room, h.most, h.fuse⟩
theorem held_len (o : Option Bs) : (heldL o).length ≤ 1 := by cases o <;> simp [heldL]
/-- One frame put behind. -/
theorem app_t {s : Dk} {o : Option Bs} {d : List UInt8} (h : Hs s o (some (d, 0))) (f : List UInt8) (hr : (oLen o + d.length + f.length : Int) ≤ s.most) :
    ((app s draftN f).2 = 7 ∧ s.fuse ≠ -1 ∧ Dies (app s draftN f).1 o) ∨ ((app s draftN f).2 = 0 ∧ Hs (app s draftN f).1 o (some (d ++ f, 0)) ∧ (app s draftN f).1.most = s.most ∧ (s.fuse = -1 → (app s draftN f).1.fuse = -1)) := by
  have hL : s.L = heldL o ++ [tF d 0] := h.L
  have hsz : sz s.L = oLen o + d.length := by rw [hL, sz_app, sz_held]; simp [sz, tF]
  have hok := Ok_app h.ok draftN f
  have e : app s draftN f = spends s fun s => { s with L := updK AF.key draftN (addF f) s.L } := by
    unfold app
    rw [h.dead, draft_name, hL, fnd_t]
    simp only [Bool.false_eq_true, if_false, reduceCtorEq]
    rw [← hL, if_neg (by omega)]
  rcases spends_cases s (fun s => { s with L := updK AF.key draftN (addF f) s.L }) with ⟨hf, h1⟩ | ⟨hf, h1⟩
  · rw [h1] at e
    rw [e] at hok ⊢
    exact .inl ⟨rfl, by omega, hok, rfl, .inr ⟨d, 0, hL⟩⟩
  · rw [h1] at e
    rw [e] at hok ⊢
    refine .inr ⟨rfl, ⟨hok, h.dead, ?_⟩, rfl, fun e => by show tick s.fuse = -1; rw [e]; rfl⟩
    show updK AF.key draftN (addF f) s.L = _
    rw [hL, upd_t]
    rfl
/-- The first one. -/
theorem app_first {s : Dk} {o : Option Bs} (h : Hs s o none) (f : List UInt8) (hr : (oLen o + f.length : Int) ≤ s.most) :
    ((app s draftN f).2 = 7 ∧ s.fuse ≠ -1 ∧ Dies (app s draftN f).1 o) ∨ ((app s draftN f).2 = 0 ∧ Hs (app s draftN f).1 o (some (f, 0)) ∧ (app s draftN f).1.most = s.most ∧ (s.fuse = -1 → (app s draftN f).1.fuse = -1)) := by
  have hL : s.L = heldL o := by rw [h.L, List.append_nil]
  have hsz : sz s.L = oLen o := by rw [hL, sz_held]
  have hok := Ok_app h.ok draftN f
  have hl := held_len o
  have e : app s draftN f = spends s fun s => { s with L := insK AF.key (newF draftN f) s.L } := by
    unfold app
    rw [h.dead, draft_name, hL, fnd_held]
    simp only [Bool.false_eq_true, if_false, reduceCtorEq]
    rw [if_neg (by omega), ← hL, if_neg (by omega)]
  rcases spends_cases s (fun s => { s with L := insK AF.key (newF draftN f) s.L }) with ⟨hf, h1⟩ | ⟨hf, h1⟩
  · rw [h1] at e
    rw [e] at hok ⊢
    exact .inl ⟨rfl, by omega, hok, rfl, .inl hL⟩
  · rw [h1] at e
    rw [e] at hok ⊢
    refine .inr ⟨rfl, ⟨hok, h.dead, ?_⟩, rfl, fun e => by show tick s.fuse = -1; rw [e]; rfl⟩
    show insK AF.key (newF draftN f) s.L = _
    rw [hL]
    exact ins_t o f 0
theorem apps_t : ∀ (l : List (List UInt8)) {s : Dk} {o : Option Bs} {d : List UInt8}, Hs s o (some (d, 0)) → (oLen o + d.length + l.flatten.length : Int) ≤ s.most →
    ((appsS s l).2 = 7 ∧ s.fuse ≠ -1 ∧ Dies (appsS s l).1 o) ∨ ((appsS s l).2 = 0 ∧ Hs (appsS s l).1 o (some (d ++ l.flatten, 0)) ∧ (appsS s l).1.most = s.most ∧ (s.fuse = -1 → (appsS s l).1.fuse = -1))
  | [], s, o, d, h, _ => .inr ⟨rfl, by rw [List.flatten_nil, List.append_nil]; exact h, rfl, fun e => e⟩
  | f :: r, s, o, d, h, hr => by
    rw [List.flatten_cons, List.length_append] at hr
    unfold appsS
    rcases app_t h f (by omega) with ⟨h1, hf, h2⟩ | ⟨h1, h2, h3, h4⟩
    · rw [if_neg (by omega)]; exact .inl ⟨h1, hf, h2⟩
    · rw [if_pos h1]
      rcases apps_t r h2 (by rw [h3, List.length_append]; omega) with ⟨k1, kf, k2⟩ | ⟨k1, k2, k3, k4⟩
      · exact .inl ⟨k1, fun e => kf (h4 e), k2⟩
      · exact .inr ⟨k1, by rw [List.flatten_cons, ← List.append_assoc]; exact k2, by rw [k3, h3], fun e => k4 (h4 e)⟩
theorem apps_first {s : Dk} {o : Option Bs} (h : Hs s o none) (b : Bs) (hr : (oLen o + (packS b).length : Int) ≤ s.most) :
    ((appsS s (framesS b)).2 = 7 ∧ s.fuse ≠ -1 ∧ Dies (appsS s (framesS b)).1 o) ∨ ((appsS s (framesS b)).2 = 0 ∧ Hs (appsS s (framesS b)).1 o (some (packS b, 0)) ∧ (appsS s (framesS b)).1.most = s.most ∧ (s.fuse = -1 → (appsS s (framesS b)).1.fuse = -1)) := by
  have e : framesS b = frameL (headS b) :: (chunksS b.data).map frameL := rfl
  have e2 : packS b = frameL (headS b) ++ ((chunksS b.data).map frameL).flatten := rfl
  rw [e2, List.length_append] at hr
  rw [e, e2]
  generalize frameL (headS b) = f at *
  generalize (chunksS b.data).map frameL = r at *
  unfold appsS
  rcases app_first h f (by omega) with ⟨h1, hf, h2⟩ | ⟨h1, h2, h3, h4⟩
  · rw [if_neg (by omega)]; exact .inl ⟨h1, hf, h2⟩
  · rw [if_pos h1]
    rcases apps_t r h2 (by rw [h3]; omega) with ⟨k1, kf, k2⟩ | ⟨k1, k2, k3, k4⟩
    · exact .inl ⟨k1, fun e => kf (h4 e), k2⟩
    · exact .inr ⟨k1, k2, by rw [k3, h3], fun e => k4 (h4 e)⟩
theorem drop_none {s : Dk} {o : Option Bs} (h : Hs s o none) : dropS s draftN = (s, 0) := by
  have hL : s.L = heldL o := by rw [h.L, List.append_nil]
  have e : dele s draftN = (s, 4) := by unfold dele need; rw [h.dead, hL, fnd_held]; rfl
  unfold dropS
  rw [e]
  rfl
theorem syn_t {s : Dk} {o : Option Bs} {d : List UInt8} (h : Hs s o (some (d, 0))) :
    ((syn s draftN).2 = 7 ∧ s.fuse ≠ -1 ∧ Dies (syn s draftN).1 o) ∨ ((syn s draftN).2 = 0 ∧ Hs (syn s draftN).1 o (some (d, d.length)) ∧ (syn s draftN).1.most = s.most ∧ (s.fuse = -1 → (syn s draftN).1.fuse = -1)) := by
  have hL : s.L = heldL o ++ [tF d 0] := h.L
  have hok := Ok_syn h.ok draftN
  have e : syn s draftN = spends s fun s => { s with L := updK AF.key draftN syncF s.L } := by
    unfold syn need
    rw [h.dead, hL, fnd_t]
    rfl
  rcases spends_cases s (fun s => { s with L := updK AF.key draftN syncF s.L }) with ⟨hf, h1⟩ | ⟨hf, h1⟩
  · rw [h1] at e
    rw [e] at hok ⊢
    exact .inl ⟨rfl, by omega, hok, rfl, .inr ⟨d, 0, hL⟩⟩
  · rw [h1] at e
    rw [e] at hok ⊢
    refine .inr ⟨rfl, ⟨hok, h.dead, ?_⟩, rfl, fun e => by show tick s.fuse = -1; rw [e]; rfl⟩
    show updK AF.key draftN syncF s.L = _
    rw [hL, upd_t]
    rfl
/-- Both snapshots there. -/
def bothL (o : Option Bs) (b : Bs) : List AF := insK AF.key (snF b) (delK AF.key (nameS b) (heldL o))
theorem ren_t {s : Dk} {o : Option Bs} {b : Bs} (hb : rightS b = true) (h : Hs s o (some (packS b, (packS b).length))) :
    ((ren s draftN (nameS b)).2 = 7 ∧ s.fuse ≠ -1 ∧ Dies (ren s draftN (nameS b)).1 o) ∨ ((ren s draftN (nameS b)).2 = 0 ∧ (ren s draftN (nameS b)).1.Ok ∧ (ren s draftN (nameS b)).1.dead = false ∧ (ren s draftN (nameS b)).1.L = bothL o b ∧ (ren s draftN (nameS b)).1.most = s.most ∧ (s.fuse = -1 → (ren s draftN (nameS b)).1.fuse = -1)) := by
  have hL : s.L = heldL o ++ [tF (packS b) (packS b).length] := h.L
  have hok := Ok_ren h.ok draftN (nameS b)
  have e : ren s draftN (nameS b) = spends s fun s => { s with L := insK AF.key { tF (packS b) (packS b).length with name := nameS b } (delK AF.key (nameS b) (delK AF.key draftN s.L)) } := by
    unfold ren need
    rw [h.dead, hL, fnd_t, (nameS_is hb).1]
    rfl
  rcases spends_cases s (fun s => { s with L := insK AF.key { tF (packS b) (packS b).length with name := nameS b } (delK AF.key (nameS b) (delK AF.key draftN s.L)) }) with ⟨hf, h1⟩ | ⟨hf, h1⟩
  · rw [h1] at e
    rw [e] at hok ⊢
    exact .inl ⟨rfl, by omega, hok, rfl, .inr ⟨_, _, hL⟩⟩
  · rw [h1] at e
    rw [e] at hok ⊢
    refine .inr ⟨rfl, hok, h.dead, ?_, rfl, fun e => by show tick s.fuse = -1; rw [e]; rfl⟩
    show insK AF.key _ (delK AF.key (nameS b) (delK AF.key draftN s.L)) = _
    rw [hL, del_t]
    rfl
/-- What the two files are: the new one alone, or both, by their names. -/
theorem both_cases (o : Option Bs) {b : Bs} (ho : oRight o) (hb : rightS b = true) : bothL o b = [snF b] ∨ ∃ a, o = some a ∧ a.ix ≠ b.ix ∧ (bothL o b = [snF b, snF a] ∨ bothL o b = [snF a, snF b]) := by
  cases o with
  | none => exact .inl rfl
  | some a =>
    by_cases hn : nameS a = nameS b
    · left
      unfold bothL delK heldL
      simp [snF, AF.key, hn, insK]
    · right
      refine ⟨a, rfl, fun e => hn ((nameS_eq (ho a rfl) hb).2 e), ?_⟩
      unfold bothL delK heldL
      by_cases hlt : nameS b < nameS a
      · left; simp [snF, AF.key, hn, insK, hlt]
      · right; simp [snF, AF.key, hn, insK, hlt]
end Go.Proofs.YtbccikefccdekaaGreatDoor

