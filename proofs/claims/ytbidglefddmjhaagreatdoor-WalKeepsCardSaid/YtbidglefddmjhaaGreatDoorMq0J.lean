import Derived.Test.YtbidglefddmjhaaGreatDoorProg
import Derived.Shelf.Strconv.Itoa3
import Derived.Shelf.Strconv.AtoiAll
import Derived.WalkKit
import Derived.KernelRfl
import Derived.Lib.Builder
import Derived.Lib.Strings
import Derived.Lib.UnsafeStr
import Derived.Laws.BytesArg
import Derived.Laws.OwnMore
import Derived.Lib.ConvBytes
import Derived.Deep.QuietTactic
import Derived.BigQuiet
import Derived.Deep.RegionWith
import Derived.Lib.Slices
import Derived.Lib.AppendStr
import Derived.Laws.Externs
import Derived.BigRegion
import Derived.Lib.BitFns
import Derived.Laws.BitsAllLaws
import Derived.RowKit
import Init
import Derived.Shelf.Strconv.Itoa0
import Derived.Shelf.Strings.Prefix
import Derived.Test.YtbidglefddmjhaaGreatDoorRows
import Derived.ProofKit
import Derived.OpenShut
import Derived.Carry
import Derived.Laws.BytesString
import Derived.Maps.RangeWalk
import Derived.WalkLawsBesides
import Derived.Lib.ItoaLen
/-
  strconv.Itoa and strconv.Atoi: the library's contracts, laid (the tables of numbers in plain words).
-/
namespace Go.Proofs.YtbidglefddmjhaaGreatDoor
open Go.Shelf
set_option maxRecDepth 100000
def Tryz.itoaA_ren : Go.Shelf.Ren := ⟨fun | 171 => 130 | 243 => 180 | 246 => 205 | 283 => 227 | 284 => 228 | 285 => 229 | 286 => 230 | 129 => 177 | 317 => 238 | 318 => 239 | 319 => 240 | 320 => 241 | 337 => 245 | 338 => 246 | n => n, fun | 3 => 3 | 9 => 9 | 2 => 2 | 4 => 4 | 171 => 259 | 0 => 0 | 53 => 213 | 37 => 84 | 5 => 5 | 173 => 261 | 212 => 272 | 51 => 201 | 20 => 20 | 213 => 273 | 46 => 175 | 232 => 279 | 233 => 280 | n => n, fun | 17 => 3 | 18 => 4 | 19 => 5 | n => n⟩
theorem Tryz.itoaA : Go.Proofs.LaysM.n171 Tryz.prog Tryz.itoaA_ren := {
  mixed := by kernel_rfl
  f129 := Tryz.func177.trans (congrArg some (by kernel_rfl))
  f171 := Tryz.func130.trans (congrArg some (by kernel_rfl))
  f243 := Tryz.func180.trans (congrArg some (by kernel_rfl))
  f246 := Tryz.func205.trans (congrArg some (by kernel_rfl))
  f283 := Tryz.func227.trans (congrArg some (by kernel_rfl))
  f284 := Tryz.func228.trans (congrArg some (by kernel_rfl))
  f285 := Tryz.func229.trans (congrArg some (by kernel_rfl))
  f286 := Tryz.func230.trans (congrArg some (by kernel_rfl))
  f317 := Tryz.func238.trans (congrArg some (by kernel_rfl))
  f318 := Tryz.func239.trans (congrArg some (by kernel_rfl))
  f319 := Tryz.func240.trans (congrArg some (by kernel_rfl))
  f320 := Tryz.func241.trans (congrArg some (by kernel_rfl))
  f337 := Tryz.func245.trans (congrArg some (by kernel_rfl))
  f338 := Tryz.func246.trans (congrArg some (by kernel_rfl))
  t0 := Tryz.underlying0
  a0 := Tryz.isAgg0
  z0 := Tryz.sizeOf0
  v0 := Tryz.zeroValue0
  t2 := Tryz.underlying2
  a2 := Tryz.isAgg2
  z2 := Tryz.sizeOf2
  v2 := Tryz.zeroValue2
  t3 := Tryz.underlying3
  a3 := Tryz.isAgg3
  z3 := Tryz.sizeOf3
  v3 := Tryz.zeroValue3
  t4 := Tryz.underlying4
  a4 := Tryz.isAgg4
  z4 := Tryz.sizeOf4
  v4 := Tryz.zeroValue4
  t5 := Tryz.underlying5
  a5 := Tryz.isAgg5
  z5 := Tryz.sizeOf5
  v5 := Tryz.zeroValue5
  t9 := Tryz.underlying9
  a9 := Tryz.isAgg9
  z9 := Tryz.sizeOf9
  v9 := Tryz.zeroValue9
  t20 := Tryz.underlying20
  a20 := Tryz.isAgg20
  z20 := Tryz.sizeOf20
  v20 := Tryz.zeroValue20
  t37 := Tryz.underlying84
  a37 := Tryz.isAgg84
  z37 := Tryz.sizeOf84
  v37 := Tryz.zeroValue84
  t46 := Tryz.underlying175
  a46 := Tryz.isAgg175
  z46 := Tryz.sizeOf175
  v46 := Tryz.zeroValue175
  t51 := Tryz.underlying201
  a51 := Tryz.isAgg201
  z51 := Tryz.sizeOf201
  v51 := Tryz.zeroValue201
  t53 := Tryz.underlying213
  a53 := Tryz.isAgg213
  z53 := Tryz.sizeOf213
  v53 := Tryz.zeroValue213
  t171 := Tryz.underlying259
  a171 := Tryz.isAgg259
  z171 := Tryz.sizeOf259
  v171 := Tryz.zeroValue259
  t173 := Tryz.underlying261
  a173 := Tryz.isAgg261
  z173 := Tryz.sizeOf261
  v173 := Tryz.zeroValue261
  t212 := Tryz.underlying272
  a212 := Tryz.isAgg272
  z212 := Tryz.sizeOf272
  v212 := Tryz.zeroValue272
  t213 := Tryz.underlying273
  a213 := Tryz.isAgg273
  z213 := Tryz.sizeOf273
  t232 := Tryz.underlying279
  a232 := Tryz.isAgg279
  z232 := Tryz.sizeOf279
  v232 := Tryz.zeroValue279
  t233 := Tryz.underlying280
  a233 := Tryz.isAgg280
  z233 := Tryz.sizeOf280
  v233 := Tryz.zeroValue280
  g17 := by kernel_rfl
  g18 := by kernel_rfl
  g19 := by kernel_rfl
  i0 := by kernel_rfl
  i2 := by kernel_rfl
  i3 := by kernel_rfl
  i4 := by kernel_rfl
  i5 := by kernel_rfl
  i9 := by kernel_rfl
  i20 := by kernel_rfl
  i37 := by kernel_rfl
  i46 := by kernel_rfl
  i51 := by kernel_rfl
  i53 := by kernel_rfl
  i171 := by kernel_rfl
  i173 := by kernel_rfl
  i212 := by kernel_rfl
  i232 := by kernel_rfl
  i233 := by kernel_rfl
  m17 := by kernel_rfl
  m18 := by kernel_rfl
  m19 := by kernel_rfl }
def Tryz.atoiA_ren : Go.Shelf.Ren := ⟨fun | 172 => 167 | 244 => 198 | 245 => 199 | 247 => 221 | 279 => 222 | 280 => 223 | 281 => 224 | 282 => 225 | 287 => 236 | 316 => 179 | 171 => 130 | 205 => 237 | 321 => 243 | 322 => 244 | 243 => 180 | 246 => 205 | 283 => 227 | 284 => 228 | 285 => 229 | 286 => 230 | 129 => 177 | 317 => 238 | 318 => 239 | 319 => 240 | 320 => 241 | 337 => 245 | 338 => 246 | n => n, fun | 9 => 9 | 3 => 3 | 75 => 145 | 76 => 146 | 4 => 4 | 5 => 5 | 167 => 250 | 37 => 84 | 0 => 0 | 85 => 251 | 2 => 2 | 168 => 253 | 53 => 213 | 175 => 266 | 46 => 175 | 210 => 269 | 127 => 188 | 145 => 278 | 143 => 276 | 21 => 21 | 171 => 259 | 173 => 261 | 212 => 272 | 51 => 201 | 20 => 20 | 213 => 273 | 232 => 279 | 233 => 280 | 80 => 148 | n => n, fun | 15 => 1 | 16 => 2 | 17 => 3 | 18 => 4 | 19 => 5 | n => n⟩
theorem Tryz.atoiA : Go.Proofs.LaysC.n172 Tryz.prog Tryz.atoiA_ren := {
  mixed := by kernel_rfl
  f129 := Tryz.func177.trans (congrArg some (by kernel_rfl))
  f171 := Tryz.func130.trans (congrArg some (by kernel_rfl))
  f172 := Tryz.func167.trans (congrArg some (by kernel_rfl))
  f205 := Tryz.func237.trans (congrArg some (by kernel_rfl))
  f243 := Tryz.func180.trans (congrArg some (by kernel_rfl))
  f244 := Tryz.func198.trans (congrArg some (by kernel_rfl))
  f245 := Tryz.func199.trans (congrArg some (by kernel_rfl))
  f246 := Tryz.func205.trans (congrArg some (by kernel_rfl))
  f247 := Tryz.func221.trans (congrArg some (by kernel_rfl))
  f279 := Tryz.func222.trans (congrArg some (by kernel_rfl))
  f280 := Tryz.func223.trans (congrArg some (by kernel_rfl))
  f281 := Tryz.func224.trans (congrArg some (by kernel_rfl))
  f282 := Tryz.func225.trans (congrArg some (by kernel_rfl))
  f283 := Tryz.func227.trans (congrArg some (by kernel_rfl))
  f284 := Tryz.func228.trans (congrArg some (by kernel_rfl))
  f285 := Tryz.func229.trans (congrArg some (by kernel_rfl))
  f286 := Tryz.func230.trans (congrArg some (by kernel_rfl))
  f287 := Tryz.func236.trans (congrArg some (by kernel_rfl))
  f316 := Tryz.func179.trans (congrArg some (by kernel_rfl))
  f317 := Tryz.func238.trans (congrArg some (by kernel_rfl))
  f318 := Tryz.func239.trans (congrArg some (by kernel_rfl))
  f319 := Tryz.func240.trans (congrArg some (by kernel_rfl))
  f320 := Tryz.func241.trans (congrArg some (by kernel_rfl))
  f321 := Tryz.func243.trans (congrArg some (by kernel_rfl))
  f322 := Tryz.func244.trans (congrArg some (by kernel_rfl))
  f337 := Tryz.func245.trans (congrArg some (by kernel_rfl))
  f338 := Tryz.func246.trans (congrArg some (by kernel_rfl))
  t0 := Tryz.underlying0
  a0 := Tryz.isAgg0
  z0 := Tryz.sizeOf0
  v0 := Tryz.zeroValue0
  t2 := Tryz.underlying2
  a2 := Tryz.isAgg2
  z2 := Tryz.sizeOf2
  v2 := Tryz.zeroValue2
  t3 := Tryz.underlying3
  a3 := Tryz.isAgg3
  z3 := Tryz.sizeOf3
  v3 := Tryz.zeroValue3
  t4 := Tryz.underlying4
  a4 := Tryz.isAgg4
  z4 := Tryz.sizeOf4
  v4 := Tryz.zeroValue4
  t5 := Tryz.underlying5
  a5 := Tryz.isAgg5
  z5 := Tryz.sizeOf5
  v5 := Tryz.zeroValue5
  t9 := Tryz.underlying9
  a9 := Tryz.isAgg9
  z9 := Tryz.sizeOf9
  v9 := Tryz.zeroValue9
  t20 := Tryz.underlying20
  a20 := Tryz.isAgg20
  z20 := Tryz.sizeOf20
  v20 := Tryz.zeroValue20
  t21 := Tryz.underlying21
  a21 := Tryz.isAgg21
  z21 := Tryz.sizeOf21
  v21 := Tryz.zeroValue21
  t37 := Tryz.underlying84
  a37 := Tryz.isAgg84
  z37 := Tryz.sizeOf84
  v37 := Tryz.zeroValue84
  t46 := Tryz.underlying175
  a46 := Tryz.isAgg175
  z46 := Tryz.sizeOf175
  v46 := Tryz.zeroValue175
  t51 := Tryz.underlying201
  a51 := Tryz.isAgg201
  z51 := Tryz.sizeOf201
  v51 := Tryz.zeroValue201
  t53 := Tryz.underlying213
  a53 := Tryz.isAgg213
  z53 := Tryz.sizeOf213
  v53 := Tryz.zeroValue213
  t75 := Tryz.underlying145
  a75 := Tryz.isAgg145
  z75 := Tryz.sizeOf145
  v75 := Tryz.zeroValue145
  t76 := Tryz.underlying146
  a76 := Tryz.isAgg146
  z76 := Tryz.sizeOf146
  v76 := Tryz.zeroValue146
  t85 := Tryz.underlying251
  a85 := Tryz.isAgg251
  z85 := Tryz.sizeOf251
  v85 := Tryz.zeroValue251
  t127 := Tryz.underlying188
  a127 := Tryz.isAgg188
  z127 := Tryz.sizeOf188
  v127 := Tryz.zeroValue188
  t143 := Tryz.underlying276
  a143 := Tryz.isAgg276
  z143 := Tryz.sizeOf276
  v143 := Tryz.zeroValue276
  t145 := Tryz.underlying278
  a145 := Tryz.isAgg278
  z145 := Tryz.sizeOf278
  v145 := Tryz.zeroValue278
  t167 := Tryz.underlying250
  a167 := Tryz.isAgg250
  z167 := Tryz.sizeOf250
  v167 := Tryz.zeroValue250
  t168 := Tryz.underlying253
  a168 := Tryz.isAgg253
  z168 := Tryz.sizeOf253
  v168 := Tryz.zeroValue253
  t171 := Tryz.underlying259
  a171 := Tryz.isAgg259
  z171 := Tryz.sizeOf259
  v171 := Tryz.zeroValue259
  t173 := Tryz.underlying261
  a173 := Tryz.isAgg261
  z173 := Tryz.sizeOf261
  v173 := Tryz.zeroValue261
  t175 := Tryz.underlying266
  a175 := Tryz.isAgg266
  z175 := Tryz.sizeOf266
  v175 := Tryz.zeroValue266
  t210 := Tryz.underlying269
  a210 := Tryz.isAgg269
  z210 := Tryz.sizeOf269
  v210 := Tryz.zeroValue269
  t212 := Tryz.underlying272
  a212 := Tryz.isAgg272
  z212 := Tryz.sizeOf272
  v212 := Tryz.zeroValue272
  t213 := Tryz.underlying273
  a213 := Tryz.isAgg273
  z213 := Tryz.sizeOf273
  t232 := Tryz.underlying279
  a232 := Tryz.isAgg279
  z232 := Tryz.sizeOf279
  v232 := Tryz.zeroValue279
  t233 := Tryz.underlying280
  a233 := Tryz.isAgg280
  z233 := Tryz.sizeOf280
  v233 := Tryz.zeroValue280
  g15 := by kernel_rfl
  g16 := by kernel_rfl
  g17 := by kernel_rfl
  g18 := by kernel_rfl
  g19 := by kernel_rfl
  t80 := Tryz.underlying148
  a80 := Tryz.isAgg148
  z80 := Tryz.sizeOf148
  v80 := Tryz.zeroValue148
  i0 := by kernel_rfl
  i2 := by kernel_rfl
  i3 := by kernel_rfl
  i4 := by kernel_rfl
  i5 := by kernel_rfl
  i9 := by kernel_rfl
  i20 := by kernel_rfl
  i21 := by kernel_rfl
  i37 := by kernel_rfl
  i46 := by kernel_rfl
  i51 := by kernel_rfl
  i53 := by kernel_rfl
  i75 := by kernel_rfl
  i76 := by kernel_rfl
  i80 := by kernel_rfl
  i85 := by kernel_rfl
  i127 := by kernel_rfl
  i143 := by kernel_rfl
  i145 := by kernel_rfl
  i167 := by kernel_rfl
  i168 := by kernel_rfl
  i171 := by kernel_rfl
  i173 := by kernel_rfl
  i175 := by kernel_rfl
  i210 := by kernel_rfl
  i212 := by kernel_rfl
  i232 := by kernel_rfl
  i233 := by kernel_rfl
  m15 := by kernel_rfl
  m16 := by kernel_rfl
  m17 := by kernel_rfl
  m18 := by kernel_rfl
  m19 := by kernel_rfl
  c0 := by kernel_rfl
  c2 := by kernel_rfl
  c3 := by kernel_rfl
  c4 := by kernel_rfl
  c5 := by kernel_rfl
  c9 := by kernel_rfl
  c20 := by kernel_rfl
  c21 := by kernel_rfl
  c37 := by kernel_rfl
  c46 := by kernel_rfl
  c51 := by kernel_rfl
  c53 := by kernel_rfl
  c75 := by kernel_rfl
  c76 := by kernel_rfl
  c80 := by kernel_rfl
  c85 := by kernel_rfl
  c127 := by kernel_rfl
  c143 := by kernel_rfl
  c145 := by kernel_rfl
  c167 := by kernel_rfl
  c168 := by kernel_rfl
  c171 := by kernel_rfl
  c173 := by kernel_rfl
  c175 := by kernel_rfl
  c210 := by kernel_rfl
  c212 := by kernel_rfl
  c213 := by kernel_rfl
  c232 := by kernel_rfl
  c233 := by kernel_rfl }
end Go.Proofs.YtbidglefddmjhaaGreatDoor

/-
  SMALL LAWS THAT EVERY LAYER USES: rows of bytes that the call has made itself; strings cut and joined; what stays below a block.
-/
namespace Go.Proofs.YtbidglefddmjhaaGreatDoor
open Go.RowKit
set_option linter.unusedVariables false
set_option maxRecDepth 100000

theorem hid {p : Prop} (h : p) : Hid p := h

theorem infoByte : (Tryz.prog.info? 5).map (fun i => (i.zero, i.size, i.bytes)) = some (some (.int .u8 0), 1, 1) := by kernel_rfl
theorem infoByte_parts : ∃ i, Tryz.prog.info? 5 = some i ∧ i.zero = some (.int .u8 0) ∧ i.size = 1 ∧ i.bytes = 1 := by
  obtain ⟨i, hi, hz⟩ := Option.map_eq_some_iff.1 infoByte
  simp only [Prod.mk.injEq] at hz
  exact ⟨i, hi, hz.1, hz.2.1, hz.2.2⟩
theorem cellsByte : Tryz.prog.cellsOf 5 = 1 := by kernel_rfl

/-- A row of bytes that the call has made itself (from block B on). -/
def Bytes (w : World) (B : Nat) (v : Value) (l : List UInt8) : Prop := w.ownsRow B 5 1 v l.length (Lib.byteCells l)

theorem byteCells_getElem? (l : List UInt8) (j : Nat) (u : Value) (h : (Lib.byteCells l)[j]? = some u) : ∃ c, l[j]? = some c ∧ u = .int .u8 c.toNat := by
  simp only [Lib.byteCells, List.getElem?_map, Option.map_eq_some_iff] at h
  obtain ⟨c, hc, rfl⟩ := h
  exact ⟨c, hc, rfl⟩
theorem byteCells_one (l : List UInt8) : ∀ u ∈ Lib.byteCells l, u.oneCell' = true := by
  intro u hu
  simp only [Lib.byteCells, List.mem_map] at hu
  obtain ⟨c, _, rfl⟩ := hu
  rfl

/-- Its shape, where it holds a byte. -/
theorem Bytes.shape {w : World} {B : Nat} {v : Value} {l : List UInt8} (h : Bytes w B v l) (h0 : l ≠ []) :
    ∃ g cap, v = .slice (some ⟨g, 0, none⟩) l.length cap ∧ B ≤ g ∧ g < w.heap.size ∧ l.length ≤ cap ∧ cap ≤ maxLen ∧ (∀ j c, l[j]? = some c → w.cell? ⟨g, j, none⟩ = some (.int .u8 c.toNat)) ∧ ∀ j, w.frozen? ⟨g, j, none⟩ = false := by
  have hlen : l.length ≠ 0 := by simpa using h0
  have hcs := fun g hg => World.ownsRow.cells h (g := g) hg
  have hlt := World.ownsRow.lt h
  rcases h.2 with ⟨_, hz⟩ | ⟨g, cap, cur, rfl, hB, hg, hnc, hcm, hcs', htake⟩
  · exact absurd hz hlen
  · refine ⟨g, cap, rfl, hB, (hlt g rfl).2, hnc, hcm, ?_, fun j => Lib.frozen_of_heap hg j⟩
    intro j c hj
    have := hcs g rfl j (.int .u8 c.toNat) (by simp [Lib.byteCells, hj])
    have hadd : (⟨g, 0, none⟩ : Addr).add j = ⟨g, j, none⟩ := by unfold Addr.add; split <;> simp_all
    rw [hadd] at this
    exact this

theorem ownsRow_below {w w' : World} {B B' : Nat} {e : TypeId} {size : Nat} {v : Value} {n : Nat} {xs : List Value} (h : w.ownsRow B e size v n xs) (hb : Below B' w w') (hB : w.heap.size ≤ B') : w'.ownsRow B e size v n xs := by
  refine h.kept (row := none) ⟨hb.os, hb.tape, hb.output, hb.size, fun k hk _ => hb.block k (by omega)⟩ ?_
  cases hv : v.ownBlock <;> simp

/-- One that holds just one byte, laid by '[]byte{c}'. -/
theorem Bytes.one (w : World) (B : Nat) (c : Nat) (n : Int) (hn : n = (c : Int)) (hc : c < 256) (hB : B ≤ w.heap.size) : Bytes (w.alloc (.cells #[.int .u8 n] 5)) B (.slice (some ⟨w.heap.size, 0, none⟩) 1 1) [UInt8.ofNat c] := by
  subst hn
  have : (UInt8.ofNat c).toNat = c := by rw [UInt8.toNat_ofNat']; exact Nat.mod_eq_of_lt hc
  refine ⟨by simp [Lib.byteCells], .inr ⟨w.heap.size, 1, #[.int .u8 (c : Int)], rfl, hB, heap_alloc_new w _, Nat.le_refl _, by unfold maxLen; omega, by simp, by simp [Lib.byteCells, this]⟩⟩

theorem getD_of {l : List Int} {i : Nat} (h : i < l.length) : l.getD i 0 = l[i] := by simp [List.getD, h]

set_option maxRecDepth 100000 in
/-- string(b). -/
theorem run_string {w : World} {g n cap : Nat} {l : List UInt8} (hn : n = l.length) (hc : ∀ j c, l[j]? = some c → w.cell? ⟨g, j, none⟩ = some (.int .u8 c.toNat)) :
    (convert 84 9 (.slice (some ⟨g, 0, none⟩) n cap)).run Tryz.prog w = .ok (.string ⟨l.toArray⟩) w := by
  have h := run_convert_bytes_arg (P := Tryz.prog) w 84 5 Tryz.underlying84 Tryz.underlying5 g 0 n cap (l.map fun c => (c.toNat : Int)) (by simp [hn]) (fun i hi => by
    have hil : i < l.length := by omega
    rw [Nat.zero_add, hc i l[i] (by simp [hil]), getD_of (by simpa using hil)]
    simp) 9 Tryz.underlying9
  rw [h]
  congr 2
  simp [strOfNums, List.map_map]
  congr 1
  apply List.ext_getElem
  · simp
  · intro i h1 h2; simp


/-- A string out of a list of bytes. -/
def mk (l : List UInt8) : ByteArray := ⟨l.toArray⟩
theorem mk_size (l : List UInt8) : (mk l).size = l.length := by simp [mk, ByteArray.size]
theorem mk_data (l : List UInt8) : (mk l).data.toList = l := rfl
theorem mk_of (s : ByteArray) : mk s.data.toList = s := rfl
theorem str_ext {s t : ByteArray} (h : s.data.toList = t.data.toList) : s = t := by
  obtain ⟨⟨l⟩⟩ := s; obtain ⟨⟨m⟩⟩ := t; simp at h; rw [h]
theorem str_len (s : ByteArray) : s.data.toList.length = s.size := rfl
theorem extract_drop (s : ByteArray) (a n : Nat) (h : n = s.size) : s.extract a n = mk (s.data.toList.drop a) := by
  apply str_ext
  rw [Lib.extract_data, mk_data, h, List.take_of_length_le]
  rw [List.length_drop, str_len]; exact Nat.le_refl _
theorem extract_take (s : ByteArray) (b : Nat) : s.extract 0 b = mk (s.data.toList.take b) := by
  apply str_ext; rw [Lib.extract_data, mk_data]; simp
theorem append_data (s t : ByteArray) : (s ++ t).data.toList = s.data.toList ++ t.data.toList := by rw [ByteArray.data_append, Array.toList_append]
theorem mk_append (l m : List UInt8) : mk l ++ mk m = mk (l ++ m) := str_ext (by rw [append_data]; rfl)
theorem drop_cons (s : ByteArray) (k : Nat) (h : k < s.size) : s.data.toList.drop k = s[k] :: s.data.toList.drop (k + 1) := by
  rw [List.drop_eq_getElem_cons (by simpa using h)]; rfl

/-- A contract that leaves the world, inside a region that draws its order. -/
theorem quiet_eq {P : Program} {f : FuncId} {args : Array Value} {w : World} {n : Nat} {v : Value}
    (h : Calls P f args (w.drewN n) fun e w' => e = .returned v ∧ w.drewN n = w') : Calls P f args (w.drewN n) fun e w'' => e = .returned v ∧ ∃ m, w'' = w.drewN m :=
  h.mono fun _ _ ⟨he, hm⟩ => ⟨he, n, hm.symm⟩
theorem drewN_zero (w : World) : w = w.drewN 0 := rfl
theorem below_drew {B : Nat} {a w : World} (h : Below B a w) (n : Nat) : Below B a (w.drewN n) := h.trans ⟨rfl, rfl, rfl, Nat.le_refl _, fun _ _ => rfl⟩

/-- s[lo:hi], s[lo:], s[:hi] of a string, as a list of bytes. -/
theorem slice_lh {s : ByteArray} {lo hi : Int} {l : List UInt8} (h0 : 0 ≤ lo) (h1 : lo ≤ hi) (h2 : hi ≤ s.size) (hl : (s.data.toList.drop lo.toNat).take (hi.toNat - lo.toNat) = l) (wx : World) :
    (Instr.slice 9 (.string s) (some (.int .i64 lo)) (some (.int .i64 hi)) none).run Tryz.prog wx = .ok (.string (mk l)) wx := by
  rw [run_slice_string (P := Tryz.prog) wx 9 s .i64 .i64 lo hi Tryz.underlying9 h0 h1 h2]
  congr 2
  apply str_ext; rw [Lib.extract_data, mk_data, hl]
theorem slice_l {s : ByteArray} {lo : Int} {l : List UInt8} (h0 : 0 ≤ lo) (h1 : lo ≤ s.size) (hl : s.data.toList.drop lo.toNat = l) (wx : World) :
    (Instr.slice 9 (.string s) (some (.int .i64 lo)) none none).run Tryz.prog wx = .ok (.string (mk l)) wx := by
  rw [run_slice_string_from_if (P := Tryz.prog) wx 9 s .i64 lo Tryz.underlying9, if_pos ⟨h0, h1⟩, extract_drop s _ _ rfl, hl]
theorem slice_h {s : ByteArray} {hi : Int} {l : List UInt8} (h0 : 0 ≤ hi) (h1 : hi ≤ s.size) (hl : s.data.toList.take hi.toNat = l) (wx : World) :
    (Instr.slice 9 (.string s) none (some (.int .i64 hi)) none).run Tryz.prog wx = .ok (.string (mk l)) wx := by
  rw [run_slice_string_to_if (P := Tryz.prog) wx 9 s .i64 hi Tryz.underlying9, if_pos ⟨h0, h1⟩, extract_take, hl]

/-- make([]byte, n): a row of noughts of the call's own. -/
theorem make_bytes (w : World) (B n : Nat) (hB : B ≤ w.heap.size) (hn : n ≤ 140737488355328) :
    ∃ w', (Instr.makeSlice 84 (.int .i64 (n : Int)) (.int .i64 (n : Int))).run Tryz.prog w = .ok (.slice (some ⟨w.heap.size, 0, none⟩) n n) w' ∧ Bytes w' B (.slice (some ⟨w.heap.size, 0, none⟩) n n) (List.replicate n 0) ∧ Below w.heap.size w w' ∧ w'.heap.size = w.heap.size + 1 := by
  obtain ⟨i0, hi, hz0, hz1, hz2⟩ := infoByte_parts
  have h := run_make (P := Tryz.prog) w 84 5 i0 (.int .u8 0) Tryz.underlying84 hi hz0 .i64 .i64 (n : Int) (n : Int) (by omega) (Int.le_refl _) (by rw [hz2]; omega) (by omega)
  rw [hz1, Int.toNat_natCast] at h
  refine ⟨_, h, ?_, Below.alloc (Below.refl _ _) (Nat.le_refl _) _, by simp⟩
  have hc : madeCells (Value.cells (.int .u8 0)) (n * 1) = (List.replicate n (Value.int .u8 0)).toArray :=
    Array.ext' (by rw [show Value.cells (.int .u8 0) = #[.int .u8 0] from rfl, Nat.mul_one, toList_madeCells_one])
  rw [hc]
  refine ⟨by simp [Lib.byteCells], .inr ⟨w.heap.size, n, _, by simp, hB, heap_alloc_new w _, by simp, by unfold maxLen; omega, by simp, by simp [Lib.byteCells]⟩⟩

/-- A store into it. -/
theorem Bytes.set {w : World} {B g cap : Nat} {l : List UInt8} (h : Bytes w B (.slice (some ⟨g, 0, none⟩) l.length cap) l) (k : Nat) (hk : k < l.length) (c : UInt8) (n : Int) (hn : n = (c.toNat : Int)) :
    Bytes (w.setCell ⟨g, k, none⟩ (.int .u8 n)) B (.slice (some ⟨g, 0, none⟩) l.length cap) (l.set k c) := by
  subst hn
  rcases h.2 with ⟨hv, _⟩ | ⟨g', cap', cur, hv, hB, hg, hnc, hcm, hcs, htake⟩
  · cases hv
  · cases hv
    refine ⟨by simp [Lib.byteCells], .inr ⟨g, cap, cur.setIfInBounds k (.int .u8 c.toNat), by rw [List.length_set], hB, ?_, by rw [List.length_set]; exact hnc, hcm, by simpa using hcs, ?_⟩⟩
    · simp [World.setCell, Array.getElem?_modify, hg]
    · rw [Array.toList_setIfInBounds, List.length_set, List.take_set, htake]
      simp [Lib.byteCells, List.map_set]

/-! ### A row of bytes whose block may bear a mark behind its end (what []byte(s) makes) -/
def RowAt (w : World) (B g : Nat) (l : List UInt8) : Prop :=
  B ≤ g ∧ (∀ j c, l[j]? = some c → w.cell? ⟨g, j, none⟩ = some (.int .u8 c.toNat)) ∧ ∀ j, j < l.length → w.frozen? ⟨g, j, none⟩ = false

theorem setCell_cell {w : World} {g k j : Nat} {v u : Value} (hk : w.cell? ⟨g, k, none⟩ = some u) : (w.setCell ⟨g, k, none⟩ v).cell? ⟨g, j, none⟩ = if j = k then some v else w.cell? ⟨g, j, none⟩ := by
  unfold World.cell? at hk
  cases hg : w.heap[g]? with
  | none => simp [hg] at hk
  | some o =>
    cases o with
    | cells cs t fr =>
      simp [hg] at hk
      have hlt : k < cs.size := by
        rcases Nat.lt_or_ge k cs.size with h | h
        · exact h
        · simp [Array.getElem?_eq_none h] at hk
      simp only [World.cell?, World.setCell, Array.getElem?_modify, hg]
      by_cases h : j = k
      · subst h; simp [hlt]
      · simp [h, Ne.symm h]
    | _ => simp [hg] at hk
theorem setCell_frozen (w : World) (g k : Nat) (v : Value) (a : Addr) : (w.setCell ⟨g, k, none⟩ v).frozen? a = w.frozen? a := by
  simp only [World.frozen?, World.setCell, Array.getElem?_modify]
  by_cases h : g = a.block
  · rw [if_pos h]
    cases hg : w.heap[a.block]? with
    | none => rfl
    | some o => cases o <;> rfl
  · rw [if_neg h]

theorem RowAt.set {w : World} {B g : Nat} {l : List UInt8} (h : RowAt w B g l) (k : Nat) (hk : k < l.length) (c : UInt8) (n : Int) (hn : n = (c.toNat : Int)) :
    RowAt (w.setCell ⟨g, k, none⟩ (.int .u8 n)) B g (l.set k c) := by
  subst hn
  obtain ⟨h1, h2, h3⟩ := h
  refine ⟨h1, fun j d hj => ?_, fun j hj => ?_⟩
  · rw [setCell_cell (h2 k l[k] (by simp [hk]))]
    by_cases hjk : j = k
    · subst hjk
      rw [List.getElem?_set_self hk] at hj
      cases hj; rw [if_pos rfl]
    · rw [if_neg hjk]
      rw [List.getElem?_set_ne (Ne.symm hjk)] at hj
      exact h2 j d hj
  · rw [setCell_frozen]; exact h3 j (by simpa using hj)

/-- []byte(s). -/
theorem run_bytes (w : World) (s : ByteArray) :
    ∃ cap w', (convert 9 84 (.string s)).run Tryz.prog w = .ok (.slice (some ⟨w.heap.size, 0, none⟩) s.size cap) w' ∧ RowAt w' w.heap.size w.heap.size s.data.toList ∧ Below w.heap.size w w' ∧ s.size ≤ cap ∧ w'.heap.size = w.heap.size + 1 := by
  refine ⟨_, _, Lib.run_convert_string_bytes (P := Tryz.prog) w 9 84 5 s Tryz.underlying9 Tryz.underlying84 Tryz.underlying5, ⟨Nat.le_refl _, fun j c hj => ?_, fun j hj => ?_⟩, ⟨rfl, rfl, rfl, by rw [Lib.bytesWorld_size]; omega, fun k hk => Lib.bytesWorld_at_old w _ s k hk⟩, ?_, Lib.bytesWorld_size _ _ _⟩
  · have hlt : j < s.size := by
      rcases Nat.lt_or_ge j s.size with h | h
      · exact h
      · rw [List.getElem?_eq_none (by rw [str_len]; exact h)] at hj; cases hj
    rw [Lib.bytesWorld_cell w _ s j hlt]
    simp [List.getD, hj]
  · have hh := Lib.bytesWorld_at_new w 5 s
    simp only [World.frozen?, hh]
    rw [str_len] at hj
    have : s.size ≤ (Lib.bytesCells w 5 s).size := by
      unfold Lib.bytesCells
      rw [Array.size_append, Array.size_map]
      exact Nat.le_add_right _ _
    simp; omega
  · exact grownCap_ge _ _ _ _
end Go.Proofs.YtbidglefddmjhaaGreatDoor

/-
  WHAT strings.Builder DOES IN A BLOCK OF THE CALL's OWN: contracts of copyCheck, WriteByte, WriteString and String, over a block of whatever type T at whose head a Builder lies (condition: 'BlkOk T': two cells, no row of bytes).
-/
namespace Go.Proofs.YtbidglefddmjhaaGreatDoor
open Go.RowKit
set_option linter.unusedVariables false
set_option maxRecDepth 100000

/-- A block of type T bears a Builder at its head. -/
def BlkOk (T : TypeId) : Prop := liesAt Tryz.prog Tryz.prog.depth T (2 / Tryz.prog.cellsOf T) 0 140 1 = true ∧ T ≠ 5

theorem sizeBuilder : (Tryz.prog.info? 140).map (·.size) = some 2 := by kernel_rfl
theorem copyCheck_used (b : Nat) (w : World) (h0 : w.cell? ⟨b, 0, none⟩ = some (.pointer (some ⟨b, 0, none⟩))) :
    Calls Tryz.prog 142 #[.pointer (some ⟨b, 0, none⟩)] w fun e w' => e = .returned (.tuple #[]) ∧ w' = w := by
  obtain ⟨j, hj, hjs⟩ := Option.map_eq_some_iff.1 sizeBuilder
  go_enter Tryz.func142, Tryz.ntmps142
  go_wp2
  rw [Lib.run_neq_ptr_same w _ Tryz.underlying138 hj]
  go_wp2
  go_end0
  exact ⟨rfl, rfl⟩

theorem copyCheck_fresh {T : TypeId} (hT : BlkOk T) (b : Nat) (w : World) (h0 : w.cell? ⟨b, 0, none⟩ = some (.pointer none)) (hsh : w.shape? b = some (T, 2)) (hfz : w.frozen? ⟨b, 0, none⟩ = false) :
    Calls Tryz.prog 142 #[.pointer (some ⟨b, 0, none⟩)] w fun e w' => e = .returned (.tuple #[]) ∧ w' = w.setCell ⟨b, 0, none⟩ (.pointer (some ⟨b, 0, none⟩)) := by
  obtain ⟨j, hj, hjs⟩ := Option.map_eq_some_iff.1 sizeBuilder
  go_enter Tryz.func142, Tryz.ntmps142
  go_wp2
  rw [Lib.run_to_unsafe w ⟨b, 0, none⟩ Tryz.underlying138 Tryz.underlying222 hj (by rw [hjs]; decide) hsh (Nat.zero_lt_succ 1)]
  simp only [Result.andThen]
  rw [Oper.upon_value]
  go_wp2
  rw [run_callFunc_extern Tryz.func187 (by kernel_rfl) (by kernel_rfl) (by kernel_rfl) (e := Extern.AbiNoEscape.same) (by kernel_rfl)]
  rw [Lib.run_noEscape]
  simp only [Result.andThen]
  rw [Oper.upon_value]
  go_wp2
  rw [Lib.run_from_unsafe w ⟨b, 0, none⟩ Tryz.underlying222 Tryz.underlying138 hj hsh hT.1]
  simp only [Result.andThen]
  rw [Oper.upon_value]
  go_wp2
  go_end0
  exact ⟨rfl, rfl⟩

theorem copyCheck_any {T : TypeId} (hT : BlkOk T) (B b : Nat) (bs : List Value) (w : World) (h : Lib.IsBuilder T 5 B b bs w) :
    Calls Tryz.prog 142 #[.pointer (some ⟨b, 0, none⟩)] w fun e w' => e = .returned (.tuple #[]) ∧ (Lib.BuilderAt T 5 B b (.pointer (some ⟨b, 0, none⟩)) bs w' ∧ Below B w w') := by
  rcases h with h | h
  · refine (copyCheck_fresh hT b w h.cell0 h.shape h.frozen0).mono ?_
    rintro e w' ⟨rfl, rfl⟩
    exact ⟨rfl, h.used _, (Below.refl B w).setCell (p := ⟨b, 0, none⟩) h.1 _⟩
  · refine (copyCheck_used b w h.cell0).mono ?_
    rintro e w' ⟨rfl, rfl⟩
    exact ⟨rfl, h, Below.refl B _⟩

set_option maxHeartbeats 2000000 in
set_option maxRecDepth 100000 in
theorem writeByte_any {T : TypeId} (hT : BlkOk T) (B b : Nat) (bs : List Value) (c : Int) (w : World) (h : Lib.IsBuilder T 5 B b bs w) (hlen : bs.length + 1 ≤ 140737488355328) (hBw : B ≤ w.heap.size) :
    Calls Tryz.prog 211 #[.pointer (some ⟨b, 0, none⟩), .int .u8 c] w fun e w' => e = .returned .nilIface ∧ (Lib.BuilderAt T 5 B b (.pointer (some ⟨b, 0, none⟩)) (bs ++ [.int .u8 c]) w' ∧ Below B w w') := by
  obtain ⟨i0, hi, hz0, hz1, hz2⟩ := infoByte_parts
  go_enter Tryz.func211, Tryz.ntmps211
  go_wp2_with (go_at_call 142; refine (copyCheck_any hT B b bs _ h).mono ?_)
  rintro e w1 ⟨rfl, h1, hb1⟩
  obtain ⟨hB, v, hbk, hown, hne⟩ := h1
  have c0 : w1.cell? ⟨b, 0, none⟩ = some (.pointer (some ⟨b, 0, none⟩)) := by rw [Lib.cell_of_heap hbk]; rfl
  have c1 : w1.cell? ⟨b, 1, none⟩ = some v := by rw [Lib.cell_of_heap hbk]; rfl
  go_wp2_with (at_builtin; refine wpList_append_own _ rfl _ _ 84 rfl B 5 i0 (.int .u8 0) 1 1 Tryz.underlying84 hi hz0 hz1 hz2 rfl (by decide) _ _ _ rfl (hown.alloc _) ⟨w1.heap.size, 0, none⟩ 1 1 [.int .u8 c] rfl rfl ?c1 ?c2 ?c3 ?c4 ?c5 ?_)
  case c1 =>
    intro j u hj
    match j, hj with
    | 0, hj => simp at hj; subst hj; simp [Addr.add]
  case c2 => intro u hu; simp at hu; subst hu; rfl
  case c3 => unfold maxLen; omega
  case c4 => omega
  case c5 => have := hb1.size; simp; omega
  intro v' w2 hown' hgrow _
  have hlt : b < w1.heap.size := by
    rcases Nat.lt_or_ge b w1.heap.size with h' | h'
    · exact h'
    · simp [Array.getElem?_eq_none h'] at hbk
  have hb2 : w2.heap[b]? = some (.cells #[.pointer (some ⟨b, 0, none⟩), v] T (0, 0)) := by
    rw [hgrow.block b (by simp; omega) (fun e => hne e.symm), Lib.alloc_old w1 _ b hlt]
    exact hbk
  have d0 : w2.cell? ⟨b, 0, none⟩ = some (.pointer (some ⟨b, 0, none⟩)) := by rw [Lib.cell_of_heap hb2]; rfl
  have d1 : w2.cell? ⟨b, 1, none⟩ = some v := by rw [Lib.cell_of_heap hb2]; rfl
  have f1 : w2.frozen? ⟨b, 1, none⟩ = false := Lib.frozen_of_heap hb2 1
  obtain ⟨g, cap, rfl⟩ : ∃ g cap, v' = .slice (some ⟨g, 0, none⟩) (bs.length + 1) cap := by
    rcases hown'.2 with ⟨_, h0⟩ | ⟨g, cap, cur, hv, _⟩
    · omega
    · exact ⟨g, cap, hv⟩
  go_wp2
  go_ret
  refine ⟨rfl, ?_, ?_⟩
  · exact Lib.BuilderAt.put (T := T) (e := 5) hB hb2 (bs' := bs ++ [.int .u8 c]) (by simpa using hown') hT.2
  · exact ((hb1.alloc (by have := hb1.size; omega) _).grown hgrow (by have := hb1.size; simp; omega) (fun k hk => (World.ownsRow.lt hown k hk).1)).setCell (p := ⟨b, 1, none⟩) hB _

set_option maxHeartbeats 2000000 in
set_option maxRecDepth 100000 in
theorem writeString_any {T : TypeId} (hT : BlkOk T) (B b : Nat) (bs : List Value) (s : ByteArray) (w : World) (h : Lib.IsBuilder T 5 B b bs w) (hlen : bs.length + s.size ≤ 140737488355328) (hBw : B ≤ w.heap.size) :
    Calls Tryz.prog 92 #[.pointer (some ⟨b, 0, none⟩), .string s] w fun e w' => e = .returned (.tuple #[.int .i64 s.size, .nilIface]) ∧ (Lib.BuilderAt T 5 B b (.pointer (some ⟨b, 0, none⟩)) (bs ++ Lib.strCells s) w' ∧ Below B w w') := by
  obtain ⟨i0, hi, hz0, hz1, hz2⟩ := infoByte_parts
  go_enter Tryz.func92, Tryz.ntmps92
  go_wp2_with (go_at_call 142; refine (copyCheck_any hT B b bs _ h).mono ?_)
  rintro e w1 ⟨rfl, h1, hb1⟩
  obtain ⟨hB, v, hbk, hown, hne⟩ := h1
  have c0 : w1.cell? ⟨b, 0, none⟩ = some (.pointer (some ⟨b, 0, none⟩)) := by rw [Lib.cell_of_heap hbk]; rfl
  have c1 : w1.cell? ⟨b, 1, none⟩ = some v := by rw [Lib.cell_of_heap hbk]; rfl
  go_wp2_with (at_builtin; refine Lib.wpList_append_own_string _ rfl _ _ 84 9 rfl B 5 i0 Tryz.underlying84 Tryz.underlying9 hi hz0 hz1 hz2 _ _ _ rfl hown s rfl ?c3 ?c4 ?c5 ?_)
  case c3 => unfold maxLen; omega
  case c4 => omega
  case c5 => have := hb1.size; omega
  intro v' w2 hown' hgrow _
  have hlt : b < w1.heap.size := by
    rcases Nat.lt_or_ge b w1.heap.size with h' | h'
    · exact h'
    · simp [Array.getElem?_eq_none h'] at hbk
  have hb2 : w2.heap[b]? = some (.cells #[.pointer (some ⟨b, 0, none⟩), v] T (0, 0)) := by
    rw [hgrow.block b hlt (fun e => hne e.symm)]
    exact hbk
  have d0 : w2.cell? ⟨b, 0, none⟩ = some (.pointer (some ⟨b, 0, none⟩)) := by rw [Lib.cell_of_heap hb2]; rfl
  have d1 : w2.cell? ⟨b, 1, none⟩ = some v := by rw [Lib.cell_of_heap hb2]; rfl
  have f1 : w2.frozen? ⟨b, 1, none⟩ = false := Lib.frozen_of_heap hb2 1
  obtain ⟨ao, n', cap, rfl⟩ : ∃ ao n' cap, v' = .slice ao n' cap := by
    rcases hown'.2 with ⟨hv, _⟩ | ⟨g, cap, cur, hv, _⟩
    · exact ⟨_, _, _, hv⟩
    · exact ⟨_, _, _, hv⟩
  go_wp2
  go_ret2
  refine ⟨rfl, ?_, ?_⟩
  · exact Lib.BuilderAt.put (T := T) (e := 5) hB hb2 (bs' := bs ++ Lib.strCells s) (by rw [List.length_append, Lib.strCells_length]; exact hown') hT.2
  · exact (hb1.grown hgrow (by have := hb1.size; omega) (fun k hk => (World.ownsRow.lt hown k hk).1)).setCell (p := ⟨b, 1, none⟩) hB _

set_option maxHeartbeats 2000000 in
set_option maxRecDepth 100000 in
theorem string_some {T : TypeId} (B b : Nat) (l : List UInt8) (w : World) (h : Lib.IsBuilder T 5 B b (Lib.byteCells l) w) (h0 : l ≠ []) :
    Calls Tryz.prog 93 #[.pointer (some ⟨b, 0, none⟩)] w fun e w' => e = .returned (.string ⟨l.toArray⟩) ∧ Below B w w' := by
  obtain ⟨p, hB, v, hbk, hown, hne⟩ : ∃ p, Lib.BuilderAt T 5 B b p (Lib.byteCells l) w := by
    rcases h with h | h
    · exact ⟨_, h⟩
    · exact ⟨_, h⟩
  have hl0 : l.length ≠ 0 := by simpa using h0
  rw [Lib.byteCells_length] at hown
  obtain ⟨g, cap, cur, rfl, hbg, hg, hnc, hcm, hcs, htake⟩ : ∃ g cap cur, v = .slice (some ⟨g, 0, none⟩) l.length cap ∧ B ≤ g ∧ w.heap[g]? = some (.cells cur 5 (0, 0)) ∧ l.length ≤ cap ∧ cap ≤ maxLen ∧ cur.size = cap * 1 ∧ cur.toList.take (l.length * 1) = Lib.byteCells l := by
    rcases hown.2 with ⟨_, hz⟩ | ⟨g, cap, cur, hv, r⟩
    · exact absurd hz hl0
    · exact ⟨g, cap, cur, hv, r⟩
  have c1 : w.drew.cell? ⟨b, 1, none⟩ = some (.slice (some ⟨g, 0, none⟩) l.length cap) := by
    have : w.drew.heap[b]? = some (.cells #[p, .slice (some ⟨g, 0, none⟩) l.length cap] T (0, 0)) := hbk
    rw [Lib.cell_of_heap this]; rfl
  have hSD : (Builtin.unsafeSliceData_ #[84] 188 #[.slice (some ⟨g, 0, none⟩) l.length cap]).run Tryz.prog w.drew = .ok (.pointer (some ⟨g, 0, none⟩)) w.drew :=
    Lib.run_unsafeSliceData_row _ _ _ _ _ _ (by omega)
  have hUS : (Builtin.unsafeString_ #[188, 3] 9 #[.pointer (some ⟨g, 0, none⟩), .int .i64 l.length]).run Tryz.prog w.drew = .ok (.string ⟨l.toArray⟩) (w.drew.freeze ⟨g, 0, none⟩ l.length) := by
    refine Lib.run_unsafeString_row w.drew 188 3 9 5 Tryz.underlying188 cellsByte g cur.size (by have hg' : w.drew.heap[g]? = some (.cells cur 5 (0, 0)) := hg; simp [World.shape?, hg']) l h0 (by omega) (by unfold maxLen at hcm; omega) ?_
    intro j x hx
    have := hown.cells (g := g) rfl j (.int .u8 x.toNat) (by simp [Lib.byteCells, hx])
    exact this
  go_enter Tryz.func93, Tryz.ntmps93
  go_wp2
  go_region
  all_goals (go_wp2; go_ret; exact ⟨rfl, Lib.below_freeze (Below.drew (Below.refl B w)) (p := ⟨g, 0, none⟩) hbg _⟩)

set_option maxHeartbeats 2000000 in
set_option maxRecDepth 100000 in
theorem string_nil {T : TypeId} (B b : Nat) (p : Value) (w : World) (hbk : w.heap[b]? = some (.cells #[p, .slice none 0 0] T (0, 0))) :
    Calls Tryz.prog 93 #[.pointer (some ⟨b, 0, none⟩)] w fun e w' => e = .returned (.string ⟨#[]⟩) ∧ Below B w w' := by
  have hUS : ∀ (W : World) (q : Option Addr), (Builtin.unsafeString_ #[188, 3] 9 #[.pointer q, .int .i64 0]).run Tryz.prog W = .ok (.string .empty) W := fun W q => Lib.run_unsafeString_none W _ _ _ q
  have c1 : w.drew.cell? ⟨b, 1, none⟩ = some (.slice none 0 0) := by
    have : w.drew.heap[b]? = some (.cells #[p, .slice none 0 0] T (0, 0)) := hbk
    rw [Lib.cell_of_heap this]; rfl
  have hSD : (Builtin.unsafeSliceData_ #[84] 188 #[.slice none 0 0]).run Tryz.prog w.drew = .ok (.pointer none) w.drew := rfl
  go_enter Tryz.func93, Tryz.ntmps93
  go_wp2
  go_region
  all_goals (go_wp2; go_ret; exact ⟨rfl, Below.drew (Below.refl B w)⟩)

set_option maxHeartbeats 2000000 in
set_option maxRecDepth 100000 in
theorem string_noroom {T : TypeId} (B b g : Nat) (p : Value) (cur : Array Value) (w : World) (hBw : B ≤ w.heap.size) (hbk : w.heap[b]? = some (.cells #[p, .slice (some ⟨g, 0, none⟩) 0 0] T (0, 0))) (hg : w.heap[g]? = some (.cells cur 5 (0, 0))) :
    Calls Tryz.prog 93 #[.pointer (some ⟨b, 0, none⟩)] w fun e w' => e = .returned (.string ⟨#[]⟩) ∧ Below B w w' := by
  have hUS : ∀ (W : World) (q : Option Addr), (Builtin.unsafeString_ #[188, 3] 9 #[.pointer q, .int .i64 0]).run Tryz.prog W = .ok (.string .empty) W := fun W q => Lib.run_unsafeString_none W _ _ _ q
  have hlt : b < w.heap.size := by
    rcases Nat.lt_or_ge b w.heap.size with h' | h'
    · exact h'
    · simp [Array.getElem?_eq_none h'] at hbk
  have c1 : w.drew.cell? ⟨b, 1, none⟩ = some (.slice (some ⟨g, 0, none⟩) 0 0) := by
    have : w.drew.heap[b]? = some (.cells #[p, .slice (some ⟨g, 0, none⟩) 0 0] T (0, 0)) := hbk
    rw [Lib.cell_of_heap this]; rfl
  have hSD : (Builtin.unsafeSliceData_ #[84] 188 #[.slice (some ⟨g, 0, none⟩) 0 0]).run Tryz.prog w.drew = .ok (.pointer (some ⟨w.drew.heap.size, 0, none⟩)) (w.drew.alloc (.view ⟨g, 0, none⟩ 5)) :=
    Lib.run_unsafeSliceData_zero w.drew _ _ 5 Tryz.underlying188 ⟨g, 0, none⟩ 0 (5, cur.size) (by have hg' : w.drew.heap[g]? = some (.cells cur 5 (0, 0)) := hg; simp [World.shape?, hg'])
  have c2 : (w.drew.alloc (.view ⟨g, 0, none⟩ 5)).cell? ⟨b, 1, none⟩ = some (.slice (some ⟨g, 0, none⟩) 0 0) := by
    have : (w.drew.alloc (.view ⟨g, 0, none⟩ 5)).heap[b]? = _ := (Lib.alloc_old w.drew _ b hlt).trans hbk
    rw [Lib.cell_of_heap this]; rfl
  have c3 : (w.alloc (.view ⟨g, 0, none⟩ 5)).drew.cell? ⟨b, 1, none⟩ = some (.slice (some ⟨g, 0, none⟩) 0 0) := c2
  have c0 : w.cell? ⟨b, 1, none⟩ = some (.slice (some ⟨g, 0, none⟩) 0 0) := c1
  go_enter Tryz.func93, Tryz.ntmps93
  go_wp2
  go_region
  all_goals (go_wp2; go_ret; exact ⟨rfl, (Below.drew (Below.refl B w)).alloc hBw _⟩)

set_option maxHeartbeats 2000000 in
set_option maxRecDepth 100000 in
theorem string_room {T : TypeId} (B b g cap : Nat) (p : Value) (w : World) (hc0 : cap ≠ 0) (hbk : w.heap[b]? = some (.cells #[p, .slice (some ⟨g, 0, none⟩) 0 cap] T (0, 0))) :
    Calls Tryz.prog 93 #[.pointer (some ⟨b, 0, none⟩)] w fun e w' => e = .returned (.string ⟨#[]⟩) ∧ Below B w w' := by
  have hUS : ∀ (W : World) (q : Option Addr), (Builtin.unsafeString_ #[188, 3] 9 #[.pointer q, .int .i64 0]).run Tryz.prog W = .ok (.string .empty) W := fun W q => Lib.run_unsafeString_none W _ _ _ q
  have c1 : w.drew.cell? ⟨b, 1, none⟩ = some (.slice (some ⟨g, 0, none⟩) 0 cap) := by
    have : w.drew.heap[b]? = some (.cells #[p, .slice (some ⟨g, 0, none⟩) 0 cap] T (0, 0)) := hbk
    rw [Lib.cell_of_heap this]; rfl
  have hSD : (Builtin.unsafeSliceData_ #[84] 188 #[.slice (some ⟨g, 0, none⟩) 0 cap]).run Tryz.prog w.drew = .ok (.pointer (some ⟨g, 0, none⟩)) w.drew :=
    Lib.run_unsafeSliceData_row _ _ _ _ _ _ hc0
  clear hc0
  go_enter Tryz.func93, Tryz.ntmps93
  go_wp2
  go_region
  all_goals (go_wp2; go_ret; exact ⟨rfl, Below.drew (Below.refl B w)⟩)

/-- String, whatever the builder holds. -/
theorem string_any {T : TypeId} (B b : Nat) (l : List UInt8) (w : World) (h : Lib.IsBuilder T 5 B b (Lib.byteCells l) w) (hBw : B ≤ w.heap.size) :
    Calls Tryz.prog 93 #[.pointer (some ⟨b, 0, none⟩)] w fun e w' => e = .returned (.string ⟨l.toArray⟩) ∧ Below B w w' := by
  cases l with
  | cons x r => exact string_some B b (x :: r) w h (by simp)
  | nil =>
    obtain ⟨p, hB, v, hbk, hown, hne⟩ : ∃ p, Lib.BuilderAt T 5 B b p [] w := by
      rcases h with h | h
      · exact ⟨_, h⟩
      · exact ⟨_, h⟩
    rcases hown.2 with ⟨rfl, _⟩ | ⟨g, cap, cur, rfl, hbg, hg, _, _, _, _⟩
    · exact string_nil B b p w hbk
    · by_cases hc0 : cap = 0
      · subst hc0
        exact string_noroom B b g p cur w hBw hbk hg
      · exact string_room B b g cap p w hc0 hbk

/-! ### The same over lists of bytes -/
theorem byteCells_snoc (l : List UInt8) (c : Nat) (hc : c < 256) : Lib.byteCells l ++ [.int .u8 (c : Int)] = Lib.byteCells (l ++ [UInt8.ofNat c]) := by
  have : (UInt8.ofNat c).toNat = c := by rw [UInt8.toNat_ofNat']; exact Nat.mod_eq_of_lt hc
  simp [Lib.byteCells, this]
theorem byteCells_append (l m : List UInt8) : Lib.byteCells l ++ Lib.byteCells m = Lib.byteCells (l ++ m) := by simp [Lib.byteCells]

theorem writeByte_nat {T : TypeId} (hT : BlkOk T) (B b : Nat) (l : List UInt8) (c : Nat) (hc : c < 256) (w : World) (h : Lib.IsBuilder T 5 B b (Lib.byteCells l) w) (hlen : l.length + 1 ≤ 140737488355328) (hBw : B ≤ w.heap.size) :
    Calls Tryz.prog 211 #[.pointer (some ⟨b, 0, none⟩), .int .u8 (c : Int)] w fun e w' => e = .returned .nilIface ∧ Lib.IsBuilder T 5 B b (Lib.byteCells (l ++ [UInt8.ofNat c])) w' ∧ Below B w w' :=
  (writeByte_any hT B b (Lib.byteCells l) c w h (by rw [Lib.byteCells_length]; exact hlen) hBw).mono fun e w' ⟨he, h1, h2⟩ =>
    ⟨he, Or.inr (by rw [byteCells_snoc l c hc] at h1; exact h1), h2⟩

theorem writeString_list {T : TypeId} (hT : BlkOk T) (B b : Nat) (l : List UInt8) (s : ByteArray) (w : World) (h : Lib.IsBuilder T 5 B b (Lib.byteCells l) w) (hlen : l.length + s.size ≤ 140737488355328) (hBw : B ≤ w.heap.size) :
    Calls Tryz.prog 92 #[.pointer (some ⟨b, 0, none⟩), .string s] w fun e w' => e = .returned (.tuple #[.int .i64 s.size, .nilIface]) ∧ Lib.IsBuilder T 5 B b (Lib.byteCells (l ++ s.data.toList)) w' ∧ Below B w w' :=
  (writeString_any hT B b (Lib.byteCells l) s w h (by rw [Lib.byteCells_length]; exact hlen) hBw).mono fun e w' ⟨he, h1, h2⟩ =>
    ⟨he, Or.inr (by rw [Lib.strCells_eq, byteCells_append] at h1; exact h1), h2⟩

/-- A draw leaves a builder as it is. -/
theorem builder_drew {T e : TypeId} {B b : Nat} {bs : List Value} {w : World} (h : Lib.IsBuilder T e B b bs w) : Lib.IsBuilder T e B b bs w.drew := h
end Go.Proofs.YtbidglefddmjhaaGreatDoor

/-
  THE PLAIN MATHEMATICS OF LAYER 1 (codec): numbers in groups of seven bits, the most significant one first: written ('enc'), and read by the program's rule ('toInt') and by the document's ('toIntR'): both read just what was written.
-/
namespace Go.Proofs.YtbidglefddmjhaaGreatDoor
open Go.RowKit

/-- What an int is turned into. -/
def nat64 (n : Int) : Nat := if 0 ≤ n then (2 * n).toNat else (-2 * n - 1).toNat
def unz (v : Nat) : Int := if v % 2 = 1 then -((v / 2 : Nat) : Int) - 1 else ((v / 2 : Nat) : Int)

theorem nat64_lt {n : Int} (h0 : -9223372036854775808 ≤ n) (h1 : n ≤ 9223372036854775807) : nat64 n < 18446744073709551616 := by
  unfold nat64; split <;> omega
theorem unz_nat64 (n : Int) : unz (nat64 n) = n := by
  unfold unz nat64
  by_cases h : 0 ≤ n
  · rw [if_pos h, if_neg (by omega)]; omega
  · rw [if_neg h, if_pos (by omega)]; omega
theorem nat64_unz (v : Nat) : nat64 (unz v) = v := by
  unfold nat64 unz
  by_cases h : v % 2 = 1
  · rw [if_pos h, if_neg (by omega)]; omega
  · rw [if_neg h, if_pos (by omega)]; omega
theorem unz_lo {v : Nat} (h : v < 18446744073709551616) : -9223372036854775808 ≤ unz v ∧ unz v ≤ 9223372036854775807 := by
  unfold unz; split <;> omega

/-- The groups of a number but the last, each with 128 added. -/
def encC (v : Nat) : List UInt8 := if v = 0 then [] else encC (v / 128) ++ [UInt8.ofNat (128 + v % 128)]
termination_by v
decreasing_by omega
def enc (v : Nat) : List UInt8 := encC (v / 128) ++ [UInt8.ofNat (v % 128)]
def encs (l : List Int) : List UInt8 := l.flatMap fun n => enc (nat64 n)

theorem encC_zero : encC 0 = [] := by rw [encC]; rfl
theorem encC_pos {v : Nat} (h : v ≠ 0) : encC v = encC (v / 128) ++ [UInt8.ofNat (128 + v % 128)] := by rw [encC, if_neg h]
theorem encC_length (k : Nat) : ∀ v, v < 128 ^ k → (encC v).length ≤ k := by
  induction k with
  | zero => intro v h; rw [Nat.pow_zero] at h; rw [show v = 0 by omega, encC_zero]; exact Nat.le_refl _
  | succ k ih =>
    intro v h
    by_cases h0 : v = 0
    · rw [h0, encC_zero]; exact Nat.zero_le _
    · rw [encC_pos h0, List.length_append, List.length_singleton]
      have := ih (v / 128) (by rw [Nat.pow_succ] at h; omega)
      omega
theorem enc_length {v : Nat} (h : v < 18446744073709551616) : (enc v).length ≤ 10 := by
  have := encC_length 9 (v / 128) (by omega)
  rw [enc, List.length_append, List.length_singleton]; omega
theorem enc_pos (v : Nat) : 0 < (enc v).length := by rw [enc, List.length_append, List.length_singleton]; omega

theorem ofNat_toNat {n : Nat} (h : n < 256) : (UInt8.ofNat n).toNat = n := by
  rw [UInt8.toNat_ofNat']; exact Nat.mod_eq_of_lt h
theorem of_toNat (c : UInt8) : UInt8.ofNat c.toNat = c := UInt8.ofNat_toNat

/-- The program's reader. -/
def toIntI : Nat → List UInt8 → Option (Nat × List UInt8)
  | _, [] => none
  | u, c :: r => if 144115188075855871 < u then none else if c.toNat < 128 then some (u * 128 + c.toNat % 128, r) else toIntI (u * 128 + c.toNat % 128) r
def toInt (l : List UInt8) : Option (Nat × List UInt8) := if l.head? = some 128 then none else toIntI 0 l
/-- The document's. -/
def toIntR (p : List UInt8) (v : Nat) : List UInt8 → Option (Nat × List UInt8)
  | [] => none
  | c :: r => if p.length < 10 then
      (if c.toNat < 128 then (if enc ((128 * v + c.toNat % 128) % 18446744073709551616) = p ++ [c] then some ((128 * v + c.toNat % 128) % 18446744073709551616, r) else none)
       else toIntR (p ++ [c]) ((128 * v + c.toNat % 128) % 18446744073709551616) r)
    else none

theorem toIntI_sound : ∀ (l : List UInt8) (u v : Nat) (r : List UInt8), (u ≠ 0 ∨ l.head? ≠ some 128) → toIntI u l = some (v, r) → v < 18446744073709551616 ∧ encC u ++ l = enc v ++ r := by
  intro l
  induction l with
  | nil => intro u v r _ h; cases h
  | cons c l ih =>
    intro u v r hu h
    have hc := c.toNat_lt
    rw [toIntI] at h
    split at h
    · cases h
    · split at h
      · rename_i h1 h2
        cases h
        refine ⟨by omega, ?_⟩
        rw [enc, show (u * 128 + c.toNat % 128) / 128 = u by omega, show (u * 128 + c.toNat % 128) % 128 = c.toNat by omega, of_toNat, List.append_assoc]; rfl
      · rename_i h1 h2
        have hne : u * 128 + c.toNat % 128 ≠ 0 := by
          rcases hu with hu | hu
          · omega
          · have : c ≠ 128 := fun e => hu (by rw [e]; rfl)
            have : c.toNat ≠ 128 := fun e => this (by rw [← of_toNat c, e]; rfl)
            omega
        have := ih _ v r (.inl hne) h
        refine ⟨this.1, ?_⟩
        rw [← this.2, encC_pos hne, show (u * 128 + c.toNat % 128) / 128 = u by omega, show 128 + (u * 128 + c.toNat % 128) % 128 = c.toNat by omega, of_toNat, List.append_assoc]; rfl

theorem toIntI_through : ∀ (w : Nat) (t : List UInt8), w < 18446744073709551616 → toIntI 0 (encC w ++ t) = toIntI w t := by
  intro w
  induction w using Nat.strongRecOn with
  | ind w ih =>
    intro t hw
    by_cases h0 : w = 0
    · rw [h0, encC_zero]; rfl
    · rw [encC_pos h0, List.append_assoc, ih (w / 128) (by omega) _ (by omega), List.singleton_append, toIntI, if_neg (by omega), ofNat_toNat (by omega), if_neg (by omega)]
      congr 1; omega

theorem head_encC : ∀ (w : Nat), w ≠ 0 → ∀ t, (encC w ++ t).head? ≠ some 128 := by
  intro w
  induction w using Nat.strongRecOn with
  | ind w ih =>
    intro h0 t
    rw [encC_pos h0, List.append_assoc]
    by_cases h1 : w / 128 = 0
    · rw [h1, encC_zero, List.nil_append, List.singleton_append, List.head?_cons]
      intro h
      have := congrArg UInt8.toNat (Option.some.inj h)
      rw [ofNat_toNat (by omega)] at this
      have h128 : (128 : UInt8).toNat = 128 := rfl
      omega
    · exact ih (w / 128) (by omega) h1 _

theorem head_enc (v : Nat) (r : List UInt8) : (enc v ++ r).head? ≠ some 128 := by
  rw [enc, List.append_assoc]
  by_cases h : v / 128 = 0
  · rw [h, encC_zero, List.nil_append, List.singleton_append, List.head?_cons]
    intro h
    have := congrArg UInt8.toNat (Option.some.inj h)
    rw [ofNat_toNat (by omega)] at this
    have h128 : (128 : UInt8).toNat = 128 := rfl
    omega
  · exact head_encC _ h _

theorem toInt_enc {v : Nat} (h : v < 18446744073709551616) (r : List UInt8) : toInt (enc v ++ r) = some (v, r) := by
  rw [toInt, if_neg (head_enc v r), enc, List.append_assoc, toIntI_through _ _ (by omega), List.singleton_append, toIntI, if_neg (by omega), ofNat_toNat (by omega), if_pos (by omega)]
  congr 2; omega
theorem toInt_sound {l : List UInt8} {v : Nat} {r : List UInt8} (h : toInt l = some (v, r)) : v < 18446744073709551616 ∧ l = enc v ++ r := by
  unfold toInt at h
  split at h
  · cases h
  · rename_i hh
    have := toIntI_sound l 0 v r (.inr hh) h
    rw [encC_zero] at this
    exact this

theorem toIntR_sound : ∀ (l p : List UInt8) (u v : Nat) (r : List UInt8), toIntR p u l = some (v, r) → v < 18446744073709551616 ∧ p ++ l = enc v ++ r := by
  intro l
  induction l with
  | nil => intro p u v r h; cases h
  | cons c l ih =>
    intro p u v r h
    rw [toIntR] at h
    split at h
    · split at h
      · split at h
        · rename_i h1 h2 h3
          cases h
          exact ⟨by omega, by rw [h3, List.append_assoc]; rfl⟩
        · cases h
      · have := ih _ _ v r h
        exact ⟨this.1, by rw [← this.2, List.append_assoc]; rfl⟩
    · cases h

theorem toIntR_through : ∀ (w : Nat) (t : List UInt8), w < 144115188075855872 → toIntR [] 0 (encC w ++ t) = toIntR (encC w) w t := by
  intro w
  induction w using Nat.strongRecOn with
  | ind w ih =>
    intro t hw
    by_cases h0 : w = 0
    · rw [h0, encC_zero]; rfl
    · have hl := encC_length 9 (w / 128) (by omega)
      rw [encC_pos h0, List.append_assoc, ih (w / 128) (by omega) _ (by omega), List.singleton_append, toIntR, if_pos (by omega), ofNat_toNat (by omega), if_neg (by omega)]
      congr 1; omega

theorem toIntR_enc {v : Nat} (h : v < 18446744073709551616) (r : List UInt8) : toIntR [] 0 (enc v ++ r) = some (v, r) := by
  have hl := encC_length 9 (v / 128) (by omega)
  rw [enc, List.append_assoc, toIntR_through _ _ (by omega), List.singleton_append, toIntR, if_pos (by omega), ofNat_toNat (by omega), if_pos (by omega),
    show (128 * (v / 128) + v % 128 % 128) % 18446744073709551616 = v by omega, if_pos (by rw [enc])]

/-- Both readers are one. -/
theorem toIntR_eq (l : List UInt8) : toIntR [] 0 l = toInt l := by
  cases h : toInt l with
  | some x =>
    obtain ⟨v, r⟩ := x
    obtain ⟨hv, rfl⟩ := toInt_sound h
    exact toIntR_enc hv r
  | none =>
    cases k : toIntR [] 0 l with
    | none => rfl
    | some x =>
      obtain ⟨v, r⟩ := x
      obtain ⟨hv, hl⟩ := toIntR_sound l [] 0 v r k
      rw [List.nil_append] at hl
      rw [hl, toInt_enc hv] at h
      cases h

/-! ### bits -/
theorem xor_ones {x : Nat} (n : Nat) (h : x < 2 ^ n) : x ^^^ (2 ^ n - 1) = 2 ^ n - 1 - x := by
  apply Nat.eq_of_testBit_eq
  intro i
  rw [show 2 ^ n - 1 - x = 2 ^ n - (x + 1) by omega, Nat.testBit_two_pow_sub_succ h, Nat.testBit_xor, Nat.testBit_two_pow_sub_one]
  by_cases hi : i < n
  · simp [hi]
  · have h2 : x < 2 ^ i := Nat.lt_of_lt_of_le h (Nat.pow_le_pow_right (by omega) (by omega))
    simp [hi, Nat.testBit_lt_two_pow h2]

theorem zig_bits {n : Int} (h0 : -9223372036854775808 ≤ n) (h1 : n ≤ 9223372036854775807) :
    bits .xor .u64 (IntKind.u64.wrap (IntKind.u64.wrap n * 2)) (IntKind.u64.wrap (n / 9223372036854775808)) = (nat64 n : Int) := by
  have e : ∀ m : Int, IntKind.u64.wrap m = m % 18446744073709551616 := fun m => by simp [IntKind.wrap, IntKind.bits, IntKind.signed]
  simp only [e]
  by_cases h : 0 ≤ n
  · obtain ⟨m, rfl⟩ := Int.eq_ofNat_of_zero_le h
    rw [show (m : Int) / 9223372036854775808 = 0 by omega, show (m : Int) % 18446744073709551616 * 2 % 18446744073709551616 = ((2 * m : Nat) : Int) by omega]
    have := u64_xor_nat (2 * m) 0 (by omega) (by omega)
    rw [Nat.xor_zero] at this
    rw [show (0 : Int) % 18446744073709551616 = ((0 : Nat) : Int) from rfl, this]
    unfold nat64; rw [if_pos h]; omega
  · rw [show n / 9223372036854775808 = -1 by omega, show n % 18446744073709551616 * 2 % 18446744073709551616 = (((2 * n + 18446744073709551616).toNat : Nat) : Int) by omega,
      show (-1 : Int) % 18446744073709551616 = ((18446744073709551615 : Nat) : Int) from rfl, u64_xor_nat _ _ (by omega) (by omega)]
    have hx := xor_ones (x := (2 * n + 18446744073709551616).toNat) 64 (by omega)
    rw [show 2 ^ 64 - 1 = 18446744073709551615 from rfl] at hx
    rw [hx]
    unfold nat64; rw [if_neg h]; omega

theorem unz_bits {v : Nat} (h : v < 18446744073709551616) :
    bits .xor .i64 ((v : Int) / 2) (wrap64 (-wrap64 (bits .and .u64 (v : Int) 1))) = unz v := by
  have ha : bits .and .u64 (v : Int) 1 = ((v % 2 : Nat) : Int) := by
    have := u64_and_nat v 1 h (by omega)
    rw [nat_mask1] at this
    exact this
  rw [ha]
  have hv : ((v : Int) / 2) = ((v / 2 : Nat) : Int) := by omega
  rw [hv]
  unfold unz
  rcases Nat.mod_two_eq_zero_or_one v with h2 | h2
  · rw [h2, if_neg (by omega)]
    have : wrap64 (-wrap64 ((0 : Nat) : Int)) = 0 := by simp [wrap64]
    rw [this]
    show IntKind.i64.wrap ((BitVec.ofInt 64 ((v / 2 : Nat) : Int) ^^^ BitVec.ofInt 64 0).toNat : Int) = _
    rw [show BitVec.ofInt 64 0 = 0#64 from rfl, BitVec.xor_zero, ofInt_u64 _ (by omega)]
    simp [IntKind.wrap, IntKind.bits, IntKind.signed]
    omega
  · rw [h2, if_pos rfl]
    have : wrap64 (-wrap64 ((1 : Nat) : Int)) = -1 := by simp [wrap64]
    rw [this]
    show IntKind.i64.wrap ((BitVec.ofInt 64 ((v / 2 : Nat) : Int) ^^^ BitVec.ofInt 64 (-1)).toNat : Int) = _
    have h1 : BitVec.ofInt 64 (-1) = BitVec.allOnes 64 := by decide
    rw [h1, BitVec.xor_allOnes, BitVec.toNat_not, ofInt_u64 _ (by omega)]
    simp [IntKind.wrap, IntKind.bits, IntKind.signed]
    omega

/-! ### How many groups -/
theorem bitLenAux_bounds : ∀ (f x : Nat), x ≠ 0 → x < 2 ^ f → 2 ^ (Lib.bitLenAux f x - 1) ≤ x ∧ x < 2 ^ Lib.bitLenAux f x ∧ 1 ≤ Lib.bitLenAux f x := by
  intro f
  induction f with
  | zero => intro x h0 h; simp at h; omega
  | succ f ih =>
    intro x h0 h
    rw [Lib.bitLenAux, if_neg h0]
    by_cases h1 : x / 2 = 0
    · have hz : Lib.bitLenAux f (x / 2) = 0 := by
        rw [h1]; cases f <;> simp [Lib.bitLenAux]
      rw [hz]; simp; omega
    · obtain ⟨i1, i2, i3⟩ := ih (x / 2) h1 (by rw [Nat.pow_succ] at h; omega)
      generalize Lib.bitLenAux f (x / 2) = n at *
      obtain ⟨m, rfl⟩ : ∃ m, n = m + 1 := ⟨n - 1, by omega⟩
      rw [show 1 + (m + 1) - 1 = m + 1 by omega, show 1 + (m + 1) = (m + 1) + 1 by omega, Nat.pow_succ 2 (m + 1), Nat.pow_succ 2 m] at *
      rw [show m + 1 - 1 = m by omega] at i1
      omega

/-- How many groups stand ahead of the last one. -/
def lastG (u : Nat) : Nat := (Lib.bitLen (u ||| 1) - 1) / 7

theorem or_one (u : Nat) : u ||| 1 = u ∧ u % 2 = 1 ∨ u ||| 1 = u + 1 ∧ u % 2 = 0 := by
  have h2 := Nat.or_div_two_pow (a := u) (b := 1) (n := 1)
  have h1 := Nat.or_mod_two_pow (a := u) (b := 1) (n := 1)
  rw [show 2 ^ 1 = 2 from rfl] at h1 h2
  rw [show 1 / 2 = 0 from rfl, Nat.or_zero] at h2
  rcases Nat.mod_two_eq_zero_or_one u with h | h
  · have h1' : (u ||| 1) % 2 = 1 := h1.trans (by rw [h]; rfl)
    omega
  · have h1' : (u ||| 1) % 2 = 1 := h1.trans (by rw [h]; rfl)
    omega

theorem lastG_spec {u : Nat} (h : u < 18446744073709551616) : lastG u ≤ 9 ∧ u / 128 ^ (lastG u + 1) = 0 ∧ ∀ j, 1 ≤ j → j ≤ lastG u → u / 128 ^ j ≠ 0 := by
  have ho := or_one u
  have hm : u ||| 1 ≠ 0 ∧ u ||| 1 < 18446744073709551616 := by omega
  obtain ⟨b1, b2, b3⟩ := bitLenAux_bounds 64 (u ||| 1) hm.1 (by rw [show 2 ^ 64 = 18446744073709551616 from rfl]; exact hm.2)
  have hL : lastG u = (Lib.bitLenAux 64 (u ||| 1) - 1) / 7 := rfl
  rw [hL]
  have hle : Lib.bitLenAux 64 (u ||| 1) ≤ 64 := by
    rcases Nat.lt_or_ge 64 (Lib.bitLenAux 64 (u ||| 1)) with h' | h'
    · exfalso
      have := Nat.pow_le_pow_right (show 0 < 2 by omega) (show 64 ≤ Lib.bitLenAux 64 (u ||| 1) - 1 by omega)
      rw [show 2 ^ 64 = 18446744073709551616 from rfl] at this
      omega
    · exact h'
  generalize Lib.bitLenAux 64 (u ||| 1) = n at *
  refine ⟨by omega, ?_, ?_⟩
  · rw [show 128 = 2 ^ 7 from rfl, ← Nat.pow_mul]
    apply Nat.div_eq_of_lt
    refine Nat.lt_of_lt_of_le ?_ (Nat.pow_le_pow_right (by omega) (show n ≤ 7 * ((n - 1) / 7 + 1) by omega))
    omega
  · intro j hj1 hj2 hz
    have h3 : u < 128 ^ j := by
      rcases Nat.lt_or_ge u (128 ^ j) with h' | h'
      · exact h'
      · have := Nat.div_pos h' (Nat.pow_pos (by omega)); omega
    have h4 : 128 ^ j ≤ 2 ^ (n - 1) := by
      rw [show 128 = 2 ^ 7 from rfl, ← Nat.pow_mul]
      exact Nat.pow_le_pow_right (by omega) (by omega)
    have h5 : 128 ^ j % 2 = 0 := by
      obtain ⟨i, rfl⟩ : ∃ i, j = i + 1 := ⟨j - 1, by omega⟩
      rw [Nat.pow_succ]; omega
    omega

/-- One group ahead of the last one. -/
theorem encC_step {u j : Nat} (h : u / 128 ^ j ≠ 0) : encC (u / 128 ^ j) = encC (u / 128 ^ (j + 1)) ++ [UInt8.ofNat (128 + u / 128 ^ j % 128)] := by
  rw [encC_pos h, Nat.div_div_eq_div_mul, ← Nat.pow_succ]

end Go.Proofs.YtbidglefddmjhaaGreatDoor

/-
  THE PLAIN MATHEMATICS OF LAYER 1 (codec): the checksum's register, bit by bit and four bits at a time; that it is linear, and that a register that is not 0 stays so.
-/
namespace Go.Proofs.YtbidglefddmjhaaGreatDoor

/-- One bit of the register. -/
def bitStep (r : Nat) : Nat := if r % 2 = 1 then (r / 2) ^^^ 2197175160 else r / 2
def fourSteps (r : Nat) : Nat := bitStep (bitStep (bitStep (bitStep r)))
def byteStep (r c : Nat) : Nat := fourSteps (fourSteps (r ^^^ c))
def crcReg (r : Nat) (l : List UInt8) : Nat := l.foldl (fun r c => byteStep r c.toNat) r
def crc (l : List UInt8) : Nat := crcReg 4294967295 l ^^^ 4294967295

/-- What four steps do with the lowest four bits. -/
def tab (i : Nat) : Nat := [0, 274646895, 549293790, 820201905, 1098587580, 1361435347, 1640403810, 1905808397, 2197175160, 2460548119, 2722870694, 2987750089, 3280807620, 3553878443, 3811616794, 4084100981].getD i 0

theorem xor_half (a b : Nat) : (a ^^^ b) / 2 = a / 2 ^^^ b / 2 := by
  apply Nat.eq_of_testBit_eq; intro i; simp [Nat.testBit_div_two]
theorem xor_odd (a b : Nat) : (a ^^^ b) % 2 = (a % 2 + b % 2) % 2 := by
  have h := Nat.xor_mod_two_pow (a := a) (b := b) (n := 1)
  rw [show 2 ^ 1 = 2 from rfl] at h
  rw [h]
  rcases Nat.mod_two_eq_zero_or_one a with h | h <;> rcases Nat.mod_two_eq_zero_or_one b with k | k <;> simp [h, k]

theorem bitStep_xor (a b : Nat) : bitStep (a ^^^ b) = bitStep a ^^^ bitStep b := by
  unfold bitStep
  rw [xor_half, xor_odd]
  rcases Nat.mod_two_eq_zero_or_one a with h | h <;> rcases Nat.mod_two_eq_zero_or_one b with k | k <;> simp [h, k]
  · rw [Nat.xor_assoc]
  · rw [Nat.xor_assoc, Nat.xor_comm (b / 2), Nat.xor_assoc]
  · rw [Nat.xor_assoc, ← Nat.xor_assoc 2197175160, Nat.xor_comm 2197175160, Nat.xor_assoc (b / 2), Nat.xor_self, Nat.xor_zero]
theorem fourSteps_xor (a b : Nat) : fourSteps (a ^^^ b) = fourSteps a ^^^ fourSteps b := by simp only [fourSteps, bitStep_xor]

theorem bitStep_lt {r : Nat} (h : r < 4294967296) : bitStep r < 4294967296 := by
  unfold bitStep
  split
  · exact Nat.xor_lt_two_pow (n := 32) (by omega) (by omega)
  · omega
theorem fourSteps_lt {r : Nat} (h : r < 4294967296) : fourSteps r < 4294967296 := bitStep_lt (bitStep_lt (bitStep_lt (bitStep_lt h)))
theorem byteStep_lt {r c : Nat} (h : r < 4294967296) (hc : c < 256) : byteStep r c < 4294967296 :=
  fourSteps_lt (fourSteps_lt (Nat.xor_lt_two_pow (n := 32) h (by omega)))

theorem bitStep_double (q : Nat) : bitStep (2 * q) = q := by unfold bitStep; rw [if_neg (by omega)]; omega

theorem fourSteps_sixteen (q : Nat) : fourSteps (16 * q) = q := by
  unfold fourSteps
  rw [show 16 * q = 2 * (2 * (2 * (2 * q))) from by omega]
  simp only [bitStep_double]

theorem split16 (r : Nat) : r = 16 * (r / 16) ^^^ r % 16 := by
  apply Nat.eq_of_testBit_eq
  intro i
  rw [Nat.testBit_xor, show 16 = 2 ^ 4 from rfl, Nat.testBit_two_pow_mul, Nat.testBit_mod_two_pow, Nat.testBit_div_two_pow]
  by_cases h : i < 4
  · simp [h, show ¬ 4 ≤ i from by omega]
  · simp [h, show 4 ≤ i from by omega]

theorem fourSteps_tab (r : Nat) : fourSteps r = r / 16 ^^^ tab (r % 16) := by
  have h : fourSteps r = fourSteps (16 * (r / 16) ^^^ r % 16) := by rw [← split16]
  rw [h, fourSteps_xor, fourSteps_sixteen]
  congr 1
  have : r % 16 < 16 := Nat.mod_lt _ (by omega)
  generalize r % 16 = t at this
  match t, this with
  | 0, _ | 1, _ | 2, _ | 3, _ | 4, _ | 5, _ | 6, _ | 7, _ | 8, _ | 9, _ | 10, _ | 11, _ | 12, _ | 13, _ | 14, _ | 15, _ => decide
  | n + 16, h => omega

theorem tab_lt (i : Nat) : tab i < 4294967296 := by
  match i with
  | 0 | 1 | 2 | 3 | 4 | 5 | 6 | 7 | 8 | 9 | 10 | 11 | 12 | 13 | 14 | 15 => decide
  | n + 16 => simp [tab]


/-- Four bytes of a number, and a number of four bytes. -/
def word (n : Nat) : List UInt8 := [UInt8.ofNat (n / 16777216), UInt8.ofNat (n / 65536 % 256), UInt8.ofNat (n / 256 % 256), UInt8.ofNat (n % 256)]
def toWordL : List UInt8 → Nat
  | a :: b :: c :: d :: _ => 16777216 * a.toNat + 65536 * b.toNat + 256 * c.toNat + d.toNat
  | _ => 0
theorem word_length (n : Nat) : (word n).length = 4 := rfl
theorem ofNat_toNat' {n : Nat} (h : n < 256) : (UInt8.ofNat n).toNat = n := by
  rw [UInt8.toNat_ofNat']; exact Nat.mod_eq_of_lt h
theorem toWord_word {n : Nat} (h : n < 4294967296) (l : List UInt8) : toWordL (word n ++ l) = n := by
  show 16777216 * (UInt8.ofNat (n / 16777216)).toNat + 65536 * (UInt8.ofNat (n / 65536 % 256)).toNat + 256 * (UInt8.ofNat (n / 256 % 256)).toNat + (UInt8.ofNat (n % 256)).toNat = n
  rw [ofNat_toNat' (by omega), ofNat_toNat' (by omega), ofNat_toNat' (by omega), ofNat_toNat' (by omega)]
  omega
theorem four_of {l : List UInt8} (h : 4 ≤ l.length) : ∃ a b c d r, l = a :: b :: c :: d :: r := by
  match l, h with
  | a :: b :: c :: d :: r, _ => exact ⟨a, b, c, d, r, rfl⟩
theorem word_toWord {l : List UInt8} (h : 4 ≤ l.length) : word (toWordL l) = l.take 4 := by
  obtain ⟨a, b, c, d, r, rfl⟩ := four_of h
  have ha := a.toNat_lt; have hb := b.toNat_lt; have hc := c.toNat_lt; have hd := d.toNat_lt
  show [UInt8.ofNat _, UInt8.ofNat _, UInt8.ofNat _, UInt8.ofNat _] = [a, b, c, d]
  simp only [toWordL]
  rw [show (16777216 * a.toNat + 65536 * b.toNat + 256 * c.toNat + d.toNat) / 16777216 = a.toNat by omega,
    show (16777216 * a.toNat + 65536 * b.toNat + 256 * c.toNat + d.toNat) / 65536 % 256 = b.toNat by omega,
    show (16777216 * a.toNat + 65536 * b.toNat + 256 * c.toNat + d.toNat) / 256 % 256 = c.toNat by omega,
    show (16777216 * a.toNat + 65536 * b.toNat + 256 * c.toNat + d.toNat) % 256 = d.toNat by omega]
  simp only [UInt8.ofNat_toNat]
theorem toWordL_lt (l : List UInt8) : toWordL l < 4294967296 := by
  unfold toWordL
  split
  · rename_i a b c d _
    have ha := a.toNat_lt; have hb := b.toNat_lt; have hc := c.toNat_lt; have hd := d.toNat_lt
    omega
  · omega

theorem crcReg_lt (l : List UInt8) : ∀ r, r < 4294967296 → crcReg r l < 4294967296 := by
  induction l with
  | nil => intro r h; exact h
  | cons c l ih => intro r h; exact ih _ (byteStep_lt h c.toNat_lt)
theorem crc_lt (l : List UInt8) : crc l < 4294967296 := Nat.xor_lt_two_pow (n := 32) (crcReg_lt l _ (by omega)) (by omega)

/-- A frame, and what is read of bytes as one: the payload, the frame's length, the error. -/
def frameL (l : List UInt8) : List UInt8 := word l.length ++ word (crc (word l.length ++ l)) ++ l
theorem frameL_length (l : List UInt8) : (frameL l).length = 8 + l.length := by simp [frameL, word_length]; omega
def unframe (l : List UInt8) : List UInt8 × Nat × Nat :=
  if l.length < 4 then ([], 0, 8)
  else if 65536 < toWordL l then ([], 0, 10)
  else if l.length < 8 + toWordL l then ([], 0, 8)
  else if crc (l.take 4 ++ (l.drop 8).take (toWordL l)) ≠ toWordL (l.drop 4) then ([], 0, 9)
  else ((l.drop 8).take (toWordL l), 8 + toWordL l, 0)
end Go.Proofs.YtbidglefddmjhaaGreatDoor

/-
  LAYER 1: the checksum: the program's Crc (by a table for four bits) and the document's (bit by bit): both return 'crc'. Condition: the table's cells hold its sixteen numbers ('Steps').
-/
namespace Go.Proofs.YtbidglefddmjhaaGreatDoor
open Go.RowKit
set_option linter.unusedVariables false
set_option maxRecDepth 100000


/-- The table's cells hold its numbers. -/
def Steps (w : World) : Prop := ∀ i, i < 16 → w.cell? ⟨0, i, none⟩ = some (.int .u32 (tab i))

theorem Steps.below {B : Nat} {w w' : World} (h : Steps w) (hb : Below B w w') (hB : 0 < B) : Steps w' :=
  fun i hi => (hb.cell (p := ⟨0, i, none⟩) hB).trans (h i hi)
theorem Steps.drew {w : World} (h : Steps w) : Steps w.drew := h

theorem and15 (a : Nat) (h : a < 4294967296) : bits .and .u32 (a : Int) 15 = ((a % 16 : Nat) : Int) := by
  have := u32_and_nat a 15 h (by omega)
  rw [nat_mask4] at this
  exact this

theorem crcReg_snoc (r : Nat) (l : List UInt8) (c : UInt8) : crcReg r (l ++ [c]) = byteStep (crcReg r l) c.toNat := by simp [crcReg]

theorem take_snoc' (s : ByteArray) (k : Nat) (h : k < s.size) : s.data.toList.take (k + 1) = s.data.toList.take k ++ [s[k]] := by
  rw [List.take_succ_eq_append_getElem (by simpa using h)]; rfl

theorem crcReg_step (s : ByteArray) (k : Nat) (h : k < s.size) : crcReg 4294967295 (s.data.toList.take (k + 1)) = byteStep (crcReg 4294967295 (s.data.toList.take k)) s[k].toNat := by
  rw [take_snoc' s k h, crcReg_snoc]

set_option maxHeartbeats 400000 in
theorem crc_any (s : ByteArray) (w : World) (hs : s.size ≤ maxLen) (hT : Steps w) :
    Calls Tryz.prog 190 #[.string s] w fun e w' => e = .returned (.int .u32 (crc s.data.toList)) ∧ w = w' := by
  unfold maxLen at hs
  go_enter Tryz.func190, Tryz.ntmps190
  go_wp2
  go_loop [3, 7] (fun r i => ∃ k : Nat, k ≤ s.size ∧ i = .int .i64 k ∧ r = .int .u32 (crcReg 4294967295 (s.data.toList.take k) : Nat)) (fun _ i => s.size - (intOf i).toNat)
  case atStart => exact ⟨0, Nat.zero_le _, rfl, rfl⟩
  case round =>
    obtain ⟨k, hk, rfl, rfl⟩ := hrel
    have hx := crcReg_lt (s.data.toList.take k) 4294967295 (by omega)
    by_cases hlt : k < s.size
    · have hst := hid (crcReg_step s k hlt)
      generalize crcReg 4294967295 (s.data.toList.take k) = x at hx hst
      have hc : s[k].toNat < 256 := s[k].toNat_lt
      have hx1 : x ^^^ s[k].toNat < 4294967296 := Nat.xor_lt_two_pow (n := 32) hx (by omega)
      have e1 : bits .xor .u32 (x : Int) (s[k].toNat : Int) = ((x ^^^ s[k].toNat : Nat) : Int) := u32_xor_nat _ _ hx (by omega)
      have hb : byteStep x s[k].toNat = fourSteps (fourSteps (x ^^^ s[k].toNat)) := rfl
      generalize hr : x ^^^ s[k].toNat = r at *
      have e2 := and15 r hx1
      have c2 := hT (r % 16) (by omega)
      have e3 : bits .xor .u32 ((r : Int) / 16) (tab (r % 16) : Int) = ((fourSteps r : Nat) : Int) := by
        rw [fourSteps_tab]; exact u32_xor_nat (r / 16) _ (by omega) (tab_lt _)
      have hx2 := fourSteps_lt hx1
      generalize hr2 : fourSteps r = r2 at *
      have e4 := and15 r2 hx2
      have c4 := hT (r2 % 16) (by omega)
      have e5 : bits .xor .u32 ((r2 : Int) / 16) (tab (r2 % 16) : Int) = ((fourSteps r2 : Nat) : Int) := by
        rw [fourSteps_tab]; exact u32_xor_nat (r2 / 16) _ (by omega) (tab_lt _)
      have HB := hid hb
      have H2 := hid hr2
      clear hr hb hr2
      go_wp2
      go_round
      case rel => exact ⟨k + 1, by omega, by go_num, by rw [hst.out, HB.out]⟩
      case measure => simp [intOf]; omega
    · have e : k = s.size := by omega
      have hcr : crc s.data.toList = crcReg 4294967295 (s.data.toList.take k) ^^^ 4294967295 := by
        rw [List.take_of_length_le (by simp; omega)]; rfl
      have HC := hid hcr
      clear hcr e
      generalize crcReg 4294967295 (s.data.toList.take k) = x at hx HC
      have e1 : bits .xor .u32 IntKind.u32.max (x : Int) = ((x ^^^ 4294967295 : Nat) : Int) := by
        have h := u32_xor_nat 4294967295 x (by omega) hx
        rw [Nat.xor_comm] at h
        exact h
      go_wp2
      all_goals go_ret
      all_goals exact ⟨by rw [HC.out]; rfl, rfl⟩

/-! ### The document's -/
theorem byteStep_eight (r c : Nat) : byteStep r c = bitStep (bitStep (bitStep (bitStep (bitStep (bitStep (bitStep (bitStep (r ^^^ c)))))))) := rfl

/-- k steps of the register. -/
def bitSteps (r : Nat) : Nat → Nat
  | 0 => r
  | k + 1 => bitStep (bitSteps r k)
theorem bitSteps_lt {r : Nat} (h : r < 4294967296) : ∀ k, bitSteps r k < 4294967296
  | 0 => h
  | k + 1 => bitStep_lt (bitSteps_lt h k)

set_option maxHeartbeats 800000 in
theorem refCrc_any (s : ByteArray) (w : World) (hs : s.size ≤ maxLen) :
    Calls Tryz.prog 162 #[.string s] w fun e w' => e = .returned (.int .u32 (crc s.data.toList)) ∧ w = w' := by
  unfold maxLen at hs
  go_enter Tryz.func162, Tryz.ntmps162
  go_wp2
  go_loop [3, 4, 5] (fun r i _ => ∃ k : Nat, k ≤ s.size ∧ i = .int .i64 k ∧ r = .int .u32 (crcReg 4294967295 (s.data.toList.take k) : Nat)) (fun _ i _ => s.size - (intOf i).toNat)
  case atStart => exact ⟨0, Nat.zero_le _, rfl, rfl⟩
  case round =>
    obtain ⟨k, hk, rfl, rfl⟩ := hrel
    have hx := crcReg_lt (s.data.toList.take k) 4294967295 (by omega)
    by_cases hlt : k < s.size
    · have hst := hid (crcReg_step s k hlt)
      generalize crcReg 4294967295 (s.data.toList.take k) = x at hx hst
      have hc : s[k].toNat < 256 := s[k].toNat_lt
      have hx1 : x ^^^ s[k].toNat < 4294967296 := Nat.xor_lt_two_pow (n := 32) hx (by omega)
      have e1 : bits .xor .u32 (x : Int) (s[k].toNat : Int) = ((x ^^^ s[k].toNat : Nat) : Int) := u32_xor_nat _ _ hx (by omega)
      have hb := hid (byteStep_eight x s[k].toNat)
      generalize x ^^^ s[k].toNat = r at *
      go_wp2
      go_loop [3, 5] (fun r' i => ∃ m : Nat, m ≤ 8 ∧ i = .int .i64 m ∧ r' = .int .u32 (bitSteps r m : Nat)) (fun _ i => 8 - (intOf i).toNat)
      case atStart => exact ⟨0, Nat.zero_le _, rfl, rfl⟩
      case round =>
        obtain ⟨m, hm, rfl, rfl⟩ := hrel
        have hy := bitSteps_lt hx1 m
        by_cases hm8 : m < 8
        · have hsm : Hid (bitSteps r (m + 1) = bitStep (bitSteps r m)) := hid rfl
          generalize bitSteps r m = y at hy hsm
          by_cases hodd : y % 2 = 1
          · have e2 : bits .xor .u32 ((y : Int) / 2) 2197175160 = ((bitStep y : Nat) : Int) := by
              unfold bitStep; rw [if_pos hodd]; exact u32_xor_nat (y / 2) 2197175160 (by omega) (by omega)
            go_wp2
            go_round
            case rel => exact ⟨m + 1, by omega, by go_num, by rw [hsm.out]⟩
            case measure => simp [intOf]; omega
          · have e2 : (y : Int) / 2 = ((bitStep y : Nat) : Int) := by
              unfold bitStep; rw [if_neg hodd]; rfl
            have H2 := hid e2
            clear e2
            go_wp2
            go_round
            case rel => exact ⟨m + 1, by omega, by go_num, by rw [hsm.out, ← H2.out]⟩
            case measure => simp [intOf]; omega
        · have e8 : m = 8 := by omega
          subst e8
          go_wp2
          go_round
          case rel => exact ⟨k + 1, by omega, by go_num, by rw [hst.out, hb.out]; rfl⟩
          case measure => simp [intOf]; omega
    · have e : k = s.size := by omega
      have hcr : crc s.data.toList = crcReg 4294967295 (s.data.toList.take k) ^^^ 4294967295 := by
        rw [List.take_of_length_le (by simp; omega)]; rfl
      have HC := hid hcr
      clear hcr e
      generalize crcReg 4294967295 (s.data.toList.take k) = x at hx HC
      have e1 : bits .xor .u32 (x : Int) 4294967295 = ((x ^^^ 4294967295 : Nat) : Int) := u32_xor_nat x 4294967295 hx (by omega)
      go_wp2
      all_goals go_ret
      all_goals exact ⟨by rw [HC.out]; rfl, rfl⟩
end Go.Proofs.YtbidglefddmjhaaGreatDoor

/-
  math/bits.Len64 and strings.HasPrefix, off the shelf's contracts (the table of numbers in plain words).
-/
namespace Go.Proofs.YtbidglefddmjhaaGreatDoor
open Go.Shelf
def lays129_ren : Go.Shelf.Ren := ⟨fun | 129 => 177 | n => n, fun | 53 => 213 | 3 => 3 | 4 => 4 | 46 => 175 | 5 => 5 | 9 => 9 | n => n, fun | n => n⟩
theorem lays129 : Go.Proofs.Lays.n129 Tryz.prog lays129_ren := {
  mixed := by kernel_rfl
  f129 := Tryz.func177.trans (congrArg some (by kernel_rfl))
  t3 := Tryz.underlying3
  a3 := Tryz.isAgg3
  z3 := Tryz.sizeOf3
  v3 := Tryz.zeroValue3
  t4 := Tryz.underlying4
  a4 := Tryz.isAgg4
  z4 := Tryz.sizeOf4
  v4 := Tryz.zeroValue4
  t5 := Tryz.underlying5
  a5 := Tryz.isAgg5
  z5 := Tryz.sizeOf5
  v5 := Tryz.zeroValue5
  t9 := Tryz.underlying9
  a9 := Tryz.isAgg9
  z9 := Tryz.sizeOf9
  v9 := Tryz.zeroValue9
  t46 := Tryz.underlying175
  a46 := Tryz.isAgg175
  z46 := Tryz.sizeOf175
  v46 := Tryz.zeroValue175
  t53 := Tryz.underlying213
  a53 := Tryz.isAgg213
  z53 := Tryz.sizeOf213
  v53 := Tryz.zeroValue213 }
theorem bits_Len64 (x : Int) (w : World) (h0 : 0 ≤ x) (h1 : x ≤ 18446744073709551615) :
    Calls Tryz.prog 177 #[.int .u64 x] w fun e w' => e = .returned (.int .i64 (Lib.bitLen x.toNat)) ∧ w' = w := Any.bits_Len64 lays129 x w h0 h1
def lays206_ren : Go.Shelf.Ren := ⟨fun | 206 => 231 | n => n, fun | 9 => 9 | 4 => 4 | 3 => 3 | n => n, fun | n => n⟩
def lays99_ren : Go.Shelf.Ren := ⟨fun | 99 => 206 | 206 => 231 | n => n, fun | 9 => 9 | 4 => 4 | 3 => 3 | n => n, fun | n => n⟩
theorem lays99 : Go.Proofs.Lays.n99 Tryz.prog lays99_ren := {
  mixed := by kernel_rfl
  f99 := Tryz.func206.trans (congrArg some (by kernel_rfl))
  f206 := Tryz.func231.trans (congrArg some (by kernel_rfl))
  t3 := Tryz.underlying3
  a3 := Tryz.isAgg3
  z3 := Tryz.sizeOf3
  v3 := Tryz.zeroValue3
  t4 := Tryz.underlying4
  a4 := Tryz.isAgg4
  z4 := Tryz.sizeOf4
  v4 := Tryz.zeroValue4
  t9 := Tryz.underlying9
  a9 := Tryz.isAgg9
  z9 := Tryz.sizeOf9
  v9 := Tryz.zeroValue9 }
open Go.RowKit Go.Lib in
theorem strings_HasPrefix (s p : ByteArray) (w : World) :
    Calls Tryz.prog 206 #[.string s, .string p] w fun e w' => e = .returned (.bool (Lib.hasPrefix s.data.toList p.data.toList)) ∧ w' = w := Any.strings_HasPrefix lays99 s p w
end Go.Proofs.YtbidglefddmjhaaGreatDoor

/-
  LAYER 1: numbers: what the program's and the document's functions that write them return.
-/
namespace Go.Proofs.YtbidglefddmjhaaGreatDoor
open Go.RowKit
set_option linter.unusedVariables false
set_option maxRecDepth 100000

theorem zigzag_any (n : Int) (w : World) (h0 : -9223372036854775808 ≤ n) (h1 : n ≤ 9223372036854775807) :
    Calls Tryz.prog 210 #[.int .i64 n] w fun e w' => e = .returned (.int .u64 (nat64 n)) ∧ w = w' := by
  have HZ := hid (zig_bits h0 h1)
  go_enter Tryz.func210, Tryz.ntmps210
  go_wp2
  all_goals go_ret
  all_goals exact ⟨by rw [← HZ.out]; rfl, rfl⟩

theorem unzigzag_any (v : Nat) (w : World) (h1 : v < 18446744073709551616) :
    Calls Tryz.prog 207 #[.int .u64 v] w fun e w' => e = .returned (.int .i64 (unz v)) ∧ w = w' := by
  have HZ := hid (unz_bits h1)
  go_enter Tryz.func207, Tryz.ntmps207
  go_wp2
  all_goals go_ret
  all_goals exact ⟨by rw [← HZ.out]; rfl, rfl⟩

theorem natural_any (n : Int) (w : World) (h0 : -9223372036854775808 ≤ n) (h1 : n ≤ 9223372036854775807) :
    Calls Tryz.prog 188 #[.int .i64 n] w fun e w' => e = .returned (.int .u64 (nat64 n)) ∧ w = w' := by
  by_cases hn : 0 ≤ n
  · have HZ : Hid ((nat64 n : Int) = 2 * n) := hid (by unfold nat64; rw [if_pos hn]; omega)
    go_enter Tryz.func188, Tryz.ntmps188
    go_wp2
    all_goals go_ret
    all_goals exact ⟨by rw [HZ.out]; rfl, rfl⟩
  · have HZ : Hid ((nat64 n : Int) = 2 * -(n + 1) + 1) := hid (by unfold nat64; rw [if_neg hn]; omega)
    go_enter Tryz.func188, Tryz.ntmps188
    go_wp2
    all_goals go_ret
    all_goals exact ⟨by rw [HZ.out]; rfl, rfl⟩

theorem len64_nat (x : Nat) (w : World) (h : x < 18446744073709551616) :
    Calls Tryz.prog 177 #[.int .u64 (x : Int)] w fun e w' => e = .returned (.int .i64 ((Lib.bitLen x : Nat) : Int)) ∧ w = w' :=
  (bits_Len64 (x : Int) w (by omega) (by omega)).mono fun e w' ⟨he, hw⟩ => ⟨he, hw.symm⟩

set_option maxHeartbeats 1000000 in
set_option maxRecDepth 100000 in
/-- (*output).number writes a number behind what the builder holds. -/
theorem number_any {T : TypeId} (hT : BlkOk T) (B b : Nat) (l : List UInt8) (n : Int) (w : World) (h0 : -9223372036854775808 ≤ n) (h1 : n ≤ 9223372036854775807) (h : Lib.IsBuilder T 5 B b (Lib.byteCells l) w) (hlen : l.length + 10 ≤ 140737488355328) (hBw : B ≤ w.heap.size) :
    Calls Tryz.prog 193 #[.pointer (some ⟨b, 0, none⟩), .int .i64 n] w fun e w' => e = .returned (.tuple #[]) ∧ Lib.IsBuilder T 5 B b (Lib.byteCells (l ++ enc (nat64 n))) w' ∧ Below B w w' := by
  have hu := nat64_lt h0 h1
  have HZ := zigzag_any n w h0 h1
  generalize nat64 n = v at *
  have ho : v ||| 1 < 18446744073709551616 := by have := or_one v; omega
  have e1 : bits .or .u64 (v : Int) 1 = ((v ||| 1 : Nat) : Int) := u64_or_nat v 1 hu (by omega)
  obtain ⟨g1, g2, g3⟩ := lastG_spec hu
  have hgl : ((Lib.bitLen (v ||| 1) : Nat) : Int) - 1 = ((Lib.bitLen (v ||| 1) - 1 : Nat) : Int) := by
    obtain ⟨_, _, b3⟩ := bitLenAux_bounds 64 (v ||| 1) (by have := or_one v; omega) (by rw [show 2 ^ 64 = 18446744073709551616 from rfl]; exact ho)
    have : Lib.bitLen (v ||| 1) = Lib.bitLenAux 64 (v ||| 1) := rfl
    omega
  have e2 : (((Lib.bitLen (v ||| 1) : Nat) : Int) - 1) / 7 = (lastG v : Int) := by rw [hgl]; unfold lastG; omega
  have L64 := fun w => len64_nat (v ||| 1) w ho
  have hb1 : Lib.bitLen (v ||| 1) ≤ 80 ∧ 1 ≤ Lib.bitLen (v ||| 1) := by
    unfold lastG at g1; omega
  generalize lastG v = G at *
  generalize Lib.bitLen (v ||| 1) = L at *
  have H2 := hid g2
  have H3 := hid g3
  have HL := hid L64
  have HB := hid h
  have HZ' := hid HZ
  have HE2 := hid e2
  have hLG : ((L : Int) - 1) / 7 ≤ 9 ∧ 0 ≤ ((L : Int) - 1) / 7 := by omega
  clear g2 g3 L64 h HZ hgl e2
  go_enter Tryz.func193, Tryz.ntmps193
  go_wp2_with (first
    | (go_at_call 210; refine HZ'.out.mono ?_; rintro e w' ⟨rfl, rfl⟩)
    | (go_at_call 177; refine (HL.out _).mono ?_; rintro e w' ⟨rfl, rfl⟩))
  go_loopw [6] (fun i wr => ∃ j : Nat, j ≤ G ∧ i = .int .i64 (7 * j) ∧ Hid (Lib.IsBuilder T 5 B b (Lib.byteCells (l ++ encC (v / 128 ^ (j + 1)))) wr) ∧ Below B w wr) (fun i _ => (intOf i).toNat)
  case atStart => exact ⟨G, Nat.le_refl _, by (have := HE2.out; congr 1; omega), hid (by rw [H2.out, encC_zero, List.append_nil]; exact HB.out), Below.refl _ _⟩
  case round =>
    obtain ⟨j, hj, rfl, hI, hbl⟩ := hrel
    by_cases hj0 : j = 0
    · subst hj0
      have e4 : bits .andNot .u8 ((v : Int) % 256) 128 = ((v % 128 : Nat) : Int) := by
        rw [show (v : Int) % 256 = ((v % 256 : Nat) : Int) by omega]
        have h := u8_andNot_nat (v % 256) 128 (by omega) (by omega)
        rw [show 255 - 128 = 127 from rfl, nat_mask7] at h
        rw [show ((128 : Nat) : Int) = 128 from rfl] at h
        rw [h]; omega
      have hl2 := encC_length 9 (v / 128) (by omega)
      go_wp2_with (go_at_call 211; refine (writeByte_nat hT B b (l ++ encC (v / 128)) (v % 128) (by omega) _ (by have := hI.out; simpa using this) (by rw [List.length_append]; omega) (by have := hbl.size; omega)).mono ?_; rintro e w1 ⟨rfl, h1, hb2⟩)
      go_end0
      exact ⟨rfl, by rw [enc, ← List.append_assoc]; exact h1, hbl.trans hb2⟩
    · have e3 : bits .or .u8 (IntKind.u8.wrap ((v : Int) / 2 ^ (7 * (j : Int)).toNat)) 128 = ((128 + v / 128 ^ j % 128 : Nat) : Int) := by
        rw [show (7 * (j : Int)).toNat = 7 * j by omega, IntKind.wrap_u8', show ((v : Int) / 2 ^ (7 * j)) % 256 = ((v / 2 ^ (7 * j) % 256 : Nat) : Int) by rw [Int.natCast_emod, Int.natCast_ediv, Int.natCast_pow]; rfl, Nat.pow_mul, show 2 ^ 7 = 128 from rfl]
        generalize v / 128 ^ j = y
        have h := u8_or_nat (y % 256) 128 (by omega) (by omega)
        rw [show ((128 : Nat) : Int) = 128 from rfl] at h
        rw [h]
        have h7 : y % 256 ||| 128 = 128 + y % 128 := by
          have h2 := Nat.or_div_two_pow (a := y % 256) (b := 128) (n := 7)
          have h1 := Nat.or_mod_two_pow (a := y % 256) (b := 128) (n := 7)
          rw [show 2 ^ 7 = 128 from rfl, show 128 % 128 = 0 from rfl, Nat.or_zero] at h1
          rw [show 2 ^ 7 = 128 from rfl, show 128 / 128 = 1 from rfl] at h2
          have : y % 256 / 128 = 0 ∨ y % 256 / 128 = 1 := by omega
          rcases this with h | h
          · rw [h, show 0 ||| 1 = 1 from rfl] at h2; omega
          · rw [h, show 1 ||| 1 = 1 from rfl] at h2; omega
        rw [h7]
      have HE := hid e3
      clear e3
      have hl2 := encC_length 9 (v / 128 ^ (j + 1)) (Nat.lt_of_le_of_lt (Nat.div_le_div_left (show 128 ^ 1 ≤ 128 ^ (j + 1) from Nat.pow_le_pow_right (by omega) (by omega)) (by omega)) (by omega))
      go_wp2_with fail
      go_region_with (go_at_call 211; rw [HE.out]; refine (writeByte_nat hT B b _ (128 + v / 128 ^ j % 128) (by omega) _ (builder_drew hI.out) (by rw [List.length_append]; omega) (by have := hbl.size; simp; omega)).mono ?_; rintro e w1 ⟨rfl, h1, hb2⟩)
      go_wp2
      go_roundw
      case rel =>
        refine ⟨j - 1, by omega, by congr 1; omega, hid ?_, hbl.trans (Below.trans (Below.drew (Below.refl _ _)) hb2)⟩
        rw [show j - 1 + 1 = j by omega, encC_step (H3.out j (by omega) hj), ← List.append_assoc]
        exact h1
      case measure => simp [intOf]; omega
end Go.Proofs.YtbidglefddmjhaaGreatDoor

/-
  WHAT EVERY LAW's ROW NEEDS: a call that returns true, and leaves all memory that was there as it was, meets the row's specification.
-/
namespace Go.Proofs.YtbidglefddmjhaaGreatDoor
open Go.ChangeShapes Go.WideShapes Go.ChangeAt Go.RowKit
set_option linter.unusedVariables false
set_option maxRecDepth 100000

theorem laidOut : laidOutB Tryz.prog = true := by kernel_rfl
theorem ownKnobs : ownKnob Tryz.prog.godebug = none := by kernel_rfl

theorem trodAll_stays {H : Type} {enc : TypeId × Value → H} {W W' : World} (hb : Below W.heap.size W W') :
    ∀ (ts : List TypeId) (vs : List Value) (ds : List (DataW H)) (ps : List MemPlace), (∀ t ∈ ts, Tryz.prog.readableRec t = true ∧ t < Tryz.prog.types.size) →
      DataW.TrodAll enc Tryz.prog W 0 (fun _ => true) true ts vs ds ps → (∀ x ∈ ps, x.block < W.heap.size) →
      DataW.TrodAll enc Tryz.prog W' 0 (fun b => decide (b < W.heap.size)) true ts vs ds ps := by
  intro ts
  induction ts with
  | nil =>
    intro vs ds ps _ h _
    obtain ⟨rfl, rfl, rfl⟩ := trodAll_nil h
    exact rfl
  | cons t ts ih =>
    intro vs ds ps ht h hlt
    obtain ⟨v, vs', d, ds', p, q, rfl, rfl, rfl, h1, h2⟩ := trodAll_cons h
    have h3 := ht t (by simp)
    exact ⟨p, q, Below.trod laidOut h3.1 h3.2 h1 hb (fun x hx => hlt x (by simp [hx])), ih _ _ _ (fun u hu => ht u (by simp [hu])) h2 (fun x hx => hlt x (by simp [hx])), rfl⟩

theorem okTy {t : TypeId} (h1 : Tryz.prog.readableRec t = true) (h2 : decide (t < Tryz.prog.types.size) = true) : Tryz.prog.readableRec t = true ∧ t < Tryz.prog.types.size := ⟨h1, of_decide_eq_true h2⟩

/-- THE ROW's 'post' OF A LAW: true; the arguments read as they did. -/
theorem law_post {H : Type} {enc : TypeId × Value → H} {f : Func} {s : ChangeSpec} {W W' : World} {args : Array Value} {ds gs : List (DataW H)} {before : List MemPlace}
    (hW : DataW.Whole enc Tryz.prog f.params.toList s.vars false W args.toList ds gs before) (hb : Below W.heap.size W W') (hvars : s.vars = [])
    (hparams : ∀ t ∈ f.params.toList, Tryz.prog.readableRec t = true ∧ t < Tryz.prog.types.size) (hres : f.resultTypes = #[4])
    (hfn : (s.fn H (ds ++ gs)).results = [.lit (.bool true)] ∧ (s.fn H (ds ++ gs)).args = ds ∧ (s.fn H (ds ++ gs)).vars = []) :
    s.post enc Tryz.prog f false true false false W args (.bool true) W' := by
  have hlt := hW.lt
  have hW' := hW
  obtain ⟨p, q, hA, hV, rfl, hfz, hnd⟩ := hW
  rw [hvars] at hV
  obtain ⟨rfl, rfl⟩ := trodVars_none hV
  refine ⟨ds, [], _, [], p, [], hW', ?_, ?_, ?_, hb.frame _, fun h => by cases h⟩
  · rw [hfn.1, hres]; exact trodAll_mk1 (shut_bool Tryz.underlying4 true)
  · rw [hfn.2.1]
    exact trodAll_stays hb _ _ _ _ hparams hA (fun x hx => hlt x (by simp [hx]))
  · rw [hvars, hfn.2.2]; exact rfl
end Go.Proofs.YtbidglefddmjhaaGreatDoor

/-
  SLICES OF INTS AND OF STRINGS that came in: where their cells lie; what the arguments' reading gives of them.
-/
namespace Go.Proofs.YtbidglefddmjhaaGreatDoor
open Go.ChangeShapes Go.WideShapes Go.ChangeAt Go.RowKit
open Go.WideMaps Go.WideElems
set_option linter.unusedVariables false
set_option maxRecDepth 100000

/-- A slice of ints, wherever it lies below block B. -/
def IntsAt (w : World) (B : Nat) (v : Value) (xs : List Int) : Prop :=
  ∃ a cap, v = .slice a xs.length cap ∧ (xs ≠ [] → ∃ sb so, a = some ⟨sb, so, none⟩ ∧ sb < B ∧ ∀ j x, xs[j]? = some x → w.cell? ⟨sb, so + j, none⟩ = some (.int .i64 x))

/-- A slice of strings, wherever it lies below block B. -/
def StrsAt (w : World) (B : Nat) (v : Value) (xs : List ByteArray) : Prop :=
  ∃ a cap, v = .slice a xs.length cap ∧ (xs ≠ [] → ∃ sb so, a = some ⟨sb, so, none⟩ ∧ sb < B ∧ ∀ j x, xs[j]? = some x → w.cell? ⟨sb, so + j, none⟩ = some (.string x))

theorem cellsInt : Tryz.prog.cellsOf 3 = 1 := by kernel_rfl
theorem cellsString : Tryz.prog.cellsOf 9 = 1 := by kernel_rfl

theorem ints_arg {H : Type} {enc : TypeId × Value → H} {W : World} {base : Nat} {v : Value} {d : DataW H} {p : List MemPlace} (ho : Value.okWide Tryz.prog W .any base 32 v)
    (h : DataW.Trod enc Tryz.prog W 0 (fun _ => true) true 32 v d p) :
    ∃ xs : List Int, IntsAt W W.heap.size v xs ∧ (∀ n ∈ xs, -9223372036854775808 ≤ n ∧ n ≤ 9223372036854775807) ∧ xs.length ≤ maxLen := by
  obtain ⟨a0, len, cap, rfl⟩ := okWide_slice Tryz.underlying32 ho
  obtain ⟨fuel, hf⟩ := h
  rcases open_ints Tryz.underlying32 Tryz.underlying3 cellsInt hf with ⟨hcs, hx⟩ | ⟨a, len', cap', zs, hcs, _, hl, hm, hz, hx, hcell, hwz⟩
  · simp [Value.cells] at hcs
    obtain ⟨rfl, rfl, rfl⟩ := hcs
    exact ⟨[], ⟨none, 0, rfl, fun h => absurd rfl h⟩, by simp, by simp⟩
  · simp [Value.cells] at hcs
    obtain ⟨rfl, rfl, rfl⟩ := hcs
    simp only [if_true] at hz
    have hlen : (zs.take len).length = len := by rw [List.length_take]; omega
    refine ⟨zs.take len, ⟨some a, cap, by rw [hlen], fun h0 => ?_⟩, ?_, by omega⟩
    · have hpos : 0 < zs.length := by
        rcases Nat.eq_zero_or_pos zs.length with h | h
        · exact absurd (by rw [List.length_eq_zero_iff.1 h]; simp) h0
        · exact h
      obtain ⟨b, off, rfl, hc⟩ := ints_at hcell hpos
      refine ⟨b, off, rfl, World.block_lt_of_cell? W _ (hc 0 hpos), fun j x hj => ?_⟩
      have hjl : j < len := by
        rcases Nat.lt_or_ge j len with h | h
        · exact h
        · rw [List.getElem?_eq_none (by rw [hlen]; exact h)] at hj; cases hj
      rw [hc j (by omega)]
      rw [List.getElem?_take_of_lt hjl] at hj
      simp [List.getD, hj]
    · intro n hn
      have := hwz n (List.mem_of_mem_take hn)
      simpa [Lit.wf, IntKind.min, IntKind.max, IntKind.signed, IntKind.bits] using this

theorem strs_arg {H : Type} {enc : TypeId × Value → H} {W : World} {base : Nat} {v : Value} {d : DataW H} {p : List MemPlace} (ho : Value.okWide Tryz.prog W .any base 47 v)
    (h : DataW.Trod enc Tryz.prog W 0 (fun _ => true) true 47 v d p) :
    ∃ xs : List ByteArray, StrsAt W W.heap.size v xs ∧ (∀ s ∈ xs, s.size ≤ maxLen) ∧ xs.length ≤ maxLen := by
  obtain ⟨a0, len, cap, rfl⟩ := okWide_slice Tryz.underlying47 ho
  obtain ⟨fuel, hf⟩ := h
  rcases open_strings Tryz.underlying47 Tryz.underlying9 cellsString hf with ⟨hcs, hx⟩ | ⟨a, len', cap', zs, hcs, _, hl, hm, hz, hx, hcell, hwz⟩
  · simp [Value.cells] at hcs
    obtain ⟨rfl, rfl, rfl⟩ := hcs
    exact ⟨[], ⟨none, 0, rfl, fun h => absurd rfl h⟩, by simp, by simp⟩
  · simp [Value.cells] at hcs
    obtain ⟨rfl, rfl, rfl⟩ := hcs
    simp only [if_true] at hz
    have hlen : (zs.take len).length = len := by rw [List.length_take]; omega
    refine ⟨zs.take len, ⟨some a, cap, by rw [hlen], fun h0 => ?_⟩, fun s hs => hwz s (List.mem_of_mem_take hs), by omega⟩
    have hpos : 0 < zs.length := by
      rcases Nat.eq_zero_or_pos zs.length with h | h
      · exact absurd (by rw [List.length_eq_zero_iff.1 h]; simp) h0
      · exact h
    obtain ⟨b, off, spot⟩ := a
    have hspot : spot = none := by simpa [Addr.add] using World.cell?_spot (hcell 0 hpos)
    subst hspot
    have hc : ∀ j, j < zs.length → W.cell? ⟨b, off + j, none⟩ = some (.string (zs.getD j ByteArray.empty)) := fun j hj => by rw [← Go.WideShapes.add_plain]; exact hcell j hj
    refine ⟨b, off, rfl, World.block_lt_of_cell? W _ (hc 0 hpos), fun j x hj => ?_⟩
    have hjl : j < len := by
      rcases Nat.lt_or_ge j len with h | h
      · exact h
      · rw [List.getElem?_eq_none (by rw [hlen]; exact h)] at hj; cases hj
    rw [hc j (by omega)]
    rw [List.getElem?_take_of_lt hjl] at hj
    simp [List.getD, hj]
end Go.Proofs.YtbidglefddmjhaaGreatDoor

/-
  LAYER 1: Int, Text and Bool: what the program's and the document's return.
-/
namespace Go.Proofs.YtbidglefddmjhaaGreatDoor
open Go.RowKit
set_option linter.unusedVariables false
set_option maxRecDepth 100000

theorem blkOk_output : BlkOk 226 := ⟨by kernel_rfl, by decide⟩

theorem encs_snoc (l : List Int) (n : Int) : encs (l ++ [n]) = encs l ++ enc (nat64 n) := by simp [encs]
theorem encs_length (l : List Int) (h : ∀ n ∈ l, -9223372036854775808 ≤ n ∧ n ≤ 9223372036854775807) : (encs l).length ≤ 10 * l.length := by
  induction l with
  | nil => simp [encs]
  | cons n l ih =>
    have h1 := enc_length (nat64_lt (h n (by simp)).1 (h n (by simp)).2)
    have h2 := ih fun m hm => h m (by simp [hm])
    simp only [encs, List.flatMap_cons, List.length_append, List.length_cons] at *
    omega

/-- A text: its length, and its bytes. -/
def txt (s : List UInt8) : List UInt8 := enc (nat64 s.length) ++ s
def txts (l : List ByteArray) : List UInt8 := l.flatMap fun s => txt s.data.toList

set_option maxHeartbeats 1000000 in
set_option maxRecDepth 100000 in
theorem eachInt_any {T : TypeId} (hT : BlkOk T) (B b : Nat) (l : List UInt8) (sb so cap : Nat) (xs : List Int) (w : World)
    (hc : ∀ j x, xs[j]? = some x → w.cell? ⟨sb, so + j, none⟩ = some (.int .i64 x)) (hx : ∀ n ∈ xs, -9223372036854775808 ≤ n ∧ n ≤ 9223372036854775807) (hsb : sb < B)
    (h : Lib.IsBuilder T 5 B b (Lib.byteCells l) w) (hlen : l.length + 10 * xs.length ≤ 140737488355328) (hBw : B ≤ w.heap.size) :
    Calls Tryz.prog 192 #[.slice (some ⟨sb, so, none⟩) xs.length cap, .func (.func 193) #[.pointer (some ⟨b, 0, none⟩)] #[]] w fun e w' =>
      e = .returned (.tuple #[]) ∧ Lib.IsBuilder T 5 B b (Lib.byteCells (l ++ encs xs)) w' ∧ Below B w w' := by
  have HB := hid h
  have HX := hid hx
  have HC := hid hc
  clear h hx hc
  go_enter Tryz.func192, Tryz.ntmps192
  go_wp2
  go_loopw [8] (fun i wr => ∃ k : Nat, k ≤ xs.length ∧ i = .int .i64 k ∧ Hid (Lib.IsBuilder T 5 B b (Lib.byteCells (l ++ encs (xs.take k))) wr) ∧ Below B w wr) (fun i _ => xs.length - (intOf i).toNat)
  case atStart => exact ⟨0, Nat.zero_le _, rfl, hid (by simpa [encs] using HB.out), Below.refl _ _⟩
  case round =>
    obtain ⟨k, hk, rfl, hI, hbl⟩ := hrel
    by_cases hlt : k < xs.length
    · have hx := HX.out xs[k] (List.getElem_mem _)
      have c1 : wr.cell? ⟨sb, so + k, none⟩ = some (.int .i64 xs[k]) := (hbl.cell (p := ⟨sb, so + k, none⟩) hsb).trans (HC.out k _ (by simp [hlt]))
      have ht : xs.take (k + 1) = xs.take k ++ [xs[k]] := by rw [List.take_succ_eq_append_getElem hlt]
      have HT := hid ht
      clear ht
      have hl := encs_length (xs.take k) fun n hn => HX.out n (List.mem_of_mem_take hn)
      rw [List.length_take] at hl
      generalize xs[k] = x at *
      go_wp2_with (go_at_call 193; refine (number_any hT B b _ x _ hx.1 hx.2 hI.out (by rw [List.length_append]; omega) (by have := hbl.size; omega)).mono ?_; rintro e w1 ⟨rfl, h1, hb2⟩)
      go_roundw
      case rel => exact ⟨k + 1, by omega, by go_num, hid (by rw [HT.out, encs_snoc, ← List.append_assoc]; exact h1), hbl.trans hb2⟩
      case measure => simp [intOf]; omega
    · go_wp2
      go_end0
      exact ⟨rfl, by have := hI.out; rw [List.take_of_length_le (by omega)] at this; exact this, hbl⟩

theorem eachInt_none (a : Option Addr) (cap : Nat) (f : Value) (w : World) :
    Calls Tryz.prog 192 #[.slice a 0 cap, f] w fun e w' => e = .returned (.tuple #[]) ∧ w = w' := by
  go_enter Tryz.func192, Tryz.ntmps192
  go_wp2
  refine wp_loop_rounds 1 ?_
  rw [rounds_succ]
  go_wp2
  go_end0
  exact ⟨rfl, rfl⟩

set_option maxHeartbeats 1000000 in
set_option maxRecDepth 100000 in
/-- codec.Int. -/
theorem int_any (v : Value) (xs : List Int) (w : World) (hv : IntsAt w w.heap.size v xs) (hx : ∀ n ∈ xs, -9223372036854775808 ≤ n ∧ n ≤ 9223372036854775807) (hlen : 10 * xs.length ≤ 140737488355328) :
    Calls Tryz.prog 156 #[v] w fun e w' => e = .returned (.string ⟨(encs xs).toArray⟩) ∧ Below w.heap.size w w' := by
  obtain ⟨a, cap, rfl, ha⟩ := hv
  have HX := hid hx
  have hfr : Lib.IsBuilder 226 5 w.heap.size w.heap.size [] (w.alloc (.cells #[.pointer none, .slice none 0 0] 226)) := Lib.fresh_isBuilder _ _ _
  have HF := hid hfr
  clear hfr hx
  have heach : ∀ W, Hid (W = w.alloc (.cells #[.pointer none, .slice none 0 0] 226)) → Calls Tryz.prog 192 #[.slice a xs.length cap, .func (.func 193) #[.pointer (some ⟨w.heap.size, 0, none⟩)] #[]] W fun e w' =>
      e = .returned (.tuple #[]) ∧ Lib.IsBuilder 226 5 w.heap.size w.heap.size (Lib.byteCells (encs xs)) w' ∧ Below w.heap.size W w' := by
    intro W hW
    have hW := hW.out
    subst hW
    by_cases h0 : xs = []
    · subst h0
      refine (eachInt_none a cap _ _).mono ?_
      rintro e w' ⟨rfl, rfl⟩
      exact ⟨rfl, HF.out, Below.refl _ _⟩
    · obtain ⟨sb, so, rfl, hsb, hc⟩ := ha h0
      refine (eachInt_any blkOk_output w.heap.size w.heap.size [] sb so cap xs _ ?_ HX.out hsb (by simpa [Lib.byteCells] using HF.out) (by simpa using hlen) (by simp)).mono ?_
      · intro j x hj
        exact ((Below.alloc (Below.refl w.heap.size w) (Nat.le_refl _) _).cell (p := ⟨sb, so + j, none⟩) hsb).trans (hc j x hj)
      · rintro e w' ⟨rfl, h1, h2⟩
        exact ⟨rfl, by simpa using h1, h2⟩
  have HE := hid heach
  clear heach ha
  go_enter Tryz.func156, Tryz.ntmps156
  go_wp2_with (first
    | (go_at_call 192; refine (HE.out _ (hid rfl)).mono ?_; rintro e w1 ⟨rfl, h1, h2⟩)
    | (go_at_call 93; refine (string_any w.heap.size w.heap.size (encs xs) _ h1 (by have := h2.size; simp at this; omega)).mono ?_; rintro e w2 ⟨rfl, h3⟩))
  go_ret
  exact ⟨rfl, (Below.alloc (Below.refl _ _) (Nat.le_refl _) _).trans (h2.trans h3)⟩

set_option maxHeartbeats 1000000 in
set_option maxRecDepth 100000 in
/-- The document's Int. -/
theorem refInt_any (n : Int) (w : World) (h0 : -9223372036854775808 ≤ n) (h1 : n ≤ 9223372036854775807) :
    Calls Tryz.prog 143 #[.int .i64 n] w fun e w' => e = .returned (.string ⟨(enc (nat64 n)).toArray⟩) ∧ Below w.heap.size w w' := by
  have hu := nat64_lt h0 h1
  have HZ := hid (natural_any n w h0 h1)
  have hel := enc_length hu
  have henc : enc (nat64 n) = encC (nat64 n / 128) ++ [UInt8.ofNat (nat64 n % 128)] := rfl
  generalize nat64 n = v at *
  obtain ⟨i0, hi, hz0, hz1, hz2⟩ := infoByte_parts
  have HE := hid henc
  have e1 : IntKind.u8.wrap ((v : Int) % 128) = ((v % 128 : Nat) : Int) := by rw [IntKind.wrap_u8']; omega
  clear henc
  go_enter Tryz.func143, Tryz.ntmps143
  go_wp2_with (go_at_call 188; refine HZ.out.mono ?_; rintro e w' ⟨rfl, rfl⟩)
  go_loopw [3, 4] (fun x b wr => ∃ (u : Nat) (bs : List UInt8) (g cap : Nat), u < 18446744073709551616 ∧ x = .int .u64 u ∧ b = .slice (some ⟨g, 0, none⟩) bs.length cap ∧ Hid (encC u ++ bs = enc v) ∧ Hid (Bytes wr w.heap.size (.slice (some ⟨g, 0, none⟩) bs.length cap) bs) ∧ 0 < bs.length ∧ Below w.heap.size w wr) (fun x _ _ => (intOf x).toNat)
  case atStart => exact ⟨v / 128, [UInt8.ofNat (v % 128)], w.heap.size, 1, by omega, by go_num, rfl, hid HE.out.symm, hid (Bytes.one w _ (v % 128) _ (by omega) (by omega) (Nat.le_refl _)), by simp, Below.alloc (Below.refl _ _) (Nat.le_refl _) _⟩
  case round =>
    obtain ⟨u, bs, g, cap, hu, rfl, rfl, hE, hB, hpos, hbl⟩ := hrel
    by_cases hu0 : u = 0
    · subst hu0
      have hst := hB.out.shape (by intro h; simp [h] at hpos)
      obtain ⟨g', cap', hv', _, hg, _, _, hc, _⟩ := hst
      cases hv'
      have hrs := run_string (w := wr) (g := g) (n := bs.length) (cap := cap) rfl hc
      clear hc
      go_wp2
      go_ret
      have := hE.out
      rw [encC_zero, List.nil_append] at this
      exact ⟨by rw [this]; rfl, hbl⟩
    · have hlen : (encC u ++ bs).length ≤ 10 := by rw [hE.out]; exact hel
      rw [List.length_append] at hlen
      have hcs : ∀ j x, (Lib.byteCells bs)[j]? = some x → wr.cell? ((⟨g, 0, none⟩ : Addr).add j) = some x := fun j x hj => World.ownsRow.cells hB.out (g := g) rfl j x hj
      have HCS := hid hcs
      clear hcs
      have hgw := World.ownsRow.lt hB.out g rfl
      have hz := hbl.size
      have hone := Bytes.one wr w.heap.size (128 + u % 128) (128 + (u : Int) % 128) (by omega) (by omega) hz
      generalize hxe : UInt8.ofNat (128 + u % 128) = x at hone
      have HO := hid hone
      have HXE := hid hxe
      clear hone hxe
      go_wp2_with (at_builtin; refine wpList_append_own _ rfl _ _ 84 rfl w.heap.size 5 i0 (.int .u8 0) 1 1 Tryz.underlying84 hi hz0 hz1 hz2 rfl (by decide) _ _ _ rfl HO.out ⟨g, 0, none⟩ bs.length cap (Lib.byteCells bs) rfl (by rw [Lib.byteCells_length, Nat.mul_one]) ?c1 (byteCells_one bs) ?c3 ?c4 ?c5 ?_)
      case c1 => intro j x hj; exact (Below.cell (Below.alloc (Below.refl wr.heap.size wr) (Nat.le_refl _) _) (p := (⟨g, 0, none⟩ : Addr).add j) (by unfold Addr.add; split <;> exact hgw.2)).trans (HCS.out j x hj)
      case c3 => unfold maxLen; simp; omega
      case c4 => simp; omega
      case c5 => simp; omega
      intro v' w2 hown' hgrow _
      have hby : Bytes w2 w.heap.size v' (x :: bs) := by
        have e : Lib.byteCells [x] ++ Lib.byteCells bs = Lib.byteCells (x :: bs) := by rw [byteCells_append]; rfl
        unfold Bytes
        rw [← e, show (x :: bs).length = [x].length + bs.length by simp; omega]
        exact hown'
      obtain ⟨g2, cap2, rfl, hg2, _⟩ := hby.shape (by simp)
      have HY := hid hby
      have hbl2 : Below w.heap.size w w2 := (hbl.alloc hz _).grown hgrow (by simp; omega) (fun k hk => (World.ownsRow.lt HO.out k hk).1)
      clear hby hown' hgrow
      go_wp2
      go_roundw
      case rel => exact ⟨u / 128, x :: bs, g2, cap2, by omega, by go_num, rfl, hid (by rw [← hE.out, encC_pos hu0, HXE.out, List.append_assoc]; rfl), HY, by simp, hbl2⟩
      case measure => simp [intOf]; omega
end Go.Proofs.YtbidglefddmjhaaGreatDoor

/-
  LAYER 1: ToInt, the program's and the document's: both return what 'toInt' says.
-/
namespace Go.Proofs.YtbidglefddmjhaaGreatDoor
open Go.RowKit
set_option linter.unusedVariables false
set_option maxRecDepth 100000

/-- What ToInt returns. -/
def intRes : Option (Nat × List UInt8) → Value
  | none => .tuple #[.int .i64 0, .string ⟨#[]⟩, .bool false]
  | some (v, r) => .tuple #[.int .i64 (unz v), .string (mk r), .bool true]

theorem toIntI_cons (u : Nat) (c : UInt8) (r : List UInt8) : toIntI u (c :: r) = if 144115188075855871 < u then none else if c.toNat < 128 then some (u * 128 + c.toNat % 128, r) else toIntI (u * 128 + c.toNat % 128) r := rfl

theorem andNot128 (c : Nat) (hc : c < 256) : bits .andNot .u8 (c : Int) 128 = ((c % 128 : Nat) : Int) := by
  have h := u8_andNot_nat c 128 hc (by omega)
  rw [show 255 - 128 = 127 from rfl, nat_mask7] at h
  exact h
theorem or_seven (u c : Nat) (hu : u ≤ 144115188075855871) : bits .or .u64 ((u : Int) * 128) ((c : Int) % 128) = ((u * 128 + c % 128 : Nat) : Int) := by
  have h := u64_or_nat (u * 128) (c % 128) (by omega) (by omega)
  rw [nat_join 7 (u * 128) (c % 128) (by omega) (by omega)] at h
  rw [← h]; rfl

theorem hasPrefix128 (l : List UInt8) : Lib.hasPrefix l [128] = decide (l.head? = some 128) := by
  cases l with
  | nil => rfl
  | cons c r =>
    show ((128 : UInt8) == c && List.isPrefixOf [] r) = _
    rw [List.head?_cons, show List.isPrefixOf ([] : List UInt8) r = true from by cases r <;> rfl, Bool.and_true, Bool.eq_iff_iff, beq_iff_eq, decide_eq_true_iff]
    exact ⟨fun h => by rw [h], fun h => (Option.some.inj h).symm⟩

set_option maxHeartbeats 1000000 in
set_option maxRecDepth 100000 in
theorem toInt_any (s : ByteArray) (w : World) (hs : s.size ≤ maxLen) :
    Calls Tryz.prog 181 #[.string s] w fun e w' => e = .returned (intRes (toInt s.data.toList)) ∧ ∃ m, w' = w.drewN m := by
  unfold maxLen at hs
  have HP := hid (fun w => strings_HasPrefix s ⟨#[128]⟩ w)
  by_cases hp : s.data.toList.head? = some 128
  · have hres : toInt s.data.toList = none := by unfold toInt; rw [if_pos hp]
    have HR := hid hres
    have hb : Lib.hasPrefix s.data.toList [128] = true := by rw [hasPrefix128]; simpa using hp
    clear hres hp
    go_enter Tryz.func181, Tryz.ntmps181
    go_wp2_with (go_at_call 206; refine (HP.out _).mono ?_; rintro e w' ⟨rfl, rfl⟩)
    go_ret3
    exact ⟨by rw [HR.out]; rfl, 0, rfl⟩
  · have hres : toInt s.data.toList = toIntI 0 (s.data.toList.drop 0) := by unfold toInt; rw [if_neg hp]; rfl
    have HR := hid hres
    have hb : Lib.hasPrefix s.data.toList [128] = false := by rw [hasPrefix128]; simpa using hp
    clear hres hp
    go_enter Tryz.func181, Tryz.ntmps181
    go_wp2_with (go_at_call 206; refine (HP.out _).mono ?_; rintro e w' ⟨rfl, rfl⟩)
    go_loop [5, 6, 11] (fun u _ i => ∃ k x : Nat, k ≤ s.size ∧ i = .int .i64 k ∧ u = .int .u64 x ∧ x < 18446744073709551616 ∧ Hid (toInt s.data.toList = toIntI x (s.data.toList.drop k))) (fun _ _ i => s.size - (intOf i).toNat)
    case atStart => exact ⟨0, 0, Nat.zero_le _, rfl, rfl, by omega, HR⟩
    case round =>
      obtain ⟨k, x, hk, rfl, rfl, hx, hI⟩ := hrel
      by_cases hlt : k < s.size
      · have hst := hI.out
        rw [drop_cons s k hlt, toIntI_cons] at hst
        have hc : s[k].toNat < 256 := s[k].toNat_lt
        by_cases hbig : 144115188075855871 < x
        · rw [if_pos hbig] at hst
          have HS := hid hst
          clear hst
          go_wp2
          go_ret3
          exact ⟨by rw [HS.out]; rfl, 0, rfl⟩
        · rw [if_neg hbig] at hst
          have e1 := andNot128 s[k].toNat hc
          have e2 := or_seven x s[k].toNat (by omega)
          have hbig' : x ≤ 144115188075855871 := by omega
          have hnew : x * 128 + s[k].toNat % 128 < 18446744073709551616 := by omega
          by_cases hend : s[k].toNat < 128
          · rw [if_pos hend] at hst
            have HS := hid hst
            have HU := hid (fun w => unzigzag_any (x * 128 + s[k].toNat % 128) w hnew)
            have hx2 : s.extract (k + 1) s.size = mk (s.data.toList.drop (k + 1)) := extract_drop s (k + 1) _ rfl
            have HX2 := hid hx2
            generalize x * 128 + s[k].toNat % 128 = y at *
            clear hst hx2
            go_wp2
            go_quiet ((go_at_call 207; exact quiet_eq (HU.out _)))
            go_wp2
            go_ret3
            exact ⟨by rw [HS.out, intRes, ← HX2.out]; rfl, _, rfl⟩
          · rw [if_neg hend] at hst
            have HS := hid hst
            generalize hy : x * 128 + s[k].toNat % 128 = y at *
            clear hst
            have HY := hid hy
            clear hy
            go_wp2
            go_round
            case rel => exact ⟨k + 1, y, by omega, by go_num, rfl, hnew, HS⟩
            case measure => simp [intOf]; omega
      · have hst := hI.out
        rw [List.drop_eq_nil_of_le (by rw [str_len]; omega), toIntI] at hst
        have HS := hid hst
        clear hst
        go_wp2
        go_ret3
        exact ⟨by rw [HS.out]; rfl, 0, rfl⟩
end Go.Proofs.YtbidglefddmjhaaGreatDoor

/-
  LAYER 1: the document's ToInt.
-/
namespace Go.Proofs.YtbidglefddmjhaaGreatDoor
open Go.RowKit
set_option linter.unusedVariables false
set_option maxRecDepth 100000

theorem toIntR_cons (p : List UInt8) (v : Nat) (c : UInt8) (r : List UInt8) : toIntR p v (c :: r) = if p.length < 10 then
      (if c.toNat < 128 then (if enc ((128 * v + c.toNat % 128) % 18446744073709551616) = p ++ [c] then some ((128 * v + c.toNat % 128) % 18446744073709551616, r) else none)
       else toIntR (p ++ [c]) ((128 * v + c.toNat % 128) % 18446744073709551616) r)
    else none := rfl

theorem take_len (s : ByteArray) (k : Nat) (h : k ≤ s.size) : (s.data.toList.take k).length = k := by
  rw [List.length_take, str_len]; omega

theorem wrap_u64 (n : Int) : IntKind.u64.wrap n = n % 18446744073709551616 := by simp [IntKind.wrap, IntKind.bits, IntKind.signed]

set_option maxHeartbeats 1000000 in
set_option maxRecDepth 100000 in
theorem refToInt_any (s : ByteArray) (w : World) (hs : s.size ≤ maxLen) :
    Calls Tryz.prog 148 #[.string s] w fun e w' => e = .returned (intRes (toInt s.data.toList)) ∧ Below w.heap.size w w' := by
  unfold maxLen at hs
  have HR : Hid (toInt s.data.toList = toIntR (s.data.toList.take 0) 0 (s.data.toList.drop 0)) := hid (toIntR_eq _).symm
  go_enter Tryz.func148, Tryz.ntmps148
  go_wp2_with fail
  go_loopw [5, 6, 7] (fun v i _ wr => ∃ k x : Nat, k ≤ s.size ∧ i = .int .i64 k ∧ v = .int .u64 x ∧ x < 18446744073709551616 ∧ Hid (toInt s.data.toList = toIntR (s.data.toList.take k) x (s.data.toList.drop k)) ∧ w = wr) (fun _ i _ _ => s.size - (intOf i).toNat)
  case atStart => exact ⟨0, 0, Nat.zero_le _, rfl, rfl, by omega, HR, rfl⟩
  case round =>
    obtain ⟨k, x, hk, rfl, rfl, hx, hI, rfl⟩ := hrel
    by_cases hlt : k < s.size
    · have hst := hI.out
      rw [drop_cons s k hlt, toIntR_cons, take_len s k hk] at hst
      have hc : s[k].toNat < 256 := s[k].toNat_lt
      by_cases h10 : k < 10
      · rw [if_pos h10, ← take_snoc' s k hlt] at hst
        have e2 : IntKind.u64.wrap (IntKind.u64.wrap (128 * (x : Int)) + (s[k].toNat : Int) % 128) = (((128 * x + s[k].toNat % 128) % 18446744073709551616 : Nat) : Int) := by
          rw [wrap_u64, wrap_u64]; omega
        have hy : (128 * x + s[k].toNat % 128) % 18446744073709551616 < 18446744073709551616 := Nat.mod_lt _ (by omega)
        generalize (128 * x + s[k].toNat % 128) % 18446744073709551616 = y at *
        by_cases hend : s[k].toNat < 128
        · rw [if_pos hend] at hst
          have HS := hid hst
          clear hst
          have hxk : s.extract (k + 1) s.size = mk (s.data.toList.drop (k + 1)) := extract_drop s (k + 1) _ rfl
          have hxt : s.extract 0 (k + 1) = mk (s.data.toList.take (k + 1)) := extract_take s (k + 1)
          have HX := hid hxk
          have HT := hid hxt
          clear hxk hxt
          by_cases hodd : y % 2 = 1
          · have hn : unz y = -((y : Int) / 2) - 1 := by unfold unz; rw [if_pos hodd]; omega
            have HI := fun w => refInt_any (-((y : Int) / 2) - 1) w (by omega) (by omega)
            rw [← hn, nat64_unz, hn] at HI
            have HII := hid HI
            have HN := hid hn
            clear HI hn
            have htl : (s.extract 0 (k + 1)).toList = s.data.toList.take (k + 1) := by rw [HT.out, Lib.toList_data, mk_data]
            have b1 : (k : Int) + 1 ≤ (s.size : Int) := by omega
            have b2 : (0 : Int) ≤ (k : Int) + 1 := by omega
            by_cases hq : enc y = s.data.toList.take (k + 1)
            · have hst2 := HS.out
              rw [if_pos hq] at hst2
              have HS2 := hid hst2
              have hq' : (enc y == (s.extract 0 (k + 1)).toList) = true := by rw [htl, hq, beq_self_eq_true]
              clear hst2 hq htl
              go_wp2_with fail
              have s1 : IntKind.i64.wrap ((k : Int) + 1) = (k : Int) + 1 := IntWalk.i64_in _ (by omega)
              have s2 : ((k : Int) + 1).toNat = k + 1 := by omega
              go_region_with (go_at_call 143; refine (HII.out _).mono ?_; rintro e w1 ⟨rfl, hb⟩)
              go_wp2
              go_quiet (fail)
              clear s1 s2
              go_wp2
              go_ret3
              exact ⟨by rw [HS2.out, intRes, HN.out, ← HX.out]; rfl, below_drew (Below.trans (Below.drew (Below.refl _ _)) hb) _⟩
            · have hst2 := HS.out
              rw [if_neg hq] at hst2
              have HS2 := hid hst2
              have hq' : (enc y == (s.extract 0 (k + 1)).toList) = false := by rw [htl]; exact beq_eq_false_iff_ne.2 hq
              clear hst2 hq htl
              go_wp2_with fail
              have s1 : IntKind.i64.wrap ((k : Int) + 1) = (k : Int) + 1 := IntWalk.i64_in _ (by omega)
              have s2 : ((k : Int) + 1).toNat = k + 1 := by omega
              go_region_with (go_at_call 143; refine (HII.out _).mono ?_; rintro e w1 ⟨rfl, hb⟩)
              clear s1 s2
              go_wp2
              go_ret3
              exact ⟨by rw [HS2.out]; rfl, Below.trans (Below.drew (Below.refl _ _)) hb⟩
          · have hn : unz y = (y : Int) / 2 := by unfold unz; rw [if_neg hodd]; omega
            have HI := fun w => refInt_any ((y : Int) / 2) w (by omega) (by omega)
            rw [← hn, nat64_unz, hn] at HI
            have HII := hid HI
            have HN := hid hn
            clear HI hn
            have htl : (s.extract 0 (k + 1)).toList = s.data.toList.take (k + 1) := by rw [HT.out, Lib.toList_data, mk_data]
            have b1 : (k : Int) + 1 ≤ (s.size : Int) := by omega
            have b2 : (0 : Int) ≤ (k : Int) + 1 := by omega
            by_cases hq : enc y = s.data.toList.take (k + 1)
            · have hst2 := HS.out
              rw [if_pos hq] at hst2
              have HS2 := hid hst2
              have hq' : (enc y == (s.extract 0 (k + 1)).toList) = true := by rw [htl, hq, beq_self_eq_true]
              clear hst2 hq htl
              go_wp2_with fail
              have s1 : IntKind.i64.wrap ((k : Int) + 1) = (k : Int) + 1 := IntWalk.i64_in _ (by omega)
              have s2 : ((k : Int) + 1).toNat = k + 1 := by omega
              go_region_with (go_at_call 143; refine (HII.out _).mono ?_; rintro e w1 ⟨rfl, hb⟩)
              go_wp2
              go_quiet (fail)
              clear s1 s2
              go_wp2
              go_ret3
              exact ⟨by rw [HS2.out, intRes, HN.out, ← HX.out]; rfl, below_drew (Below.trans (Below.drew (Below.refl _ _)) hb) _⟩
            · have hst2 := HS.out
              rw [if_neg hq] at hst2
              have HS2 := hid hst2
              have hq' : (enc y == (s.extract 0 (k + 1)).toList) = false := by rw [htl]; exact beq_eq_false_iff_ne.2 hq
              clear hst2 hq htl
              go_wp2_with fail
              have s1 : IntKind.i64.wrap ((k : Int) + 1) = (k : Int) + 1 := IntWalk.i64_in _ (by omega)
              have s2 : ((k : Int) + 1).toNat = k + 1 := by omega
              go_region_with (go_at_call 143; refine (HII.out _).mono ?_; rintro e w1 ⟨rfl, hb⟩)
              clear s1 s2
              go_wp2
              go_ret3
              exact ⟨by rw [HS2.out]; rfl, Below.trans (Below.drew (Below.refl _ _)) hb⟩
        · rw [if_neg hend] at hst
          have HS := hid hst
          clear hst
          go_wp2_with fail
          go_roundw
          case rel => exact ⟨k + 1, y, by omega, by go_num, rfl, hy, HS, by trivial⟩
          case measure => simp [intOf]; omega
      · rw [if_neg h10] at hst
        have HS := hid hst
        clear hst
        go_wp2_with fail
        go_ret3
        exact ⟨by rw [HS.out]; rfl, Below.refl _ _⟩
    · have hst := hI.out
      rw [List.drop_eq_nil_of_le (by rw [str_len]; omega), toIntR] at hst
      have HS := hid hst
      clear hst
      go_wp2_with fail
      go_ret3
      exact ⟨by rw [HS.out]; rfl, Below.refl _ _⟩
end Go.Proofs.YtbidglefddmjhaaGreatDoor

/-
  LAYER 1: words of four bytes; frames.
-/
namespace Go.Proofs.YtbidglefddmjhaaGreatDoor
open Go.RowKit
set_option linter.unusedVariables false
set_option maxRecDepth 100000

theorem word_row (w : World) (n : Nat) (hn : n < 4294967296) :
    (convert 84 9 (.slice (some ⟨w.heap.size, 0, none⟩) 4 4)).run Tryz.prog (w.alloc (.cells #[.int .u8 ((n : Int) / 16777216), .int .u8 ((n : Int) / 65536 % 256), .int .u8 ((n : Int) / 256 % 256), .int .u8 ((n : Int) % 256)] 5)) =
      .ok (.string (mk (word n))) (w.alloc (.cells #[.int .u8 ((n : Int) / 16777216), .int .u8 ((n : Int) / 65536 % 256), .int .u8 ((n : Int) / 256 % 256), .int .u8 ((n : Int) % 256)] 5)) := by
  refine run_string (l := word n) rfl ?_
  intro j c hj
  have hh : (w.alloc (.cells #[.int .u8 ((n : Int) / 16777216), .int .u8 ((n : Int) / 65536 % 256), .int .u8 ((n : Int) / 256 % 256), .int .u8 ((n : Int) % 256)] 5)).heap[w.heap.size]? = _ := heap_alloc_new w _
  rw [Lib.cell_of_heap hh]
  match j, hj with
  | 0, hj => simp [word] at hj; subst hj; rw [ofNat_toNat (by omega)]; simp
  | 1, hj => simp [word] at hj; subst hj; simp
  | 2, hj => simp [word] at hj; subst hj; simp
  | 3, hj => simp [word] at hj; subst hj; simp
  | j + 4, hj => simp [word] at hj

set_option maxHeartbeats 1000000 in
set_option maxRecDepth 100000 in
theorem word_any (n : Nat) (w : World) (hn : n < 4294967296) :
    Calls Tryz.prog 191 #[.int .u32 n] w fun e w' => e = .returned (.string (mk (word n))) ∧ Below w.heap.size w w' := by
  have hrs := word_row w n hn
  go_enter Tryz.func191, Tryz.ntmps191
  go_wp2
  go_ret
  exact ⟨rfl, Below.alloc (Below.refl _ _) (Nat.le_refl _) _⟩
set_option maxHeartbeats 1000000 in
set_option maxRecDepth 100000 in
theorem four_any (n : Nat) (w : World) (hn : n < 4294967296) :
    Calls Tryz.prog 161 #[.int .u32 n] w fun e w' => e = .returned (.string (mk (word n))) ∧ Below w.heap.size w w' := by
  have hrs := word_row w n hn
  go_enter Tryz.func161, Tryz.ntmps161
  go_wp2
  go_ret
  exact ⟨rfl, Below.alloc (Below.refl _ _) (Nat.le_refl _) _⟩
theorem be_bits (a b c d : Nat) (ha : a < 256) (hb : b < 256) (hc : c < 256) (hd : d < 256) :
    bits .or .u32 (bits .or .u32 (bits .or .u32 ((a : Int) % 4294967296 * 16777216 % 4294967296) ((b : Int) % 4294967296 * 65536 % 4294967296)) ((c : Int) % 4294967296 * 256 % 4294967296)) ((d : Int) % 4294967296) = ((16777216 * a + 65536 * b + 256 * c + d : Nat) : Int) := by
  rw [show (a : Int) % 4294967296 * 16777216 % 4294967296 = ((16777216 * a : Nat) : Int) by omega, show (b : Int) % 4294967296 * 65536 % 4294967296 = ((65536 * b : Nat) : Int) by omega,
    show (c : Int) % 4294967296 * 256 % 4294967296 = ((256 * c : Nat) : Int) by omega, show (d : Int) % 4294967296 = ((d : Nat) : Int) by omega]
  rw [u32_or_nat _ _ (by omega) (by omega), nat_join 24 (16777216 * a) (65536 * b) (by omega) (by omega)]
  rw [u32_or_nat _ _ (by omega) (by omega), nat_join 16 (16777216 * a + 65536 * b) (256 * c) (by omega) (by omega)]
  rw [u32_or_nat _ _ (by omega) (by omega), nat_join 8 (16777216 * a + 65536 * b + 256 * c) d (by omega) (by omega)]

theorem toWordL_get (s : ByteArray) (h0 : 0 < s.size) (h1 : 1 < s.size) (h2 : 2 < s.size) (h3 : 3 < s.size) :
    toWordL s.data.toList = 16777216 * s[0].toNat + 65536 * s[1].toNat + 256 * s[2].toNat + s[3].toNat := by
  obtain ⟨a, b, c, d, r, hr⟩ := four_of (l := s.data.toList) (by rw [str_len]; omega)
  have : s = mk (a :: b :: c :: d :: r) := str_ext (by rw [hr]; rfl)
  subst this
  rfl

set_option maxHeartbeats 1000000 in
set_option maxRecDepth 100000 in
theorem toWord_any (s : ByteArray) (w : World) (hs : 4 ≤ s.size) (hm : s.size ≤ 9223372036854775807) :
    Calls Tryz.prog 189 #[.string s] w fun e w' => e = .returned (.int .u32 (toWordL s.data.toList)) ∧ ∃ m, w' = w.drewN m := by
  have h0 : 0 < s.size := by omega
  have h1 : 1 < s.size := by omega
  have h2 : 2 < s.size := by omega
  have h3 : 3 < s.size := by omega
  have i0 : (0 : Int) < s.size := by omega
  have i1 : (1 : Int) < s.size := by omega
  have i2 : (2 : Int) < s.size := by omega
  have i3 : (3 : Int) < s.size := by omega
  have HW := hid (toWordL_get s h0 h1 h2 h3)
  have HB := hid (be_bits s[0].toNat s[1].toNat s[2].toNat s[3].toNat s[0].toNat_lt s[1].toNat_lt s[2].toNat_lt s[3].toNat_lt)
  go_enter Tryz.func189, Tryz.ntmps189
  go_wp2
  go_quiet (fail)
  go_wp2
  go_ret
  exact ⟨by rw [HW.out, ← HB.out]; rfl, _, rfl⟩

set_option maxHeartbeats 1000000 in
set_option maxRecDepth 100000 in
theorem frame_any (s : ByteArray) (w : World) (hs : s.size ≤ 65536) (hT : Steps w) (h0 : 0 < w.heap.size) :
    Calls Tryz.prog 155 #[.string s] w fun e w' => e = .returned (.tuple #[.string (mk (frameL s.data.toList)), .int .i64 0]) ∧ Below w.heap.size w w' := by
  have z1 := mk_size (word s.size)
  rw [word_length] at z1
  have hcrc : crc (mk (word s.size) ++ s).data.toList = crc (word s.data.toList.length ++ s.data.toList) := by rw [append_data, mk_data, str_len]
  have HC := hid hcrc
  have hcl := crc_lt (word s.data.toList.length ++ s.data.toList)
  have hfr : mk (word s.size) ++ mk (word (crc (word s.data.toList.length ++ s.data.toList))) ++ s = mk (frameL s.data.toList) := by
    apply str_ext; rw [append_data, append_data]; rfl
  have HF := hid hfr
  have z2 := mk_size (word (crc (word s.data.toList.length ++ s.data.toList)))
  rw [word_length] at z2
  clear hcrc hfr
  generalize crc (word s.data.toList.length ++ s.data.toList) = c at *
  go_enter Tryz.func155, Tryz.ntmps155
  go_wp2_with (first
    | (go_at_call 190; refine (crc_any _ _ (by rw [ByteArray.size_append, z1]; unfold maxLen; omega) (hT.below hb h0)).mono ?_; rw [HC.out]; rintro e w2 ⟨rfl, rfl⟩)
    | (go_at_call 191; first | ((with_reducible refine (word_any s.size _ (by omega)).mono ?_); rintro e w1 ⟨rfl, hb⟩) | ((with_reducible refine (word_any c _ hcl).mono ?_); rintro e w3 ⟨rfl, hb3⟩)))
  go_ret2
  exact ⟨by rw [← HF.out]; rfl, hb.trans (hb3.mono hb.size)⟩

theorem frame_long (s : ByteArray) (w : World) (hs : 65536 < s.size) (hm : s.size ≤ maxLen) :
    Calls Tryz.prog 155 #[.string s] w fun e w' => e = .returned (.tuple #[.string ⟨#[]⟩, .int .i64 10]) ∧ w = w' := by
  unfold maxLen at hm
  go_enter Tryz.func155, Tryz.ntmps155
  go_wp2
  go_ret2
  exact ⟨rfl, rfl⟩
theorem refFrame_long (s : ByteArray) (w : World) (hs : 65536 < s.size) (hm : s.size ≤ maxLen) :
    Calls Tryz.prog 118 #[.string s] w fun e w' => e = .returned (.tuple #[.string ⟨#[]⟩, .int .i64 10]) ∧ w = w' := by
  unfold maxLen at hm
  go_enter Tryz.func118, Tryz.ntmps118
  go_wp2
  go_ret2
  exact ⟨rfl, rfl⟩

set_option maxHeartbeats 1000000 in
set_option maxRecDepth 100000 in
theorem refFrame_any (s : ByteArray) (w : World) (hs : s.size ≤ 65536) :
    Calls Tryz.prog 118 #[.string s] w fun e w' => e = .returned (.tuple #[.string (mk (frameL s.data.toList)), .int .i64 0]) ∧ Below w.heap.size w w' := by
  have z1 := mk_size (word s.size)
  rw [word_length] at z1
  have hcrc : crc (mk (word s.size) ++ s).data.toList = crc (word s.data.toList.length ++ s.data.toList) := by rw [append_data, mk_data, str_len]
  have HC := hid hcrc
  have hcl := crc_lt (word s.data.toList.length ++ s.data.toList)
  have hfr : mk (word s.size) ++ mk (word (crc (word s.data.toList.length ++ s.data.toList))) ++ s = mk (frameL s.data.toList) := by
    apply str_ext; rw [append_data, append_data]; rfl
  have HF := hid hfr
  have z2 := mk_size (word (crc (word s.data.toList.length ++ s.data.toList)))
  rw [word_length] at z2
  clear hcrc hfr
  generalize crc (word s.data.toList.length ++ s.data.toList) = c at *
  go_enter Tryz.func118, Tryz.ntmps118
  go_wp2_with (first
    | (go_at_call 162; refine (refCrc_any _ _ (by rw [ByteArray.size_append, z1]; unfold maxLen; omega)).mono ?_; rw [HC.out]; rintro e w2 ⟨rfl, rfl⟩)
    | (go_at_call 161; first | ((with_reducible refine (four_any s.size _ (by omega)).mono ?_); rintro e w1 ⟨rfl, hb⟩) | ((with_reducible refine (four_any c _ hcl).mono ?_); rintro e w3 ⟨rfl, hb3⟩)))
  go_ret2
  exact ⟨by rw [← HF.out]; rfl, hb.trans (hb3.mono hb.size)⟩

/-- What Unframe returns. -/
def unfrRes (l : List UInt8) : Value := .tuple #[.string (mk (unframe l).1), .int .i64 (unframe l).2.1, .int .i64 (unframe l).2.2]

set_option maxHeartbeats 2000000 in
set_option maxRecDepth 100000 in
theorem unframe_any (s : ByteArray) (w : World) (hs : s.size ≤ maxLen) (hT : Steps w) :
    Calls Tryz.prog 144 #[.string s] w fun e w' => e = .returned (unfrRes s.data.toList) ∧ Below w.heap.size w w' := by
  unfold maxLen at hs
  by_cases h4 : s.size < 4
  · have HU : Hid (unframe s.data.toList = ([], 0, 8)) := hid (by unfold unframe; rw [str_len, if_pos h4])
    go_enter Tryz.func144, Tryz.ntmps144
    go_wp2
    go_ret3
    exact ⟨by rw [unfrRes, HU.out]; rfl, Below.refl _ _⟩
  · have hTW := hid (fun w => toWord_any s w (by omega) (by omega))
    have hn := toWordL_lt s.data.toList
    by_cases hlong : 65536 < toWordL s.data.toList
    · have HU : Hid (unframe s.data.toList = ([], 0, 10)) := hid (by unfold unframe; rw [str_len, if_neg h4, if_pos hlong])
      generalize toWordL s.data.toList = n at *
      go_enter Tryz.func144, Tryz.ntmps144
      go_wp2_with (go_at_call 189; refine (hTW.out _).mono ?_; rintro e w1 ⟨rfl, hm⟩)
      go_ret3
      obtain ⟨m, rfl⟩ := hm
      exact ⟨by rw [unfrRes, HU.out]; rfl, below_drew (Below.refl _ _) _⟩
    · by_cases hshort : s.size < 8 + toWordL s.data.toList
      · have HU : Hid (unframe s.data.toList = ([], 0, 8)) := hid (by unfold unframe; rw [str_len, if_neg h4, if_neg hlong, if_pos hshort])
        generalize toWordL s.data.toList = n at *
        go_enter Tryz.func144, Tryz.ntmps144
        go_wp2_with (go_at_call 189; refine (hTW.out _).mono ?_; rintro e w1 ⟨rfl, hm⟩)
        go_ret3
        obtain ⟨m, rfl⟩ := hm
        exact ⟨by rw [unfrRes, HU.out]; rfl, below_drew (Below.refl _ _) _⟩
      · have hst : unframe s.data.toList = if crc (s.data.toList.take 4 ++ (s.data.toList.drop 8).take (toWordL s.data.toList)) ≠ toWordL (s.data.toList.drop 4) then ([], 0, 9) else ((s.data.toList.drop 8).take (toWordL s.data.toList), 8 + toWordL s.data.toList, 0) := by
          unfold unframe; rw [str_len, if_neg h4, if_neg hlong, if_neg hshort]
        have HS := hid hst
        clear hst
        generalize toWordL s.data.toList = n at *
        have l8 := fun wx => slice_lh (s := s) (lo := 8) (hi := 8 + (n : Int)) (l := (s.data.toList.drop 8).take n) (by omega) (by omega) (by omega) (by congr 1; omega) wx
        have l4 := fun wx => slice_l (s := s) (lo := 4) (l := s.data.toList.drop 4) (by omega) (by omega) rfl wx
        have l0 := fun wx => slice_h (s := s) (hi := 4) (l := s.data.toList.take 4) (by omega) (by omega) rfl wx
        have z8 : (mk ((s.data.toList.drop 8).take n)).size ≤ 65536 := by rw [mk_size, List.length_take]; omega
        have z0 : (mk (s.data.toList.take 4)).size ≤ 4 := by rw [mk_size, List.length_take]; omega
        have z4 : 4 ≤ (mk (s.data.toList.drop 4)).size ∧ (mk (s.data.toList.drop 4)).size ≤ 9223372036854775807 := by rw [mk_size, List.length_drop, str_len]; omega
        have hC := fun w (h : Steps w) => crc_any (mk (s.data.toList.take 4) ++ mk ((s.data.toList.drop 8).take n)) w (by rw [ByteArray.size_append]; unfold maxLen; omega) h
        rw [mk_append, mk_data] at hC
        rw [← mk_append] at hC
        have hW4 := fun w => toWord_any (mk (s.data.toList.drop 4)) w z4.1 z4.2
        rw [mk_data] at hW4
        have HC := hid hC
        have HW := hid hW4
        clear hC hW4
        generalize s.data.toList.take 4 ++ (s.data.toList.drop 8).take n = q at *
        generalize hp : (s.data.toList.drop 8).take n = p at *
        have hd1 := toWordL_lt (s.data.toList.drop 4)
        have hd2 := crc_lt q
        generalize toWordL (s.data.toList.drop 4) = t at *
        generalize crc q = c at *
        by_cases hq : c = t
        · have hst := HS.out
          rw [if_neg (by simp [hq])] at hst
          have HS2 := hid hst
          have hq' : ((c : Int) == (t : Int)) = true := by rw [hq]; exact beq_self_eq_true _
          have HQ := hid hq
          clear hst hq hp HS
          go_enter Tryz.func144, Tryz.ntmps144
          go_wp2_with (go_at_call 189; refine (hTW.out _).mono ?_; rintro e w1 ⟨rfl, hm⟩)
          have hm2 : Steps w1 ∧ Below w.heap.size w w1 := by obtain ⟨m, rfl⟩ := hm; exact ⟨hT, below_drew (Below.refl _ _) _⟩
          clear hm
          go_quiet ((first | (go_at_call 190; exact quiet_eq (HC.out _ hm2.1)) | (go_at_call 189; exact Calls.quiet_of (HW.out _))))
          go_wp2
          go_ret3
          exact ⟨by rw [unfrRes, HS2.out]; rfl, below_drew hm2.2 _⟩
        · have hst := HS.out
          rw [if_pos hq] at hst
          have HS2 := hid hst
          have hq' : ((c : Int) == (t : Int)) = false := by rw [beq_eq_false_iff_ne]; omega
          have HQ := hid hq
          clear hst hq hp HS
          go_enter Tryz.func144, Tryz.ntmps144
          go_wp2_with (go_at_call 189; refine (hTW.out _).mono ?_; rintro e w1 ⟨rfl, hm⟩)
          have hm2 : Steps w1 ∧ Below w.heap.size w w1 := by obtain ⟨m, rfl⟩ := hm; exact ⟨hT, below_drew (Below.refl _ _) _⟩
          clear hm
          go_quiet ((first | (go_at_call 190; exact quiet_eq (HC.out _ hm2.1)) | (go_at_call 189; exact Calls.quiet_of (HW.out _))))
          go_wp2
          go_ret3
          exact ⟨by rw [unfrRes, HS2.out]; rfl, below_drew hm2.2 _⟩

/-! ### The document's Unframe -/
def beVal (l : List UInt8) : Nat := l.foldl (fun n c => 256 * n + c.toNat) 0
theorem beVal_snoc (l : List UInt8) (c : UInt8) : beVal (l ++ [c]) = 256 * beVal l + c.toNat := by simp [beVal]
theorem beVal_step (s : ByteArray) (k : Nat) (h : k < s.size) : beVal (s.data.toList.take (k + 1)) = 256 * beVal (s.data.toList.take k) + s[k].toNat := by
  rw [take_snoc' s k h, beVal_snoc]
theorem beVal_four {l : List UInt8} (h : 4 ≤ l.length) : beVal (l.take 4) = toWordL l := by
  obtain ⟨a, b, c, d, r, rfl⟩ := four_of h
  simp [beVal, toWordL]; omega
theorem beVal_lt (l : List UInt8) : ∀ k, beVal (l.take k) < 256 ^ k := by
  intro k
  induction k with
  | zero => simp [beVal]
  | succ k ih =>
    by_cases hk : k < l.length
    · rw [List.take_succ_eq_append_getElem hk, beVal_snoc, Nat.pow_succ]
      have := l[k].toNat_lt
      omega
    · rw [List.take_of_length_le (by omega)] at *
      rw [Nat.pow_succ]; omega

set_option maxHeartbeats 2000000 in
set_option maxRecDepth 100000 in
theorem refUnframe_any (s : ByteArray) (w : World) (hs : s.size ≤ maxLen) :
    Calls Tryz.prog 136 #[.string s] w fun e w' => e = .returned (unfrRes s.data.toList) ∧ Below w.heap.size w w' := by
  unfold maxLen at hs
  by_cases h4 : s.size < 4
  · have HU : Hid (unframe s.data.toList = ([], 0, 8)) := hid (by unfold unframe; rw [str_len, if_pos h4])
    go_enter Tryz.func136, Tryz.ntmps136
    go_wp2
    go_ret3
    exact ⟨by rw [unfrRes, HU.out]; rfl, Below.refl _ _⟩
  · have hbe := hid (beVal_four (l := s.data.toList) (by rw [str_len]; omega))
    have hst : unframe s.data.toList = if 65536 < toWordL s.data.toList then ([], 0, 10) else if s.size < 8 + toWordL s.data.toList then ([], 0, 8) else if crc (s.data.toList.take 4 ++ (s.data.toList.drop 8).take (toWordL s.data.toList)) ≠ toWordL (s.data.toList.drop 4) then ([], 0, 9) else ((s.data.toList.drop 8).take (toWordL s.data.toList), 8 + toWordL s.data.toList, 0) := by
      unfold unframe; rw [str_len, if_neg h4]
    have HS := hid hst
    clear hst
    have hn := toWordL_lt s.data.toList
    generalize toWordL s.data.toList = n at *
    go_enter Tryz.func136, Tryz.ntmps136
    go_wp2_with fail
    go_loopw [5, 6] (fun x i wr => ∃ k : Nat, k ≤ 4 ∧ i = .int .i64 k ∧ x = .int .i64 (beVal (s.data.toList.take k) : Nat) ∧ w = wr) (fun _ i _ => 4 - (intOf i).toNat)
    case atStart => exact ⟨0, Nat.zero_le _, rfl, rfl, rfl⟩
    case round =>
      obtain ⟨k, hk, rfl, rfl, rfl⟩ := hrel
      by_cases hlt : k < 4
      · have hv := beVal_lt s.data.toList k
        have hv3 : beVal (s.data.toList.take k) < 256 ^ 3 := Nat.lt_of_lt_of_le hv (Nat.pow_le_pow_right (by omega) (by omega))
        have hks : k < s.size := by omega
        have hsn := hid (beVal_step s k hks)
        generalize beVal (s.data.toList.take k) = x at *
        have hc : s[k].toNat < 256 := s[k].toNat_lt
        clear hv
        go_wp2_with fail
        go_roundw
        case rel => exact ⟨k + 1, by omega, by go_num, by rw [hsn.out]; go_num, by trivial⟩
        case measure => simp [intOf]; omega
      · have hk4 : k = 4 := by omega
        subst hk4
        rw [hbe.out]
        clear hbe
        by_cases hlong : 65536 < n
        · have HU : Hid (unframe s.data.toList = ([], 0, 10)) := hid (by rw [HS.out, if_pos hlong])
          go_wp2_with fail
          go_ret3
          exact ⟨by rw [unfrRes, HU.out]; rfl, Below.refl _ _⟩
        · by_cases hshort : s.size < 8 + n
          · have HU : Hid (unframe s.data.toList = ([], 0, 8)) := hid (by rw [HS.out, if_neg hlong, if_pos hshort])
            go_wp2_with fail
            go_ret3
            exact ⟨by rw [unfrRes, HU.out]; rfl, Below.refl _ _⟩
          · have l8 := fun wx => slice_lh (s := s) (lo := 8) (hi := 8 + (n : Int)) (l := (s.data.toList.drop 8).take n) (by omega) (by omega) (by omega) (by congr 1; omega) wx
            have l4 := fun wx => slice_lh (s := s) (lo := 4) (hi := 8) (l := (s.data.toList.drop 4).take 4) (by omega) (by omega) (by omega) rfl wx
            have l0 := fun wx => slice_h (s := s) (hi := 4) (l := s.data.toList.take 4) (by omega) (by omega) rfl wx
            have z8 : (mk ((s.data.toList.drop 8).take n)).size ≤ 65536 := by rw [mk_size, List.length_take]; omega
            have z0 : (mk (s.data.toList.take 4)).size ≤ 4 := by rw [mk_size, List.length_take]; omega
            have hC := fun w => refCrc_any (mk (s.data.toList.take 4) ++ mk ((s.data.toList.drop 8).take n)) w (by rw [ByteArray.size_append]; unfold maxLen; omega)
            rw [mk_append, mk_data] at hC
            rw [← mk_append] at hC
            have HC := hid hC
            clear hC
            have hst := HS.out
            rw [if_neg hlong, if_neg hshort] at hst
            have hwt := word_toWord (l := s.data.toList.drop 4) (by rw [List.length_drop, str_len]; omega)
            have hd1 := toWordL_lt (s.data.toList.drop 4)
            have hd2 := crc_lt (s.data.toList.take 4 ++ (s.data.toList.drop 8).take n)
            have s1 : IntKind.i64.wrap (8 + (n : Int)) = 8 + (n : Int) := IntWalk.i64_in _ (by omega)
            generalize s.data.toList.take 4 ++ (s.data.toList.drop 8).take n = q at *
            generalize hp : (s.data.toList.drop 8).take n = p at *
            generalize toWordL (s.data.toList.drop 4) = t at *
            rw [← hwt] at l4
            generalize crc q = c at *
            have HF := hid (fun w => four_any c w hd2)
            by_cases hq : c = t
            · rw [if_neg (by simp [hq])] at hst
              have HS2 := hid hst
              have hq' : ((mk (word t)).toList == (mk (word c)).toList) = true := by rw [hq]; exact beq_self_eq_true _
              clear hst hq hp HS hwt
              go_wp2_with fail
              go_region_with (first
                | (go_at_call 162; refine (HC.out _).mono ?_; rintro e w2 ⟨rfl, rfl⟩)
                | (go_at_call 161; refine (HF.out _).mono ?_; rintro e w3 ⟨rfl, hb⟩))
              go_wp2_with fail
              go_ret3
              exact ⟨by rw [unfrRes, HS2.out]; rfl, Below.trans (Below.drew (Below.refl _ _)) hb⟩
            · rw [if_pos hq] at hst
              have HS2 := hid hst
              have hq' : ((mk (word t)).toList == (mk (word c)).toList) = false := by
                rw [beq_eq_false_iff_ne, Lib.toList_data, Lib.toList_data, mk_data, mk_data]
                intro h
                apply hq
                have h1 := toWord_word hd1 []
                have h2 := toWord_word hd2 []
                rw [List.append_nil] at h1 h2
                rw [← h1, ← h2, h]
              clear hst hq hp HS hwt
              go_wp2_with fail
              go_region_with (first
                | (go_at_call 162; refine (HC.out _).mono ?_; rintro e w2 ⟨rfl, rfl⟩)
                | (go_at_call 161; refine (HF.out _).mono ?_; rintro e w3 ⟨rfl, hb⟩))
              go_wp2_with fail
              go_ret3
              exact ⟨by rw [unfrRes, HS2.out]; rfl, Below.trans (Below.drew (Below.refl _ _)) hb⟩
end Go.Proofs.YtbidglefddmjhaaGreatDoor

/-
  LAYER 1: texts and bools: what the program's and the document's functions return.
-/
namespace Go.Proofs.YtbidglefddmjhaaGreatDoor
open Go.RowKit
set_option linter.unusedVariables false
set_option maxRecDepth 100000

/-- What ToText says. -/
def toText (l : List UInt8) : Option (List UInt8 × List UInt8) :=
  match toInt l with
  | none => none
  | some (v, r) => if unz v < 0 ∨ (r.length : Int) < unz v then none else some (r.take (unz v).toNat, r.drop (unz v).toNat)
def textRes : Option (List UInt8 × List UInt8) → Value
  | none => .tuple #[.string ⟨#[]⟩, .string ⟨#[]⟩, .bool false]
  | some (a, r) => .tuple #[.string (mk a), .string (mk r), .bool true]
theorem toInt_rest {l : List UInt8} {v : Nat} {r : List UInt8} (h : toInt l = some (v, r)) : r.length ≤ l.length := by
  obtain ⟨_, rfl⟩ := toInt_sound h
  rw [List.length_append]; omega


set_option maxHeartbeats 1000000 in
set_option maxRecDepth 100000 in
theorem toText_any (s : ByteArray) (w : World) (hs : s.size ≤ maxLen) :
    Calls Tryz.prog 209 #[.string s] w fun e w' => e = .returned (textRes (toText s.data.toList)) ∧ Below w.heap.size w w' := by
  have hI := fun w => toInt_any s w hs
  unfold maxLen at hs
  cases hti : toInt s.data.toList with
  | none =>
    have HR : Hid (toText s.data.toList = none) := hid (by unfold toText; rw [hti])
    simp only [hti, intRes] at hI
    have HI := hid hI
    clear hI hti
    go_enter Tryz.func209, Tryz.ntmps209
    go_wp2_with (go_at_call 181; refine (HI.out _).mono ?_; rintro e w1 ⟨rfl, hm⟩)
    go_ret3
    exact ⟨by rw [HR.out]; rfl, (by obtain ⟨m, rfl⟩ := hm; exact below_drew (Below.refl _ _) _)⟩
  | some x =>
    obtain ⟨v, r⟩ := x
    have hr := toInt_rest hti
    rw [str_len] at hr
    have hv := (toInt_sound hti).1
    have hst : toText s.data.toList = if unz v < 0 ∨ (r.length : Int) < unz v then none else some (r.take (unz v).toNat, r.drop (unz v).toNat) := by unfold toText; rw [hti]
    simp only [hti, intRes] at hI
    have HI := hid hI
    have HS := hid hst
    have hb := unz_lo hv
    clear hI hti hst
    have hms := mk_size r
    have HM := hid hms
    clear hms
    by_cases hneg : unz v < 0
    · have HR : Hid (toText s.data.toList = none) := hid (by rw [HS.out, if_pos (.inl hneg)])
      go_enter Tryz.func209, Tryz.ntmps209
      go_wp2_with (go_at_call 181; refine (HI.out _).mono ?_; rintro e w1 ⟨rfl, hm⟩)
      go_ret3
      exact ⟨by rw [HR.out]; rfl, (by obtain ⟨m, rfl⟩ := hm; exact below_drew (Below.refl _ _) _)⟩
    · by_cases hlong : (r.length : Int) < unz v
      · have HR : Hid (toText s.data.toList = none) := hid (by rw [HS.out, if_pos (.inr hlong)])
        have hlong' : ((mk r).size : Int) < unz v := by rw [HM.out]; exact hlong
        have hneg' : 0 ≤ unz v := by omega
        go_enter Tryz.func209, Tryz.ntmps209
        go_wp2_with (go_at_call 181; refine (HI.out _).mono ?_; rintro e w1 ⟨rfl, hm⟩)
        go_ret3
        exact ⟨by rw [HR.out]; rfl, (by obtain ⟨m, rfl⟩ := hm; exact below_drew (Below.refl _ _) _)⟩
      · have HR := hid (HS.out.trans (if_neg (by omega)))
        have hlong' : unz v ≤ ((mk r).size : Int) := by rw [HM.out]; omega
        have hneg' : 0 ≤ unz v := by omega
        have l1 := fun wx => slice_h (s := mk r) (hi := unz v) (l := r.take (unz v).toNat) hneg' hlong' rfl wx
        have l2 := fun wx => slice_l (s := mk r) (lo := unz v) (l := r.drop (unz v).toNat) hneg' hlong' rfl wx
        generalize unz v = n at *
        go_enter Tryz.func209, Tryz.ntmps209
        go_wp2_with (go_at_call 181; refine (HI.out _).mono ?_; rintro e w1 ⟨rfl, hm⟩)
        have hm2 : Below w.heap.size w w1 := (by obtain ⟨m, rfl⟩ := hm; exact below_drew (Below.refl _ _) _)
        clear hm
        go_quiet (fail)
        go_wp2
        go_ret3
        exact ⟨by rw [HR.out]; rfl, below_drew hm2 _⟩


set_option maxHeartbeats 1000000 in
set_option maxRecDepth 100000 in
theorem refToText_any (s : ByteArray) (w : World) (hs : s.size ≤ maxLen) :
    Calls Tryz.prog 185 #[.string s] w fun e w' => e = .returned (textRes (toText s.data.toList)) ∧ Below w.heap.size w w' := by
  have hI := fun w => refToInt_any s w hs
  unfold maxLen at hs
  cases hti : toInt s.data.toList with
  | none =>
    have HR : Hid (toText s.data.toList = none) := hid (by unfold toText; rw [hti])
    simp only [hti, intRes] at hI
    have HI := hid hI
    clear hI hti
    go_enter Tryz.func185, Tryz.ntmps185
    go_wp2_with (go_at_call 148; refine (HI.out _).mono ?_; rintro e w1 ⟨rfl, hm⟩)
    go_ret3
    exact ⟨by rw [HR.out]; rfl, hm⟩
  | some x =>
    obtain ⟨v, r⟩ := x
    have hr := toInt_rest hti
    rw [str_len] at hr
    have hv := (toInt_sound hti).1
    have hst : toText s.data.toList = if unz v < 0 ∨ (r.length : Int) < unz v then none else some (r.take (unz v).toNat, r.drop (unz v).toNat) := by unfold toText; rw [hti]
    simp only [hti, intRes] at hI
    have HI := hid hI
    have HS := hid hst
    have hb := unz_lo hv
    clear hI hti hst
    have hms := mk_size r
    have HM := hid hms
    clear hms
    by_cases hneg : unz v < 0
    · have HR : Hid (toText s.data.toList = none) := hid (by rw [HS.out, if_pos (.inl hneg)])
      go_enter Tryz.func185, Tryz.ntmps185
      go_wp2_with (go_at_call 148; refine (HI.out _).mono ?_; rintro e w1 ⟨rfl, hm⟩)
      go_ret3
      exact ⟨by rw [HR.out]; rfl, hm⟩
    · by_cases hlong : (r.length : Int) < unz v
      · have HR : Hid (toText s.data.toList = none) := hid (by rw [HS.out, if_pos (.inr hlong)])
        have hlong' : ((mk r).size : Int) < unz v := by rw [HM.out]; exact hlong
        have hneg' : 0 ≤ unz v := by omega
        go_enter Tryz.func185, Tryz.ntmps185
        go_wp2_with (go_at_call 148; refine (HI.out _).mono ?_; rintro e w1 ⟨rfl, hm⟩)
        go_ret3
        exact ⟨by rw [HR.out]; rfl, hm⟩
      · have HR := hid (HS.out.trans (if_neg (by omega)))
        have hlong' : unz v ≤ ((mk r).size : Int) := by rw [HM.out]; omega
        have hneg' : 0 ≤ unz v := by omega
        have l1 := fun wx => slice_h (s := mk r) (hi := unz v) (l := r.take (unz v).toNat) hneg' hlong' rfl wx
        have l2 := fun wx => slice_l (s := mk r) (lo := unz v) (l := r.drop (unz v).toNat) hneg' hlong' rfl wx
        generalize unz v = n at *
        go_enter Tryz.func185, Tryz.ntmps185
        go_wp2_with (go_at_call 148; refine (HI.out _).mono ?_; rintro e w1 ⟨rfl, hm⟩)
        have hm2 : Below w.heap.size w w1 := hm
        clear hm
        go_quiet (fail)
        go_wp2
        go_ret3
        exact ⟨by rw [HR.out]; rfl, below_drew hm2 _⟩


theorem txts_snoc (l : List ByteArray) (s : ByteArray) : txts (l ++ [s]) = txts l ++ txt s.data.toList := by simp [txts]
theorem txt_length (s : ByteArray) (h : s.size ≤ 9223372036854775807) : (txt s.data.toList).length ≤ 10 + s.size := by
  have := enc_length (nat64_lt (n := (s.data.toList.length : Int)) (by omega) (by rw [str_len]; omega))
  rw [txt, List.length_append, str_len] at *
  omega

set_option maxHeartbeats 1000000 in
set_option maxRecDepth 100000 in
/-- (*output).text writes a text behind what the builder holds. -/
theorem text_any {T : TypeId} (hT : BlkOk T) (B b : Nat) (l : List UInt8) (s : ByteArray) (w : World) (h : Lib.IsBuilder T 5 B b (Lib.byteCells l) w) (hlen : l.length + 10 + s.size ≤ 140737488355328) (hBw : B ≤ w.heap.size) :
    Calls Tryz.prog 195 #[.pointer (some ⟨b, 0, none⟩), .string s] w fun e w' => e = .returned (.tuple #[]) ∧ Lib.IsBuilder T 5 B b (Lib.byteCells (l ++ txt s.data.toList)) w' ∧ Below B w w' := by
  have HN := hid (number_any hT B b l (s.size : Int) w (by omega) (by omega) h (by omega) hBw)
  have hel := enc_length (nat64_lt (n := (s.size : Int)) (by omega) (by omega))
  have HS := hid (fun W (hW : Lib.IsBuilder T 5 B b (Lib.byteCells (l ++ enc (nat64 (s.size : Int)))) W) (hB : B ≤ W.heap.size) => writeString_list hT B b (l ++ enc (nat64 (s.size : Int))) s W hW (by rw [List.length_append]; omega) hB)
  clear h
  go_enter Tryz.func195, Tryz.ntmps195
  go_wp2_with (first
    | (go_at_call 193; refine HN.out.mono ?_; rintro e w1 ⟨rfl, h1, hb1⟩)
    | (go_at_call 92; refine (HS.out _ h1 (by have := hb1.size; omega)).mono ?_; rintro e w2 ⟨rfl, h2, hb2⟩))
  go_end0
  exact ⟨rfl, by rw [txt, str_len, ← List.append_assoc]; exact h2, hb1.trans hb2⟩

set_option maxHeartbeats 1000000 in
set_option maxRecDepth 100000 in
theorem eachStr_any {T : TypeId} (hT : BlkOk T) (B b : Nat) (l : List UInt8) (sb so cap : Nat) (xs : List ByteArray) (w : World)
    (hc : ∀ j x, xs[j]? = some x → w.cell? ⟨sb, so + j, none⟩ = some (.string x)) (M : Nat) (hx : ∀ k x, xs[k]? = some x → l.length + (txts (xs.take k)).length + 10 + x.size ≤ 140737488355328) (hsb : sb < B)
    (h : Lib.IsBuilder T 5 B b (Lib.byteCells l) w) (hn : xs.length ≤ 9223372036854775807) (hBw : B ≤ w.heap.size) :
    Calls Tryz.prog 194 #[.slice (some ⟨sb, so, none⟩) xs.length cap, .func (.func 195) #[.pointer (some ⟨b, 0, none⟩)] #[]] w fun e w' =>
      e = .returned (.tuple #[]) ∧ Lib.IsBuilder T 5 B b (Lib.byteCells (l ++ txts xs)) w' ∧ Below B w w' := by
  have HB := hid h
  have HX := hid hx
  have HC := hid hc
  clear h hx hc
  go_enter Tryz.func194, Tryz.ntmps194
  go_wp2
  go_loopw [8] (fun i wr => ∃ k : Nat, k ≤ xs.length ∧ i = .int .i64 k ∧ Hid (Lib.IsBuilder T 5 B b (Lib.byteCells (l ++ txts (xs.take k))) wr) ∧ Below B w wr) (fun i _ => xs.length - (intOf i).toNat)
  case atStart => exact ⟨0, Nat.zero_le _, rfl, hid (by simpa [txts] using HB.out), Below.refl _ _⟩
  case round =>
    obtain ⟨k, hk, rfl, hI, hbl⟩ := hrel
    by_cases hlt : k < xs.length
    · have hx := HX.out k xs[k] (by simp [hlt])
      have c1 : wr.cell? ⟨sb, so + k, none⟩ = some (.string xs[k]) := (hbl.cell (p := ⟨sb, so + k, none⟩) hsb).trans (HC.out k _ (by simp [hlt]))
      have ht : xs.take (k + 1) = xs.take k ++ [xs[k]] := by rw [List.take_succ_eq_append_getElem hlt]
      have HT := hid ht
      clear ht
      generalize xs[k] = x at *
      go_wp2_with (go_at_call 195; refine (text_any hT B b _ x _ hI.out (by rw [List.length_append]; omega) (by have := hbl.size; omega)).mono ?_; rintro e w1 ⟨rfl, h1, hb2⟩)
      go_roundw
      case rel => exact ⟨k + 1, by omega, by go_num, hid (by rw [HT.out, txts_snoc, ← List.append_assoc]; exact h1), hbl.trans hb2⟩
      case measure => simp [intOf]; omega
    · go_wp2
      go_end0
      exact ⟨rfl, by have := hI.out; rw [List.take_of_length_le (by omega)] at this; exact this, hbl⟩

theorem eachStr_none (a : Option Addr) (cap : Nat) (f : Value) (w : World) :
    Calls Tryz.prog 194 #[.slice a 0 cap, f] w fun e w' => e = .returned (.tuple #[]) ∧ w = w' := by
  go_enter Tryz.func194, Tryz.ntmps194
  go_wp2
  refine wp_loop_rounds 1 ?_
  rw [rounds_succ]
  go_wp2
  go_end0
  exact ⟨rfl, rfl⟩

set_option maxHeartbeats 1000000 in
set_option maxRecDepth 100000 in
/-- codec.Text. -/
theorem textS_any (v : Value) (xs : List ByteArray) (w : World) (hv : StrsAt w w.heap.size v xs) (hx : ∀ k x, xs[k]? = some x → (txts (xs.take k)).length + 10 + x.size ≤ 140737488355328) (hn : xs.length ≤ 9223372036854775807) :
    Calls Tryz.prog 157 #[v] w fun e w' => e = .returned (.string (mk (txts xs))) ∧ Below w.heap.size w w' := by
  obtain ⟨a, cap, rfl, ha⟩ := hv
  have HX := hid hx
  have hfr : Lib.IsBuilder 226 5 w.heap.size w.heap.size [] (w.alloc (.cells #[.pointer none, .slice none 0 0] 226)) := Lib.fresh_isBuilder _ _ _
  have HF := hid hfr
  clear hfr hx
  have heach : ∀ W, Hid (W = w.alloc (.cells #[.pointer none, .slice none 0 0] 226)) → Calls Tryz.prog 194 #[.slice a xs.length cap, .func (.func 195) #[.pointer (some ⟨w.heap.size, 0, none⟩)] #[]] W fun e w' =>
      e = .returned (.tuple #[]) ∧ Lib.IsBuilder 226 5 w.heap.size w.heap.size (Lib.byteCells (txts xs)) w' ∧ Below w.heap.size W w' := by
    intro W hW
    have hW := hW.out
    subst hW
    by_cases h0 : xs = []
    · subst h0
      refine (eachStr_none a cap _ _).mono ?_
      rintro e w' ⟨rfl, rfl⟩
      exact ⟨rfl, HF.out, Below.refl _ _⟩
    · obtain ⟨sb, so, rfl, hsb, hc⟩ := ha h0
      refine (eachStr_any blkOk_output w.heap.size w.heap.size [] sb so cap xs _ ?_ 0 (fun k x h => by have := HX.out k x h; simpa using this) hsb (by simpa [Lib.byteCells] using HF.out) hn (by simp)).mono ?_
      · intro j x hj
        exact ((Below.alloc (Below.refl w.heap.size w) (Nat.le_refl _) _).cell (p := ⟨sb, so + j, none⟩) hsb).trans (hc j x hj)
      · rintro e w' ⟨rfl, h1, h2⟩
        exact ⟨rfl, by simpa using h1, h2⟩
  have HE := hid heach
  clear heach ha
  go_enter Tryz.func157, Tryz.ntmps157
  go_wp2_with (first
    | (go_at_call 194; refine (HE.out _ (hid rfl)).mono ?_; rintro e w1 ⟨rfl, h1, h2⟩)
    | (go_at_call 93; refine (string_any w.heap.size w.heap.size (txts xs) _ h1 (by have := h2.size; simp at this; omega)).mono ?_; rintro e w2 ⟨rfl, h3⟩))
  go_ret
  exact ⟨rfl, (Below.alloc (Below.refl _ _) (Nat.le_refl _) _).trans (h2.trans h3)⟩

set_option maxHeartbeats 1000000 in
/-- The document's Text. -/
theorem refText_any (s : ByteArray) (w : World) (hs : s.size ≤ 140737488355328) :
    Calls Tryz.prog 163 #[.string s] w fun e w' => e = .returned (.string (mk (txt s.data.toList))) ∧ Below w.heap.size w w' := by
  have HI := hid (fun w => refInt_any (s.size : Int) w (by omega) (by omega))
  have hel := enc_length (nat64_lt (n := (s.size : Int)) (by omega) (by omega))
  have hz : (ByteArray.mk (enc (nat64 (s.size : Int))).toArray).size ≤ 10 := by
    have := mk_size (enc (nat64 (s.size : Int))); unfold mk at this; rw [this]; exact hel
  have HF : Hid (ByteArray.mk (enc (nat64 (s.size : Int))).toArray ++ s = mk (txt s.data.toList)) := hid (str_ext (by rw [append_data, mk_data, txt, str_len]))
  go_enter Tryz.func163, Tryz.ntmps163
  go_wp2_with (go_at_call 143; refine (HI.out _).mono ?_; rintro e w1 ⟨rfl, hb⟩)
  go_ret
  exact ⟨by rw [← HF.out]; rfl, hb⟩
end Go.Proofs.YtbidglefddmjhaaGreatDoor

/-
  THE PLAIN MATHEMATICS OF LAYER 1 (codec): what was written is read as it was.
-/
namespace Go.Proofs.YtbidglefddmjhaaGreatDoor
set_option linter.unusedVariables false
set_option maxRecDepth 100000

theorem toText_txt (t s : List UInt8) (ht : t.length ≤ 9223372036854775807) : toText (txt t ++ s) = some (t, s) := by
  unfold toText txt
  rw [List.append_assoc, toInt_enc (nat64_lt (by omega) (by omega))]
  simp only [unz_nat64]
  rw [if_neg (by simp; omega), Int.toNat_natCast]
  simp

theorem toWord_frame (l s : List UInt8) (hl : l.length ≤ 65536) : toWordL (frameL l ++ s) = l.length := by
  unfold frameL
  rw [List.append_assoc, List.append_assoc]
  exact toWord_word (by omega) _
theorem unframe_frame (l s : List UInt8) (hl : l.length ≤ 65536) : unframe (frameL l ++ s) = (l, 8 + l.length, 0) := by
  have h1 := toWord_frame l s hl
  have h4 : (frameL l ++ s).take 4 = word l.length := by unfold frameL; rw [List.append_assoc, List.append_assoc]; rfl
  have h8 : ((frameL l ++ s).drop 8).take l.length = l := by
    unfold frameL
    rw [List.append_assoc, List.append_assoc]
    show (l ++ s).take l.length = l
    simp
  have hd : toWordL ((frameL l ++ s).drop 4) = crc (word l.length ++ l) := by
    unfold frameL
    rw [List.append_assoc, List.append_assoc]
    exact toWord_word (crc_lt _) _
  unfold unframe
  rw [h1, h4, h8, hd, if_neg (by rw [List.length_append, frameL_length]; omega), if_neg (by omega), if_neg (by rw [List.length_append, frameL_length]; omega), if_neg (by simp)]

theorem unframe_cases (l : List UInt8) : (∃ e, (unframe l) = ([], 0, e) ∧ (e = 8 ∨ e = 9 ∨ e = 10)) ∨ ∃ p : List UInt8, unframe l = (p, 8 + p.length, 0) ∧ p.length ≤ 65536 ∧ 8 + p.length ≤ l.length ∧ frameL p = l.take (8 + p.length) := by
  unfold unframe
  by_cases h1 : l.length < 4
  · rw [if_pos h1]; exact .inl ⟨8, rfl, .inl rfl⟩
  · rw [if_neg h1]
    by_cases h2 : 65536 < toWordL l
    · rw [if_pos h2]; exact .inl ⟨10, rfl, .inr (.inr rfl)⟩
    · rw [if_neg h2]
      by_cases h3 : l.length < 8 + toWordL l
      · rw [if_pos h3]; exact .inl ⟨8, rfl, .inl rfl⟩
      · rw [if_neg h3]
        by_cases h4 : crc (l.take 4 ++ (l.drop 8).take (toWordL l)) ≠ toWordL (l.drop 4)
        · rw [if_pos h4]; exact .inl ⟨9, rfl, .inr (.inl rfl)⟩
        · rw [if_neg h4]
          have h4 : crc (l.take 4 ++ (l.drop 8).take (toWordL l)) = toWordL (l.drop 4) := Decidable.not_not.1 h4
          have hlen : ((l.drop 8).take (toWordL l)).length = toWordL l := by rw [List.length_take, List.length_drop]; omega
          refine .inr ⟨(l.drop 8).take (toWordL l), by rw [hlen], by omega, by omega, ?_⟩
          unfold frameL
          rw [hlen, word_toWord (by omega), h4, word_toWord (by rw [List.length_drop]; omega)]
          rw [show 8 + toWordL l = 4 + (4 + toWordL l) by omega, List.take_add, List.take_add, List.drop_drop, List.append_assoc]

/-! ### The sum is linear -/
def xor3 : List UInt8 → List UInt8 → List UInt8 → List UInt8
  | a :: l, b :: m, c :: n => (a ^^^ b ^^^ c) :: xor3 l m n
  | _, _, _ => []
theorem byteStep_xor (r s c d : Nat) : byteStep (r ^^^ s) (c ^^^ d) = byteStep r c ^^^ byteStep s d := by
  unfold byteStep
  rw [show r ^^^ s ^^^ (c ^^^ d) = (r ^^^ c) ^^^ (s ^^^ d) by rw [Nat.xor_assoc, ← Nat.xor_assoc s, Nat.xor_comm s c, Nat.xor_assoc c, ← Nat.xor_assoc], fourSteps_xor, fourSteps_xor]
theorem crcReg_xor3 : ∀ (l m n : List UInt8) (r s t : Nat), l.length = m.length → m.length = n.length → crcReg (r ^^^ s ^^^ t) (xor3 l m n) = crcReg r l ^^^ crcReg s m ^^^ crcReg t n
  | [], [], [], r, s, t, _, _ => rfl
  | a :: l, b :: m, c :: n, r, s, t, h1, h2 => by
    show crcReg (byteStep (r ^^^ s ^^^ t) (a ^^^ b ^^^ c).toNat) (xor3 l m n) = crcReg (byteStep r a.toNat) l ^^^ crcReg (byteStep s b.toNat) m ^^^ crcReg (byteStep t c.toNat) n
    rw [UInt8.toNat_xor, UInt8.toNat_xor, byteStep_xor, byteStep_xor]
    exact crcReg_xor3 l m n _ _ _ (by simpa using h1) (by simpa using h2)
theorem crc_xor3 (l m n : List UInt8) (h1 : l.length = m.length) (h2 : m.length = n.length) : crc (xor3 l m n) = crc l ^^^ crc m ^^^ crc n := by
  unfold crc
  have h := crcReg_xor3 l m n 4294967295 4294967295 4294967295 h1 h2
  rw [show 4294967295 ^^^ 4294967295 ^^^ 4294967295 = 4294967295 from rfl] at h
  rw [h]
  generalize crcReg 4294967295 l = x; generalize crcReg 4294967295 m = y; generalize crcReg 4294967295 n = z
  apply Nat.eq_of_testBit_eq
  intro i
  simp only [Nat.testBit_xor]
  generalize Nat.testBit x i = a; generalize Nat.testBit y i = b; generalize Nat.testBit z i = c; generalize Nat.testBit 4294967295 i = d
  cases a <;> cases b <;> cases c <;> cases d <;> rfl
theorem xor3_length : ∀ (l m n : List UInt8), l.length = m.length → m.length = n.length → (xor3 l m n).length = l.length
  | [], [], [], _, _ => rfl
  | a :: l, b :: m, c :: n, h1, h2 => by simp only [xor3, List.length_cons]; rw [xor3_length l m n (by simpa using h1) (by simpa using h2)]
theorem xor3_get : ∀ (l m n : List UInt8) (i : Nat) (a b c : UInt8), l[i]? = some a → m[i]? = some b → n[i]? = some c → (xor3 l m n)[i]? = some (a ^^^ b ^^^ c)
  | a :: l, b :: m, c :: n, 0, x, y, z, h1, h2, h3 => by simp at h1 h2 h3; subst h1 h2 h3; rfl
  | a :: l, b :: m, c :: n, i + 1, x, y, z, h1, h2, h3 => by simpa [xor3] using xor3_get l m n i x y z (by simpa using h1) (by simpa using h2) (by simpa using h3)

/-! ### A frame cut short, or with a bit turned -/
theorem unframe_cut (l : List UInt8) (hl : l.length ≤ 65536) (p : Nat) (hp : p < 8 + l.length) : unframe ((frameL l).take p) = ([], 0, 8) := by
  have hlen : ((frameL l).take p).length = p := by rw [List.length_take, frameL_length]; omega
  unfold unframe
  by_cases h4 : p < 4
  · rw [hlen, if_pos h4]
  · have htw : toWordL ((frameL l).take p) = l.length := by
      unfold frameL
      rw [List.append_assoc, List.take_append, show (word l.length).take p = word l.length from List.take_of_length_le (by rw [word_length]; omega)]
      exact toWord_word (by omega) _
    rw [hlen, htw, if_neg h4, if_neg (by omega), if_pos (by omega)]

/-- The register behind n noughts. -/
def zeros (r : Nat) : Nat → Nat
  | 0 => r
  | n + 1 => zeros (byteStep r 0) n
theorem crcReg_shift : ∀ (l : List UInt8) (x y : Nat), crcReg (x ^^^ y) l = crcReg x l ^^^ zeros y l.length
  | [], x, y => rfl
  | c :: l, x, y => by
    show crcReg (byteStep (x ^^^ y) c.toNat) l = crcReg (byteStep x c.toNat) l ^^^ zeros (byteStep y 0) l.length
    have h := byteStep_xor x y c.toNat 0
    rw [Nat.xor_zero] at h
    rw [h, crcReg_shift l]
theorem bitStep_pos {r : Nat} (h : r < 4294967296) (h0 : r ≠ 0) : bitStep r ≠ 0 := by
  unfold bitStep
  split
  · intro hx
    have h2 : r / 2 ^^^ 2197175160 ^^^ 2197175160 = 0 ^^^ 2197175160 := by rw [hx]
    rw [Nat.xor_assoc, Nat.xor_self, Nat.xor_zero, Nat.zero_xor] at h2
    omega
  · omega
theorem fourSteps_pos {r : Nat} (h : r < 4294967296) (h0 : r ≠ 0) : fourSteps r ≠ 0 :=
  bitStep_pos (bitStep_lt (bitStep_lt (bitStep_lt h))) (bitStep_pos (bitStep_lt (bitStep_lt h)) (bitStep_pos (bitStep_lt h) (bitStep_pos h h0)))
theorem byteStep_pos {r c : Nat} (h : r < 4294967296) (hc : c < 256) (h0 : r ^^^ c ≠ 0) : byteStep r c ≠ 0 :=
  fourSteps_pos (fourSteps_lt (Nat.xor_lt_two_pow (n := 32) h (by omega))) (fourSteps_pos (Nat.xor_lt_two_pow (n := 32) h (by omega)) h0)
theorem zeros_pos : ∀ (n r : Nat), r < 4294967296 → r ≠ 0 → zeros r n ≠ 0
  | 0, r, _, h => h
  | n + 1, r, h, h0 => zeros_pos n _ (byteStep_lt h (by omega)) (byteStep_pos h (by omega) (by rw [Nat.xor_zero]; exact h0))

/-- A byte that is another one turns the sum. -/
theorem crc_turn (p q : List UInt8) (c e : UInt8) (he : e ≠ 0) : crc (p ++ (c ^^^ e) :: q) ≠ crc (p ++ c :: q) := by
  unfold crc
  have h1 : ∀ d : UInt8, crcReg 4294967295 (p ++ d :: q) = crcReg (byteStep (crcReg 4294967295 p) d.toNat) q := fun d => by simp [crcReg]
  rw [h1, h1, UInt8.toNat_xor]
  have h2 := byteStep_xor (crcReg 4294967295 p) 0 c.toNat e.toNat
  rw [Nat.xor_zero] at h2
  rw [h2, crcReg_shift]
  have h3 : e.toNat ≠ 0 := fun h => he (by rw [← of_toNat e, h]; rfl)
  have h4 := zeros_pos q.length (byteStep 0 e.toNat) (byteStep_lt (by omega) e.toNat_lt) (byteStep_pos (by omega) e.toNat_lt (by rw [Nat.zero_xor]; exact h3))
  generalize crcReg (byteStep (crcReg 4294967295 p) c.toNat) q = x
  generalize zeros (byteStep 0 e.toNat) q.length = z at h4
  intro h
  apply h4
  have h5 : x ^^^ (x ^^^ z ^^^ 4294967295 ^^^ 4294967295) = x ^^^ (x ^^^ 4294967295 ^^^ 4294967295) := by rw [h]
  rw [Nat.xor_assoc _ 4294967295, Nat.xor_assoc _ 4294967295, Nat.xor_self, Nat.xor_zero, Nat.xor_zero, ← Nat.xor_assoc, Nat.xor_self, Nat.zero_xor] at h5
  exact h5

theorem set_split {l : List UInt8} {k : Nat} (hk : k < l.length) (c : UInt8) : l.set k c = l.take k ++ c :: l.drop (k + 1) := List.set_eq_take_append_cons_drop.trans (if_pos hk)

theorem unframe_turn (l : List UInt8) (hl : l.length ≤ 65536) (k : Nat) (h4 : 4 ≤ k) (hk : k < 8 + l.length) (c e : UInt8) (hc : (frameL l)[k]? = some c) (he : e ≠ 0) :
    unframe ((frameL l).set k (c ^^^ e)) = ([], 0, 9) := by
  have hflen := frameL_length l
  have hce : c ^^^ e ≠ c := by
    intro h
    apply he
    have : c ^^^ (c ^^^ e) = c ^^^ c := by rw [h]
    rw [← UInt8.xor_assoc, UInt8.xor_self, UInt8.zero_xor] at this
    exact this
  have hlen : ((frameL l).set k (c ^^^ e)).length = 8 + l.length := by rw [List.length_set, hflen]
  have ht4 : ((frameL l).set k (c ^^^ e)).take 4 = word l.length := by
    rw [List.take_set_of_le h4]; unfold frameL; rw [List.append_assoc]; rfl
  have htw : toWordL ((frameL l).set k (c ^^^ e)) = l.length := by
    have h1 : ((frameL l).set k (c ^^^ e)) = word l.length ++ ((frameL l).set k (c ^^^ e)).drop 4 := by rw [← ht4, List.take_append_drop]
    rw [h1]; exact toWord_word (by omega) _
  unfold unframe
  rw [hlen, htw, ht4, if_neg (by omega), if_neg (by omega), if_neg (by omega), if_pos ?_]
  -- the sum
  by_cases h8 : k < 8
  · have hd8 : ((frameL l).set k (c ^^^ e)).drop 8 = l := by
      rw [List.drop_set_of_lt h8]; unfold frameL; rw [List.append_assoc]; rfl
    rw [hd8, List.take_length]
    intro h
    have hw := word_toWord (l := ((frameL l).set k (c ^^^ e)).drop 4) (by rw [List.length_drop, hlen]; omega)
    rw [← h] at hw
    have hw0 : word (crc (word l.length ++ l)) = ((frameL l).drop 4).take 4 := by unfold frameL; rw [List.append_assoc]; rfl
    rw [hw0] at hw
    have hg := congrArg (fun m => m[k - 4]?) hw
    rw [List.getElem?_take_of_lt (by omega), List.getElem?_take_of_lt (by omega), List.getElem?_drop, List.getElem?_drop, show 4 + (k - 4) = k by omega, hc, List.getElem?_set_self (by omega)] at hg
    exact hce (Option.some.inj hg).symm
  · have hd4 : toWordL (((frameL l).set k (c ^^^ e)).drop 4) = crc (word l.length ++ l) := by
      have h1 : (((frameL l).set k (c ^^^ e)).drop 4).take 4 = word (crc (word l.length ++ l)) := by
        rw [List.drop_set, if_neg (by omega), List.take_set_of_le (by omega)]; unfold frameL; rw [List.append_assoc]; rfl
      have h2 : ((frameL l).set k (c ^^^ e)).drop 4 = word (crc (word l.length ++ l)) ++ (((frameL l).set k (c ^^^ e)).drop 4).drop 4 := by rw [← h1, List.take_append_drop]
      rw [h2]; exact toWord_word (crc_lt _) _
    have hd8 : ((frameL l).set k (c ^^^ e)).drop 8 = l.set (k - 8) (c ^^^ e) := by
      rw [List.drop_set, if_neg (by omega)]; unfold frameL; rw [List.append_assoc]; rfl
    have hcl : l[k - 8]? = some c := by
      rw [← hc]; unfold frameL
      rw [List.getElem?_append_right (by rw [List.length_append, word_length, word_length]; omega), List.length_append, word_length, word_length]
    have hkl : k - 8 < l.length := by omega
    rw [hd4, hd8, show (l.set (k - 8) (c ^^^ e)).take l.length = l.set (k - 8) (c ^^^ e) from List.take_of_length_le (by rw [List.length_set]; exact Nat.le_refl _), set_split hkl]
    have hlc : l = l.take (k - 8) ++ c :: l.drop (k - 8 + 1) := by
      rw [List.getElem?_eq_getElem hkl] at hcl
      rw [← Option.some.inj hcl, ← List.drop_eq_getElem_cons hkl, List.take_append_drop]
    have := crc_turn (word l.length ++ l.take (k - 8)) (l.drop (k - 8 + 1)) c e he
    rw [List.append_assoc, List.append_assoc, ← hlc] at this
    exact this
end Go.Proofs.YtbidglefddmjhaaGreatDoor

/-
  LAYER 3 (wal), THE PLAIN MATHEMATICS: entries, records and their bytes, what is read of bytes, what records make of a log.
-/
namespace Go.Proofs.YtbidglefddmjhaaGreatDoor
open Go.RowKit
set_option linter.unusedVariables false
set_option maxRecDepth 100000

structure En where
  idx : Int
  term : Int
  kind : Int
  data : List UInt8
  deriving DecidableEq
structure Hd where
  term : Int
  vote : Int
  deriving DecidableEq
def I64 (n : Int) : Prop := -9223372036854775808 ≤ n ∧ n ≤ 9223372036854775807
structure En.In (e : En) : Prop where
  idx : I64 e.idx
  term : I64 e.term
  kind : I64 e.kind
def entB (e : En) : Bool := decide (1 ≤ e.idx ∧ 0 ≤ e.term ∧ 1 ≤ e.kind ∧ e.kind ≤ 3)
def hdB (h : Hd) : Bool := decide (0 ≤ h.term ∧ 0 ≤ h.vote)

inductive Rc where
  | hard (h : Hd)
  | entry (e : En)
  | reset

/-! ### bytes -/
def payL : Rc → List UInt8
  | .hard h => encs [1, h.term, h.vote]
  | .entry e => encs [2, e.idx, e.term, e.kind] ++ txt e.data
  | .reset => encs [3]
def rcL (r : Rc) : List UInt8 := frameL (payL r)
def rcsL (l : List Rc) : List UInt8 := l.flatMap rcL

/-- Numbers off the beginning. -/
def cutN : Nat → List UInt8 → Option (List Int × List UInt8)
  | 0, l => some ([], l)
  | n + 1, l => match toInt l with
    | none => none
    | some (v, r) => match cutN n r with
      | none => none
      | some (vs, r2) => some (unz v :: vs, r2)
def decH (l : List UInt8) : Option Hd := match cutN 2 l with
  | some ([a, b], r) => if r = [] ∧ hdB ⟨a, b⟩ = true then some ⟨a, b⟩ else none
  | _ => none
def decE (l : List UInt8) : Option En := match cutN 3 l with
  | some ([a, b, c], r) => match toText r with
    | some (t, r2) => if r2 = [] ∧ entB ⟨a, b, c, t⟩ = true then some ⟨a, b, c, t⟩ else none
    | none => none
  | _ => none
def decR (p : List UInt8) : Option Rc := match toInt p with
  | none => none
  | some (k, r) => if unz k = 1 then (decH r).map .hard else if unz k = 2 then (decE r).map .entry else if unz k = 3 then (if r = [] then some .reset else none) else none

theorem cutN_length : ∀ {n : Nat} {l : List UInt8} {vs : List Int} {r : List UInt8}, cutN n l = some (vs, r) → vs.length = n
  | 0, l, vs, r, h => by simp only [cutN, Option.some.injEq, Prod.mk.injEq] at h; rw [← h.1]; rfl
  | n + 1, l, vs, r, h => by
    unfold cutN at h
    split at h
    · cases h
    · split at h
      · cases h
      · rename_i vs' r2 h2
        simp only [Option.some.injEq, Prod.mk.injEq] at h
        rw [← h.1, List.length_cons, cutN_length h2]
theorem cutN_encs : ∀ (vs : List Int) (t : List UInt8), (∀ v ∈ vs, I64 v) → cutN vs.length (encs vs ++ t) = some (vs, t)
  | [], t, _ => by simp [cutN, encs]
  | v :: vs, t, h => by
    have h1 := h v (by simp)
    have e : encs (v :: vs) ++ t = enc (nat64 v) ++ (encs vs ++ t) := by simp [encs]
    simp only [List.length_cons, cutN]
    rw [e, toInt_enc (nat64_lt h1.1 h1.2)]
    simp only
    rw [cutN_encs vs t (fun x hx => h x (by simp [hx]))]
    simp [unz_nat64]
theorem cutN_sound : ∀ {n : Nat} {l : List UInt8} {vs : List Int} {r : List UInt8}, cutN n l = some (vs, r) → l = encs vs ++ r ∧ ∀ v ∈ vs, I64 v
  | 0, l, vs, r, h => by simp only [cutN, Option.some.injEq, Prod.mk.injEq] at h; obtain ⟨rfl, rfl⟩ := h; exact ⟨rfl, fun v hv => by cases hv⟩
  | n + 1, l, vs, r, h => by
    unfold cutN at h
    split at h
    · cases h
    · rename_i v r1 h1
      split at h
      · cases h
      · rename_i vs' r2 h2
        simp only [Option.some.injEq, Prod.mk.injEq] at h
        obtain ⟨rfl, rfl⟩ := h
        obtain ⟨s1, s2⟩ := toInt_sound h1
        obtain ⟨s3, s4⟩ := cutN_sound h2
        refine ⟨?_, fun x hx => ?_⟩
        · rw [s2, s3]; simp [encs, nat64_unz]
        · rcases List.mem_cons.1 hx with rfl | hx
          · exact unz_lo s1
          · exact s4 x hx

def Rc.Fits : Rc → Prop
  | .hard h => hdB h = true ∧ I64 h.term ∧ I64 h.vote
  | .entry e => entB e = true ∧ e.In ∧ e.data.length ≤ 9223372036854775807
  | .reset => True
theorem decH_enc (h : Hd) (hb : hdB h = true) (ht : I64 h.term) (hv : I64 h.vote) : decH (encs [h.term, h.vote]) = some h := by
  unfold decH
  have := cutN_encs [h.term, h.vote] [] (by simp [ht, hv])
  simp only [List.append_nil, List.length_cons, List.length_nil] at this
  rw [this]
  simp [hb]
theorem decE_enc (e : En) (hb : entB e = true) (hi : e.In) (hd : e.data.length ≤ 9223372036854775807) : decE (encs [e.idx, e.term, e.kind] ++ txt e.data) = some e := by
  unfold decE
  have := cutN_encs [e.idx, e.term, e.kind] (txt e.data) (by simp [hi.idx, hi.term, hi.kind])
  simp only [List.length_cons, List.length_nil] at this
  rw [this]
  simp only
  have h2 := toText_txt e.data [] hd
  rw [List.append_nil] at h2
  rw [h2]
  simp [hb]
theorem decR_pay (r : Rc) (h : r.Fits) : decR (payL r) = some r := by
  have key : ∀ (k : Int) (t : List UInt8), I64 k → toInt (enc (nat64 k) ++ t) = some (nat64 k, t) := fun k t hk => toInt_enc (nat64_lt hk.1 hk.2) t
  cases r with
  | hard h' =>
    obtain ⟨h1, h2, h3⟩ := h
    have e : payL (.hard h') = enc (nat64 1) ++ encs [h'.term, h'.vote] := by simp [payL, encs]
    unfold decR
    rw [e, key 1 _ ⟨by omega, by omega⟩]
    simp only [unz_nat64, if_true]
    rw [decH_enc h' h1 h2 h3]; rfl
  | entry e' =>
    obtain ⟨h1, h2, h3⟩ := h
    have e : payL (.entry e') = enc (nat64 2) ++ (encs [e'.idx, e'.term, e'.kind] ++ txt e'.data) := by simp [payL, encs]
    unfold decR
    rw [e, key 2 _ ⟨by omega, by omega⟩]
    simp only [unz_nat64]
    rw [if_neg (by omega), if_pos trivial, decE_enc e' h1 h2 h3]; rfl
  | reset =>
    have e : payL .reset = enc (nat64 3) ++ [] := by simp [payL, encs]
    unfold decR
    rw [e, key 3 _ ⟨by omega, by omega⟩]
    simp only [unz_nat64]
    rw [if_neg (by omega), if_neg (by omega), if_pos trivial, if_pos trivial]
/-- Bytes that are read as a record are that record's. -/
theorem decR_sound {p : List UInt8} {r : Rc} (hp : p.length ≤ 65536) (h : decR p = some r) : p = payL r ∧ r.Fits := by
  unfold decR at h
  split at h
  · cases h
  · rename_i k rest hk
    obtain ⟨s1, s2⟩ := toInt_sound hk
    have hke : enc k = enc (nat64 (unz k)) := by rw [nat64_unz]
    split at h
    · rename_i h1
      cases hd : decH rest with
      | none => rw [hd] at h; cases h
      | some h' =>
        rw [hd] at h
        obtain rfl := Option.some.inj h
        unfold decH at hd
        split at hd
        · rename_i a b r2 hc
          split at hd
          · rename_i hcond
            obtain rfl := Option.some.inj hd
            obtain ⟨c1, c2⟩ := cutN_sound hc
            rw [hcond.1, List.append_nil] at c1
            refine ⟨?_, hcond.2, c2 a (by simp), c2 b (by simp)⟩
            rw [s2, hke, h1, c1]; simp [payL, encs]
          · cases hd
        · cases hd
    · split at h
      · rename_i h1 h2
        cases hd : decE rest with
        | none => rw [hd] at h; cases h
        | some e' =>
          rw [hd] at h
          obtain rfl := Option.some.inj h
          unfold decE at hd
          split at hd
          · rename_i a b c r2 hc
            split at hd
            · rename_i t r3 ht
              split at hd
              · rename_i hcond
                obtain rfl := Option.some.inj hd
                obtain ⟨c1, c2⟩ := cutN_sound hc
                have htx : r2 = txt t ++ r3 ∧ t.length ≤ r2.length := by
                  unfold toText at ht
                  split at ht
                  · cases ht
                  · rename_i v rr hv
                    split at ht
                    · cases ht
                    · rename_i hcc
                      simp only [Option.some.injEq, Prod.mk.injEq] at ht
                      obtain ⟨q1, q2⟩ := toInt_sound hv
                      obtain ⟨rfl, rfl⟩ := ht
                      have hl : (rr.take (unz v).toNat).length = (unz v).toNat := by rw [List.length_take]; omega
                      refine ⟨?_, ?_⟩
                      · rw [q2]
                        unfold txt
                        rw [hl, List.append_assoc, List.take_append_drop]
                        rw [show (((unz v).toNat : Nat) : Int) = unz v by omega, nat64_unz]
                      · rw [hl, q2, List.length_append]; omega
                rw [hcond.1, List.append_nil] at htx
                have hl : t.length ≤ 65536 := by
                  have : r2.length ≤ p.length := by rw [s2, c1, List.length_append, List.length_append]; omega
                  omega
                refine ⟨?_, hcond.2, ⟨c2 a (by simp), c2 b (by simp), c2 c (by simp)⟩, by show t.length ≤ _; omega⟩
                rw [s2, hke, h2, c1, htx.1]; simp [payL, encs]
              · cases hd
            · cases hd
          · cases hd
      · split at h
        · rename_i h1 h2 h3
          split at h
          · rename_i h4
            obtain rfl := Option.some.inj h
            refine ⟨?_, trivial⟩
            rw [s2, hke, h3, h4]; simp [payL, encs]
          · cases h
        · cases h

/-! ### what is read of a segment -/
def scanL (l : List UInt8) : List Rc × Nat × Int :=
  if l = [] then ([], 0, 0) else
  if (unframe l).2.2 = 9 then ([], 0, 9) else
  match decR (unframe l).1 with
  | none => ([], 0, 8)
  | some r => if h : 0 < (unframe l).2.1 ∧ l ≠ [] then (r :: (scanL (l.drop (unframe l).2.1)).1, (unframe l).2.1 + (scanL (l.drop (unframe l).2.1)).2.1, (scanL (l.drop (unframe l).2.1)).2.2) else ([], 0, 8)
termination_by l.length
decreasing_by all_goals (simp; have := List.length_pos_iff.2 h.2; omega)
theorem scanL_nil : scanL [] = ([], 0, 0) := by rw [scanL]; simp
theorem scanL_sum {l : List UInt8} (h0 : l ≠ []) (h : (unframe l).2.2 = 9) : scanL l = ([], 0, 9) := by rw [scanL, if_neg h0, if_pos h]
theorem scanL_none {l : List UInt8} (h0 : l ≠ []) (h : (unframe l).2.2 ≠ 9) (hd : decR (unframe l).1 = none) : scanL l = ([], 0, 8) := by rw [scanL, if_neg h0, if_neg h, hd]
theorem decR_nil : decR [] = none := by decide
/-- A record that is read has bytes. -/
theorem decR_frame {l : List UInt8} {r : Rc} (hd : decR (unframe l).1 = some r) : ∃ p, unframe l = (p, 8 + p.length, 0) ∧ 8 + p.length ≤ l.length ∧ rcL r = l.take (8 + p.length) ∧ p = payL r ∧ r.Fits ∧ p.length ≤ 65536 := by
  rcases unframe_cases l with ⟨e, h1, _⟩ | ⟨p, h1, h2, h3, h4⟩
  · rw [h1, decR_nil] at hd; cases hd
  · rw [h1] at hd
    obtain ⟨h5, h6⟩ := decR_sound h2 hd
    exact ⟨p, h1, h3, by rw [← h4, h5]; rfl, h5, h6, h2⟩
theorem scanL_some {l : List UInt8} {r : Rc} (hd : decR (unframe l).1 = some r) : ∃ n, (unframe l).2.1 = n ∧ 8 ≤ n ∧ n ≤ l.length ∧ rcL r = l.take n ∧ r.Fits ∧ (unframe l).2.2 = 0 ∧ scanL l = (r :: (scanL (l.drop n)).1, n + (scanL (l.drop n)).2.1, (scanL (l.drop n)).2.2) := by
  obtain ⟨p, h1, h2, h3, h4, h5, _⟩ := decR_frame hd
  have hne : l ≠ [] := fun e => by rw [e] at h2; simp at h2
  refine ⟨8 + p.length, by rw [h1], by omega, h2, h3, h5, by rw [h1], ?_⟩
  rw [scanL, if_neg hne, if_neg (by rw [h1]; show (0 : Nat) ≠ 9; decide), hd, h1]
  simp only
  rw [dif_pos ⟨by omega, hne⟩]
theorem scanL_le : ∀ (n : Nat) (l : List UInt8), l.length ≤ n → (scanL l).2.1 ≤ l.length ∧ rcsL (scanL l).1 = l.take (scanL l).2.1 ∧ (∀ r ∈ (scanL l).1, r.Fits) ∧ ((scanL l).2.2 = 0 → (scanL l).2.1 = l.length) ∧ ((scanL l).2.2 = 0 ∨ (scanL l).2.2 = 8 ∨ (scanL l).2.2 = 9) ∧ ((scanL l).2.2 ≠ 0 → (scanL l).2.1 < l.length)
  | 0, l, h => by
    have : l = [] := List.length_eq_zero_iff.1 (by omega)
    subst this
    rw [scanL_nil]; simp [rcsL]
  | n + 1, l, h => by
    by_cases h0 : l = []
    · subst h0; rw [scanL_nil]; simp [rcsL]
    · have hpos := List.length_pos_iff.2 h0
      by_cases h9 : (unframe l).2.2 = 9
      · rw [scanL_sum h0 h9]; simp [rcsL]; exact hpos
      · cases hd : decR (unframe l).1 with
        | none => rw [scanL_none h0 h9 hd]; simp [rcsL]; exact hpos
        | some r =>
          obtain ⟨m, _, h8, hm, hr, hf, _, hs⟩ := scanL_some hd
          have hlen : (l.drop m).length = l.length - m := List.length_drop
          obtain ⟨i1, i2, i3, i4, i5, i6⟩ := scanL_le n (l.drop m) (by omega)
          rw [hs]
          simp only
          refine ⟨by omega, ?_, ?_, fun e => by have := i4 e; omega, i5, fun e => by have := i6 e; omega⟩
          · show rcL r ++ rcsL _ = _
            rw [hr, i2, List.take_add]
          · intro x hx
            rcases List.mem_cons.1 hx with rfl | hx
            · exact hf
            · exact i3 x hx
/-- Records behind one another are read one by one, whatever stands behind them. -/
theorem scanL_rc {r : Rc} (hf : r.Fits) (hl : (payL r).length ≤ 65536) (t : List UInt8) : scanL (rcL r ++ t) = (r :: (scanL t).1, (rcL r).length + (scanL t).2.1, (scanL t).2.2) := by
  have h1 := unframe_frame (payL r) t hl
  have hd : decR (unframe (rcL r ++ t)).1 = some r := by rw [show rcL r = frameL (payL r) from rfl, h1]; exact decR_pay r hf
  obtain ⟨n, hn, _, _, _, _, _, hs⟩ := scanL_some hd
  have hn2 : n = (rcL r).length := by rw [← hn, show rcL r = frameL (payL r) from rfl, h1, frameL_length]
  rw [hs, hn2, List.drop_left]
theorem scanL_rcs : ∀ (l : List Rc) (t : List UInt8), (∀ r ∈ l, r.Fits ∧ (payL r).length ≤ 65536) → scanL (rcsL l ++ t) = (l ++ (scanL t).1, (rcsL l).length + (scanL t).2.1, (scanL t).2.2)
  | [], t, _ => by simp [rcsL]
  | r :: l, t, h => by
    have e : rcsL (r :: l) ++ t = rcL r ++ (rcsL l ++ t) := by simp [rcsL]
    obtain ⟨h1, h2⟩ := h r (by simp)
    rw [e, scanL_rc h1 h2, scanL_rcs l t (fun x hx => h x (by simp [hx]))]
    simp [rcsL]
    omega

/-! ### what records make of a log -/
structure Lg where
  hd : Hd
  L : List En
def lastI (L : List En) : Int := (L.getLast?.map En.idx).getD 0
def firstI (L : List En) : Int := (L.head?.map En.idx).getD 0
/-- How many entries stay ahead of one that is put in. -/
def aheadE (L : List En) (i : Int) : Nat := if L = [] ∨ IntKind.i64.wrap (lastI L + 1) < i ∨ i < firstI L then 0 else (i - firstI L).toNat
def putE (L : List En) (e : En) : List En := L.take (aheadE L e.idx) ++ [e]
def takeR (s : Lg) : Rc → Lg
  | .hard h => { s with hd := h }
  | .entry e => { s with L := putE s.L e }
  | .reset => { s with L := [] }
def takeRs (s : Lg) (l : List Rc) : Lg := l.foldl takeR s
/-- Entries without gaps. -/
def Consec (L : List En) : Prop := ∀ k (h : k < L.length), (L[k]'h).idx = firstI L + k
structure Lg.Ok (s : Lg) : Prop where
  hd : hdB s.hd = true ∧ I64 s.hd.term ∧ I64 s.hd.vote
  row : Consec s.L
  ents : ∀ e ∈ s.L, entB e = true ∧ e.In
theorem firstI_cons (e : En) (L : List En) : firstI (e :: L) = e.idx := rfl
theorem lastI_get {L : List En} (h : L ≠ []) : lastI L = (L[L.length - 1]'(by have := List.length_pos_iff.2 h; omega)).idx := by
  unfold lastI
  rw [List.getLast?_eq_getElem?, List.getElem?_eq_getElem (by have := List.length_pos_iff.2 h; omega)]
  rfl
theorem Consec.last {L : List En} (h : Consec L) (h0 : L ≠ []) : lastI L = firstI L + (L.length : Int) - 1 := by
  have hp := List.length_pos_iff.2 h0
  rw [lastI_get h0, h _ (by omega)]; omega
theorem wrap_succ {n : Int} (h : I64 n) : IntKind.i64.wrap (n + 1) = if n = 9223372036854775807 then -9223372036854775808 else n + 1 := by
  obtain ⟨h1, h2⟩ := h
  by_cases he : n = 9223372036854775807
  · subst he; decide
  · rw [if_neg he]
    exact IntWalk.i64_in _ (by omega)
theorem aheadE_le {L : List En} (hc : Consec L) (hi : ∀ e ∈ L, e.In) (i : Int) : aheadE L i ≤ L.length ∧ (L = [] ∨ aheadE L i = 0 ∨ i = firstI L + (aheadE L i : Int)) := by
  unfold aheadE
  by_cases h0 : L = []
  · rw [if_pos (.inl h0)]; exact ⟨Nat.zero_le _, .inl h0⟩
  · have hl := hc.last h0
    have hp := List.length_pos_iff.2 h0
    have hin : I64 (lastI L) := by rw [lastI_get h0]; exact (hi _ (List.getElem_mem _)).idx
    split
    · exact ⟨Nat.zero_le _, .inr (.inl rfl)⟩
    · rename_i h
      rw [wrap_succ hin] at h
      have h1 : ¬ i < firstI L := fun e => h (.inr (.inr e))
      have h2 : i ≤ lastI L + 1 := by
        by_cases he : lastI L = 9223372036854775807
        · rw [if_pos he] at h
          have : ¬ -9223372036854775808 < i := fun e => h (.inr (.inl e))
          have := hin.1
          omega
        · rw [if_neg he] at h
          have : ¬ lastI L + 1 < i := fun e => h (.inr (.inl e))
          omega
      exact ⟨by omega, .inr (.inr (by omega))⟩
theorem firstI_take {L : List En} {k : Nat} (hk : 0 < k) : firstI (L.take k) = firstI L := by
  cases L with
  | nil => simp
  | cons e r => cases k with
    | zero => omega
    | succ k => rfl
theorem putE_ok {L : List En} (hc : Consec L) (hi : ∀ e ∈ L, entB e = true ∧ e.In) {e : En} (he : entB e = true) (hei : e.In) : Consec (putE L e) ∧ ∀ x ∈ putE L e, entB x = true ∧ x.In := by
  obtain ⟨h1, h2⟩ := aheadE_le hc (fun x hx => (hi x hx).2) e.idx
  refine ⟨fun k hk => ?_, fun x hx => ?_⟩
  · unfold putE at hk ⊢
    have hlt : (L.take (aheadE L e.idx)).length = aheadE L e.idx := by rw [List.length_take]; omega
    by_cases h0 : aheadE L e.idx = 0
    · simp only [h0, List.take_zero, List.nil_append, List.length_singleton] at hk ⊢
      have hk0 : k = 0 := by omega
      subst hk0
      simp [firstI]
    · have hne : L ≠ [] := fun h => h0 (by rw [h] at h1 ⊢; exact Nat.le_zero.1 h1)
      have h3 : e.idx = firstI L + (aheadE L e.idx : Int) := by
        rcases h2 with h2 | h2 | h2
        · exact absurd h2 hne
        · exact absurd h2 h0
        · exact h2
      have hf : firstI (L.take (aheadE L e.idx) ++ [e]) = firstI L := by
        rw [← firstI_take (L := L) (k := aheadE L e.idx) (by omega)]
        unfold firstI
        rw [List.head?_append]
        cases hh : (L.take (aheadE L e.idx)).head? with
        | none =>
          rw [List.head?_eq_none_iff] at hh
          rw [hh] at hlt; simp at hlt; omega
        | some x => rfl
      rw [hf]
      by_cases hk2 : k < aheadE L e.idx
      · rw [List.getElem_append_left (by omega), List.getElem_take]
        exact hc k (by omega)
      · have hke : k = aheadE L e.idx := by simp at hk; omega
        subst hke
        rw [List.getElem_append_right (by omega)]
        simp only [hlt, Nat.sub_self, List.getElem_cons_zero]
        exact h3
  · unfold putE at hx
    rcases List.mem_append.1 hx with hx | hx
    · exact hi x (List.mem_of_mem_take hx)
    · rw [List.mem_singleton.1 hx]; exact ⟨he, hei⟩
theorem takeR_ok {s : Lg} (h : s.Ok) {r : Rc} (hf : r.Fits) : (takeR s r).Ok := by
  cases r with
  | hard h' => exact ⟨⟨hf.1, hf.2.1, hf.2.2⟩, h.row, h.ents⟩
  | entry e =>
    obtain ⟨h1, h2⟩ := putE_ok h.row h.ents hf.1 hf.2.1
    exact ⟨h.hd, h1, h2⟩
  | reset => exact ⟨h.hd, fun k hk => by simp [takeR] at hk, fun e he => by simp [takeR] at he⟩
theorem takeRs_ok : ∀ {l : List Rc} {s : Lg}, s.Ok → (∀ r ∈ l, r.Fits) → (takeRs s l).Ok
  | [], _, h, _ => h
  | r :: l, s, h, hf => takeRs_ok (l := l) (takeR_ok h (hf r (by simp))) (fun x hx => hf x (by simp [hx]))
end Go.Proofs.YtbidglefddmjhaaGreatDoor

/-
  SMALL LAWS THAT EVERY LAYER WITH OBJECTS USES: what a call may turn ('Chg S w w'': the blocks of S, and new ones); a block known whole ('own').
-/
namespace Go.Proofs.YtbidglefddmjhaaGreatDoor
open Go.RowKit
set_option linter.unusedVariables false
set_option maxRecDepth 100000

/-- Of what was there, only blocks of S have turned. -/
structure Chg (S : Nat → Prop) (w w' : World) : Prop where
  os : w'.os = w.os
  tape : w'.tape = w.tape
  output : w'.output = w.output
  size : w.heap.size ≤ w'.heap.size
  block : ∀ b, b < w.heap.size → ¬ S b → w'.heap[b]? = w.heap[b]?
/-- S, and what has been laid since. -/
def grow (S : Nat → Prop) (w w' : World) : Nat → Prop := fun b => S b ∨ (w.heap.size ≤ b ∧ b < w'.heap.size)

theorem Chg.refl (S : Nat → Prop) (w : World) : Chg S w w := ⟨rfl, rfl, rfl, Nat.le_refl _, fun _ _ _ => rfl⟩
theorem Chg.trans {S T : Nat → Prop} {a b c : World} (h : Chg S a b) (k : Chg T b c) (hT : ∀ x, T x → S x ∨ a.heap.size ≤ x) : Chg S a c :=
  ⟨k.os.trans h.os, k.tape.trans h.tape, k.output.trans h.output, Nat.le_trans h.size k.size, fun x hx hs =>
    (k.block x (Nat.lt_of_lt_of_le hx h.size) (fun ht => by rcases hT x ht with h1 | h1; exact hs h1; omega)).trans (h.block x hx hs)⟩
theorem Chg.mono {S T : Nat → Prop} {w w' : World} (h : Chg S w w') (hs : ∀ x, S x → T x) : Chg T w w' := ⟨h.os, h.tape, h.output, h.size, fun b hb ht => h.block b hb (fun k => ht (hs b k))⟩
theorem Chg.of_below {S : Nat → Prop} {w w' : World} (h : Below w.heap.size w w') : Chg S w w' := ⟨h.os, h.tape, h.output, h.size, fun b hb _ => h.block b hb⟩
theorem Chg.below {S : Nat → Prop} {w w' : World} {B : Nat} (h : Chg S w w') (hB : B ≤ w.heap.size) (hS : ∀ b, S b → B ≤ b) : Below B w w' :=
  ⟨h.os, h.tape, h.output, h.size, fun b hb => h.block b (by omega) (fun k => by have := hS b k; omega)⟩
theorem Chg.of_grown {w w' : World} {row : Option Nat} (h : w.grownBy w' row) : Chg (fun b => row = some b) w w' := ⟨h.os, h.tape, h.output, h.size, fun b hb hn => h.block b hb (fun e => hn e.symm)⟩
theorem Chg.setCell (w : World) (p : Addr) (u : Value) : Chg (fun b => b = p.block) w (w.setCell p u) := ⟨rfl, rfl, rfl, by simp [World.setCell], fun b hb hn => Below.heap_setCell _ _ _ _ hn⟩
theorem Chg.alloc (S : Nat → Prop) (w : World) (o : Obj) : Chg S w (w.alloc o) := ⟨rfl, rfl, rfl, by simp, fun b hb _ => Below.heap_alloc _ _ _ hb⟩
theorem Chg.drewN {S : Nat → Prop} {a w : World} (h : Chg S a w) (n : Nat) : Chg S a (w.drewN n) := ⟨h.os, h.tape, h.output, h.size, h.block⟩
theorem setCell_size (w : World) (p : Addr) (u : Value) : (w.setCell p u).heap.size = w.heap.size := by simp [World.setCell]
theorem Chg.keep {S T : Nat → Prop} {w w' : World} (h : Chg S w w') (hT : ∀ b, T b → b < w.heap.size ∧ ¬ S b) : ∀ b, T b → w'.heap[b]? = w.heap[b]? := fun b hb => h.block b (hT b hb).1 (hT b hb).2
theorem grow_mono {S : Nat → Prop} {w w' : World} : ∀ b, S b → grow S w w' b := fun b h => .inl h
theorem grow_lt {S : Nat → Prop} {w w' : World} (hS : ∀ b, S b → b < w.heap.size) (hs : w.heap.size ≤ w'.heap.size) : ∀ b, grow S w w' b → b < w'.heap.size := fun b h => by
  rcases h with h | h
  · have := hS b h; omega
  · exact h.2
theorem grow_ge {S : Nat → Prop} {w w' : World} {B : Nat} (hS : ∀ b, S b → B ≤ b) (hB : B ≤ w.heap.size) : ∀ b, grow S w w' b → B ≤ b := fun b h => by
  rcases h with h | h
  · exact hS b h
  · omega

/-- A block of cells, known whole. -/
def own (w : World) (b : Nat) (cs : Array Value) (T : TypeId) : Prop := w.heap[b]? = some (.cells cs T (0, 0))
theorem own.cell {w : World} {b : Nat} {cs : Array Value} {T : TypeId} (h : own w b cs T) (k : Nat) : w.cell? ⟨b, k, none⟩ = cs[k]? := Lib.cell_of_heap h k
theorem own.frozen {w : World} {b : Nat} {cs : Array Value} {T : TypeId} (h : own w b cs T) (k : Nat) : w.frozen? ⟨b, k, none⟩ = false := Lib.frozen_of_heap h k
theorem own.lt {w : World} {b : Nat} {cs : Array Value} {T : TypeId} (h : own w b cs T) : b < w.heap.size := (Array.getElem?_eq_some_iff.1 h).1
theorem own.set {w : World} {b : Nat} {cs : Array Value} {T : TypeId} (h : own w b cs T) (k : Nat) (v : Value) : own (w.setCell ⟨b, k, none⟩ v) b (cs.setIfInBounds k v) T := by
  unfold own at *
  simp [World.setCell, Array.getElem?_modify, h]
theorem own.other {w : World} {b : Nat} {cs : Array Value} {T : TypeId} (h : own w b cs T) {p : Addr} (hp : b ≠ p.block) (v : Value) : own (w.setCell p v) b cs T := by
  unfold own at *
  rw [Below.heap_setCell _ _ _ _ hp]; exact h
theorem own.new (w : World) (cs : Array Value) (T : TypeId) : own (w.alloc (.cells cs T)) w.heap.size cs T := heap_alloc_new w _
theorem own.chg {w w' : World} {S : Nat → Prop} {b : Nat} {cs : Array Value} {T : TypeId} (h : own w b cs T) (hc : Chg S w w') (hb : ¬ S b) : own w' b cs T := by
  unfold own at *
  rw [hc.block b (Array.getElem?_eq_some_iff.1 h).1 hb]; exact h
theorem own.same {w w' : World} {b : Nat} {cs : Array Value} {T : TypeId} (h : own w b cs T) (hb : w'.heap[b]? = w.heap[b]?) : own w' b cs T := by
  unfold own at *
  rw [hb]; exact h

theorem ownsRow_same {w w' : World} {B : Nat} {e : TypeId} {size : Nat} {v : Value} {n : Nat} {xs : List Value} (h : w.ownsRow B e size v n xs) (hs : ∀ b, v.ownBlock = some b → w'.heap[b]? = w.heap[b]?) : w'.ownsRow B e size v n xs := by
  obtain ⟨h1, h2⟩ := h
  refine ⟨h1, ?_⟩
  rcases h2 with h2 | ⟨g, cap, cur, hv, hB, hg, h3⟩
  · exact .inl h2
  · exact .inr ⟨g, cap, cur, hv, hB, by rw [hs g (by rw [hv]; rfl)]; exact hg, h3⟩
theorem ownsMap_same {H : Type} {w w' : World} {P : Program} {k : TypeId} {R : Value → Option (DataW H × List MemPlace)} {b n : Nat} {D : DataW H} (h : w.ownsMap P k R b n D) (hs : w'.heap[b]? = w.heap[b]?) : w'.ownsMap P k R b n D := by
  obtain ⟨es, clock, hb, r⟩ := h
  exact ⟨es, clock, by rw [hs]; exact hb, r⟩
theorem ownsMap_tight {H : Type} {w : World} {P : Program} {k : TypeId} {R : Value → Option (DataW H × List MemPlace)} {b n : Nat} {D : DataW H} (h : w.ownsMap P k R b n D) : w.ownsMap P k R b (Maps.size D) D := by
  obtain ⟨es, clock, hb, F, _, rfl⟩ := h
  exact ⟨es, clock, hb, F, by simp [Maps.size, length_sorted], rfl⟩
theorem mapTurned_chg {w w' : World} {b : Nat} (h : w.mapTurned w' b) : Chg (fun x => x = b) w w' := (Chg.of_grown h.grown).mono (fun x e => by cases e; rfl)
theorem mapTurned_size {w w' : World} {b : Nat} (h : w.mapTurned w' b) : w'.heap.size = w.heap.size := by
  obtain ⟨es, clock, es', clock', hb, rfl⟩ := h
  simp [ChangeMaps.setBlock]

/-- One segment of a row of numbers exchanged for another. -/
theorem nodup_swap {A X Y B : List Nat} {N : Nat} (h : (A ++ (X ++ B)).Nodup) (hY : Y.Nodup) (hlt : ∀ b ∈ A ++ (X ++ B), b < N) (hsub : ∀ b ∈ Y, b ∈ X ∨ N ≤ b) : (A ++ (Y ++ B)).Nodup := by
  rw [List.nodup_append] at h ⊢
  obtain ⟨hA, hXB, hd⟩ := h
  rw [List.nodup_append] at hXB ⊢
  obtain ⟨hX, hB, hd2⟩ := hXB
  refine ⟨hA, ⟨hY, hB, fun b hb c hc e => ?_⟩, fun b hb c hc e => ?_⟩
  · subst e
    rcases hsub b hb with h1 | h1
    · exact hd2 b h1 b hc rfl
    · have := hlt b (by simp [hc]); omega
  · subst e
    rcases List.mem_append.1 hc with hc | hc
    · rcases hsub b hc with h1 | h1
      · exact hd b hb b (by simp [h1]) rfl
      · have := hlt b (by simp [hb]); omega
    · exact hd b hb b (by simp [hc]) rfl
end Go.Proofs.YtbidglefddmjhaaGreatDoor

/-
  LAYER 3 (wal): names of segments.
-/
namespace Go.Proofs.YtbidglefddmjhaaGreatDoor
open Go.RowKit
set_option linter.unusedVariables false
set_option maxRecDepth 100000

/-- The package-level variables that the layer's calls read; all lie below block B. -/
structure Glob (w : World) (B : Nat) : Prop where
  steps : Steps w
  hsteps : 0 < B
  pow : Lib.TabIs Tryz.prog w "internal/strconv.uint64pow10" .u64 Lib.pow10Tab
  hpow : 3 < B
  syn : ∃ ev, w.cell? ⟨1, 0, none⟩ = some ev ∧ (ev = .nilIface ∨ ∃ te pe, ev = .iface te pe)
  hsyn : 1 < B
  rng : ∃ ev, w.cell? ⟨2, 0, none⟩ = some ev ∧ (ev = .nilIface ∨ ∃ te pe, ev = .iface te pe)
  hrng : 2 < B
theorem gPow : Tryz.prog.globalNamed "internal/strconv.uint64pow10" = some 3 := by kernel_rfl
theorem Glob.same {w w' : World} {B : Nat} (h : Glob w B) (hs : ∀ b, b < B → w'.heap[b]? = w.heap[b]?) : Glob w' B := by
  obtain ⟨h1, h2, h3, h4, ⟨e1, h5, h6⟩, h7, ⟨e2, h8, h9⟩, h10⟩ := h
  refine ⟨fun i hi => (World.cell?_of_block (w := w) (a := ⟨0, i, none⟩) (hs _ h2)).trans (h1 i hi), h2, ?_, h4, ⟨e1, (World.cell?_of_block (w := w) (a := ⟨1, 0, none⟩) (hs _ h7)).trans h5, h6⟩, h7, ⟨e2, (World.cell?_of_block (w := w) (a := ⟨2, 0, none⟩) (hs _ h10)).trans h8, h9⟩, h10⟩
  unfold Lib.TabIs World.var? at *
  rw [gPow] at h3 ⊢
  simp only [Option.bind_some] at h3 ⊢
  rw [hs _ h4]; exact h3
theorem Glob.below {w w' : World} {B : Nat} (h : Glob w B) {B' : Nat} (hb : Below B' w w') (hB : B ≤ B') : Glob w' B := h.same fun b hlt => hb.block b (by omega)
theorem Glob.chg {w w' : World} {B : Nat} {S : Nat → Prop} (h : Glob w B) (hc : Chg S w w') (hB : B ≤ w.heap.size) (hS : ∀ b, S b → B ≤ b) : Glob w' B := h.same fun b hlt => hc.block b (by omega) (fun k => by have := hS b k; omega)

theorem below_ahead (w : World) (n : Nat) (os : Array Obj) : Below w.heap.size w (Sort.grow (w.drewN n) os) :=
  ⟨rfl, rfl, rfl, by show w.heap.size ≤ (w.heap ++ os).size; rw [Array.size_append]; omega, fun b hb => by show (w.heap ++ os)[b]? = _; exact Array.getElem?_append_left hb⟩
theorem itoa_any (n : Int) (w : World) {B : Nat} (hg : Glob w B) (h : I64 n) : Calls Tryz.prog 130 #[.int .i64 n] w fun e w' => e = .returned (.string (mk (Lib.itoa n))) ∧ Below w.heap.size w w' :=
  (Any.strconv_Itoa Tryz.itoaA n h.1 h.2 w hg.pow).mono fun e w' ⟨he, k, os, hw⟩ => ⟨he, by rw [hw]; exact below_ahead w k os⟩
/-- A segment's name. -/
def segN (n : Int) : List UInt8 := 119 :: Lib.itoa n
theorem segName_any (n : Int) (w : World) {B : Nat} (hg : Glob w B) (h : I64 n) : Calls Tryz.prog 75 #[.int .i64 n] w fun e w' => e = .returned (.string (mk (segN n))) ∧ Below w.heap.size w w' := by
  have HI := hid (itoa_any n w hg h)
  have he : (ByteArray.mk #[119]) ++ mk (Lib.itoa n) = mk (segN n) := mk_append [119] (Lib.itoa n)
  have hd : (mk (Lib.itoa n)).size ≤ 21 := by rw [mk_size]; exact Lib.itoa_length_le n h.1 h.2
  clear h hg
  generalize mk (segN n) = r at *
  generalize mk (Lib.itoa n) = d at *
  go_enter Tryz.func75, Tryz.ntmps75
  go_wp2_with (go_at_call 130; (with_reducible refine HI.out.mono ?_); rintro e w1 ⟨rfl, hb⟩)
  go_ret
  exact ⟨rfl, hb⟩

/-! ### strconv.Atoi -/
def atoiV (l : List UInt8) (v ev : Value) : Prop := match Lib.atoiAll l with
  | .ok n => v = .int .i64 n ∧ ev = .nilIface
  | _ => ∃ k te pe, v = .int .i64 k ∧ ev = .iface te pe
theorem atoi_any (s : ByteArray) (w : World) {B : Nat} (hg : Glob w B) (hB : B ≤ w.heap.size) (hs : s.size ≤ 1000) : Calls Tryz.prog 167 #[.string s] w fun e w' => ∃ v ev, e = .returned (.tuple #[v, ev]) ∧ atoiV s.data.toList v ev ∧ Below w.heap.size w w' := by
  cases h : Lib.atoiAll s.data.toList with
  | ok n =>
    refine (Any.strconv_Atoi_ok Tryz.atoiA s (by omega) n h w).mono ?_
    rintro e w' ⟨he, hw⟩
    refine ⟨_, _, he, by unfold atoiV; rw [h]; exact ⟨rfl, rfl⟩, ?_⟩
    rcases hw with rfl | ⟨t, rfl⟩
    · exact Below.refl _ _
    · exact ⟨rfl, rfl, rfl, by rw [Lib.bytesWorld_size]; omega, fun k hk => Lib.bytesWorld_at_old w _ t k hk⟩
  | range =>
    obtain ⟨ev, h1, h2⟩ := hg.rng
    refine (Any.strconv_Atoi_range Tryz.atoiA s (by omega) h ev w h1 h2).mono ?_
    rintro e w' ⟨N, he, _, _, hb⟩
    exact ⟨_, _, he, by unfold atoiV; rw [h]; exact ⟨_, _, _, rfl, rfl⟩, hb⟩
  | _ =>
    obtain ⟨ev, h1, h2⟩ := hg.syn
    refine (Any.strconv_Atoi_syntax Tryz.atoiA s (by omega) h ev w h1 h2).mono ?_
    rintro e w' ⟨N, he, _, _, hb⟩
    exact ⟨_, _, he, by unfold atoiV; rw [h]; exact ⟨_, _, _, rfl, rfl⟩, hb⟩
/-- The number of a segment's name; 0: it is none. -/
def segV (l : List UInt8) : Nat := match l with
  | [] => 0
  | c :: r => match Lib.atoiAll r with
    | .ok v => if 1 ≤ v ∧ v ≤ 999999 ∧ c :: r = segN v then v.toNat else 0
    | _ => 0
theorem segV_le (l : List UInt8) : segV l ≤ 999999 := by
  unfold segV
  split
  · omega
  · split
    · split <;> omega
    · omega
theorem segV_nil : segV [] = 0 := rfl
theorem segV_cons (c : UInt8) (r : List UInt8) : segV (c :: r) = match Lib.atoiAll r with
    | .ok v => if 1 ≤ v ∧ v ≤ 999999 ∧ c :: r = segN v then v.toNat else 0
    | _ => 0 := rfl
set_option maxHeartbeats 2000000 in
theorem segNum_any (s : ByteArray) (w : World) {B : Nat} (hg : Glob w B) (hB : B ≤ w.heap.size) (hs : s.size ≤ 1000) : Calls Tryz.prog 123 #[.string s] w fun e w' => e = .returned (.int .i64 (segV s.data.toList : Int)) ∧ Below w.heap.size w w' := by
  cases hl : s.data.toList with
  | nil =>
    have hq : (s.toList == []) = true := by rw [Lib.toList_data, hl]; rfl
    have hq1 : s.toList = [] := by rw [Lib.toList_data, hl]
    rw [segV_nil]
    go_enter Tryz.func123, Tryz.ntmps123
    go_wp2
    go_ret
    exact ⟨rfl, Below.refl _ _⟩
  | cons c r =>
    have hz : s.size = r.length + 1 := by rw [← str_len, hl]; rfl
    have hq : (s.toList == []) = false := by rw [Lib.toList_data, hl]; rfl
    have hq1 : s.toList ≠ [] := by rw [Lib.toList_data, hl]; simp
    have l1 := fun wx => slice_l (s := s) (lo := 1) (l := r) (by omega) (by omega) (by rw [hl]; rfl) wx
    have hA := hid (atoi_any (mk r) w hg hB (by rw [mk_size]; omega))
    rw [mk_data] at hA
    unfold atoiV at hA
    have hseg := segV_cons c r
    cases ha : Lib.atoiAll r with
    | ok v =>
      rw [ha] at hA hseg
      simp only at hA hseg
      have hvb := Lib.atoiAll_bounds ha
      have HA : Hid (Calls Tryz.prog 167 #[.string (mk r)] w fun e w' => e = .returned (.tuple #[.int .i64 v, .nilIface]) ∧ Below w.heap.size w w') := hid (hA.out.mono fun e w' ⟨v', ev, he, ⟨h1, h2⟩, hb⟩ => ⟨by rw [he, h1, h2], hb⟩)
      clear hA
      by_cases h1 : v < 1
      · rw [hseg, if_neg (by omega)]
        clear hseg ha hl hg
        generalize mk r = rb at *
        go_enter Tryz.func123, Tryz.ntmps123
        go_wp2_with (go_at_call 167; (with_reducible refine HA.out.mono ?_); rintro e w1 ⟨rfl, hb⟩)
        go_ret
        exact ⟨rfl, hb⟩
      · by_cases h2 : 999999 < v
        · rw [hseg, if_neg (by omega)]
          clear hseg ha hl hg
          generalize mk r = rb at *
          go_enter Tryz.func123, Tryz.ntmps123
          go_wp2_with (go_at_call 167; (with_reducible refine HA.out.mono ?_); rintro e w1 ⟨rfl, hb⟩)
          go_ret
          exact ⟨rfl, hb⟩
        · have HS := hid (fun wx (hb : Below w.heap.size w wx) => segName_any v wx (hg.below hb hB) ⟨by omega, by omega⟩)
          by_cases h3 : c :: r = segN v
          · rw [hseg, if_pos ⟨by omega, by omega, h3⟩]
            have he : mk (segN v) = s := str_ext (by rw [mk_data, hl, h3])
            rw [he] at HS
            have hv : ((v.toNat : Nat) : Int) = v := by omega
            rw [hv]
            clear hseg ha hl hg h3 he hv
            generalize mk r = rb at *
            go_enter Tryz.func123, Tryz.ntmps123
            go_wp2_with (first | (go_at_call 167; (with_reducible refine HA.out.mono ?_); rintro e w1 ⟨rfl, hb⟩) | (go_at_call 75; (with_reducible refine (HS.out _ hb).mono ?_); rintro e w2 ⟨rfl, hb2⟩))
            go_ret
            exact ⟨rfl, hb.trans (hb2.mono hb.size)⟩
          · rw [hseg, if_neg (fun h => h3 h.2.2)]
            have hne : (s.toList == (mk (segN v)).toList) = false := by rw [beq_eq_false_iff_ne, Lib.toList_data, Lib.toList_data, mk_data, hl]; exact h3
            clear hseg ha hl hg h3
            generalize mk r = rb at *
            generalize mk (segN v) = sb at *
            go_enter Tryz.func123, Tryz.ntmps123
            go_wp2_with (first | (go_at_call 167; (with_reducible refine HA.out.mono ?_); rintro e w1 ⟨rfl, hb⟩) | (go_at_call 75; (with_reducible refine (HS.out _ hb).mono ?_); rintro e w2 ⟨rfl, hb2⟩))
            go_ret
            exact ⟨rfl, hb.trans (hb2.mono hb.size)⟩
    | _ =>
      rw [ha] at hA hseg
      simp only at hA hseg
      rw [hseg]
      clear hseg ha hl hg
      generalize mk r = rb at *
      go_enter Tryz.func123, Tryz.ntmps123
      go_wp2_with (go_at_call 167; (with_reducible refine hA.out.mono ?_); rintro e w1 ⟨v, ev, rfl, ⟨k, te, pe, rfl, rfl⟩, hb⟩)
      go_ret
      exact ⟨rfl, hb⟩
theorem notSeg_any (s : ByteArray) (w : World) {B : Nat} (hg : Glob w B) (hB : B ≤ w.heap.size) (hs : s.size ≤ 1000) : Calls Tryz.prog 60 #[.string s] w fun e w' => e = .returned (.bool (decide (segV s.data.toList = 0))) ∧ Below w.heap.size w w' := by
  have HN := hid (segNum_any s w hg hB hs)
  have hq : (((segV s.data.toList : Nat) : Int) == 0) = decide (segV s.data.toList = 0) := by rw [Bool.eq_iff_iff]; simp
  have HQ := hid hq
  clear hg hq
  generalize hn : segV s.data.toList = n at *
  clear hn
  by_cases h0 : n = 0
  · subst h0
    go_enter Tryz.func60, Tryz.ntmps60
    go_wp2_with (go_at_call 123; (with_reducible refine HN.out.mono ?_); rintro e w1 ⟨rfl, hb⟩)
    go_ret
    exact ⟨rfl, hb⟩
  · have h1 : ((n : Int) == 0) = false := beq_eq_false_iff_ne.2 (by omega)
    rw [show decide (n = 0) = false by simpa using h0]
    go_enter Tryz.func60, Tryz.ntmps60
    go_wp2_with (go_at_call 123; (with_reducible refine HN.out.mono ?_); rintro e w1 ⟨rfl, hb⟩)
    go_ret
    exact ⟨rfl, hb⟩
end Go.Proofs.YtbidglefddmjhaaGreatDoor

