import Derived.Test.YtjoeamlidmmioaaGreatDoorProg
import Derived.Shelf.Small.Wraps
import Derived.Shelf.Small.Utf8
import Derived.Shelf.Strings.Cut
import Derived.Shelf.Strings.Search3
import Derived.Shelf.Strings.IndexAnyAll
import Derived.Shelf.Strings.SlTrimAscii
import Derived.Shelf.Strconv.Clone
import Derived.Shelf.Pu.ToError
import Derived.Shelf.Pu.ToErrorRange
import Derived.Test.YtjoeamlidmmioaaGreatDoorMq1J
import Derived.Test.YtjoeamlidmmioaaGreatDoorMq0J
import Derived.Test.YtjoeamlidmmioaaGreatDoorXmBldJ
import Derived.Test.YtjoeamlidmmioaaGreatDoorRows
import Derived.WalkKit
import Derived.ProofKit
import Derived.OpenShut
import Derived.Carry
import Derived.Deep.Slices
import Derived.Deep.Fields
import Derived.ChangeSame
import Derived.Lib.SmallJoins
/-
  The library's calls on texts that layer 11 makes, laid (the tables of numbers in plain words).
-/
namespace Go.Proofs.YtjoeamlidmmioaaGreatDoor
open Go.Shelf
set_option maxRecDepth 100000
def Tryz.xCutP_ren : Go.Shelf.Ren := ⟨fun | 103 => 43 | 210 => 74 | 206 => 97 | n => n, fun | 9 => 9 | 4 => 4 | 24 => 75 | 3 => 3 | n => n, fun | n => n⟩
theorem Tryz.xCutP : Go.Proofs.Lays.n103 Tryz.prog Tryz.xCutP_ren := {
  mixed := by kernel_rfl
  f103 := Tryz.func43.trans (congrArg some (by kernel_rfl))
  f206 := Tryz.func97.trans (congrArg some (by kernel_rfl))
  f210 := Tryz.func74.trans (congrArg some (by kernel_rfl))
  t3 := Tryz.underlying3
  a3 := Tryz.isAgg3
  z3 := Tryz.sizeOf3
  v3 := Tryz.zeroValue3
  t4 := Tryz.underlying4
  a4 := Tryz.isAgg4
  z4 := Tryz.sizeOf4
  v4 := Tryz.zeroValue4
  t9 := Tryz.underlying9
  a9 := Tryz.isAgg9
  z9 := Tryz.sizeOf9
  v9 := Tryz.zeroValue9
  t24 := Tryz.underlying75
  a24 := Tryz.isAgg75
  z24 := Tryz.sizeOf75
  v24 := Tryz.zeroValue75 }
def Tryz.xCut_ren : Go.Shelf.Ren := ⟨fun | 145 => 44 | 220 => 75 | 219 => 98 | 217 => 92 | 225 => 64 | 224 => 63 | 267 => 108 | 266 => 105 | 314 => 112 | n => n, fun | 9 => 9 | 4 => 4 | 59 => 100 | 3 => 3 | 5 => 5 | 46 => 116 | 146 => 151 | 51 => 150 | n => n, fun | 1 => 1 | n => n⟩
theorem Tryz.xCut : Go.Proofs.Lays.n145 Tryz.prog Tryz.xCut_ren := {
  mixed := by kernel_rfl
  f145 := Tryz.func44.trans (congrArg some (by kernel_rfl))
  f217 := Tryz.func92.trans (congrArg some (by kernel_rfl))
  f219 := Tryz.func98.trans (congrArg some (by kernel_rfl))
  f220 := Tryz.func75.trans (congrArg some (by kernel_rfl))
  f224 := Tryz.func63.trans (congrArg some (by kernel_rfl))
  f225 := Tryz.func64.trans (congrArg some (by kernel_rfl))
  f266 := Tryz.func105.trans (congrArg some (by kernel_rfl))
  f267 := Tryz.func108.trans (congrArg some (by kernel_rfl))
  f314 := Tryz.func112.trans (congrArg some (by kernel_rfl))
  t3 := Tryz.underlying3
  a3 := Tryz.isAgg3
  z3 := Tryz.sizeOf3
  v3 := Tryz.zeroValue3
  t4 := Tryz.underlying4
  a4 := Tryz.isAgg4
  z4 := Tryz.sizeOf4
  v4 := Tryz.zeroValue4
  t5 := Tryz.underlying5
  a5 := Tryz.isAgg5
  z5 := Tryz.sizeOf5
  v5 := Tryz.zeroValue5
  t9 := Tryz.underlying9
  a9 := Tryz.isAgg9
  z9 := Tryz.sizeOf9
  v9 := Tryz.zeroValue9
  t46 := Tryz.underlying116
  a46 := Tryz.isAgg116
  z46 := Tryz.sizeOf116
  v46 := Tryz.zeroValue116
  t51 := Tryz.underlying150
  a51 := Tryz.isAgg150
  z51 := Tryz.sizeOf150
  v51 := Tryz.zeroValue150
  t59 := Tryz.underlying100
  a59 := Tryz.isAgg100
  z59 := Tryz.sizeOf100
  v59 := Tryz.zeroValue100
  t146 := Tryz.underlying151
  a146 := Tryz.isAgg151
  z146 := Tryz.sizeOf151
  v146 := Tryz.zeroValue151
  g1 := by kernel_rfl }
def Tryz.xCona_ren : Go.Shelf.Ren := ⟨fun | 150 => 45 | 153 => 52 | 152 => 37 | 226 => 84 | 227 => 69 | 228 => 85 | 137 => 61 | 119 => 62 | 224 => 63 | 225 => 64 | 217 => 92 | 266 => 105 | n => n, fun | 9 => 9 | 4 => 4 | 3 => 3 | 5 => 5 | 21 => 21 | 117 => 121 | 116 => 120 | 0 => 0 | 46 => 116 | 124 => 124 | n => n, fun | n => n⟩
theorem Tryz.xCona : Go.Proofs.Lays.n150 Tryz.prog Tryz.xCona_ren := {
  mixed := by kernel_rfl
  f119 := Tryz.func62.trans (congrArg some (by kernel_rfl))
  f137 := Tryz.func61.trans (congrArg some (by kernel_rfl))
  f150 := Tryz.func45.trans (congrArg some (by kernel_rfl))
  f152 := Tryz.func37.trans (congrArg some (by kernel_rfl))
  f153 := Tryz.func52.trans (congrArg some (by kernel_rfl))
  f217 := Tryz.func92.trans (congrArg some (by kernel_rfl))
  f224 := Tryz.func63.trans (congrArg some (by kernel_rfl))
  f225 := Tryz.func64.trans (congrArg some (by kernel_rfl))
  f226 := Tryz.func84.trans (congrArg some (by kernel_rfl))
  f227 := Tryz.func69.trans (congrArg some (by kernel_rfl))
  f228 := Tryz.func85.trans (congrArg some (by kernel_rfl))
  f266 := Tryz.func105.trans (congrArg some (by kernel_rfl))
  t0 := Tryz.underlying0
  a0 := Tryz.isAgg0
  z0 := Tryz.sizeOf0
  v0 := Tryz.zeroValue0
  t3 := Tryz.underlying3
  a3 := Tryz.isAgg3
  z3 := Tryz.sizeOf3
  v3 := Tryz.zeroValue3
  t4 := Tryz.underlying4
  a4 := Tryz.isAgg4
  z4 := Tryz.sizeOf4
  v4 := Tryz.zeroValue4
  t5 := Tryz.underlying5
  a5 := Tryz.isAgg5
  z5 := Tryz.sizeOf5
  v5 := Tryz.zeroValue5
  t9 := Tryz.underlying9
  a9 := Tryz.isAgg9
  z9 := Tryz.sizeOf9
  v9 := Tryz.zeroValue9
  t21 := Tryz.underlying21
  a21 := Tryz.isAgg21
  z21 := Tryz.sizeOf21
  v21 := Tryz.zeroValue21
  t46 := Tryz.underlying116
  a46 := Tryz.isAgg116
  z46 := Tryz.sizeOf116
  v46 := Tryz.zeroValue116
  t116 := Tryz.underlying120
  a116 := Tryz.isAgg120
  z116 := Tryz.sizeOf120
  t117 := Tryz.underlying121
  a117 := Tryz.isAgg121
  z117 := Tryz.sizeOf121
  v117 := Tryz.zeroValue121
  t124 := Tryz.underlying124
  a124 := Tryz.isAgg124
  z124 := Tryz.sizeOf124
  v124 := Tryz.zeroValue124 }
def Tryz.xInda_ren : Go.Shelf.Ren := ⟨fun | 153 => 52 | 152 => 37 | 226 => 84 | 227 => 69 | 228 => 85 | 137 => 61 | 119 => 62 | 224 => 63 | 225 => 64 | 217 => 92 | 266 => 105 | n => n, fun | 9 => 9 | 3 => 3 | 4 => 4 | 5 => 5 | 21 => 21 | 117 => 121 | 116 => 120 | 0 => 0 | 46 => 116 | 124 => 124 | n => n, fun | n => n⟩
theorem Tryz.xInda : Go.Proofs.Lays.n153 Tryz.prog Tryz.xInda_ren := {
  mixed := by kernel_rfl
  f119 := Tryz.func62.trans (congrArg some (by kernel_rfl))
  f137 := Tryz.func61.trans (congrArg some (by kernel_rfl))
  f152 := Tryz.func37.trans (congrArg some (by kernel_rfl))
  f153 := Tryz.func52.trans (congrArg some (by kernel_rfl))
  f217 := Tryz.func92.trans (congrArg some (by kernel_rfl))
  f224 := Tryz.func63.trans (congrArg some (by kernel_rfl))
  f225 := Tryz.func64.trans (congrArg some (by kernel_rfl))
  f226 := Tryz.func84.trans (congrArg some (by kernel_rfl))
  f227 := Tryz.func69.trans (congrArg some (by kernel_rfl))
  f228 := Tryz.func85.trans (congrArg some (by kernel_rfl))
  f266 := Tryz.func105.trans (congrArg some (by kernel_rfl))
  t0 := Tryz.underlying0
  a0 := Tryz.isAgg0
  z0 := Tryz.sizeOf0
  v0 := Tryz.zeroValue0
  t3 := Tryz.underlying3
  a3 := Tryz.isAgg3
  z3 := Tryz.sizeOf3
  v3 := Tryz.zeroValue3
  t4 := Tryz.underlying4
  a4 := Tryz.isAgg4
  z4 := Tryz.sizeOf4
  v4 := Tryz.zeroValue4
  t5 := Tryz.underlying5
  a5 := Tryz.isAgg5
  z5 := Tryz.sizeOf5
  v5 := Tryz.zeroValue5
  t9 := Tryz.underlying9
  a9 := Tryz.isAgg9
  z9 := Tryz.sizeOf9
  v9 := Tryz.zeroValue9
  t21 := Tryz.underlying21
  a21 := Tryz.isAgg21
  z21 := Tryz.sizeOf21
  v21 := Tryz.zeroValue21
  t46 := Tryz.underlying116
  a46 := Tryz.isAgg116
  z46 := Tryz.sizeOf116
  v46 := Tryz.zeroValue116
  t116 := Tryz.underlying120
  a116 := Tryz.isAgg120
  z116 := Tryz.sizeOf120
  t117 := Tryz.underlying121
  a117 := Tryz.isAgg121
  z117 := Tryz.sizeOf121
  v117 := Tryz.zeroValue121
  t124 := Tryz.underlying124
  a124 := Tryz.isAgg124
  z124 := Tryz.sizeOf124
  v124 := Tryz.zeroValue124 }
def Tryz.xTrimL_ren : Go.Shelf.Ren := ⟨fun | 161 => 79 | 231 => 67 | 227 => 69 | 233 => 70 | 235 => 72 | 228 => 85 | 197 => 95 | 151 => 18 | 260 => 106 | 152 => 37 | 137 => 61 | 119 => 62 | 224 => 63 | 225 => 64 | 217 => 92 | 266 => 105 | n => n, fun | 9 => 9 | 4 => 4 | 3 => 3 | 5 => 5 | 117 => 121 | 116 => 120 | 0 => 0 | 124 => 124 | 105 => 138 | 21 => 21 | 119 => 146 | 46 => 116 | 139 => 149 | 138 => 148 | n => n, fun | 3 => 2 | 4 => 3 | n => n⟩
theorem Tryz.xTrimL : Go.Proofs.Lays.n161 Tryz.prog Tryz.xTrimL_ren := {
  mixed := by kernel_rfl
  f119 := Tryz.func62.trans (congrArg some (by kernel_rfl))
  f137 := Tryz.func61.trans (congrArg some (by kernel_rfl))
  f151 := Tryz.func18.trans (congrArg some (by kernel_rfl))
  f152 := Tryz.func37.trans (congrArg some (by kernel_rfl))
  f161 := Tryz.func79.trans (congrArg some (by kernel_rfl))
  f197 := Tryz.func95.trans (congrArg some (by kernel_rfl))
  f217 := Tryz.func92.trans (congrArg some (by kernel_rfl))
  f224 := Tryz.func63.trans (congrArg some (by kernel_rfl))
  f225 := Tryz.func64.trans (congrArg some (by kernel_rfl))
  f227 := Tryz.func69.trans (congrArg some (by kernel_rfl))
  f228 := Tryz.func85.trans (congrArg some (by kernel_rfl))
  f231 := Tryz.func67.trans (congrArg some (by kernel_rfl))
  f233 := Tryz.func70.trans (congrArg some (by kernel_rfl))
  f235 := Tryz.func72.trans (congrArg some (by kernel_rfl))
  f260 := Tryz.func106.trans (congrArg some (by kernel_rfl))
  f266 := Tryz.func105.trans (congrArg some (by kernel_rfl))
  t0 := Tryz.underlying0
  a0 := Tryz.isAgg0
  z0 := Tryz.sizeOf0
  v0 := Tryz.zeroValue0
  t3 := Tryz.underlying3
  a3 := Tryz.isAgg3
  z3 := Tryz.sizeOf3
  v3 := Tryz.zeroValue3
  t4 := Tryz.underlying4
  a4 := Tryz.isAgg4
  z4 := Tryz.sizeOf4
  v4 := Tryz.zeroValue4
  t5 := Tryz.underlying5
  a5 := Tryz.isAgg5
  z5 := Tryz.sizeOf5
  v5 := Tryz.zeroValue5
  t9 := Tryz.underlying9
  a9 := Tryz.isAgg9
  z9 := Tryz.sizeOf9
  v9 := Tryz.zeroValue9
  t21 := Tryz.underlying21
  a21 := Tryz.isAgg21
  z21 := Tryz.sizeOf21
  v21 := Tryz.zeroValue21
  t46 := Tryz.underlying116
  a46 := Tryz.isAgg116
  z46 := Tryz.sizeOf116
  v46 := Tryz.zeroValue116
  t105 := Tryz.underlying138
  a105 := Tryz.isAgg138
  z105 := Tryz.sizeOf138
  v105 := Tryz.zeroValue138
  t116 := Tryz.underlying120
  a116 := Tryz.isAgg120
  z116 := Tryz.sizeOf120
  t117 := Tryz.underlying121
  a117 := Tryz.isAgg121
  z117 := Tryz.sizeOf121
  v117 := Tryz.zeroValue121
  t119 := Tryz.underlying146
  a119 := Tryz.isAgg146
  z119 := Tryz.sizeOf146
  t124 := Tryz.underlying124
  a124 := Tryz.isAgg124
  z124 := Tryz.sizeOf124
  v124 := Tryz.zeroValue124
  t138 := Tryz.underlying148
  a138 := Tryz.isAgg148
  z138 := Tryz.sizeOf148
  v138 := Tryz.zeroValue148
  t139 := Tryz.underlying149
  a139 := Tryz.isAgg149
  z139 := Tryz.sizeOf149
  v139 := Tryz.zeroValue149
  g3 := by kernel_rfl
  g4 := by kernel_rfl }
def Tryz.xConta_ren : Go.Shelf.Ren := ⟨fun | 144 => 100 | 143 => 109 | 219 => 98 | 217 => 92 | 225 => 64 | 224 => 63 | 267 => 108 | 266 => 105 | 314 => 112 | n => n, fun | 9 => 9 | 4 => 4 | 3 => 3 | 5 => 5 | 46 => 116 | 146 => 151 | 51 => 150 | n => n, fun | 1 => 1 | n => n⟩
theorem Tryz.xConta : Go.Proofs.Lays.n144 Tryz.prog Tryz.xConta_ren := {
  mixed := by kernel_rfl
  f143 := Tryz.func109.trans (congrArg some (by kernel_rfl))
  f144 := Tryz.func100.trans (congrArg some (by kernel_rfl))
  f217 := Tryz.func92.trans (congrArg some (by kernel_rfl))
  f219 := Tryz.func98.trans (congrArg some (by kernel_rfl))
  f224 := Tryz.func63.trans (congrArg some (by kernel_rfl))
  f225 := Tryz.func64.trans (congrArg some (by kernel_rfl))
  f266 := Tryz.func105.trans (congrArg some (by kernel_rfl))
  f267 := Tryz.func108.trans (congrArg some (by kernel_rfl))
  f314 := Tryz.func112.trans (congrArg some (by kernel_rfl))
  t3 := Tryz.underlying3
  a3 := Tryz.isAgg3
  z3 := Tryz.sizeOf3
  v3 := Tryz.zeroValue3
  t4 := Tryz.underlying4
  a4 := Tryz.isAgg4
  z4 := Tryz.sizeOf4
  v4 := Tryz.zeroValue4
  t5 := Tryz.underlying5
  a5 := Tryz.isAgg5
  z5 := Tryz.sizeOf5
  v5 := Tryz.zeroValue5
  t9 := Tryz.underlying9
  a9 := Tryz.isAgg9
  z9 := Tryz.sizeOf9
  v9 := Tryz.zeroValue9
  t46 := Tryz.underlying116
  a46 := Tryz.isAgg116
  z46 := Tryz.sizeOf116
  v46 := Tryz.zeroValue116
  t51 := Tryz.underlying150
  a51 := Tryz.isAgg150
  z51 := Tryz.sizeOf150
  v51 := Tryz.zeroValue150
  t146 := Tryz.underlying151
  a146 := Tryz.isAgg151
  z146 := Tryz.sizeOf151
  v146 := Tryz.zeroValue151
  g1 := by kernel_rfl }
def Tryz.xValid_ren : Go.Shelf.Ren := ⟨fun | 119 => 62 | n => n, fun | 21 => 21 | 4 => 4 | n => n, fun | n => n⟩
theorem Tryz.xValid : Go.Proofs.Lays.n119 Tryz.prog Tryz.xValid_ren := {
  mixed := by kernel_rfl
  f119 := Tryz.func62.trans (congrArg some (by kernel_rfl))
  t4 := Tryz.underlying4
  a4 := Tryz.isAgg4
  z4 := Tryz.sizeOf4
  v4 := Tryz.zeroValue4
  t21 := Tryz.underlying21
  a21 := Tryz.isAgg21
  z21 := Tryz.sizeOf21
  v21 := Tryz.zeroValue21 }
end Go.Proofs.YtjoeamlidmmioaaGreatDoor

/-
  The library's calls that layer 11 makes, laid: strings.Clone's, and how strconv makes an error.
-/
namespace Go.Proofs.YtjoeamlidmmioaaGreatDoor
open Go.Shelf
set_option maxRecDepth 100000
def Tryz.xClone_ren : Go.Shelf.Ren := ⟨fun | 316 => 99 | n => n, fun | 9 => 9 | 3 => 3 | 4 => 4 | 37 => 70 | 0 => 0 | 127 => 117 | 5 => 5 | n => n, fun | n => n⟩
theorem Tryz.xClone : Go.Proofs.LaysM.n316 Tryz.prog Tryz.xClone_ren := {
  mixed := by kernel_rfl
  f316 := Tryz.func99.trans (congrArg some (by kernel_rfl))
  t0 := Tryz.underlying0
  a0 := Tryz.isAgg0
  z0 := Tryz.sizeOf0
  v0 := Tryz.zeroValue0
  t3 := Tryz.underlying3
  a3 := Tryz.isAgg3
  z3 := Tryz.sizeOf3
  v3 := Tryz.zeroValue3
  t4 := Tryz.underlying4
  a4 := Tryz.isAgg4
  z4 := Tryz.sizeOf4
  v4 := Tryz.zeroValue4
  t9 := Tryz.underlying9
  a9 := Tryz.isAgg9
  z9 := Tryz.sizeOf9
  v9 := Tryz.zeroValue9
  t37 := Tryz.underlying70
  a37 := Tryz.isAgg70
  z37 := Tryz.sizeOf70
  v37 := Tryz.zeroValue70
  t127 := Tryz.underlying117
  a127 := Tryz.isAgg117
  z127 := Tryz.sizeOf117
  v127 := Tryz.zeroValue117
  t5 := Tryz.underlying5
  a5 := Tryz.isAgg5
  z5 := Tryz.sizeOf5
  v5 := Tryz.zeroValue5
  i0 := by kernel_rfl
  i3 := by kernel_rfl
  i4 := by kernel_rfl
  i5 := by kernel_rfl
  i9 := by kernel_rfl
  i37 := by kernel_rfl
  i127 := by kernel_rfl }
def Tryz.xToErr_ren : Go.Shelf.Ren := ⟨fun | 17 => 111 | 21 => 115 | 22 => 116 | 23 => 117 | 24 => 118 | 25 => 99 | 27 => 120 | 26 => 119 | 28 => 121 | 29 => 122 | 30 => 123 | 31 => 124 | 32 => 125 | 33 => 126 | 35 => 128 | 34 => 127 | 36 => 129 | 37 => 130 | 38 => 131 | 39 => 132 | 40 => 133 | n => n, fun | 9 => 9 | 3 => 3 | 24 => 89 | 34 => 153 | 4 => 4 | 39 => 155 | 44 => 159 | 37 => 70 | 0 => 0 | 47 => 117 | 50 => 164 | 48 => 162 | 2 => 2 | 52 => 166 | 22 => 141 | 5 => 5 | 55 => 169 | 59 => 172 | 60 => 150 | 20 => 20 | 61 => 173 | 36 => 116 | 65 => 176 | 66 => 177 | 67 => 92 | n => n, fun | 0 => 4 | 1 => 5 | 2 => 6 | 3 => 7 | 4 => 8 | n => n⟩
theorem Tryz.xToErr : Go.Proofs.LaysPu.n17 Tryz.prog Tryz.xToErr_ren := {
  mixed := by kernel_rfl
  f17 := Tryz.func111.trans (congrArg some (by kernel_rfl))
  f21 := Tryz.func115.trans (congrArg some (by kernel_rfl))
  f22 := Tryz.func116.trans (congrArg some (by kernel_rfl))
  f23 := Tryz.func117.trans (congrArg some (by kernel_rfl))
  f24 := Tryz.func118.trans (congrArg some (by kernel_rfl))
  f25 := Tryz.func99.trans (congrArg some (by kernel_rfl))
  f26 := Tryz.func119.trans (congrArg some (by kernel_rfl))
  f27 := Tryz.func120.trans (congrArg some (by kernel_rfl))
  f28 := Tryz.func121.trans (congrArg some (by kernel_rfl))
  f29 := Tryz.func122.trans (congrArg some (by kernel_rfl))
  f30 := Tryz.func123.trans (congrArg some (by kernel_rfl))
  f31 := Tryz.func124.trans (congrArg some (by kernel_rfl))
  f32 := Tryz.func125.trans (congrArg some (by kernel_rfl))
  f33 := Tryz.func126.trans (congrArg some (by kernel_rfl))
  f34 := Tryz.func127.trans (congrArg some (by kernel_rfl))
  f35 := Tryz.func128.trans (congrArg some (by kernel_rfl))
  f36 := Tryz.func129.trans (congrArg some (by kernel_rfl))
  f37 := Tryz.func130.trans (congrArg some (by kernel_rfl))
  f38 := Tryz.func131.trans (congrArg some (by kernel_rfl))
  f39 := Tryz.func132.trans (congrArg some (by kernel_rfl))
  f40 := Tryz.func133.trans (congrArg some (by kernel_rfl))
  t0 := Tryz.underlying0
  a0 := Tryz.isAgg0
  z0 := Tryz.sizeOf0
  v0 := Tryz.zeroValue0
  i0 := by kernel_rfl
  t2 := Tryz.underlying2
  a2 := Tryz.isAgg2
  z2 := Tryz.sizeOf2
  v2 := Tryz.zeroValue2
  i2 := by kernel_rfl
  t3 := Tryz.underlying3
  a3 := Tryz.isAgg3
  z3 := Tryz.sizeOf3
  v3 := Tryz.zeroValue3
  i3 := by kernel_rfl
  t4 := Tryz.underlying4
  a4 := Tryz.isAgg4
  z4 := Tryz.sizeOf4
  v4 := Tryz.zeroValue4
  i4 := by kernel_rfl
  t5 := Tryz.underlying5
  a5 := Tryz.isAgg5
  z5 := Tryz.sizeOf5
  v5 := Tryz.zeroValue5
  i5 := by kernel_rfl
  t9 := Tryz.underlying9
  a9 := Tryz.isAgg9
  z9 := Tryz.sizeOf9
  v9 := Tryz.zeroValue9
  i9 := by kernel_rfl
  t20 := Tryz.underlying20
  a20 := Tryz.isAgg20
  z20 := Tryz.sizeOf20
  v20 := Tryz.zeroValue20
  i20 := by kernel_rfl
  t22 := Tryz.underlying141
  a22 := Tryz.isAgg141
  z22 := Tryz.sizeOf141
  v22 := Tryz.zeroValue141
  i22 := by kernel_rfl
  t24 := Tryz.underlying89
  a24 := Tryz.isAgg89
  z24 := Tryz.sizeOf89
  v24 := Tryz.zeroValue89
  i24 := by kernel_rfl
  t34 := Tryz.underlying153
  a34 := Tryz.isAgg153
  z34 := Tryz.sizeOf153
  v34 := Tryz.zeroValue153
  i34 := by kernel_rfl
  c34 := by kernel_rfl
  t36 := Tryz.underlying116
  a36 := Tryz.isAgg116
  z36 := Tryz.sizeOf116
  v36 := Tryz.zeroValue116
  i36 := by kernel_rfl
  t37 := Tryz.underlying70
  a37 := Tryz.isAgg70
  z37 := Tryz.sizeOf70
  v37 := Tryz.zeroValue70
  i37 := by kernel_rfl
  t39 := Tryz.underlying155
  a39 := Tryz.isAgg155
  z39 := Tryz.sizeOf155
  v39 := Tryz.zeroValue155
  i39 := by kernel_rfl
  t44 := Tryz.underlying159
  a44 := Tryz.isAgg159
  z44 := Tryz.sizeOf159
  v44 := Tryz.zeroValue159
  i44 := by kernel_rfl
  t47 := Tryz.underlying117
  a47 := Tryz.isAgg117
  z47 := Tryz.sizeOf117
  v47 := Tryz.zeroValue117
  i47 := by kernel_rfl
  t48 := Tryz.underlying162
  a48 := Tryz.isAgg162
  z48 := Tryz.sizeOf162
  v48 := Tryz.zeroValue162
  i48 := by kernel_rfl
  t50 := Tryz.underlying164
  a50 := Tryz.isAgg164
  z50 := Tryz.sizeOf164
  v50 := Tryz.zeroValue164
  i50 := by kernel_rfl
  t52 := Tryz.underlying166
  a52 := Tryz.isAgg166
  z52 := Tryz.sizeOf166
  v52 := Tryz.zeroValue166
  i52 := by kernel_rfl
  t55 := Tryz.underlying169
  a55 := Tryz.isAgg169
  z55 := Tryz.sizeOf169
  v55 := Tryz.zeroValue169
  i55 := by kernel_rfl
  t59 := Tryz.underlying172
  a59 := Tryz.isAgg172
  z59 := Tryz.sizeOf172
  v59 := Tryz.zeroValue172
  i59 := by kernel_rfl
  t60 := Tryz.underlying150
  a60 := Tryz.isAgg150
  z60 := Tryz.sizeOf150
  v60 := Tryz.zeroValue150
  i60 := by kernel_rfl
  t61 := Tryz.underlying173
  a61 := Tryz.isAgg173
  z61 := Tryz.sizeOf173
  t65 := Tryz.underlying176
  a65 := Tryz.isAgg176
  z65 := Tryz.sizeOf176
  v65 := Tryz.zeroValue176
  i65 := by kernel_rfl
  t66 := Tryz.underlying177
  a66 := Tryz.isAgg177
  z66 := Tryz.sizeOf177
  v66 := Tryz.zeroValue177
  i66 := by kernel_rfl
  t67 := Tryz.underlying92
  a67 := Tryz.isAgg92
  z67 := Tryz.sizeOf92
  v67 := Tryz.zeroValue92
  i67 := by kernel_rfl
  g0 := by kernel_rfl
  m0 := by kernel_rfl
  g1 := by kernel_rfl
  m1 := by kernel_rfl
  g2 := by kernel_rfl
  m2 := by kernel_rfl
  g3 := by kernel_rfl
  m3 := by kernel_rfl
  g4 := by kernel_rfl
  m4 := by kernel_rfl }
end Go.Proofs.YtjoeamlidmmioaaGreatDoor

/-
  LAYER 11 (xml): what the package's variables hold; the library's calls on texts, in the words of the layer's mathematics.
-/
namespace Go.Proofs.YtjoeamlidmmioaaGreatDoor
open Go.RowKit
set_option linter.unusedVariables false
set_option maxRecDepth 100000

def namedCells : List Value := [.string ⟨#[38]⟩, .string ⟨#[97, 109, 112]⟩, .string ⟨#[60]⟩, .string ⟨#[108, 116]⟩, .string ⟨#[62]⟩, .string ⟨#[103, 116]⟩, .string ⟨#[34]⟩, .string ⟨#[113, 117, 111, 116]⟩, .string ⟨#[39]⟩, .string ⟨#[97, 112, 111, 115]⟩]
structure Gb (B : Nat) (w : World) : Prop where
  named : ∀ k v, namedCells[k]? = some v → w.cell? ⟨0, k, none⟩ = some v
  max : ∃ m, w.cell? ⟨1, 0, none⟩ = some (.int .i64 m)
  syn : ∃ ev, w.cell? ⟨4, 0, none⟩ = some ev ∧ (ev = .nilIface ∨ ∃ te pe, ev = .iface te pe)
  rng : ∃ ev, w.cell? ⟨5, 0, none⟩ = some ev ∧ (ev = .nilIface ∨ ∃ te pe, ev = .iface te pe)
  b1 : 0 < B
  b2 : 1 < B
  b3 : 4 < B
  b4 : 5 < B
theorem Gb.below {B : Nat} {w w' : World} (h : Gb B w) (hb : Below B w w') : Gb B w' := by
  obtain ⟨h1, ⟨m, h2⟩, ⟨e3, h3, h3'⟩, ⟨e4, h4, h4'⟩, b1, b2, b3, b4⟩ := h
  exact ⟨fun k v hk => (hb.cell (p := ⟨0, k, none⟩) b1).trans (h1 k v hk), ⟨m, (hb.cell (p := ⟨1, 0, none⟩) b2).trans h2⟩,
    ⟨e3, (hb.cell (p := ⟨4, 0, none⟩) b3).trans h3, h3'⟩, ⟨e4, (hb.cell (p := ⟨5, 0, none⟩) b4).trans h4, h4'⟩, b1, b2, b3, b4⟩
theorem Gb.more {B B' : Nat} {w : World} (h : Gb B w) (hB : B ≤ B') : Gb B' w := by
  obtain ⟨h1, h2, h3, h4, b1, b2, b3, b4⟩ := h
  exact ⟨h1, h2, h3, h4, by omega, by omega, by omega, by omega⟩
theorem Gb.names {B : Nat} {w : World} (h : Gb B w) : w.cell? ⟨0, 0, none⟩ = some (.string ⟨#[38]⟩) ∧ w.cell? ⟨0, 1, none⟩ = some (.string ⟨#[97, 109, 112]⟩) ∧ w.cell? ⟨0, 2, none⟩ = some (.string ⟨#[60]⟩) ∧ w.cell? ⟨0, 3, none⟩ = some (.string ⟨#[108, 116]⟩) ∧ w.cell? ⟨0, 4, none⟩ = some (.string ⟨#[62]⟩) ∧
    w.cell? ⟨0, 5, none⟩ = some (.string ⟨#[103, 116]⟩) ∧ w.cell? ⟨0, 6, none⟩ = some (.string ⟨#[34]⟩) ∧ w.cell? ⟨0, 7, none⟩ = some (.string ⟨#[113, 117, 111, 116]⟩) ∧ w.cell? ⟨0, 8, none⟩ = some (.string ⟨#[39]⟩) ∧ w.cell? ⟨0, 9, none⟩ = some (.string ⟨#[97, 112, 111, 115]⟩) :=
  ⟨h.named 0 _ rfl, h.named 1 _ rfl, h.named 2 _ rfl, h.named 3 _ rfl, h.named 4 _ rfl, h.named 5 _ rfl, h.named 6 _ rfl, h.named 7 _ rfl, h.named 8 _ rfl, h.named 9 _ rfl⟩
theorem max_of {W : World} (h : W.ShapedOpen Tryz.prog) : ∃ m, W.cell? ⟨1, 0, none⟩ = some (.int .i64 m) :=
  Go.Proofs.cell_of_shapedOpen_int (zero := #[.int .i64 0]) (t := 3) h (of_decide_eq_true (by kernel_rfl)) (by kernel_rfl) rfl (by kernel_rfl) (by kernel_rfl) Tryz.underlying3

/-! ### the library's calls -/
theorem mk_str (l : List UInt8) : (⟨l.toArray⟩ : ByteArray) = mk l := rfl
theorem past_eq (p s : List UInt8) : (Lib.trimPrefix s p, Lib.hasPrefix s p) = ((past p s).getD s, (past p s).isSome) := by
  unfold Lib.trimPrefix Lib.hasPrefix past
  by_cases h : p.isPrefixOf s = true
  · simp [h]
  · simp [h]
theorem cutPrefix_any (s p : ByteArray) (w : World) :
    Calls Tryz.prog 43 #[.string s, .string p] w fun e w' => e = .returned (.tuple #[.string (mk ((past p.data.toList s.data.toList).getD s.data.toList)), .bool (past p.data.toList s.data.toList).isSome]) ∧ w = w' := by
  have h := past_eq p.data.toList s.data.toList
  simp only [Prod.mk.injEq] at h
  rw [← h.1, ← h.2]
  exact (Any.strings_CutPrefix Tryz.xCutP s p w).mono fun e w' ⟨h1, h2⟩ => ⟨h1, h2.symm⟩
theorem index_upTo {e : List UInt8} (he : e ≠ []) : ∀ l : List UInt8, (upTo e l = none ∧ Lib.index l e = -1) ∨ ∃ a b, upTo e l = some (a, b) ∧ Lib.index l e = (a.length : Int)
  | [] => by
    left; unfold upTo Lib.index
    simp [he]
  | c :: r => by
    unfold upTo Lib.index
    by_cases hp : e.isPrefixOf (c :: r) = true
    · right; exact ⟨[], _, by rw [if_pos hp], by rw [if_pos hp]; rfl⟩
    · rw [if_neg hp, if_neg hp]
      rcases index_upTo he r with ⟨h1, h2⟩ | ⟨a, b, h1, h2⟩
      · left; rw [h1, h2]; exact ⟨rfl, rfl⟩
      · right
        refine ⟨c :: a, b, by rw [h1]; rfl, ?_⟩
        rw [h2]
        have : ((a.length : Int) == -1) = false := by simp
        rw [this]
        simp
def cutV (e l : List UInt8) : Value := match upTo e l with
  | none => .tuple #[.string (mk l), .string (mk []), .bool false]
  | some x => .tuple #[.string (mk x.1), .string (mk x.2), .bool true]
theorem cut_eq {e : List UInt8} (he : e ≠ []) (l : List UInt8) : Value.tuple #[.string ⟨(Lib.cut l e).1.toArray⟩, .string ⟨(Lib.cut l e).2.1.toArray⟩, .bool (Lib.cut l e).2.2] = cutV e l := by
  unfold cutV Lib.cut
  rcases index_upTo he l with ⟨h1, h2⟩ | ⟨a, b, h1, h2⟩
  · rw [h1, h2]; rfl
  · rw [h1, h2, if_pos (by omega)]
    obtain ⟨h3, h4⟩ := upTo_lt h1
    simp only [Int.toNat_natCast]
    have e1 : l.take a.length = a := by rw [h4, List.append_assoc, List.take_left]
    have e2 : l.drop (a.length + e.length) = b := by rw [h4, ← List.length_append, List.drop_left]
    rw [e1, e2]; rfl
theorem cut_any {B : Nat} {w : World} (hG : Gb B w) (s e : ByteArray) (he : e.data.toList ≠ []) (hs : s.size ≤ 1000000000) :
    Calls Tryz.prog 44 #[.string s, .string e] w fun x w' => x = .returned (cutV e.data.toList s.data.toList) ∧ Below w.heap.size w w' := by
  obtain ⟨m, hm⟩ := hG.max
  refine (Any.strings_Cut Tryz.xCut s e m w (by omega) hm).mono fun x w' ⟨h1, n, h2⟩ => ⟨?_, ?_⟩
  · rw [h1, cut_eq he]
  · rw [h2]; exact below_drew (Below.refl _ _) n
theorem index_mem (c : UInt8) : ∀ l : List UInt8, 0 ≤ Lib.index l [c] ↔ c ∈ l
  | [] => by simp [Lib.index]
  | d :: r => by
    unfold Lib.index
    by_cases h : c = d
    · subst h; simp
    · have ih := index_mem c r
      have hp : [c].isPrefixOf (d :: r) = false := by simp [List.isPrefixOf, h]
      rw [hp]
      simp only [Bool.false_eq_true, if_false, List.mem_cons, h, false_or]
      rw [← ih]
      have hge : -1 ≤ Lib.index r [c] := by
        rcases index_upTo (e := [c]) (by simp) r with ⟨_, h2⟩ | ⟨a, b, _, h2⟩ <;> rw [h2] <;> omega
      split
      · rename_i h1
        have : Lib.index r [c] = -1 := by simpa using h1
        omega
      · rename_i h1
        have : Lib.index r [c] ≠ -1 := by simpa using h1
        omega
theorem contains_any {B : Nat} {w : World} (hG : Gb B w) (s : ByteArray) (hs : s.size ≤ 1000000000) :
    Calls Tryz.prog 100 #[.string s, .string ⟨#[60]⟩] w fun x w' => x = .returned (.bool (decide ((60 : UInt8) ∈ s.data.toList))) ∧ Below w.heap.size w w' := by
  obtain ⟨m, hm⟩ := hG.max
  refine (Any.strings_Contains Tryz.xConta s ⟨#[60]⟩ m w (by omega) hm).mono fun x w' ⟨h1, h2⟩ => ⟨?_, ?_⟩
  · rw [h1]
    have : Lib.contains s.data.toList (⟨#[60]⟩ : ByteArray).data.toList = decide ((60 : UInt8) ∈ s.data.toList) := by
      unfold Lib.contains
      rw [show (⟨#[60]⟩ : ByteArray).data.toList = [60] from rfl]
      exact decide_eq_decide.2 (index_mem 60 _)
    rw [this]
  · rw [h2]; exact Below.refl _ _
theorem trim_eq (l : List UInt8) : Lib.trimLeftS l [32, 9, 10, 13] = l.dropWhile spcX := by
  unfold Lib.trimLeftS
  congr 1
  funext c
  simp [spcX, Bool.or_assoc]
  rfl
theorem trimLeft_any (s : ByteArray) (w : World) :
    Calls Tryz.prog 79 #[.string s, .string ⟨#[32, 9, 10, 13]⟩] w fun x w' => x = .returned (.string (mk (s.data.toList.dropWhile spcX))) ∧ Below w.heap.size w w' :=
  (Any.strings_TrimLeft_laid Tryz.xTrimL (by kernel_rfl) s ⟨#[32, 9, 10, 13]⟩ w (by decide) (ascii_of_all (by decide))).mono fun x w' ⟨h1, h2⟩ => ⟨by rw [h1]; show _ = Ending.returned (.string (mk _)); rw [← trim_eq]; rfl, h2⟩
theorem clone0_any (s : ByteArray) (w : World) (hs : s.size ≤ 1000000000) : Calls Tryz.prog 99 #[.string s] w fun x w' => x = .returned (.string s) ∧ Below w.heap.size w w' :=
  Any.stringslite_Clone Tryz.xClone s w (by omega)
set_option maxHeartbeats 400000 in
theorem clone_any (s : ByteArray) (w : World) (hs : s.size ≤ 1000000000) : Calls Tryz.prog 78 #[.string s] w fun x w' => x = .returned (.string s) ∧ Below w.heap.size w w' := by
  have H := hid (clone0_any s w hs)
  go_enter Tryz.func78, Tryz.ntmps78
  go_wp2_with (go_at_call 99; (with_reducible refine H.out.mono ?_); rintro e w' ⟨rfl, hb⟩)
  go_ret
  exact ⟨rfl, hb⟩
end Go.Proofs.YtjoeamlidmmioaaGreatDoor

/-
  GENERAL: a thing that lies in blocks of its own, any way: what a call of it turns; one that was made since a world w0.
-/
namespace Go.Proofs.YtjoeamlidmmioaaGreatDoor
open Go.RowKit
set_option linter.unusedVariables false
set_option maxRecDepth 100000

/-- How a thing may lie in memory: in the blocks F; its pointer names the block r. -/
structure Rep (σ : Type) where
  Is : World → (Nat → Prop) → Nat → σ → Prop
  same : ∀ {w w' : World} {F : Nat → Prop} {r : Nat} {s : σ}, Is w F r s → w.heap.size ≤ w'.heap.size → (∀ b, F b → w'.heap[b]? = w.heap[b]?) → Is w' F r s
  lt : ∀ {w : World} {F : Nat → Prop} {r : Nat} {s : σ}, Is w F r s → ∀ b, F b → b < w.heap.size
section
variable {σ : Type} {R : Rep σ} {w0 w w' w2 : World} {F F' : Nat → Prop} {r : Nat} {s s' : σ}
/-- A call has turned it: only its own blocks, and new ones. -/
def Rep.Turn (R : Rep σ) (F : Nat → Prop) (w w' : World) (r : Nat) (s : σ) : Prop := ∃ F', R.Is w' F' r s ∧ Chg F w w' ∧ ∀ b, F' b → F b ∨ w.heap.size ≤ b
/-- One at hand: made since w0. -/
structure Rep.Has (R : Rep σ) (w0 w : World) (F : Nat → Prop) (r : Nat) (s : σ) : Prop where
  is : R.Is w F r s
  new : ∀ b, F b → w0.heap.size ≤ b
  below : Below w0.heap.size w0 w
theorem Rep.later (h : R.Is w F r s) (hb : Below w.heap.size w w') : R.Is w' F r s := R.same h hb.size (fun b e => hb.block b (R.lt h b e))
theorem Rep.Turn.stay (h : R.Is w F r s) (hb : Below w.heap.size w w') : R.Turn F w w' r s := ⟨F, R.later h hb, Chg.of_below hb, fun b e => .inl e⟩
theorem Rep.Turn.later (h : R.Turn F w w' r s) (hb : Below w'.heap.size w' w2) : R.Turn F w w2 r s := by
  obtain ⟨F', hi, hc, hF⟩ := h
  exact ⟨F', R.later hi hb, Chg.trans hc (Chg.of_below (S := F) hb) (fun b e => .inl e), hF⟩
theorem Rep.Has.later (h : R.Has w0 w F r s) (hb : Below w.heap.size w w') : R.Has w0 w' F r s := ⟨R.later h.is hb, h.new, h.below.trans (hb.mono h.below.size)⟩
theorem Rep.Has.turn (h : R.Has w0 w F r s) (ht : R.Turn F w w' r s') : ∃ F', R.Has w0 w' F' r s' ∧ ∀ b, F' b → F b ∨ w.heap.size ≤ b := by
  obtain ⟨F', hi, hc, hF⟩ := ht
  refine ⟨F', ⟨hi, fun b e => ?_, h.below.trans (hc.below h.below.size (fun b e => h.new b e))⟩, hF⟩
  rcases hF b e with k | k
  · exact h.new b k
  · have := h.below.size; omega
/-- Another thing's blocks have turned. -/
theorem Rep.Has.beside (h : R.Has w0 w F r s) {G : Nat → Prop} (hc : Chg G w w') (hG : ∀ b, G b → w0.heap.size ≤ b) (hd : ∀ b, F b → ¬ G b) : R.Has w0 w' F r s :=
  ⟨R.same h.is hc.size (fun b e => hc.block b (R.lt h.is b e) (hd b e)), h.new, h.below.trans (hc.below h.below.size hG)⟩
theorem Rep.Has.made (h0 : Below w0.heap.size w0 w) (hi : R.Is w' F r s) (hn : ∀ b, F b → w.heap.size ≤ b) (hb : Below w.heap.size w w') : R.Has w0 w' F r s :=
  ⟨hi, fun b e => by have := hn b e; have := h0.size; omega, h0.trans (hb.mono h0.size)⟩
end
end Go.Proofs.YtjoeamlidmmioaaGreatDoor

/-
  LAYER 11 (xml): rows of attributes and of tokens, as they lie in memory; the reader, as a thing that lies in blocks of its own.
-/
namespace Go.Proofs.YtjoeamlidmmioaaGreatDoor
open Go.RowKit
set_option linter.unusedVariables false
set_option maxRecDepth 100000

def atTy : RowTy AtX := ⟨27, 51, 2, 32, fun a => [.string (mk a.n), .string (mk a.v)], .agg #[.string ⟨#[]⟩, .string ⟨#[]⟩]⟩
theorem atTy_ok : atTy.Ok := ⟨fun _ => rfl, fun x u hu => by simp [atTy] at hu; rcases hu with rfl | rfl <;> rfl, by decide, Tryz.underlying27, by kernel_rfl, by kernel_rfl, rfl, by decide⟩
/-- A token's four cells: its attributes are a slice. -/
structure TkV where
  k : Int
  n : List UInt8
  a : Option Addr
  m : Nat
  c : Nat
  t : List UInt8
def tkTy : RowTy TkV := ⟨22, 48, 4, 64, fun x => [.int .i64 x.k, .string (mk x.n), .slice x.a x.m x.c, .string (mk x.t)], .agg #[.int .i64 0, .string ⟨#[]⟩, .slice none 0 0, .string ⟨#[]⟩]⟩
theorem tkTy_ok : tkTy.Ok := ⟨fun _ => rfl, fun x u hu => by simp [tkTy] at hu; rcases hu with rfl | rfl | rfl | rfl <;> rfl, by decide, Tryz.underlying22, by kernel_rfl, by kernel_rfl, rfl, by decide⟩
/-- The cells are those of a token. -/
structure TkIs (w : World) (x : TkV) (t : TkX) : Prop where
  hk : x.k = t.k
  hn : x.n = t.n
  ht : x.t = t.t
  ha : RAt atTy w (.slice x.a x.m x.c) t.as
theorem TkIs.same {w w' : World} {x : TkV} {t : TkX} (h : TkIs w x t) (hs : ∀ b, (Value.slice x.a x.m x.c).ownBlock = some b → b < w.heap.size → w'.heap[b]? = w.heap[b]?) (hz : w.heap.size ≤ w'.heap.size) : TkIs w' x t := ⟨h.hk, h.hn, h.ht, h.ha.same hs hz⟩
/-- A row of them. -/
def TksIs (w : World) (V : List TkV) (L : List TkX) : Prop := V.length = L.length ∧ ∀ (i : Nat) x t, V[i]? = some x → L[i]? = some t → TkIs w x t
theorem tksIs_nil (w : World) : TksIs w [] [] := ⟨rfl, fun i x t h => by simp at h⟩
theorem TksIs.push {w : World} {V : List TkV} {L : List TkX} {x : TkV} {t : TkX} (h : TksIs w V L) (hx : TkIs w x t) : TksIs w (V ++ [x]) (L ++ [t]) := by
  refine ⟨by simp [h.1], fun i y u hy hu => ?_⟩
  by_cases hi : i < V.length
  · rw [List.getElem?_append_left hi] at hy
    rw [List.getElem?_append_left (by rw [← h.1]; exact hi)] at hu
    exact h.2 i y u hy hu
  · rw [List.getElem?_append_right (by omega)] at hy
    rw [List.getElem?_append_right (by rw [← h.1]; omega)] at hu
    have hl : i - V.length < 1 := by
      rcases Nat.lt_or_ge (i - V.length) 1 with k | k
      · exact k
      · rw [List.getElem?_eq_none (by simpa using k)] at hy; cases hy
    have h0 : i - V.length = 0 := by omega
    rw [h0] at hy
    rw [← h.1, h0] at hu
    simp at hy hu
    subst hy hu
    exact hx
theorem TksIs.same {w w' : World} {V : List TkV} {L : List TkX} (h : TksIs w V L) (hs : ∀ x ∈ V, ∀ b, (Value.slice x.a x.m x.c).ownBlock = some b → b < w.heap.size → w'.heap[b]? = w.heap[b]?) (hz : w.heap.size ≤ w'.heap.size) : TksIs w' V L :=
  ⟨h.1, fun i x t hx ht => (h.2 i x t hx ht).same (hs x (List.mem_of_getElem? hx)) hz⟩
/-- Tokens that lie somewhere. -/
def TokAt (w : World) (v : Value) (L : List TkX) : Prop := ∃ V, RAt tkTy w v V ∧ TksIs w V L
theorem TokAt.below {w w' : World} {v : Value} {L : List TkX} (h : TokAt w v L) (hb : Below w.heap.size w w') : TokAt w' v L := by
  obtain ⟨V, h1, h2⟩ := h
  exact ⟨V, h1.below hb, h2.same (fun x _ b _ hl => hb.block b hl) hb.size⟩

/-- What a reader knows: the rest, the words, the tokens. -/
structure RSt where
  rest : List UInt8
  words : List UInt8
  toks : List TkX
/-- It lies in the blocks F. -/
structure RIs (w : World) (F : Nat → Prop) (b : Nat) (s : RSt) : Prop where
  is : ∃ p v tv V, RdAt w b (mk s.rest) p v tv s.words ∧ ROwn tkTy w tv V ∧ TksIs w V s.toks ∧ tv.ownBlock ≠ some b ∧ (∀ g, tv.ownBlock = some g → v.ownBlock ≠ some g) ∧
    (∀ x ∈ V, ∀ g, (Value.slice x.a x.m x.c).ownBlock = some g → F g ∧ g ≠ b ∧ v.ownBlock ≠ some g ∧ tv.ownBlock ≠ some g) ∧ F b ∧ (∀ g, v.ownBlock = some g → F g) ∧ (∀ g, tv.ownBlock = some g → F g)
  lt : ∀ x, F x → x < w.heap.size
theorem rIs_same {w w' : World} {F : Nat → Prop} {b : Nat} {s : RSt} (h : RIs w F b s) (hz : w.heap.size ≤ w'.heap.size) (hs : ∀ x, F x → w'.heap[x]? = w.heap[x]?) : RIs w' F b s := by
  obtain ⟨⟨p, v, tv, V, h1, h2, h3, h4, h5, h6, fb, fv, ft⟩, hl⟩ := h
  refine ⟨⟨p, v, tv, V, ⟨h1.blk.same (hs b fb), h1.ptr, ownsRow_same h1.row (fun g hg => hs g (fv g hg)), h1.apart⟩, ownsRow_same h2 (fun g hg => hs g (ft g hg)), h3.same (fun x hx g hg _ => hs g (h6 x hx g hg).1) hz, h4, h5, h6, fb, fv, ft⟩, fun x hx => Nat.lt_of_lt_of_le (hl x hx) hz⟩
def rdRep : Rep RSt := ⟨RIs, fun h hz hs => rIs_same h hz hs, fun h => h.lt⟩
/-- A reader at hand: made since w0. -/
abbrev RHas (w0 w : World) (F : Nat → Prop) (b : Nat) (s : RSt) : Prop := rdRep.Has w0 w F b s
/-- .. turned by a call. -/
abbrev RTo (F : Nat → Prop) (w w' : World) (b : Nat) (s : RSt) : Prop := rdRep.Turn F w w' b s
theorem rIs_rest {w : World} {F : Nat → Prop} {b : Nat} {s : RSt} (h : RIs w F b s) : w.cell? ⟨b, 0, none⟩ = some (.string (mk s.rest)) ∧ w.frozen? ⟨b, 0, none⟩ = false ∧ b < w.heap.size := by
  obtain ⟨⟨p, v, tv, V, h1, _⟩, _⟩ := h
  exact ⟨h1.cells.1, h1.cells.2.2.2.2 0, h1.lt⟩
/-- What was laid behind changes nothing; then the rest is stored. -/
theorem rIs_store {w w1 : World} {F : Nat → Prop} {b : Nat} {s : RSt} (h : RIs w F b s) (hb : Below w.heap.size w w1) (l : List UInt8) : RTo F w (w1.setCell ⟨b, 0, none⟩ (.string (mk l))) b { s with rest := l } := by
  have h' : RIs w1 F b s := rIs_same h hb.size (fun x hx => hb.block x (h.lt x hx))
  have hl := h.lt
  obtain ⟨⟨p, v, tv, V, h1, h2, h3, h4, h5, h6, fb, fv, ft⟩, hl'⟩ := h'
  have hz : (w1.setCell ⟨b, 0, none⟩ (.string (mk l))).heap.size = w1.heap.size := setCell_size _ _ _
  refine ⟨F, ⟨⟨p, v, tv, V, h1.setRest (mk l), ownsRow_same h2 (fun g hg => by rw [Below.heap_setCell _ _ _ _ (fun e => h4 (by rw [hg]; simp [e]))]), h3.same (fun x hx g hg _ => by rw [Below.heap_setCell _ _ _ _ (fun e => (h6 x hx g hg).2.1 e)]) (by rw [hz]; exact Nat.le_refl _), h4, h5, h6, fb, fv, ft⟩, fun x hx => by rw [hz]; exact hl' x hx⟩, ?_, fun x hx => .inl hx⟩
  exact (Chg.of_below (S := F) hb).trans ((Chg.setCell w1 ⟨b, 0, none⟩ _).mono (T := F) (fun x e => by cases e; exact fb)) (fun x e => .inl e)
theorem rTo_trans {F : Nat → Prop} {w w1 w2 : World} {b : Nat} {s s1 s2 : RSt} (h : RTo F w w1 b s1) (k : ∀ F1, RIs w1 F1 b s1 → RTo F1 w1 w2 b s2) : RTo F w w2 b s2 := by
  obtain ⟨F1, h1, h2, h3⟩ := h
  obtain ⟨F2, k1, k2, k3⟩ := k F1 h1
  refine ⟨F2, k1, h2.trans k2 h3, fun x hx => ?_⟩
  rcases k3 x hx with e | e
  · exact h3 x e
  · have := h2.size; right; omega
end Go.Proofs.YtjoeamlidmmioaaGreatDoor

/-
  GENERAL: rows of ints.
-/
namespace Go.Proofs.YtjoeamlidmmioaaGreatDoor
open Go.RowKit
set_option linter.unusedVariables false
set_option maxRecDepth 100000

def I64' (n : Int) : Prop := -9223372036854775808 ≤ n ∧ n ≤ 9223372036854775807
end Go.Proofs.YtjoeamlidmmioaaGreatDoor


/-
  WHAT EVERY LAW's ROW NEEDS: a call that returns true, and leaves all memory that was there as it was, meets the row's specification.
-/
namespace Go.Proofs.YtjoeamlidmmioaaGreatDoor
open Go.ChangeShapes Go.WideShapes Go.ChangeAt Go.RowKit
set_option linter.unusedVariables false
set_option maxRecDepth 100000

theorem laidOut : laidOutB Tryz.prog = true := by kernel_rfl
theorem ownKnobs : ownKnob Tryz.prog.godebug = none := by kernel_rfl

theorem trodAll_stays {H : Type} {enc : TypeId × Value → H} {W W' : World} (hb : Below W.heap.size W W') :
    ∀ (ts : List TypeId) (vs : List Value) (ds : List (DataW H)) (ps : List MemPlace), (∀ t ∈ ts, Tryz.prog.readableRec t = true ∧ t < Tryz.prog.types.size) →
      DataW.TrodAll enc Tryz.prog W 0 (fun _ => true) true ts vs ds ps → (∀ x ∈ ps, x.block < W.heap.size) →
      DataW.TrodAll enc Tryz.prog W' 0 (fun b => decide (b < W.heap.size)) true ts vs ds ps := by
  intro ts
  induction ts with
  | nil =>
    intro vs ds ps _ h _
    obtain ⟨rfl, rfl, rfl⟩ := trodAll_nil h
    exact rfl
  | cons t ts ih =>
    intro vs ds ps ht h hlt
    obtain ⟨v, vs', d, ds', p, q, rfl, rfl, rfl, h1, h2⟩ := trodAll_cons h
    have h3 := ht t (by simp)
    exact ⟨p, q, Below.trod laidOut h3.1 h3.2 h1 hb (fun x hx => hlt x (by simp [hx])), ih _ _ _ (fun u hu => ht u (by simp [hu])) h2 (fun x hx => hlt x (by simp [hx])), rfl⟩

theorem okTy {t : TypeId} (h1 : Tryz.prog.readableRec t = true) (h2 : decide (t < Tryz.prog.types.size) = true) : Tryz.prog.readableRec t = true ∧ t < Tryz.prog.types.size := ⟨h1, of_decide_eq_true h2⟩

/-- THE ROW's 'post' OF A LAW: true; the arguments read as they did. -/
theorem law_post {H : Type} {enc : TypeId × Value → H} {f : Func} {s : ChangeSpec} {W W' : World} {args : Array Value} {ds gs : List (DataW H)} {before : List MemPlace}
    (hW : DataW.Whole enc Tryz.prog f.params.toList s.vars false W args.toList ds gs before) (hb : Below W.heap.size W W') (hvars : s.vars = [])
    (hparams : ∀ t ∈ f.params.toList, Tryz.prog.readableRec t = true ∧ t < Tryz.prog.types.size) (hres : f.resultTypes = #[4])
    (hfn : (s.fn H (ds ++ gs)).results = [.lit (.bool true)] ∧ (s.fn H (ds ++ gs)).args = ds ∧ (s.fn H (ds ++ gs)).vars = []) :
    s.post enc Tryz.prog f false true false false W args (.bool true) W' := by
  have hlt := hW.lt
  have hW' := hW
  obtain ⟨p, q, hA, hV, rfl, hfz, hnd⟩ := hW
  rw [hvars] at hV
  obtain ⟨rfl, rfl⟩ := trodVars_none hV
  refine ⟨ds, [], _, [], p, [], hW', ?_, ?_, ?_, hb.frame _, fun h => by cases h⟩
  · rw [hfn.1, hres]; exact trodAll_mk1 (shut_bool Tryz.underlying4 true)
  · rw [hfn.2.1]
    exact trodAll_stays hb _ _ _ _ hparams hA (fun x hx => hlt x (by simp [hx]))
  · rw [hvars, hfn.2.2]; exact rfl
end Go.Proofs.YtjoeamlidmmioaaGreatDoor

/-
  GENERAL: arguments that are slices of ints, of texts, of structs of one-cell fields: as their reading gives them, rows that lie somewhere.
-/
namespace Go.Proofs.YtjoeamlidmmioaaGreatDoor
open Go.ChangeShapes Go.WideShapes Go.ChangeAt Go.RowKit
open Go.WideMaps Go.WideElems Go.Deep Go.Joins
set_option linter.unusedVariables false
set_option maxRecDepth 100000

theorem cellsInt' : Tryz.prog.cellsOf 3 = 1 := by kernel_rfl
/-- A list of what is there for each number. -/
theorem listOf {α : Type} {n : Nat} {Q : Nat → α → Prop} (h : ∀ i, i < n → ∃ x, Q i x) : ∃ l : List α, l.length = n ∧ ∀ i x, l[i]? = some x → Q i x := by
  have : ∀ k, k ≤ n → ∃ l : List α, l.length = k ∧ ∀ i x, l[i]? = some x → Q i x := by
    intro k
    induction k with
    | zero => intro _; exact ⟨[], rfl, by simp⟩
    | succ k ih =>
      intro hk
      obtain ⟨l, hl', hA⟩ := ih (by omega)
      obtain ⟨ac, hac⟩ := h k (by omega)
      refine ⟨l ++ [ac], by simp [hl'], fun i x hx => ?_⟩
      by_cases hi : i < l.length
      · rw [List.getElem?_append_left hi] at hx; exact hA i x hx
      · rw [List.getElem?_append_right (by omega)] at hx
        have : i = k := by
          rcases Nat.eq_or_lt_of_le (Nat.le_of_not_lt hi) with h | h
          · omega
          · rw [List.getElem?_eq_none (by simp; omega)] at hx; cases hx
        subst this
        rw [hl', Nat.sub_self] at hx
        simp at hx
        subst hx
        exact hac
  exact this n (Nat.le_refl _)
/-- The cells of a row, thing by thing, make the row. -/
theorem rAt_of_cells {α : Type} {R : RowTy α} (o : R.Ok) {w : World} {a : Addr} {L : List α} {cap : Nat} (hl : L.length ≤ cap) (hm : cap ≤ maxLen)
    (h : ∀ (k : Nat) x, L[k]? = some x → ∀ j u, (R.cs x)[j]? = some u → w.cell? (a.add (k * R.n + j)) = some u) : RAt R w (.slice (some a) L.length cap) L := by
  refine ⟨some a, cap, rfl, hl, (fun e => by cases e), hm, fun hne => ?_⟩
  have hpos : 0 < L.length := List.length_pos_iff.2 hne
  have h0 : 0 < (R.cs L[0]).length := by rw [o.len]; exact o.pos
  have c0 := h 0 L[0] (by simp [hpos]) 0 _ (List.getElem?_eq_getElem h0)
  obtain ⟨b, off, spot⟩ := a
  have hspot : spot = none := by simpa [Addr.add] using World.cell?_spot c0
  subst hspot
  have hadd : ∀ k, (⟨b, off, none⟩ : Addr).add k = ⟨b, off + k, none⟩ := fun k => Go.WideShapes.add_plain ..
  rw [hadd] at c0
  refine ⟨b, off, rfl, World.block_lt_of_cell? w _ c0, fun j u hj => ?_⟩
  have hjl : j < L.length * R.n := by rw [← flat_length o]; exact (List.getElem?_eq_some_iff.1 hj).1
  have hq : j / R.n < L.length := Nat.div_lt_of_lt_mul (by rw [Nat.mul_comm]; exact hjl)
  have hr : j % R.n < R.n := Nat.mod_lt _ o.pos
  have hj2 : j / R.n * R.n + j % R.n = j := by rw [Nat.mul_comm]; exact Nat.div_add_mod j R.n
  have hu : (R.cs L[j / R.n])[j % R.n]? = some u := by
    have hlen : j % R.n < (R.cs L[j / R.n]).length := by rw [o.len]; exact hr
    have h1 := flat_get o (List.getElem?_eq_getElem hq) (List.getElem?_eq_getElem hlen)
    rw [hj2, hj] at h1
    rw [List.getElem?_eq_getElem hlen, Option.some.inj h1]
  have := h _ _ (List.getElem?_eq_getElem hq) _ _ hu
  rw [hj2, hadd] at this
  exact this
section
variable {H : Type} {enc : TypeId × Value → H} {P : Program} {w : World} {base : Nat} {spare : Nat → Bool} {held : Bool}
theorem openFields {t e : TypeId} {fs : Array Field} {fuel : Nat} {cs : List Value} {x : DataW H × List MemPlace} (ht : P.underlying t = some (.slice e)) (he : P.underlying e = some (.struct fs))
    (hone : oneCellFields P fs = true) (hC : P.cellsOf e = fs.size) (h : DataW.trod enc P w base spare held fuel t cs = some x) :
    (cs = [.slice none 0 0] ∧ x = (.nil, [])) ∨
    ∃ (a : Addr) (len cap m : Nat), cs = [.slice (some a) len cap] ∧ len ≤ cap ∧ cap ≤ maxLen ∧ m = (if spare a.block then cap else len) ∧
      ∀ i, i < m → ∃ (ys : List (DataW H × List MemPlace)) (n : Nat), ys.length = fs.size ∧
        ∀ (j : Nat) (f : Field), fs[j]? = some f → ∃ (v : Value) (y : DataW H × List MemPlace), w.cell? (a.add (i * fs.size + j)) = some v ∧ DataW.trod enc P w base spare held n f.type [v] = some y := by
  rcases open_slice ht h with h0 | ⟨a, len, cap, m, n, D, Pl, hcs, hb, hl, hm, hmm, hx, hi⟩
  · exact .inl h0
  · refine .inr ⟨a, len, cap, m, hcs, hl, hm, hmm, fun i him => ?_⟩
    obtain ⟨cs', hc, ht'⟩ := hi i him
    rw [hC] at hc
    obtain ⟨ys, n', hn', hy, hlen, hyl, hf⟩ := DataW.trod_struct he ht'
    obtain ⟨_, hcl, hat⟩ := World.cells?_some hc
    refine ⟨ys, n', hyl, fun j f hj => ?_⟩
    obtain ⟨ho, hk⟩ := hone_of hone j f hj
    have hjl : j < fs.size := (Array.getElem?_eq_some_iff.1 hj).1
    have hcell := hat j hjl
    have hv : cs'[j]? = some (cs'[j]'(by omega)) := List.getElem?_eq_getElem (by omega)
    have h1 := hf j f hj
    rw [ho, hk] at h1
    have hone' : (cs'.drop j).take 1 = [cs'[j]'(by omega)] := by
      rw [List.drop_eq_getElem_cons (by omega)]
      rfl
    rw [hone'] at h1
    have hys : ys[j]? = some (ys[j]'(by omega)) := List.getElem?_eq_getElem (by omega)
    refine ⟨_, _, ?_, h1.trans hys⟩
    rw [← Go.Deep.add_add, hcell, hv]
end
/-- A slice of structs of one-cell fields: 'hx' says what a struct's cells are, out of how each of its fields reads. -/
theorem structs_arg {α : Type} {R : RowTy α} (o : R.Ok) {H : Type} {enc : TypeId × Value → H} {W : World} {base : Nat} {v : Value} {d : DataW H} {p : List MemPlace} (ho : Value.okWide Tryz.prog W .any base R.st v)
    (h : DataW.Trod enc Tryz.prog W 0 (fun _ => true) true R.st v d p) {fs : Array Field} (he : Tryz.prog.underlying R.el = some (.struct fs)) (hone : oneCellFields Tryz.prog fs = true) (hC : Tryz.prog.cellsOf R.el = fs.size) (hn : fs.size = R.n)
    (In : α → Prop) (hx : ∀ c : Nat → Value, (∀ (j : Nat) (f : Field), fs[j]? = some f → ∃ n y, DataW.trod enc Tryz.prog W 0 (fun _ => true) true n f.type [c j] = some y) → ∃ x : α, In x ∧ ∀ j u, (R.cs x)[j]? = some u → c j = u) :
    ∃ l : List α, RAt R W v l ∧ (∀ a ∈ l, In a) ∧ l.length ≤ maxLen := by
  obtain ⟨a0, len, cap, rfl⟩ := okWide_slice o.under ho
  obtain ⟨fuel, hf⟩ := h
  rcases openFields o.under he hone hC hf with ⟨hcs, _⟩ | ⟨a, len', cap', m, hcs, hl, hm, hmm, hel⟩
  · simp [Value.cells] at hcs
    obtain ⟨rfl, rfl, rfl⟩ := hcs
    exact ⟨[], rAt_nil W, by simp, by simp⟩
  · simp [Value.cells] at hcs
    obtain ⟨rfl, rfl, rfl⟩ := hcs
    simp only [if_true] at hmm
    subst hmm
    obtain ⟨l, hll, hA⟩ := listOf (n := len) (Q := fun i (x : α) => In x ∧ ∀ j u, (R.cs x)[j]? = some u → W.cell? (a.add (i * R.n + j)) = some u) (fun i hi => by
      obtain ⟨ys, n, _, hfs⟩ := hel i (by omega)
      obtain ⟨x, h1, h2⟩ := hx (fun j => (W.cell? (a.add (i * R.n + j))).getD undef) (fun j f hj => by
        obtain ⟨v, y, e1, e2⟩ := hfs j f hj
        rw [hn] at e1
        exact ⟨n, y, by rw [e1]; exact e2⟩)
      refine ⟨x, h1, fun j u hj => ?_⟩
      have hjn : j < R.n := by rw [← o.len x]; exact (List.getElem?_eq_some_iff.1 hj).1
      obtain ⟨v, y, e1, e2⟩ := hfs j fs[j] (Array.getElem?_eq_getElem (by omega))
      rw [hn] at e1
      have := h2 j u hj
      rw [e1] at this ⊢
      simp at this
      rw [this])
    refine ⟨l, ?_, fun ac hac => ?_, by omega⟩
    · have := rAt_of_cells o (w := W) (a := a) (L := l) (cap := m) (by omega) (by omega) (fun k x hk => (hA k x hk).2)
      rw [hll] at this
      exact this
    · obtain ⟨i, hi, rfl⟩ := List.getElem_of_mem hac
      exact (hA i l[i] (by simp [hi])).1
theorem trodInt {H : Type} {enc : TypeId × Value → H} {W : World} {n : Nat} {v : Value} {y : DataW H × List MemPlace} (h : DataW.trod enc Tryz.prog W 0 (fun _ => true) true n 3 [v] = some y) :
    ∃ k : Int, v = .int .i64 k ∧ I64' k := by
  obtain ⟨k, hcs, hx, hw⟩ := DataW.trod_int Tryz.underlying3 h
  simp at hcs
  refine ⟨k, hcs, ?_⟩
  simpa [I64', Lit.wf, IntKind.min, IntKind.max, IntKind.signed, IntKind.bits] using hw
theorem trodStr {H : Type} {enc : TypeId × Value → H} {W : World} {n : Nat} {v : Value} {y : DataW H × List MemPlace} (h : DataW.trod enc Tryz.prog W 0 (fun _ => true) true n 9 [v] = some y) :
    ∃ s : ByteArray, v = .string s ∧ s.size ≤ maxLen := by
  obtain ⟨s, hcs, hx, hw⟩ := DataW.trod_string Tryz.underlying9 h
  simp at hcs
  exact ⟨s, hcs, hw⟩
/-- A slice of structs that is a field of another thing. -/
theorem structs_trod {α : Type} {R : RowTy α} (o : R.Ok) {H : Type} {enc : TypeId × Value → H} {W : World} {v : Value} {n : Nat} {y : DataW H × List MemPlace} (hf : DataW.trod enc Tryz.prog W 0 (fun _ => true) true n R.st [v] = some y) {fs : Array Field} (he : Tryz.prog.underlying R.el = some (.struct fs)) (hone : oneCellFields Tryz.prog fs = true) (hC : Tryz.prog.cellsOf R.el = fs.size) (hn : fs.size = R.n)
    (In : α → Prop) (hx : ∀ c : Nat → Value, (∀ (j : Nat) (f : Field), fs[j]? = some f → ∃ n y, DataW.trod enc Tryz.prog W 0 (fun _ => true) true n f.type [c j] = some y) → ∃ x : α, In x ∧ ∀ j u, (R.cs x)[j]? = some u → c j = u) :
    ∃ l : List α, RAt R W v l ∧ (∀ a ∈ l, In a) ∧ l.length ≤ maxLen := by
  rcases openFields o.under he hone hC hf with ⟨hcs, _⟩ | ⟨a, len, cap, m, hcs, hl, hm, hmm, hel⟩
  · simp at hcs
    subst hcs
    exact ⟨[], rAt_nil W, by simp, by simp⟩
  · simp at hcs
    subst hcs
    simp only [if_true] at hmm
    subst hmm
    obtain ⟨l, hll, hA⟩ := listOf (n := len) (Q := fun i (x : α) => In x ∧ ∀ j u, (R.cs x)[j]? = some u → W.cell? (a.add (i * R.n + j)) = some u) (fun i hi => by
      obtain ⟨ys, n, _, hfs⟩ := hel i (by omega)
      obtain ⟨x, h1, h2⟩ := hx (fun j => (W.cell? (a.add (i * R.n + j))).getD undef) (fun j f hj => by
        obtain ⟨v, y, e1, e2⟩ := hfs j f hj
        rw [hn] at e1
        exact ⟨n, y, by rw [e1]; exact e2⟩)
      refine ⟨x, h1, fun j u hj => ?_⟩
      have hjn : j < R.n := by rw [← o.len x]; exact (List.getElem?_eq_some_iff.1 hj).1
      obtain ⟨v, y, e1, e2⟩ := hfs j fs[j] (Array.getElem?_eq_getElem (by omega))
      rw [hn] at e1
      have := h2 j u hj
      rw [e1] at this ⊢
      simp at this
      rw [this])
    refine ⟨l, ?_, fun ac hac => ?_, by omega⟩
    · have := rAt_of_cells o (w := W) (a := a) (L := l) (cap := m) (by omega) (by omega) (fun k x hk => (hA k x hk).2)
      rw [hll] at this
      exact this
    · obtain ⟨i, hi, rfl⟩ := List.getElem_of_mem hac
      exact (hA i l[i] (by simp [hi])).1
end Go.Proofs.YtjoeamlidmmioaaGreatDoor


/-
  GENERAL: rows of texts; an argument that is a slice of texts.
-/
namespace Go.Proofs.YtjoeamlidmmioaaGreatDoor
open Go.ChangeShapes Go.WideShapes Go.ChangeAt Go.RowKit
open Go.WideMaps Go.WideElems Go.Deep Go.Joins
set_option linter.unusedVariables false
set_option maxRecDepth 100000

def strTy : RowTy ByteArray := ⟨61, 9, 1, 16, fun x => [.string x], .string ⟨#[]⟩⟩
theorem strTy_ok : strTy.Ok := ⟨fun _ => rfl, fun x u hu => by simp [strTy] at hu; subst hu; rfl, by decide, Tryz.underlying61, by kernel_rfl, by kernel_rfl, rfl, by decide⟩
theorem cellsStr' : Tryz.prog.cellsOf 9 = 1 := by kernel_rfl
theorem str_flat (xs : List ByteArray) : strTy.flat xs = xs.map .string := by
  induction xs with
  | nil => rfl
  | cons x r ih => rw [flat_cons, ih]; rfl
/-- Where the k-th text lies. -/
theorem strs_at {w : World} {v : Value} {xs : List ByteArray} (h : RAt strTy w v xs) : ∃ a cap, v = .slice a xs.length cap ∧ ∀ (k : Nat) x, xs[k]? = some x → ∃ sb so, a = some ⟨sb, so, none⟩ ∧ sb < w.heap.size ∧ w.cell? ⟨sb, so + k, none⟩ = some (.string x) := by
  obtain ⟨a, cap, rfl, _, _, hc⟩ := h.at strTy_ok
  refine ⟨a, cap, rfl, fun k x hk => ?_⟩
  obtain ⟨sb, so, e, hlt, h1⟩ := hc k x hk
  have := h1 0 _ rfl
  rw [show strTy.n = 1 from rfl, Nat.mul_one, Nat.add_zero] at this
  exact ⟨sb, so, e, hlt, this⟩
theorem texts_arg {H : Type} {enc : TypeId × Value → H} {W : World} {base : Nat} {v : Value} {d : DataW H} {p : List MemPlace} (ho : Value.okWide Tryz.prog W .any base 61 v)
    (h : DataW.Trod enc Tryz.prog W 0 (fun _ => true) true 61 v d p) :
    ∃ xs : List ByteArray, RAt strTy W v xs ∧ (∀ s ∈ xs, s.size ≤ maxLen) ∧ xs.length ≤ maxLen := by
  obtain ⟨a0, len, cap, rfl⟩ := okWide_slice Tryz.underlying61 ho
  obtain ⟨fuel, hf⟩ := h
  rcases open_strings Tryz.underlying61 Tryz.underlying9 cellsStr' hf with ⟨hcs, hx⟩ | ⟨a, len', cap', zs, hcs, hl0, hl, hm, hz, hx, hcell, hwz⟩
  · simp [Value.cells] at hcs
    obtain ⟨rfl, rfl, rfl⟩ := hcs
    exact ⟨[], rAt_nil W, by simp, by simp⟩
  · simp [Value.cells] at hcs
    obtain ⟨rfl, rfl, rfl⟩ := hcs
    simp only [if_true] at hz
    have hlen : (zs.take len).length = len := by rw [List.length_take]; omega
    refine ⟨zs.take len, ?_, fun s hs => hwz s (List.mem_of_mem_take hs), by omega⟩
    have := rAt_of_cells strTy_ok (w := W) (a := a) (L := zs.take len) (cap := cap) (by omega) (by omega) (fun k x hk j u hj => by
      have hkl : k < len := by
        rcases Nat.lt_or_ge k len with h | h
        · exact h
        · rw [List.getElem?_eq_none (by rw [hlen]; exact h)] at hk; cases hk
      simp [strTy] at hj
      have hj0 : j = 0 := by
        rcases Nat.eq_zero_or_pos j with h | h
        · exact h
        · rw [List.getElem?_eq_none (by simp; omega)] at hj; cases hj
      subst hj0
      simp at hj
      subst hj
      rw [show strTy.n = 1 from rfl, Nat.mul_one, Nat.add_zero, hcell k (by omega)]
      rw [List.getElem?_take_of_lt hkl] at hk
      simp [List.getD, hk])
    rw [hlen] at this
    exact this
end Go.Proofs.YtjoeamlidmmioaaGreatDoor

