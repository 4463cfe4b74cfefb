/-
  The walk of mailbaglaw13.SchemaKeys: the way through.
-/
import Derived.Test.YtacphlceggbfcaaSKeysA
namespace Go.Proofs.Ytacphlceggbfcaa.schemaKeys
open Go.RowKit Go.Proofs.Ytacphlceggbfcaa.valOrders

set_option linter.unusedVariables false
set_option linter.unusedSimpArgs false

def o19_0 : Oper := { dst := some 101, op := Op.move (Operand.tmp 16), type := 46, pos := "law.go:131", after := #[], guard := none }
def o19_1 : Oper := { dst := some 102, op := Op.move (Operand.tmp 13), type := 9, pos := "law.go:131", after := #[], guard := none }
def o19_2 : Oper := { dst := some 103, op := Op.load 51 (Operand.tmp 6), type := 51, pos := "law.go:131", after := #[], guard := none }
def o19_3 : Oper := { dst := some 104, op := Op.load 56 (Operand.tmp 7), type := 56, pos := "law.go:131", after := #[], guard := none }
def o19_4 : Oper := { dst := some 105, op := Op.call { callee := Callee.value (Operand.func 35), args := #[Operand.tmp 103, Operand.tmp 104], argTypes := #[51, 56] }, type := 9, pos := "law.go:131", after := #[{ on := 2, ground := Ground.data }, { on := 3, ground := Ground.data }], guard := none }
def o19_5 : Oper := { dst := some 106, op := Op.call { callee := Callee.value (Operand.tmp 101), args := #[Operand.tmp 102, Operand.tmp 105], argTypes := #[9, 9] }, type := 4, pos := "law.go:131", after := #[{ on := 0, ground := Ground.data }, { on := 1, ground := Ground.data }, { on := 4, ground := Ground.data }, { on := 4, ground := Ground.chain }], guard := none }
def o19_6 : Oper := { dst := some 107, op := Op.move (Operand.tmp 106), type := 4, pos := "law.go:131", after := #[{ on := 5, ground := Ground.data }, { on := 5, ground := Ground.chain }], guard := none }
def o19_7 : Oper := { dst := some 108, op := Op.load 51 (Operand.tmp 6), type := 51, pos := "law.go:131", after := #[{ on := 6, ground := Ground.guard }], guard := some (6, true) }
def o19_8 : Oper := { dst := some 109, op := Op.load 56 (Operand.tmp 7), type := 56, pos := "law.go:131", after := #[{ on := 6, ground := Ground.guard }], guard := some (6, true) }
def o19_9 : Oper := { dst := some 110, op := Op.call { callee := Callee.value (Operand.func 35), args := #[Operand.tmp 108, Operand.tmp 109], argTypes := #[51, 56] }, type := 9, pos := "law.go:131", after := #[{ on := 7, ground := Ground.data }, { on := 8, ground := Ground.data }, { on := 6, ground := Ground.chain }, { on := 6, ground := Ground.guard }], guard := some (6, true) }
def o19_10 : Oper := { dst := some 111, op := Op.fieldAddr 51 (Operand.tmp 6) 0, type := 0, pos := "law.go:131", after := #[{ on := 6, ground := Ground.guard }], guard := some (6, true) }
def o19_11 : Oper := { dst := some 112, op := Op.load 9 (Operand.tmp 111), type := 9, pos := "law.go:131", after := #[{ on := 10, ground := Ground.data }, { on := 6, ground := Ground.guard }], guard := some (6, true) }
def o19_12 : Oper := { dst := some 113, op := Op.fieldAddr 56 (Operand.tmp 7) 0, type := 0, pos := "law.go:131", after := #[{ on := 6, ground := Ground.guard }], guard := some (6, true) }
def o19_13 : Oper := { dst := some 114, op := Op.load 9 (Operand.tmp 113), type := 9, pos := "law.go:131", after := #[{ on := 12, ground := Ground.data }, { on := 6, ground := Ground.guard }], guard := some (6, true) }
def o19_14 : Oper := { dst := some 115, op := Op.buildSlice 59 3 #[(0, Operand.const (Value.string { data := #[105] })), (1, Operand.tmp 112), (2, Operand.tmp 114)], type := 59, pos := "law.go:131", after := #[{ on := 11, ground := Ground.data }, { on := 13, ground := Ground.data }, { on := 6, ground := Ground.guard }], guard := some (6, true) }
def o19_15 : Oper := { dst := some 116, op := Op.call { callee := Callee.value (Operand.func 36), args := #[Operand.tmp 115], argTypes := #[59] }, type := 9, pos := "law.go:131", after := #[{ on := 14, ground := Ground.data }, { on := 9, ground := Ground.chain }, { on := 6, ground := Ground.guard }], guard := some (6, true) }
def o19_16 : Oper := { dst := some 117, op := Op.binOp BinOp.eql 9 (Operand.tmp 110) (Operand.tmp 116) 9, type := 4, pos := "law.go:131", after := #[{ on := 9, ground := Ground.data }, { on := 15, ground := Ground.data }, { on := 6, ground := Ground.guard }], guard := some (6, true) }
def o19_17 : Oper := { dst := some 118, op := Op.pick (Operand.tmp 107) (Operand.tmp 117) (Operand.const (Value.bool false)), type := 4, pos := "law.go:131", after := #[{ on := 6, ground := Ground.data }, { on := 16, ground := Ground.data }], guard := none }
def o19_18 : Oper := { dst := some 119, op := Op.move (Operand.tmp 118), type := 4, pos := "law.go:131", after := #[{ on := 17, ground := Ground.data }, { on := 15, ground := Ground.chain }], guard := none }
def o19_19 : Oper := { dst := some 120, op := Op.move (Operand.tmp 18), type := 37, pos := "law.go:131", after := #[{ on := 18, ground := Ground.guard }], guard := some (18, true) }
def o19_20 : Oper := { dst := some 121, op := Op.binOp BinOp.eql 37 (Operand.tmp 120) (Operand.const (Value.int IntKind.i64 0)) 37, type := 4, pos := "law.go:131", after := #[{ on := 19, ground := Ground.data }, { on := 18, ground := Ground.guard }], guard := some (18, true) }
def o19_21 : Oper := { dst := some 122, op := Op.pick (Operand.tmp 119) (Operand.tmp 121) (Operand.const (Value.bool false)), type := 4, pos := "law.go:131", after := #[{ on := 18, ground := Ground.data }, { on := 20, ground := Ground.data }], guard := none }
def o19_22 : Oper := { dst := some 123, op := Op.move (Operand.tmp 122), type := 4, pos := "law.go:131", after := #[{ on := 21, ground := Ground.data }, { on := 18, ground := Ground.chain }], guard := none }
def o19_23 : Oper := { dst := some 124, op := Op.move (Operand.tmp 17), type := 59, pos := "law.go:131", after := #[{ on := 22, ground := Ground.guard }], guard := some (22, true) }
def o19_24 : Oper := { dst := some 125, op := Op.call { callee := Callee.builtin Builtin.len, args := #[Operand.tmp 124], argTypes := #[59] }, type := 3, pos := "law.go:131", after := #[{ on := 23, ground := Ground.data }, { on := 22, ground := Ground.guard }], guard := some (22, true) }
def o19_25 : Oper := { dst := some 126, op := Op.binOp BinOp.eql 3 (Operand.tmp 125) (Operand.const (Value.int IntKind.i64 3)) 3, type := 4, pos := "law.go:131", after := #[{ on := 24, ground := Ground.data }, { on := 22, ground := Ground.guard }], guard := some (22, true) }
def o19_26 : Oper := { dst := some 127, op := Op.pick (Operand.tmp 123) (Operand.tmp 126) (Operand.const (Value.bool false)), type := 4, pos := "law.go:131", after := #[{ on := 22, ground := Ground.data }, { on := 25, ground := Ground.data }], guard := none }
def o19_27 : Oper := { dst := some 128, op := Op.move (Operand.tmp 127), type := 4, pos := "law.go:131", after := #[{ on := 26, ground := Ground.data }, { on := 22, ground := Ground.chain }], guard := none }
def o19_28 : Oper := { dst := some 129, op := Op.move (Operand.tmp 17), type := 59, pos := "law.go:131", after := #[{ on := 27, ground := Ground.guard }], guard := some (27, true) }
def o19_29 : Oper := { dst := some 130, op := Op.indexAddr 59 (Operand.tmp 129) (Operand.const (Value.int IntKind.i64 0)), type := 0, pos := "law.go:131", after := #[{ on := 28, ground := Ground.data }, { on := 27, ground := Ground.guard }], guard := some (27, true) }
def o19_30 : Oper := { dst := some 131, op := Op.load 9 (Operand.tmp 130), type := 9, pos := "law.go:131", after := #[{ on := 29, ground := Ground.data }, { on := 27, ground := Ground.guard }], guard := some (27, true) }
def o19_31 : Oper := { dst := some 132, op := Op.binOp BinOp.eql 9 (Operand.tmp 131) (Operand.const (Value.string { data := #[100] })) 9, type := 4, pos := "law.go:131", after := #[{ on := 30, ground := Ground.data }, { on := 27, ground := Ground.guard }], guard := some (27, true) }
def o19_32 : Oper := { dst := some 133, op := Op.pick (Operand.tmp 128) (Operand.tmp 132) (Operand.const (Value.bool false)), type := 4, pos := "law.go:131", after := #[{ on := 27, ground := Ground.data }, { on := 31, ground := Ground.data }], guard := none }
def o19_33 : Oper := { dst := some 134, op := Op.move (Operand.tmp 133), type := 4, pos := "law.go:131", after := #[{ on := 32, ground := Ground.data }, { on := 27, ground := Ground.chain }], guard := none }
def o19_34 : Oper := { dst := some 135, op := Op.move (Operand.tmp 17), type := 59, pos := "law.go:131", after := #[{ on := 33, ground := Ground.guard }], guard := some (33, true) }
def o19_35 : Oper := { dst := some 136, op := Op.indexAddr 59 (Operand.tmp 135) (Operand.const (Value.int IntKind.i64 1)), type := 0, pos := "law.go:131", after := #[{ on := 34, ground := Ground.data }, { on := 33, ground := Ground.guard }], guard := some (33, true) }
def o19_36 : Oper := { dst := some 137, op := Op.load 9 (Operand.tmp 136), type := 9, pos := "law.go:131", after := #[{ on := 35, ground := Ground.data }, { on := 33, ground := Ground.guard }], guard := some (33, true) }
def o19_37 : Oper := { dst := some 138, op := Op.fieldAddr 51 (Operand.tmp 6) 0, type := 0, pos := "law.go:131", after := #[{ on := 33, ground := Ground.guard }], guard := some (33, true) }
def o19_38 : Oper := { dst := some 139, op := Op.load 9 (Operand.tmp 138), type := 9, pos := "law.go:131", after := #[{ on := 37, ground := Ground.data }, { on := 33, ground := Ground.guard }], guard := some (33, true) }
def o19_39 : Oper := { dst := some 140, op := Op.binOp BinOp.eql 9 (Operand.tmp 137) (Operand.tmp 139) 9, type := 4, pos := "law.go:131", after := #[{ on := 36, ground := Ground.data }, { on := 38, ground := Ground.data }, { on := 33, ground := Ground.guard }], guard := some (33, true) }
def o19_40 : Oper := { dst := some 141, op := Op.pick (Operand.tmp 134) (Operand.tmp 140) (Operand.const (Value.bool false)), type := 4, pos := "law.go:131", after := #[{ on := 33, ground := Ground.data }, { on := 39, ground := Ground.data }], guard := none }
def o19_41 : Oper := { dst := some 142, op := Op.move (Operand.tmp 141), type := 4, pos := "law.go:131", after := #[{ on := 40, ground := Ground.data }, { on := 33, ground := Ground.chain }], guard := none }
def o19_42 : Oper := { dst := some 143, op := Op.move (Operand.tmp 17), type := 59, pos := "law.go:131", after := #[{ on := 41, ground := Ground.guard }], guard := some (41, true) }
def o19_43 : Oper := { dst := some 144, op := Op.indexAddr 59 (Operand.tmp 143) (Operand.const (Value.int IntKind.i64 2)), type := 0, pos := "law.go:131", after := #[{ on := 42, ground := Ground.data }, { on := 41, ground := Ground.guard }], guard := some (41, true) }
def o19_44 : Oper := { dst := some 145, op := Op.load 9 (Operand.tmp 144), type := 9, pos := "law.go:131", after := #[{ on := 43, ground := Ground.data }, { on := 41, ground := Ground.guard }], guard := some (41, true) }
def o19_45 : Oper := { dst := some 146, op := Op.move (Operand.tmp 4), type := 9, pos := "law.go:131", after := #[{ on := 41, ground := Ground.guard }], guard := some (41, true) }
def o19_46 : Oper := { dst := some 147, op := Op.binOp BinOp.eql 9 (Operand.tmp 145) (Operand.tmp 146) 9, type := 4, pos := "law.go:131", after := #[{ on := 44, ground := Ground.data }, { on := 45, ground := Ground.data }, { on := 41, ground := Ground.guard }], guard := some (41, true) }
def o19_47 : Oper := { dst := some 148, op := Op.pick (Operand.tmp 142) (Operand.tmp 147) (Operand.const (Value.bool false)), type := 4, pos := "law.go:131", after := #[{ on := 41, ground := Ground.data }, { on := 46, ground := Ground.data }], guard := none }
def o19_48 : Oper := { dst := some 149, op := Op.move (Operand.tmp 148), type := 4, pos := "law.go:131", after := #[{ on := 47, ground := Ground.data }, { on := 41, ground := Ground.chain }], guard := none }
def o19_49 : Oper := { dst := some 150, op := Op.move (Operand.tmp 16), type := 46, pos := "law.go:131", after := #[{ on := 48, ground := Ground.guard }], guard := some (48, true) }
def o19_50 : Oper := { dst := some 151, op := Op.load 51 (Operand.tmp 6), type := 51, pos := "law.go:131", after := #[{ on := 48, ground := Ground.guard }], guard := some (48, true) }
def o19_51 : Oper := { dst := some 152, op := Op.move (Operand.tmp 4), type := 9, pos := "law.go:131", after := #[{ on := 48, ground := Ground.guard }], guard := some (48, true) }
def o19_52 : Oper := { dst := some 153, op := Op.call { callee := Callee.value (Operand.func 34), args := #[Operand.tmp 151, Operand.tmp 152], argTypes := #[51, 9] }, type := 9, pos := "law.go:131", after := #[{ on := 50, ground := Ground.data }, { on := 51, ground := Ground.data }, { on := 48, ground := Ground.chain }, { on := 48, ground := Ground.guard }], guard := some (48, true) }
def o19_53 : Oper := { dst := some 154, op := Op.load 51 (Operand.tmp 6), type := 51, pos := "law.go:131", after := #[{ on := 48, ground := Ground.guard }], guard := some (48, true) }
def o19_54 : Oper := { dst := some 155, op := Op.call { callee := Callee.value (Operand.func 37), args := #[Operand.tmp 154], argTypes := #[51] }, type := 9, pos := "law.go:131", after := #[{ on := 53, ground := Ground.data }, { on := 52, ground := Ground.chain }, { on := 48, ground := Ground.guard }], guard := some (48, true) }
def o19_55 : Oper := { dst := some 156, op := Op.call { callee := Callee.value (Operand.tmp 150), args := #[Operand.tmp 153, Operand.tmp 155], argTypes := #[9, 9] }, type := 4, pos := "law.go:131", after := #[{ on := 49, ground := Ground.data }, { on := 52, ground := Ground.data }, { on := 54, ground := Ground.data }, { on := 54, ground := Ground.chain }, { on := 48, ground := Ground.guard }], guard := some (48, true) }
def o19_56 : Oper := { dst := some 157, op := Op.pick (Operand.tmp 149) (Operand.tmp 156) (Operand.const (Value.bool false)), type := 4, pos := "law.go:131", after := #[{ on := 48, ground := Ground.data }, { on := 55, ground := Ground.data }], guard := none }
def o19_57 : Oper := { dst := some 158, op := Op.move (Operand.tmp 157), type := 4, pos := "law.go:131", after := #[{ on := 56, ground := Ground.data }, { on := 55, ground := Ground.chain }], guard := none }
def o19_58 : Oper := { dst := some 159, op := Op.load 51 (Operand.tmp 6), type := 51, pos := "law.go:131", after := #[{ on := 57, ground := Ground.guard }], guard := some (57, true) }
def o19_59 : Oper := { dst := some 160, op := Op.move (Operand.tmp 4), type := 9, pos := "law.go:131", after := #[{ on := 57, ground := Ground.guard }], guard := some (57, true) }
def o19_60 : Oper := { dst := some 161, op := Op.call { callee := Callee.value (Operand.func 34), args := #[Operand.tmp 159, Operand.tmp 160], argTypes := #[51, 9] }, type := 9, pos := "law.go:131", after := #[{ on := 58, ground := Ground.data }, { on := 59, ground := Ground.data }, { on := 57, ground := Ground.chain }, { on := 57, ground := Ground.guard }], guard := some (57, true) }
def o19_61 : Oper := { dst := some 162, op := Op.load 51 (Operand.tmp 6), type := 51, pos := "law.go:131", after := #[{ on := 57, ground := Ground.guard }], guard := some (57, true) }
def o19_62 : Oper := { dst := some 163, op := Op.move (Operand.tmp 5), type := 9, pos := "law.go:131", after := #[{ on := 57, ground := Ground.guard }], guard := some (57, true) }
def o19_63 : Oper := { dst := some 164, op := Op.call { callee := Callee.value (Operand.func 34), args := #[Operand.tmp 162, Operand.tmp 163], argTypes := #[51, 9] }, type := 9, pos := "law.go:131", after := #[{ on := 61, ground := Ground.data }, { on := 62, ground := Ground.data }, { on := 60, ground := Ground.chain }, { on := 57, ground := Ground.guard }], guard := some (57, true) }
def o19_64 : Oper := { dst := some 165, op := Op.binOp BinOp.eql 9 (Operand.tmp 161) (Operand.tmp 164) 9, type := 4, pos := "law.go:131", after := #[{ on := 60, ground := Ground.data }, { on := 63, ground := Ground.data }, { on := 57, ground := Ground.guard }], guard := some (57, true) }
def o19_65 : Oper := { dst := some 166, op := Op.move (Operand.tmp 4), type := 9, pos := "law.go:131", after := #[{ on := 57, ground := Ground.guard }], guard := some (57, true) }
def o19_66 : Oper := { dst := some 167, op := Op.move (Operand.tmp 5), type := 9, pos := "law.go:131", after := #[{ on := 57, ground := Ground.guard }], guard := some (57, true) }
def o19_67 : Oper := { dst := some 168, op := Op.binOp BinOp.eql 9 (Operand.tmp 166) (Operand.tmp 167) 9, type := 4, pos := "law.go:131", after := #[{ on := 65, ground := Ground.data }, { on := 66, ground := Ground.data }, { on := 57, ground := Ground.guard }], guard := some (57, true) }
def o19_68 : Oper := { dst := some 169, op := Op.binOp BinOp.eql 4 (Operand.tmp 165) (Operand.tmp 168) 4, type := 4, pos := "law.go:131", after := #[{ on := 64, ground := Ground.data }, { on := 67, ground := Ground.data }, { on := 57, ground := Ground.guard }], guard := some (57, true) }
def o19_69 : Oper := { dst := some 170, op := Op.pick (Operand.tmp 158) (Operand.tmp 169) (Operand.const (Value.bool false)), type := 4, pos := "law.go:131", after := #[{ on := 57, ground := Ground.data }, { on := 68, ground := Ground.data }], guard := none }
def o19_70 : Oper := { dst := some 171, op := Op.move (Operand.tmp 170), type := 4, pos := "law.go:131", after := #[{ on := 69, ground := Ground.data }, { on := 63, ground := Ground.chain }], guard := none }
def o19_71 : Oper := { dst := some 172, op := Op.load 51 (Operand.tmp 6), type := 51, pos := "law.go:131", after := #[{ on := 70, ground := Ground.guard }], guard := some (70, true) }
def o19_72 : Oper := { dst := some 173, op := Op.call { callee := Callee.value (Operand.func 38), args := #[Operand.tmp 172], argTypes := #[51] }, type := 9, pos := "law.go:131", after := #[{ on := 71, ground := Ground.data }, { on := 70, ground := Ground.chain }, { on := 70, ground := Ground.guard }], guard := some (70, true) }
def o19_73 : Oper := { dst := some 174, op := Op.fieldAddr 51 (Operand.tmp 6) 0, type := 0, pos := "law.go:131", after := #[{ on := 70, ground := Ground.guard }], guard := some (70, true) }
def o19_74 : Oper := { dst := some 175, op := Op.load 9 (Operand.tmp 174), type := 9, pos := "law.go:131", after := #[{ on := 73, ground := Ground.data }, { on := 70, ground := Ground.guard }], guard := some (70, true) }
def o19_75 : Oper := { dst := some 176, op := Op.buildSlice 59 2 #[(0, Operand.const (Value.string { data := #[99] })), (1, Operand.tmp 175)], type := 59, pos := "law.go:131", after := #[{ on := 74, ground := Ground.data }, { on := 70, ground := Ground.guard }], guard := some (70, true) }
def o19_76 : Oper := { dst := some 177, op := Op.call { callee := Callee.value (Operand.func 36), args := #[Operand.tmp 176], argTypes := #[59] }, type := 9, pos := "law.go:131", after := #[{ on := 75, ground := Ground.data }, { on := 72, ground := Ground.chain }, { on := 70, ground := Ground.guard }], guard := some (70, true) }
def o19_77 : Oper := { dst := some 178, op := Op.binOp BinOp.eql 9 (Operand.tmp 173) (Operand.tmp 177) 9, type := 4, pos := "law.go:131", after := #[{ on := 72, ground := Ground.data }, { on := 76, ground := Ground.data }, { on := 70, ground := Ground.guard }], guard := some (70, true) }
def o19_78 : Oper := { dst := some 179, op := Op.pick (Operand.tmp 171) (Operand.tmp 178) (Operand.const (Value.bool false)), type := 4, pos := "law.go:131", after := #[{ on := 70, ground := Ground.data }, { on := 77, ground := Ground.data }], guard := none }
def o19_79 : Oper := { dst := some 12, op := Op.assign (Operand.tmp 179), type := 4, pos := "law.go:131", after := #[{ on := 78, ground := Ground.data }, { on := 76, ground := Ground.chain }, { on := 0, ground := Ground.phase }, { on := 1, ground := Ground.phase }, { on := 2, ground := Ground.phase }, { on := 3, ground := Ground.phase }, { on := 4, ground := Ground.phase }, { on := 5, ground := Ground.phase }, { on := 6, ground := Ground.phase }, { on := 7, ground := Ground.phase }, { on := 8, ground := Ground.phase }, { on := 9, ground := Ground.phase }, { on := 10, ground := Ground.phase }, { on := 11, ground := Ground.phase }, { on := 12, ground := Ground.phase }, { on := 13, ground := Ground.phase }, { on := 14, ground := Ground.phase }, { on := 15, ground := Ground.phase }, { on := 16, ground := Ground.phase }, { on := 17, ground := Ground.phase }, { on := 18, ground := Ground.phase }, { on := 19, ground := Ground.phase }, { on := 20, ground := Ground.phase }, { on := 21, ground := Ground.phase }, { on := 22, ground := Ground.phase }, { on := 23, ground := Ground.phase }, { on := 24, ground := Ground.phase }, { on := 25, ground := Ground.phase }, { on := 26, ground := Ground.phase }, { on := 27, ground := Ground.phase }, { on := 28, ground := Ground.phase }, { on := 29, ground := Ground.phase }, { on := 30, ground := Ground.phase }, { on := 31, ground := Ground.phase }, { on := 32, ground := Ground.phase }, { on := 33, ground := Ground.phase }, { on := 34, ground := Ground.phase }, { on := 35, ground := Ground.phase }, { on := 36, ground := Ground.phase }, { on := 37, ground := Ground.phase }, { on := 38, ground := Ground.phase }, { on := 39, ground := Ground.phase }, { on := 40, ground := Ground.phase }, { on := 41, ground := Ground.phase }, { on := 42, ground := Ground.phase }, { on := 43, ground := Ground.phase }, { on := 44, ground := Ground.phase }, { on := 45, ground := Ground.phase }, { on := 46, ground := Ground.phase }, { on := 47, ground := Ground.phase }, { on := 48, ground := Ground.phase }, { on := 49, ground := Ground.phase }, { on := 50, ground := Ground.phase }, { on := 51, ground := Ground.phase }, { on := 52, ground := Ground.phase }, { on := 53, ground := Ground.phase }, { on := 54, ground := Ground.phase }, { on := 55, ground := Ground.phase }, { on := 56, ground := Ground.phase }, { on := 57, ground := Ground.phase }, { on := 58, ground := Ground.phase }, { on := 59, ground := Ground.phase }, { on := 60, ground := Ground.phase }, { on := 61, ground := Ground.phase }, { on := 62, ground := Ground.phase }, { on := 63, ground := Ground.phase }, { on := 64, ground := Ground.phase }, { on := 65, ground := Ground.phase }, { on := 66, ground := Ground.phase }, { on := 67, ground := Ground.phase }, { on := 68, ground := Ground.phase }, { on := 69, ground := Ground.phase }, { on := 70, ground := Ground.phase }, { on := 71, ground := Ground.phase }, { on := 72, ground := Ground.phase }, { on := 73, ground := Ground.phase }, { on := 74, ground := Ground.phase }, { on := 75, ground := Ground.phase }, { on := 76, ground := Ground.phase }, { on := 77, ground := Ground.phase }, { on := 78, ground := Ground.phase }], guard := none }
theorem row_of {k : Nat} {W0 W : World} (_ : Below k W0 W) (cs : Array Value) : RowAt cs W.heap.size (W.alloc (.cells cs 9)) := row_new cs W rfl
def ops19 : Array Oper := [o19_0, o19_1, o19_2, o19_3, o19_4, o19_5, o19_6, o19_7, o19_8, o19_9, o19_10, o19_11, o19_12, o19_13, o19_14, o19_15, o19_16, o19_17, o19_18, o19_19, o19_20, o19_21, o19_22, o19_23, o19_24, o19_25, o19_26, o19_27, o19_28, o19_29, o19_30, o19_31, o19_32, o19_33, o19_34, o19_35, o19_36, o19_37, o19_38, o19_39, o19_40, o19_41, o19_42, o19_43, o19_44, o19_45, o19_46, o19_47, o19_48, o19_49, o19_50, o19_51, o19_52, o19_53, o19_54, o19_55, o19_56, o19_57, o19_58, o19_59, o19_60, o19_61, o19_62, o19_63, o19_64, o19_65, o19_66, o19_67, o19_68, o19_69, o19_70, o19_71, o19_72, o19_73, o19_74, o19_75, o19_76, o19_77, o19_78, o19_79].toArray


set_option maxHeartbeats 20000000 in
set_option maxRecDepth 100000 in
theorem main (w : World) (cn : ByteArray) (ca : Option Addr) (clen ccap : Nat) (cxs : List Ix) (hcc : IxsCame w ca clen ccap cxs) (x : Ix) (u0 : V) (la : Option Addr) (lc : Nat) (fa : Option Addr) (fc : Nat) (hu0 : u0.Is w (.slice la u0.list.length lc) (.slice fa u0.fields.length fc)) (nu0 : u0.n64) (v0 : V) (ma : Option Addr) (mc : Nat) (na : Option Addr) (nc : Nat) (hv0 : v0.Is w (.slice ma v0.list.length mc) (.slice na v0.fields.length nc)) (nv0 : v0.n64) (ta tb : ByteArray) (f0 : fewCo cn cxs = true) (f1 : ¬ (60 : Int) < (x.name.size : Int)) (f2 : u0.few 0 = true) (f3 : v0.few 0 = true) (f4 : ¬ (60 : Int) < (ta.size : Int)) (f5 : ¬ (60 : Int) < (tb.size : Int)) :
    Calls Try.prog 7 #[.agg #[.string cn, .slice ca clen ccap], .agg #[.string x.name, .string x.field, .bool x.uniq], .agg #[.int .i64 u0.kind, .bool u0.yes, .int .i64 u0.num, .string u0.text, .slice la u0.list.length lc, .slice fa u0.fields.length fc], .agg #[.int .i64 v0.kind, .bool v0.yes, .int .i64 v0.num, .string v0.text, .slice ma v0.list.length mc, .slice na v0.fields.length nc], .string ta, .string tb] w fun e w' => e = .returned (.bool true) ∧ Below w.heap.size w w' := by
  have HH := Lib.hid head13_any
  have HFC : Hid (∀ W, Below w.heap.size w W → Calls Try.prog 30 #[.agg #[.string cn, .slice ca clen ccap]] W fun e w' => e = .returned (.bool (fewCo cn cxs)) ∧ Below W.heap.size W w') := Lib.hid fun W hb => cfew_any (hcc.2.2.2.1.below hb) hcc.1 (by have := hcc.2.1; have := hcc.2.2.1; omega) cn
  have HFU : Hid (∀ W, Below w.heap.size w W → Calls Try.prog 10 #[.agg #[.int .i64 u0.kind, .bool u0.yes, .int .i64 u0.num, .string u0.text, .slice la u0.list.length lc, .slice fa u0.fields.length fc], .int .i64 0] W fun e w' => e = .returned (.bool (u0.few 0)) ∧ Below W.heap.size W w') := Lib.hid fun W hb => few_any u0 _ _ W (hu0.below hb)
  have HFV : Hid (∀ W, Below w.heap.size w W → Calls Try.prog 10 #[.agg #[.int .i64 v0.kind, .bool v0.yes, .int .i64 v0.num, .string v0.text, .slice ma v0.list.length mc, .slice na v0.fields.length nc], .int .i64 0] W fun e w' => e = .returned (.bool (v0.few 0)) ∧ Below W.heap.size W w') := Lib.hid fun W hb => few_any v0 _ _ W (hv0.below hb)
  have HX := Lib.hid (four w #[.string cn, .slice ca clen ccap] #[.string x.name, .string x.field, .bool x.uniq] #[.int .i64 u0.kind, .bool u0.yes, .int .i64 u0.num, .string u0.text, .slice la u0.list.length lc, .slice fa u0.fields.length fc] #[.int .i64 v0.kind, .bool v0.yes, .int .i64 v0.num, .string v0.text, .slice ma v0.list.length mc, .slice na v0.fields.length nc] 51 56 26 26)
  have hRu := fun W h => lright_any u0 0 f2 (.slice la u0.list.length lc) (.slice fa u0.fields.length fc) W h
  have pu := rv_pl u0.dep u0 (Nat.le_refl _)
  have nu := rv_n64 u0.dep u0 (Nat.le_refl _) nu0
  have lu := ordVals.few_ob 7 u0.rv 0 (by omega) (rv_few u0.dep u0 0 (Nat.le_refl _) f2)
  rw [show (1000 * 9 ^ 7 : Nat) = 4782969000 by decide] at lu
  have HSu : Hid (∀ W, Below w.heap.size w W → u0.Is W (.slice la u0.list.length lc) (.slice fa u0.fields.length fc)) := Lib.hid fun W hb => hu0.below hb
  obtain ⟨u, hu⟩ : ∃ z, z = u0.rv := ⟨_, rfl⟩
  rw [← hu] at hRu pu nu lu
  have HRu : Hid (∀ W, u0.Is W (.slice la u0.list.length lc) (.slice fa u0.fields.length fc) → Calls Try.prog 11 #[.agg #[.int .i64 u0.kind, .bool u0.yes, .int .i64 u0.num, .string u0.text, .slice la u0.list.length lc, .slice fa u0.fields.length fc]] W (RvP u W)) := Lib.hid hRu
  have HKu := Lib.hid (And.intro (ordVals.pl_okk u.dep u (Nat.le_refl _) pu nu) lu)
  clear hu hRu lu
  have hRv := fun W h => lright_any v0 0 f3 (.slice ma v0.list.length mc) (.slice na v0.fields.length nc) W h
  have pv := rv_pl v0.dep v0 (Nat.le_refl _)
  have nv := rv_n64 v0.dep v0 (Nat.le_refl _) nv0
  have lv := ordVals.few_ob 7 v0.rv 0 (by omega) (rv_few v0.dep v0 0 (Nat.le_refl _) f3)
  rw [show (1000 * 9 ^ 7 : Nat) = 4782969000 by decide] at lv
  have HSv : Hid (∀ W, Below w.heap.size w W → v0.Is W (.slice ma v0.list.length mc) (.slice na v0.fields.length nc)) := Lib.hid fun W hb => hv0.below hb
  obtain ⟨v, hv⟩ : ∃ z, z = v0.rv := ⟨_, rfl⟩
  rw [← hv] at hRv pv nv lv
  have HRv : Hid (∀ W, v0.Is W (.slice ma v0.list.length mc) (.slice na v0.fields.length nc) → Calls Try.prog 11 #[.agg #[.int .i64 v0.kind, .bool v0.yes, .int .i64 v0.num, .string v0.text, .slice ma v0.list.length mc, .slice na v0.fields.length nc]] W (RvP v W)) := Lib.hid hRv
  have HKv := Lib.hid (And.intro (ordVals.pl_okk v.dep v (Nat.le_refl _) pv nv) lv)
  clear hv hRv lv
  obtain ⟨X, hX⟩ : ∃ X, X = u.cmp v := ⟨_, rfl⟩
  have HTX : Hid (X = -1 ∨ X = 0 ∨ X = 1) := Lib.hid (by rw [hX]; exact three_all u v)
  have HXX := Lib.hid hX
  obtain ⟨R, hRR⟩ : ∃ R, R = ordR x X ta tb := ⟨_, rfl⟩
  have HRR : Hid (R = ordR x X ta tb) := Lib.hid hRR
  have HR3 : Hid (R = -1 ∨ R = 0 ∨ R = 1) := Lib.hid (by
    rw [hRR]
    unfold ordR
    split
    · exact cmpL_three _ _
    · rw [hX]; exact three_all u v)
  have HPQ : Hid (cmpL (eB cn x u ta) (eB cn x v tb) = R) := Lib.hid (by rw [eB_cmp cn x u v ta tb pu pv nu nv, hRR, hX])
  have fsz := fewCo_of f0
  have HSZ : Hid (cn.size ≤ 1000 ∧ x.name.size ≤ 1000 ∧ ta.size ≤ 1000 ∧ tb.size ≤ 1000) := Lib.hid (by obtain ⟨h1, _⟩ := fsz; exact ⟨by omega, by omega, by omega, by omega⟩)
  clear pu nu pv nv fsz hX hRR
  obtain ⟨W0, hW0⟩ : ∃ W0, W0 = (((w.alloc (.cells #[.string cn, .slice ca clen ccap] 51)).alloc (.cells #[.string x.name, .string x.field, .bool x.uniq] 56)).alloc (.cells #[.int .i64 u0.kind, .bool u0.yes, .int .i64 u0.num, .string u0.text, .slice la u0.list.length lc, .slice fa u0.fields.length fc] 26)).alloc (.cells #[.int .i64 v0.kind, .bool v0.yes, .int .i64 v0.num, .string v0.text, .slice ma v0.list.length mc, .slice na v0.fields.length nc] 26) := ⟨_, rfl⟩
  rw [← hW0] at HX
  clear hcc hu0 hv0 nu0 nv0
  rw [f0] at HFC
  rw [f2] at HFU
  rw [f3] at HFV
  clear f0 f2 f3
  go_enter Try.func7, Try.ntmps7
  go_wp2_with fail
  rw [← hW0]
  clear hW0
  refine (HH.out _).mono ?_
  rintro e w1 ⟨rfl, hb1⟩
  have HB1 := Lib.hid hb1
  clear hb1 HH
  obtain ⟨hbw, hzw, b0, b1, b2, b3⟩ := HX.out w1 HB1.out
  have HBW1 := Lib.hid hbw
  have HZ1 := Lib.hid hzw
  obtain ⟨p0, p1⟩ := Box.two b0
  obtain ⟨r0, r1, r2⟩ := Box.three b1
  obtain ⟨⟨s0, s1, s2, s3, s4, s5⟩, _⟩ := b2.six
  obtain ⟨⟨t0, t1, t2, t3, t4, t5⟩, _⟩ := b3.six
  clear hbw hzw b0 b1 b2 b3
  go_wp2_with fail
  refine (HFC.out w1 HBW1.out).mono ?_
  rintro e w2 ⟨rfl, hb⟩
  have HB2 := Lib.hid (HB1.out.trans (hb.mono HB1.out.size))
  clear hb HFC
  clear p0 p1 r0 r1 r2 s0 s1 s2 s3 s4 s5 t0 t1 t2 t3 t4 t5
  obtain ⟨hbw, hzw, b0, b1, b2, b3⟩ := HX.out w2 HB2.out
  have HBW2 := Lib.hid hbw
  have HZ2 := Lib.hid hzw
  obtain ⟨p0, p1⟩ := Box.two b0
  obtain ⟨r0, r1, r2⟩ := Box.three b1
  obtain ⟨⟨s0, s1, s2, s3, s4, s5⟩, _⟩ := b2.six
  obtain ⟨⟨t0, t1, t2, t3, t4, t5⟩, _⟩ := b3.six
  clear hbw hzw b0 b1 b2 b3
  go_wp2_with fail
  refine (HFU.out w2 HBW2.out).mono ?_
  rintro e w3 ⟨rfl, hb⟩
  have HB3 := Lib.hid (HB2.out.trans (hb.mono HB2.out.size))
  clear hb HFU
  clear p0 p1 r0 r1 r2 s0 s1 s2 s3 s4 s5 t0 t1 t2 t3 t4 t5
  obtain ⟨hbw, hzw, b0, b1, b2, b3⟩ := HX.out w3 HB3.out
  have HBW3 := Lib.hid hbw
  have HZ3 := Lib.hid hzw
  obtain ⟨p0, p1⟩ := Box.two b0
  obtain ⟨r0, r1, r2⟩ := Box.three b1
  obtain ⟨⟨s0, s1, s2, s3, s4, s5⟩, _⟩ := b2.six
  obtain ⟨⟨t0, t1, t2, t3, t4, t5⟩, _⟩ := b3.six
  clear hbw hzw b0 b1 b2 b3
  go_wp2_with fail
  refine (HFV.out w3 HBW3.out).mono ?_
  rintro e w4 ⟨rfl, hb⟩
  have HB4 := Lib.hid (HB3.out.trans (hb.mono HB3.out.size))
  clear hb HFV
  clear p0 p1 r0 r1 r2 s0 s1 s2 s3 s4 s5 t0 t1 t2 t3 t4 t5
  obtain ⟨hbw, hzw, b0, b1, b2, b3⟩ := HX.out w4 HB4.out
  have HBW4 := Lib.hid hbw
  have HZ4 := Lib.hid hzw
  obtain ⟨p0, p1⟩ := Box.two b0
  obtain ⟨r0, r1, r2⟩ := Box.three b1
  obtain ⟨⟨s0, s1, s2, s3, s4, s5⟩, _⟩ := b2.six
  obtain ⟨⟨t0, t1, t2, t3, t4, t5⟩, _⟩ := b3.six
  clear hbw hzw b0 b1 b2 b3
  go_upto_region 5 with fail
  clear p0 p1 r0 r1 r2 s0 s1 s2 s3 s4 s5 t0 t1 t2 t3 t4 t5
  go_cut [12] (fun _ wx => Hid (Below w.heap.size w wx ∧ w.heap.size + 4 ≤ wx.heap.size ∧ Box wx (w.heap.size) 51 #[.string cn, .slice ca clen ccap] ∧ Box wx (w.heap.size + 1) 56 #[.string x.name, .string x.field, .bool x.uniq] ∧ Box wx (w.heap.size + 3) 26 #[.int .i64 v0.kind, .bool v0.yes, .int .i64 v0.num, .string v0.text, .slice ma v0.list.length mc, .slice na v0.fields.length nc] ∧ In6 wx (w.heap.size + 4) (w.heap.size + 2) u))
  case first =>
    obtain ⟨hbw, hzw, b0, b1, b2, b3⟩ := HX.out w4 HB4.out
    obtain ⟨⟨s0, s1, s2, s3, s4, s5⟩, g0, g1, g2, g3, g4, g5⟩ := b2.six
    have HBX := Lib.hid (And.intro b0 (And.intro b1 (And.intro b2 b3)))
    have HRi := Lib.hid (HRu.out _ (HSu.out _ hbw))
    clear b0 b1 b2 b3 hbw hzw
    go_wp2_with fail
    refine HRi.out.mono ?_
    rintro e w5 ⟨lu, fu, rfl, hat, hb5⟩
    obtain ⟨⟨ax, cx, rfl⟩, ⟨ay, cy, rfl⟩, _, _⟩ := hat.is.len
    have HAT := Lib.hid hat
    have HB5 := Lib.hid hb5
    clear hat hb5 HRi s0 s1 s2 s3 s4 s5 g0 g1 g2 g3 g4 g5
    have HBX5 := Lib.hid ((HB5.out.block _ HBX.out.2.2.1.lt).trans HBX.out.2.2.1)
    obtain ⟨⟨s0, s1, s2, s3, s4, s5⟩, g0, g1, g2, g3, g4, g5⟩ := Box.six HBX5.out
    go_wp2_with fail
    go_meet
    have k5 : ∀ q, q < w.heap.size + 4 → q ≠ w.heap.size + 2 → (st6 w5 (w.heap.size + 2) (.int .i64 u.kind) (.bool u.yes) (.int .i64 u.num) (.string u.text) (.slice ax u.list.length cx) (.slice ay u.fields.length cy)).heap[q]? = w4.heap[q]? := fun q hq hne => (st6_far _ _ _ _ _ _ q hne).trans (HB5.out.block q (by have := HZ4.out; omega))
    have z5 := HB5.out.size
    have z4 := HZ4.out
    refine Lib.hid ⟨st6_below (HBW4.out.trans (HB5.out.mono HBW4.out.size)) (by omega) _ _ _ _ _ _, ?_, (k5 _ (by omega) (by omega)).trans HBX.out.1, (k5 _ (by omega) (by omega)).trans HBX.out.2.1, (k5 _ (by omega) (by omega)).trans HBX.out.2.2.2, in6_new rfl HBX5.out (by omega) (by omega) u ax cx ay cy HAT.out⟩
    rw [show ∀ (W : World) (b : Nat) (c0 c1 c2 c3 c4 c5 : Value), ((((((W.setCell ⟨b, 0, none⟩ c0).setCell ⟨b, 1, none⟩ c1).setCell ⟨b, 2, none⟩ c2).setCell ⟨b, 3, none⟩ c3).setCell ⟨b, 4, none⟩ c4).setCell ⟨b, 5, none⟩ c5).heap.size = W.heap.size from fun W b c0 c1 c2 c3 c4 c5 => st6_size c0 c1 c2 c3 c4 c5]
    omega
  case rest =>
    have HCUT1 := hcut
    clear hcut
    go_upto_region 6 with fail
    go_cut [12] (fun _ wx => Hid (Below w.heap.size w wx ∧ w.heap.size + 4 ≤ wx.heap.size ∧ Box wx (w.heap.size) 51 #[.string cn, .slice ca clen ccap] ∧ Box wx (w.heap.size + 1) 56 #[.string x.name, .string x.field, .bool x.uniq] ∧ In6 wx (w.heap.size + 4) (w.heap.size + 2) u ∧ In6 wx (w.heap.size + 4) (w.heap.size + 3) v))
    case first =>
      obtain ⟨hbw, hzw, b0, b1, b3, b2⟩ := HCUT1.out
      obtain ⟨⟨t0, t1, t2, t3, t4, t5⟩, g0, g1, g2, g3, g4, g5⟩ := b3.six
      have HBX := Lib.hid (And.intro b0 (And.intro b1 (And.intro b2 b3)))
      have HRi := Lib.hid (HRv.out _ (HSv.out _ hbw))
      have HBWc := Lib.hid hbw
      have HZc := Lib.hid hzw
      clear b0 b1 b2 b3 hbw hzw
      go_wp2_with fail
      refine HRi.out.mono ?_
      rintro e w5 ⟨lu, fu, rfl, hat, hb5⟩
      obtain ⟨⟨ax, cx, rfl⟩, ⟨ay, cy, rfl⟩, _, _⟩ := hat.is.len
      have HAT := Lib.hid hat
      have HB5 := Lib.hid hb5
      clear hat hb5 HRi t0 t1 t2 t3 t4 t5 g0 g1 g2 g3 g4 g5
      have HBX5 := Lib.hid ((HB5.out.block _ HBX.out.2.2.2.lt).trans HBX.out.2.2.2)
      obtain ⟨⟨t0, t1, t2, t3, t4, t5⟩, g0, g1, g2, g3, g4, g5⟩ := Box.six HBX5.out
      go_wp2_with fail
      go_meet
      have k5 : ∀ q, q < w.heap.size + 4 → q ≠ w.heap.size + 3 → (st6 w5 (w.heap.size + 3) (.int .i64 v.kind) (.bool v.yes) (.int .i64 v.num) (.string v.text) (.slice ax v.list.length cx) (.slice ay v.fields.length cy)).heap[q]? = wc.heap[q]? := fun q hq hne => (st6_far _ _ _ _ _ _ q hne).trans (HB5.out.block q (by have := HZc.out; omega))
      have z5 := HB5.out.size
      have z4 := HZc.out
      refine Lib.hid ⟨st6_below (HBWc.out.trans (HB5.out.mono HBWc.out.size)) (by omega) _ _ _ _ _ _, ?_, (k5 _ (by omega) (by omega)).trans HBX.out.1, (k5 _ (by omega) (by omega)).trans HBX.out.2.1, In6.keep (HBX.out.2.2.1.below HB5.out) (by omega) (by omega) (st6_far _ _ _ _ _ _) (Nat.le_of_eq (st6_size _ _ _ _ _ _).symm), in6_new rfl HBX5.out (by omega) (by omega) v ax cx ay cy HAT.out⟩
      rw [show ∀ (W : World) (b : Nat) (c0 c1 c2 c3 c4 c5 : Value), ((((((W.setCell ⟨b, 0, none⟩ c0).setCell ⟨b, 1, none⟩ c1).setCell ⟨b, 2, none⟩ c2).setCell ⟨b, 3, none⟩ c3).setCell ⟨b, 4, none⟩ c4).setCell ⟨b, 5, none⟩ c5).heap.size = W.heap.size from fun W b c0 c1 c2 c3 c4 c5 => st6_size c0 c1 c2 c3 c4 c5]
      omega
    case rest =>
      obtain ⟨hbw0, hz0, b0, b1, ⟨ua, uc, ga, gc, b2, hatu⟩, va, vc, ha, hc, b3, hatv⟩ := hcut.out
      have HXC : Hid (∀ W, Below wc.heap.size wc W → Below w.heap.size w W ∧ w.heap.size + 4 ≤ W.heap.size ∧ Box W w.heap.size 51 #[.string cn, .slice ca clen ccap] ∧ Box W (w.heap.size + 1) 56 #[.string x.name, .string x.field, .bool x.uniq] ∧ Box W (w.heap.size + 2) 26 #[.int .i64 u.kind, .bool u.yes, .int .i64 u.num, .string u.text, .slice ua u.list.length uc, .slice ga u.fields.length gc] ∧ Box W (w.heap.size + 3) 26 #[.int .i64 v.kind, .bool v.yes, .int .i64 v.num, .string v.text, .slice va v.list.length vc, .slice ha v.fields.length hc]) := Lib.hid fun W hb =>
        ⟨hbw0.trans (hb.mono hbw0.size), Nat.le_trans hz0 hb.size, (hb.block _ b0.lt).trans b0, (hb.block _ b1.lt).trans b1, (hb.block _ b2.lt).trans b2, (hb.block _ b3.lt).trans b3⟩
      have HE1 : Hid (∀ W, Below wc.heap.size wc W → Calls Try.prog 31 #[.agg #[.string cn, .slice ca clen ccap], .agg #[.string x.name, .string x.field, .bool x.uniq], .agg #[.int .i64 u.kind, .bool u.yes, .int .i64 u.num, .string u.text, .slice ua u.list.length uc, .slice ga u.fields.length gc], .string ta] W fun e w' => e = .returned (.string ⟨(eB cn x u ta).toArray⟩) ∧ Below W.heap.size W w') := Lib.hid fun W hb => entry_any cn x u ta (.slice ca clen ccap) ua uc ga gc ⟨_, _, _, rfl⟩ W (V.At.move (fun q hq hlt => ⟨hq, hb.block q hlt⟩) hb.size _ (Nat.le_refl _) hatu) HKu.out.1 (by have := HKu.out.2; omega) (by have := HSZ.out; omega) (by have := HSZ.out; omega) (by have := HSZ.out; omega)
      have HE2 : Hid (∀ W, Below wc.heap.size wc W → Calls Try.prog 31 #[.agg #[.string cn, .slice ca clen ccap], .agg #[.string x.name, .string x.field, .bool x.uniq], .agg #[.int .i64 v.kind, .bool v.yes, .int .i64 v.num, .string v.text, .slice va v.list.length vc, .slice ha v.fields.length hc], .string tb] W fun e w' => e = .returned (.string ⟨(eB cn x v tb).toArray⟩) ∧ Below W.heap.size W w') := Lib.hid fun W hb => entry_any cn x v tb (.slice ca clen ccap) va vc ha hc ⟨_, _, _, rfl⟩ W (V.At.move (fun q hq hlt => ⟨hq, hb.block q hlt⟩) hb.size _ (Nat.le_refl _) hatv) HKv.out.1 (by have := HKv.out.2; omega) (by have := HSZ.out; omega) (by have := HSZ.out; omega) (by have := HSZ.out; omega)
      have HCM : Hid (∀ W, Below wc.heap.size wc W → Calls Try.prog 13 #[.agg #[.int .i64 u.kind, .bool u.yes, .int .i64 u.num, .string u.text, .slice ua u.list.length uc, .slice ga u.fields.length gc], .agg #[.int .i64 v.kind, .bool v.yes, .int .i64 v.num, .string v.text, .slice va v.list.length vc, .slice ha v.fields.length hc]] W fun e w' => e = .returned (.int .i64 X) ∧ Below W.heap.size W w') := Lib.hid fun W hb => by have h := cmp_any u v _ _ _ _ W (V.At.is (V.At.move (fun q hq hlt => ⟨hq, hb.block q hlt⟩) hb.size _ (Nat.le_refl _) hatu)) (V.At.is (V.At.move (fun q hq hlt => ⟨hq, hb.block q hlt⟩) hb.size _ (Nat.le_refl _) hatv)); rw [← HXX.out] at h; exact h
      obtain ⟨P, hP⟩ : ∃ P, P = (⟨(eB cn x u ta).toArray⟩ : ByteArray) := ⟨_, rfl⟩
      obtain ⟨Q, hQ⟩ : ∃ Q, Q = (⟨(eB cn x v tb).toArray⟩ : ByteArray) := ⟨_, rfl⟩
      obtain ⟨KC, hKC⟩ : ∃ z, z = kS [tC, cn] := ⟨_, rfl⟩
      obtain ⟨DA, hDA⟩ : ∃ z, z = kS [tD, cn, ta] := ⟨_, rfl⟩
      obtain ⟨DB, hDB⟩ : ∃ z, z = kS [tD, cn, tb] := ⟨_, rfl⟩
      obtain ⟨SB, hSB⟩ : ∃ z, z = kS [tD, cn] := ⟨_, rfl⟩
      obtain ⟨EN, hEN⟩ : ∃ z, z = kS [tI, cn, x.name] := ⟨_, rfl⟩
      have HLS := Lib.hid (less_of P Q R (by rw [hP, hQ]; simpa using HPQ.out))
      have HDD : Hid ((DA.toList == DB.toList) = (ta.toList == tb.toList)) := Lib.hid (by
        rw [hDA, hDB, Bool.eq_iff_iff, beq_iff_eq, beq_iff_eq]
        constructor
        · intro e
          rw [Lib.toList_data, Lib.toList_data] at e
          have := kS_inj (ByteArray.ext (Array.toList_inj.1 e))
          injection this with _ this
          injection this with _ this
          injection this with this
          rw [this]
        · intro e
          rw [Lib.toList_data, Lib.toList_data] at e
          rw [ByteArray.ext (Array.toList_inj.1 e)])
      have HBD : Hid (∀ W, Calls Try.prog 32 #[.string DA, .string SB] W fun e w' => e = .returned (.bool true) ∧ W = w') := Lib.hid fun W => by have h := begK_any DA SB W; rw [hDA, hSB] at h ⊢; rw [beg_docs] at h; exact h
      have HBE : Hid (∀ W, Calls Try.prog 32 #[.string P, .string EN] W fun e w' => e = .returned (.bool true) ∧ W = w') := Lib.hid fun W => by have h := begK_any P EN W; rw [hP, hEN] at h ⊢; rw [beg_entries] at h; exact h
      have HPT : Hid (∀ W, Calls Try.prog 33 #[.string DA] W fun e w' => ∃ pb pc, e = .returned (.tuple #[.slice (some ⟨pb, 0, none⟩) 3 pc, .int .i64 0]) ∧ Below W.heap.size W w' ∧ Hid (pb < w'.heap.size ∧ w'.cell? ⟨pb, 0, none⟩ = some (.string tD) ∧ w'.cell? ⟨pb, 0 + 1, none⟩ = some (.string cn) ∧ w'.cell? ⟨pb, 0 + 2, none⟩ = some (.string ta))) := Lib.hid fun W => by
        have hsz := HSZ.out
        refine (parts_any DA (by rw [hDA]; exact kS_size _ (by simp; exact ⟨by decide, by omega, by omega⟩) (by simp)) W).mono ?_
        rintro e w' ⟨hb, ⟨hno, _⟩ | ⟨ps, a, c, hps, rfl, hss⟩⟩
        · exact absurd (by rw [hDA, kS_list]) (hno (txts [tD, cn, ta]))
        · rw [hDA, kS_list] at hps
          obtain rfl := txts_inj (oK_inj _ _ hps)
          have hss' := hss
          rcases hss.2 with ⟨_, h0⟩ | ⟨g, cap, cur, hv, _⟩
          · cases h0
          · injection hv with hv1 hv2 hv3
            subst hv1
            rcases (sRow.Ss.srow hss').2 with h | ⟨b, off, e, hlt, hc⟩
            · cases h
            · injection e with e
              injection e with e1 e2
              subst e1 e2
              exact ⟨g, c, rfl, hb, Lib.hid ⟨hlt, hc 0 (by simp), hc 1 (by simp), hc 2 (by simp)⟩⟩
      have HDA : Hid (∀ W, Calls Try.prog 34 #[.agg #[.string cn, .slice ca clen ccap], .string ta] W fun e w' => e = .returned (.string DA) ∧ Below W.heap.size W w') := Lib.hid fun W => by have h := cdoc_any cn ta (.slice ca clen ccap) (by have := HSZ.out; omega) (by have := HSZ.out; omega) ⟨_, _, _, rfl⟩ W; rw [← hDA] at h; exact h
      have HDB : Hid (∀ W, Calls Try.prog 34 #[.agg #[.string cn, .slice ca clen ccap], .string tb] W fun e w' => e = .returned (.string DB) ∧ Below W.heap.size W w') := Lib.hid fun W => by have h := cdoc_any cn tb (.slice ca clen ccap) (by have := HSZ.out; omega) (by have := HSZ.out; omega) ⟨_, _, _, rfl⟩ W; rw [← hDB] at h; exact h
      have HSB : Hid (∀ W, Calls Try.prog 37 #[.agg #[.string cn, .slice ca clen ccap]] W fun e w' => e = .returned (.string SB) ∧ Below W.heap.size W w') := Lib.hid fun W => by have h := cdocs_any cn (.slice ca clen ccap) (by have := HSZ.out; omega) ⟨_, _, _, rfl⟩ W; rw [← hSB] at h; exact h
      have HKC : Hid (∀ W, Calls Try.prog 38 #[.agg #[.string cn, .slice ca clen ccap]] W fun e w' => e = .returned (.string KC) ∧ Below W.heap.size W w') := Lib.hid fun W => by have h := ckey_any cn (.slice ca clen ccap) (by have := HSZ.out; omega) ⟨_, _, _, rfl⟩ W; rw [← hKC] at h; exact h
      have HEN : Hid (∀ W, Calls Try.prog 35 #[.agg #[.string cn, .slice ca clen ccap], .agg #[.string x.name, .string x.field, .bool x.uniq]] W fun e w' => e = .returned (.string EN) ∧ Below W.heap.size W w') := Lib.hid fun W => by have h := centries_any cn (.slice ca clen ccap) x (by have := HSZ.out; omega) (by have := HSZ.out; omega) ⟨_, _, _, rfl⟩ W; rw [← hEN] at h; exact h
      have HK3 : Hid (∀ W, Calls Try.prog 36 #[.slice (some ⟨W.heap.size, 0, none⟩) 3 3] (W.alloc (.cells #[.string ⟨#[105]⟩, .string cn, .string x.name] 9)) fun e w' => e = .returned (.string EN) ∧ Below W.heap.size W w') := Lib.hid fun W => by have h := key_new #[.string ⟨#[105]⟩, .string cn, .string x.name] [tI, cn, x.name] rfl (by have := HSZ.out; simp; exact ⟨by decide, by omega, by omega⟩) (by simp) 3 rfl W; rw [hEN]; exact h
      have HK2 : Hid (∀ W, Calls Try.prog 36 #[.slice (some ⟨W.heap.size, 0, none⟩) 2 2] (W.alloc (.cells #[.string ⟨#[99]⟩, .string cn] 9)) fun e w' => e = .returned (.string KC) ∧ Below W.heap.size W w') := Lib.hid fun W => by have h := key_new #[.string ⟨#[99]⟩, .string cn] [tC, cn] rfl (by have := HSZ.out; simp; exact ⟨by decide, by omega⟩) (by simp) 2 rfl W; rw [hKC]; exact h
      have HK3B : Hid (∀ b W, RowAt #[.string ⟨#[105]⟩, .string cn, .string x.name] b W → Calls Try.prog 36 #[.slice (some ⟨b, 0, none⟩) 3 3] W fun e w' => e = .returned (.string EN) ∧ Below W.heap.size W w') := Lib.hid fun b W hb => by have h := key_at [tI, cn, x.name] (by have := HSZ.out; simp; exact ⟨by decide, by omega, by omega⟩) (by simp) b W hb; rw [hEN]; exact h
      have HK2B : Hid (∀ b W, RowAt #[.string ⟨#[99]⟩, .string cn] b W → Calls Try.prog 36 #[.slice (some ⟨b, 0, none⟩) 2 2] W fun e w' => e = .returned (.string KC) ∧ Below W.heap.size W w') := Lib.hid fun b W hb => by have h := key_at [tC, cn] (by have := HSZ.out; simp; exact ⟨by decide, by omega⟩) (by simp) b W hb; rw [hKC]; exact h
      rw [← hP] at HE1
      rw [← hQ] at HE2
      have HC0 : Hid (Below wc.heap.size wc wc) := Lib.hid (Below.refl _ _)
      clear hDA hDB hSB hEN hKC hP hQ hbw0 hz0 b0 b1 b2 b3 hatu hatv hcut HX HSu HRu HKu HSv HRv HKv HSZ HCUT1 HXX HPQ HBW4 HZ4 HBW1 HZ1 HBW2 HZ2 HBW3 HZ3 HB1 HB2 HB3 HB4
      obtain ⟨_, hzw, b0, b1, b2, b3⟩ := HXC.out wc HC0.out
      obtain ⟨p0, p1⟩ := Box.two b0
      obtain ⟨r0, r1, r2⟩ := Box.three b1
      obtain ⟨⟨s0, s1, s2, s3, s4, s5⟩, _⟩ := b2.six
      obtain ⟨⟨t0, t1, t2, t3, t4, t5⟩, _⟩ := b3.six
      clear b0 b1 b2 b3 hzw
      go_wp2_with fail
      refine (HE1.out wc HC0.out).mono ?_
      rintro e y1 ⟨rfl, hb⟩
      have HC1 := Lib.hid (HC0.out.trans (hb.mono HC0.out.size))
      clear hb
      clear p0 p1 r0 r1 r2 s0 s1 s2 s3 s4 s5 t0 t1 t2 t3 t4 t5
      obtain ⟨_, hzw, b0, b1, b2, b3⟩ := HXC.out y1 HC1.out
      obtain ⟨p0, p1⟩ := Box.two b0
      obtain ⟨r0, r1, r2⟩ := Box.three b1
      obtain ⟨⟨s0, s1, s2, s3, s4, s5⟩, _⟩ := b2.six
      obtain ⟨⟨t0, t1, t2, t3, t4, t5⟩, _⟩ := b3.six
      clear b0 b1 b2 b3 hzw
      go_wp2_with fail
      refine (HE2.out y1 HC1.out).mono ?_
      rintro e y2 ⟨rfl, hb⟩
      have HC2 := Lib.hid (HC1.out.trans (hb.mono HC1.out.size))
      clear hb
      clear p0 p1 r0 r1 r2 s0 s1 s2 s3 s4 s5 t0 t1 t2 t3 t4 t5
      obtain ⟨_, hzw, b0, b1, b2, b3⟩ := HXC.out y2 HC2.out
      obtain ⟨p0, p1⟩ := Box.two b0
      obtain ⟨r0, r1, r2⟩ := Box.three b1
      obtain ⟨⟨s0, s1, s2, s3, s4, s5⟩, _⟩ := b2.six
      obtain ⟨⟨t0, t1, t2, t3, t4, t5⟩, _⟩ := b3.six
      clear b0 b1 b2 b3 hzw
      clear HE1 HE2
      go_upto_region 9 with fail
      clear p0 p1 r0 r1 r2 s0 s1 s2 s3 s4 s5 t0 t1 t2 t3 t4 t5
      obtain ⟨WC, hWC⟩ : ∃ WC, WC = wc := ⟨_, rfl⟩
      rw [← hWC] at HC0 HC1 HC2 HXC HCM
      clear hWC
      go_cut [15] (fun z wx => z = .int .i64 X ∧ Hid (Below WC.heap.size WC wx))
      case first =>
        obtain ⟨_, hzw, b0, b1, b2, b3⟩ := HXC.out y2 HC2.out
        obtain ⟨p0, p1⟩ := Box.two b0
        obtain ⟨r0, r1, r2⟩ := Box.three b1
        obtain ⟨⟨s0, s1, s2, s3, s4, s5⟩, _⟩ := b2.six
        obtain ⟨⟨t0, t1, t2, t3, t4, t5⟩, _⟩ := b3.six
        clear b0 b1 b2 b3 hzw
        go_wp2_with fail
        refine (HCM.out y2 HC2.out).mono ?_
        rintro e y3 ⟨rfl, hb⟩
        have HC3 := Lib.hid (HC2.out.trans (hb.mono HC2.out.size))
        clear hb
        clear p0 p1 r0 r1 r2 s0 s1 s2 s3 s4 s5 t0 t1 t2 t3 t4 t5
        go_wp2_with fail
        go_meet
        exact ⟨rfl, HC3⟩
      case rest =>
        obtain ⟨rfl, HC3⟩ := hcut
        obtain ⟨y3, hy3⟩ : ∃ y, y = wc := ⟨_, rfl⟩
        rw [← hy3] at HC3 ⊢
        clear hy3 HCM
        rename_i hk
        refine hk _ _ ?_
        clear hk
        refine wp_seq_k ?_
        intro K1 hK1
        go_cut [15] (fun z wx => z = .int .i64 R ∧ y3 = wx)
        case first =>
          have hr := HRR.out
          unfold ordR at hr
          obtain ⟨_, hzw, b0, b1, b2, b3⟩ := HXC.out y3 HC3.out
          obtain ⟨p0, p1⟩ := Box.two b0
          obtain ⟨r0, r1, r2⟩ := Box.three b1
          obtain ⟨⟨s0, s1, s2, s3, s4, s5⟩, _⟩ := b2.six
          obtain ⟨⟨t0, t1, t2, t3, t4, t5⟩, _⟩ := b3.six
          clear b0 b1 b2 b3 hzw
          clear p0 p1 r0 r1 s0 s1 s2 s3 s4 s5 t0 t1 t2 t3 t4 t5
          rcases HTX.out with hx | hx | hx
          · rw [if_neg (by rw [hx]; intro h; cases h.1)] at hr
            rw [hx] at hr
            subst hx
            subst hr
            clear r2
            go_wp2_with fail
            go_meet
            exact ⟨rfl, rfl⟩
          · subst hx
            rcases Bool.eq_false_or_eq_true x.uniq with hu | hu
            · rw [hu] at r2 hr
              rw [if_neg (by simp)] at hr
              subst hr
              clear hu
              go_wp2_with fail
              go_meet
              exact ⟨rfl, rfl⟩
            · rw [hu] at r2 hr
              rw [if_pos ⟨rfl, rfl⟩] at hr
              clear hu
              rcases tri ta tb with ⟨e1, e2, e3⟩ | ⟨e1, e2, e3⟩ | ⟨e1, e2, e3⟩
              all_goals
                rw [e3] at hr
                subst hr
                clear e3
                go_wp2_with fail
                go_meet
                exact ⟨rfl, rfl⟩
          · rw [if_neg (by rw [hx]; intro h; cases h.1)] at hr
            rw [hx] at hr
            subst hx
            subst hr
            clear r2
            go_wp2_with fail
            go_meet
            exact ⟨rfl, rfl⟩
        case rest =>
          obtain ⟨rfl, rfl⟩ := hcut
          clear HRR HTX
          refine hK1 _ _ ?_
          clear hK1 K1
          refine wp_seq_k ?_
          intro K2 hK2
          go_cut [15] (fun z wx => z = .int .i64 R ∧ y3 = wx)
          case first =>
            obtain ⟨l1, l2⟩ := HLS.out
            rcases HR3.out with hr | hr | hr
            all_goals
              subst hr
              clear HLS HR3
              go_wp2_with fail
              go_meet
              exact ⟨rfl, rfl⟩
          case rest =>
            obtain ⟨rfl, rfl⟩ := hcut
            clear HR3 HLS
            refine hK2 _ _ ?_
            clear hK2 K2
            obtain ⟨_, hzw, b0, b1, b2, b3⟩ := HXC.out y3 HC3.out
            obtain ⟨p0, p1⟩ := Box.two b0
            obtain ⟨r0, r1, r2⟩ := Box.three b1
            obtain ⟨⟨s0, s1, s2, s3, s4, s5⟩, _⟩ := b2.six
            obtain ⟨⟨t0, t1, t2, t3, t4, t5⟩, _⟩ := b3.six
            clear b0 b1 b2 b3 hzw
            go_wp2_with fail
            refine (HDA.out _).mono ?_
            rintro e y4 ⟨rfl, hb⟩
            have HC4 := Lib.hid (HC3.out.trans (hb.mono HC3.out.size))
            clear hb
            clear p0 p1 r0 r1 r2 s0 s1 s2 s3 s4 s5 t0 t1 t2 t3 t4 t5
            obtain ⟨_, hzw, b0, b1, b2, b3⟩ := HXC.out y4 HC4.out
            obtain ⟨p0, p1⟩ := Box.two b0
            obtain ⟨r0, r1, r2⟩ := Box.three b1
            obtain ⟨⟨s0, s1, s2, s3, s4, s5⟩, _⟩ := b2.six
            obtain ⟨⟨t0, t1, t2, t3, t4, t5⟩, _⟩ := b3.six
            clear b0 b1 b2 b3 hzw
            go_wp2_with fail
            refine (HPT.out _).mono ?_
            rintro e y5 ⟨pb, pc, rfl, hb, HP5⟩
            have HC5 := Lib.hid (HC4.out.trans (hb.mono HC4.out.size))
            clear hb HPT
            clear p0 p1 r0 r1 r2 s0 s1 s2 s3 s4 s5 t0 t1 t2 t3 t4 t5
            obtain ⟨_, hzw, b0, b1, b2, b3⟩ := HXC.out y5 HC5.out
            obtain ⟨p0, p1⟩ := Box.two b0
            obtain ⟨r0, r1, r2⟩ := Box.three b1
            obtain ⟨⟨s0, s1, s2, s3, s4, s5⟩, _⟩ := b2.six
            obtain ⟨⟨t0, t1, t2, t3, t4, t5⟩, _⟩ := b3.six
            clear b0 b1 b2 b3 hzw
            go_upto_region 19 with fail
            have HC6 := Lib.hid (HC5.out.drew)
            clear p0 p1 r0 r1 r2 s0 s1 s2 s3 s4 s5 t0 t1 t2 t3 t4 t5
            have HXP : Hid (∀ W, Below y5.heap.size y5 W → W.cell? ⟨w.heap.size, 0, none⟩ = some (.string cn) ∧ W.cell? ⟨w.heap.size, 1, none⟩ = some (.slice ca clen ccap) ∧ W.cell? ⟨w.heap.size + 1, 0, none⟩ = some (.string x.name) ∧ W.cell? ⟨w.heap.size + 1, 1, none⟩ = some (.string x.field) ∧ W.cell? ⟨w.heap.size + 1, 2, none⟩ = some (.bool x.uniq) ∧ W.cell? ⟨pb, 0, none⟩ = some (.string tD) ∧ W.cell? ⟨pb, 0 + 1, none⟩ = some (.string cn) ∧ W.cell? ⟨pb, 0 + 2, none⟩ = some (.string ta)) := Lib.hid fun W hb => by
              obtain ⟨_, _, b0, b1, _, _⟩ := HXC.out W (HC5.out.trans (hb.mono HC5.out.size))
              obtain ⟨hlt, c0, c1, c2⟩ := HP5.out
              exact ⟨(Box.two b0).1, (Box.two b0).2, (Box.three b1).1, (Box.three b1).2.1, (Box.three b1).2.2, (hb.cell (p := ⟨pb, _, none⟩) hlt).trans c0, (hb.cell (p := ⟨pb, _, none⟩) hlt).trans c1, (hb.cell (p := ⟨pb, _, none⟩) hlt).trans c2⟩
            have HQ6 : Hid (Below y5.heap.size y5 y5.drew) := Lib.hid (Below.refl _ y5).drew
            have hS := HXP.out _ HQ6.out
            obtain ⟨eb, heb⟩ : ∃ eb, eb = (ta.toList == tb.toList) := ⟨_, rfl⟩
            have hdd := HDD.out
            rw [← heb] at hdd
            have heb2 : (ta.toList == tb.toList) = eb := heb.symm
            have heb3 : (eb == eb) = true := by simp
            have g1 : (EN.toList == EN.toList) = true := by simp
            have g2 : (KC.toList == KC.toList) = true := by simp
            have g3 : (cn.toList == cn.toList) = true := by simp
            have g4 : (ta.toList == ta.toList) = true := by simp
            clear heb
            have htd : (tD.toList == (⟨#[100]⟩ : ByteArray).toList) = true := by decide +kernel
            have htd2 : tD = ⟨#[100]⟩ := rfl
            refine wp_region_held_drew (S := fun w' => w'.cell? ⟨w.heap.size, 0, none⟩ = some (.string cn) ∧ w'.cell? ⟨w.heap.size, 1, none⟩ = some (.slice ca clen ccap) ∧ w'.cell? ⟨w.heap.size + 1, 0, none⟩ = some (.string x.name) ∧ w'.cell? ⟨w.heap.size + 1, 1, none⟩ = some (.string x.field) ∧ w'.cell? ⟨w.heap.size + 1, 2, none⟩ = some (.bool x.uniq) ∧ w'.cell? ⟨pb, 0, none⟩ = some (.string tD) ∧ w'.cell? ⟨pb, 0 + 1, none⟩ = some (.string cn) ∧ w'.cell? ⟨pb, 0 + 2, none⟩ = some (.string ta)) (by kernel_rfl) (by exact hS) (fun hHeld => ?_)
            change wpAnyH Try.prog .any ops19 _ _ 80 (Array.replicate 80 false) _ _
            clear hS
            as_aux_lemma =>
              refine wpAnyH_take (i := 0) (oi := o19_0) (v := ?_) rfl (by kernel_rfl) (by kernel_rfl) (by kernel_rfl) (fun _ _ _ h => h) (Or.inl ⟨by kernel_rfl, ?_⟩) (by assumption) ?_
              rotate_left
              · (intro w' hSw; (try dsimp only at hSw); dsimp only [o19_0]; go_simp; all_goals with_reducible rfl)
              try simp only [Act.put, o19_0, List.setIfInBounds_toArray, List.set_cons_zero, List.set_cons_succ]
              refine wpAnyH_take (i := 1) (oi := o19_1) (v := ?_) rfl (by kernel_rfl) (by kernel_rfl) (by kernel_rfl) (fun _ _ _ h => h) (Or.inl ⟨by kernel_rfl, ?_⟩) (by assumption) ?_
              rotate_left
              · (intro w' hSw; (try dsimp only at hSw); dsimp only [o19_1]; go_simp; all_goals with_reducible rfl)
              try simp only [Act.put, o19_1, List.setIfInBounds_toArray, List.set_cons_zero, List.set_cons_succ]
              refine wpAnyH_take (i := 2) (oi := o19_2) (v := ?_) rfl (by kernel_rfl) (by kernel_rfl) (by kernel_rfl) (fun _ _ _ h => h) (Or.inl ⟨by kernel_rfl, ?_⟩) (by assumption) ?_
              rotate_left
              · (intro w' hSw; (try dsimp only at hSw); dsimp only [o19_2]; go_simp; all_goals with_reducible rfl)
              try simp only [Act.put, o19_2, List.setIfInBounds_toArray, List.set_cons_zero, List.set_cons_succ]
              refine wpAnyH_take (i := 3) (oi := o19_3) (v := ?_) rfl (by kernel_rfl) (by kernel_rfl) (by kernel_rfl) (fun _ _ _ h => h) (Or.inl ⟨by kernel_rfl, ?_⟩) (by assumption) ?_
              rotate_left
              · (intro w' hSw; (try dsimp only at hSw); dsimp only [o19_3]; go_simp; all_goals with_reducible rfl)
              try simp only [Act.put, o19_3, List.setIfInBounds_toArray, List.set_cons_zero, List.set_cons_succ]
              refine wpAnyH_ready (rs := [4]) (by kernel_rfl) (by simp) ?_
              refine AllReadyH.cons (o := o19_4) rfl (fun K hK => ?_) AllReadyH.nil
              rw [if_pos (by kernel_rfl)]
              dsimp only [o19_4]
              go_simp
              refine (HEN.out _).mono ?_
              rintro e y7 ⟨rfl, hb⟩
              have HQ7 := Lib.hid (HQ6.out.trans (hb.mono HQ6.out.size))
              have hS := HXP.out _ HQ7.out
              clear hb
              refine hK.out _ _ (by exact hS) (fun hHeld => ?_)
              clear hK K
              try simp only [Act.put, o19_4, List.setIfInBounds_toArray, List.set_cons_zero, List.set_cons_succ]
              clear hS
              refine wpAnyH_ready (rs := [5]) (by kernel_rfl) (by simp) ?_
              refine AllReadyH.cons (o := o19_5) rfl (fun K hK => ?_) AllReadyH.nil
              rw [if_pos (by kernel_rfl)]
              dsimp only [o19_5]
              go_simp
              refine (HBE.out _).mono ?_
              rintro e y8 ⟨rfl, rfl⟩
              have HQ8 := HQ7
              have hS := HXP.out _ HQ8.out
              refine hK.out _ _ (by exact hS) (fun hHeld => ?_)
              clear hK K
              try simp only [Act.put, o19_5, List.setIfInBounds_toArray, List.set_cons_zero, List.set_cons_succ]
              clear hS
              refine wpAnyH_take (i := 6) (oi := o19_6) (v := ?_) rfl (by kernel_rfl) (by kernel_rfl) (by kernel_rfl) (fun _ _ _ h => h) (Or.inl ⟨by kernel_rfl, ?_⟩) (by assumption) ?_
              rotate_left
              · (intro w' hSw; (try dsimp only at hSw); dsimp only [o19_6]; go_simp; all_goals with_reducible rfl)
              try simp only [Act.put, o19_6, List.setIfInBounds_toArray, List.set_cons_zero, List.set_cons_succ]
              refine wpAnyH_take (i := 7) (oi := o19_7) (v := ?_) rfl (by kernel_rfl) (by kernel_rfl) (by kernel_rfl) (fun _ _ _ h => h) (Or.inl ⟨by kernel_rfl, ?_⟩) (by assumption) ?_
              rotate_left
              · (intro w' hSw; (try dsimp only at hSw); dsimp only [o19_7]; go_simp; all_goals with_reducible rfl)
              try simp only [Act.put, o19_7, List.setIfInBounds_toArray, List.set_cons_zero, List.set_cons_succ]
              refine wpAnyH_take (i := 8) (oi := o19_8) (v := ?_) rfl (by kernel_rfl) (by kernel_rfl) (by kernel_rfl) (fun _ _ _ h => h) (Or.inl ⟨by kernel_rfl, ?_⟩) (by assumption) ?_
              rotate_left
              · (intro w' hSw; (try dsimp only at hSw); dsimp only [o19_8]; go_simp; all_goals with_reducible rfl)
              try simp only [Act.put, o19_8, List.setIfInBounds_toArray, List.set_cons_zero, List.set_cons_succ]
              refine wpAnyH_take (i := 10) (oi := o19_10) (v := ?_) rfl (by kernel_rfl) (by kernel_rfl) (by kernel_rfl) (fun _ _ _ h => h) (Or.inl ⟨by kernel_rfl, ?_⟩) (by assumption) ?_
              rotate_left
              · (intro w' hSw; (try dsimp only at hSw); dsimp only [o19_10]; go_simp; all_goals with_reducible rfl)
              try simp only [Act.put, o19_10, List.setIfInBounds_toArray, List.set_cons_zero, List.set_cons_succ]
              refine wpAnyH_take (i := 11) (oi := o19_11) (v := ?_) rfl (by kernel_rfl) (by kernel_rfl) (by kernel_rfl) (fun _ _ _ h => h) (Or.inl ⟨by kernel_rfl, ?_⟩) (by assumption) ?_
              rotate_left
              · (intro w' hSw; (try dsimp only at hSw); dsimp only [o19_11]; go_simp; all_goals with_reducible rfl)
              try simp only [Act.put, o19_11, List.setIfInBounds_toArray, List.set_cons_zero, List.set_cons_succ]
              refine wpAnyH_take (i := 12) (oi := o19_12) (v := ?_) rfl (by kernel_rfl) (by kernel_rfl) (by kernel_rfl) (fun _ _ _ h => h) (Or.inl ⟨by kernel_rfl, ?_⟩) (by assumption) ?_
              rotate_left
              · (intro w' hSw; (try dsimp only at hSw); dsimp only [o19_12]; go_simp; all_goals with_reducible rfl)
              try simp only [Act.put, o19_12, List.setIfInBounds_toArray, List.set_cons_zero, List.set_cons_succ]
              refine wpAnyH_take (i := 13) (oi := o19_13) (v := ?_) rfl (by kernel_rfl) (by kernel_rfl) (by kernel_rfl) (fun _ _ _ h => h) (Or.inl ⟨by kernel_rfl, ?_⟩) (by assumption) ?_
              rotate_left
              · (intro w' hSw; (try dsimp only at hSw); dsimp only [o19_13]; go_simp; all_goals with_reducible rfl)
              try simp only [Act.put, o19_13, List.setIfInBounds_toArray, List.set_cons_zero, List.set_cons_succ]
              refine wpAnyH_ready (rs := [9, 14]) (by kernel_rfl) (by simp) ?_
              refine AllReadyH.cons (o := o19_9) rfl (fun K hK => ?_) (AllReadyH.cons (o := o19_14) rfl (fun K hK => ?_) AllReadyH.nil)
              · rw [if_pos (by kernel_rfl)]
                dsimp only [o19_9]
                go_simp
                refine (HEN.out _).mono ?_
                rintro e y9 ⟨rfl, hb⟩
                have HQ9 := Lib.hid (HQ8.out.trans (hb.mono HQ8.out.size))
                have hS := HXP.out _ HQ9.out
                clear hb
                refine hK.out _ _ (by exact hS) (fun hHeld => ?_)
                clear hK K hS
                try simp only [Act.put, o19_9, List.setIfInBounds_toArray, List.set_cons_zero, List.set_cons_succ]
                refine wpAnyH_ready (rs := [14]) (by kernel_rfl) (by simp) ?_
                refine AllReadyH.cons (o := o19_14) rfl (fun K hK => ?_) AllReadyH.nil
                rw [if_pos (by kernel_rfl)]
                dsimp only [o19_14]
                go_simp
                have hS := HXP.out _ (HQ9.out.alloc HQ9.out.size (.cells #[.string ⟨#[105]⟩, .string cn, .string x.name] 9))
                refine hK.out _ _ (by exact hS) (fun hHeld => ?_)
                clear hK K
                try simp only [Act.put, o19_14, List.setIfInBounds_toArray, List.set_cons_zero, List.set_cons_succ]
                clear hS
                refine wpAnyH_ready (rs := [15]) (by kernel_rfl) (by simp) ?_
                refine AllReadyH.cons (o := o19_15) rfl (fun K hK => ?_) AllReadyH.nil
                rw [if_pos (by kernel_rfl)]
                dsimp only [o19_15]
                go_simp
                refine (HK3.out _).mono ?_
                rintro e y11 ⟨rfl, hb⟩
                have HQ11 := Lib.hid (HQ9.out.trans (hb.mono HQ9.out.size))
                have hS := HXP.out _ HQ11.out
                clear hb
                refine hK.out _ _ (by exact hS) (fun hHeld => ?_)
                clear hK K
                try simp only [Act.put, o19_15, List.setIfInBounds_toArray, List.set_cons_zero, List.set_cons_succ]
                clear hS
                as_aux_lemma =>
                  refine wpAnyH_take (i := 16) (oi := o19_16) (v := ?_) rfl (by kernel_rfl) (by kernel_rfl) (by kernel_rfl) (fun _ _ _ h => h) (Or.inl ⟨by kernel_rfl, ?_⟩) (by assumption) ?_
                  rotate_left
                  · (intro w' hSw; (try dsimp only at hSw); dsimp only [o19_16]; go_simp; all_goals with_reducible rfl)
                  try simp only [Act.put, o19_16, List.setIfInBounds_toArray, List.set_cons_zero, List.set_cons_succ]
                  refine wpAnyH_take (i := 17) (oi := o19_17) (v := ?_) rfl (by kernel_rfl) (by kernel_rfl) (by kernel_rfl) (fun _ _ _ h => h) (Or.inl ⟨by kernel_rfl, ?_⟩) (by assumption) ?_
                  rotate_left
                  · (intro w' hSw; (try dsimp only at hSw); dsimp only [o19_17]; go_simp; all_goals with_reducible rfl)
                  try simp only [Act.put, o19_17, List.setIfInBounds_toArray, List.set_cons_zero, List.set_cons_succ]
                  refine wpAnyH_take (i := 18) (oi := o19_18) (v := ?_) rfl (by kernel_rfl) (by kernel_rfl) (by kernel_rfl) (fun _ _ _ h => h) (Or.inl ⟨by kernel_rfl, ?_⟩) (by assumption) ?_
                  rotate_left
                  · (intro w' hSw; (try dsimp only at hSw); dsimp only [o19_18]; go_simp; all_goals with_reducible rfl)
                  try simp only [Act.put, o19_18, List.setIfInBounds_toArray, List.set_cons_zero, List.set_cons_succ]
                  refine wpAnyH_take (i := 19) (oi := o19_19) (v := ?_) rfl (by kernel_rfl) (by kernel_rfl) (by kernel_rfl) (fun _ _ _ h => h) (Or.inl ⟨by kernel_rfl, ?_⟩) (by assumption) ?_
                  rotate_left
                  · (intro w' hSw; (try dsimp only at hSw); dsimp only [o19_19]; go_simp; all_goals with_reducible rfl)
                  try simp only [Act.put, o19_19, List.setIfInBounds_toArray, List.set_cons_zero, List.set_cons_succ]
                  refine wpAnyH_take (i := 20) (oi := o19_20) (v := ?_) rfl (by kernel_rfl) (by kernel_rfl) (by kernel_rfl) (fun _ _ _ h => h) (Or.inl ⟨by kernel_rfl, ?_⟩) (by assumption) ?_
                  rotate_left
                  · (intro w' hSw; (try dsimp only at hSw); dsimp only [o19_20]; go_simp; all_goals with_reducible rfl)
                  try simp only [Act.put, o19_20, List.setIfInBounds_toArray, List.set_cons_zero, List.set_cons_succ]
                  refine wpAnyH_take (i := 21) (oi := o19_21) (v := ?_) rfl (by kernel_rfl) (by kernel_rfl) (by kernel_rfl) (fun _ _ _ h => h) (Or.inl ⟨by kernel_rfl, ?_⟩) (by assumption) ?_
                  rotate_left
                  · (intro w' hSw; (try dsimp only at hSw); dsimp only [o19_21]; go_simp; all_goals with_reducible rfl)
                  try simp only [Act.put, o19_21, List.setIfInBounds_toArray, List.set_cons_zero, List.set_cons_succ]
                  refine wpAnyH_take (i := 22) (oi := o19_22) (v := ?_) rfl (by kernel_rfl) (by kernel_rfl) (by kernel_rfl) (fun _ _ _ h => h) (Or.inl ⟨by kernel_rfl, ?_⟩) (by assumption) ?_
                  rotate_left
                  · (intro w' hSw; (try dsimp only at hSw); dsimp only [o19_22]; go_simp; all_goals with_reducible rfl)
                  try simp only [Act.put, o19_22, List.setIfInBounds_toArray, List.set_cons_zero, List.set_cons_succ]
                  refine wpAnyH_take (i := 23) (oi := o19_23) (v := ?_) rfl (by kernel_rfl) (by kernel_rfl) (by kernel_rfl) (fun _ _ _ h => h) (Or.inl ⟨by kernel_rfl, ?_⟩) (by assumption) ?_
                  rotate_left
                  · (intro w' hSw; (try dsimp only at hSw); dsimp only [o19_23]; go_simp; all_goals with_reducible rfl)
                  try simp only [Act.put, o19_23, List.setIfInBounds_toArray, List.set_cons_zero, List.set_cons_succ]
                  refine wpAnyH_take (i := 24) (oi := o19_24) (v := ?_) rfl (by kernel_rfl) (by kernel_rfl) (by kernel_rfl) (fun _ _ _ h => h) (Or.inl ⟨by kernel_rfl, ?_⟩) (by assumption) ?_
                  rotate_left
                  · (intro w' hSw; (try dsimp only at hSw); dsimp only [o19_24]; go_simp; all_goals with_reducible rfl)
                  try simp only [Act.put, o19_24, List.setIfInBounds_toArray, List.set_cons_zero, List.set_cons_succ]
                  refine wpAnyH_take (i := 25) (oi := o19_25) (v := ?_) rfl (by kernel_rfl) (by kernel_rfl) (by kernel_rfl) (fun _ _ _ h => h) (Or.inl ⟨by kernel_rfl, ?_⟩) (by assumption) ?_
                  rotate_left
                  · (intro w' hSw; (try dsimp only at hSw); dsimp only [o19_25]; go_simp; all_goals with_reducible rfl)
                  try simp only [Act.put, o19_25, List.setIfInBounds_toArray, List.set_cons_zero, List.set_cons_succ]
                  refine wpAnyH_take (i := 26) (oi := o19_26) (v := ?_) rfl (by kernel_rfl) (by kernel_rfl) (by kernel_rfl) (fun _ _ _ h => h) (Or.inl ⟨by kernel_rfl, ?_⟩) (by assumption) ?_
                  rotate_left
                  · (intro w' hSw; (try dsimp only at hSw); dsimp only [o19_26]; go_simp; all_goals with_reducible rfl)
                  try simp only [Act.put, o19_26, List.setIfInBounds_toArray, List.set_cons_zero, List.set_cons_succ]
                  refine wpAnyH_take (i := 27) (oi := o19_27) (v := ?_) rfl (by kernel_rfl) (by kernel_rfl) (by kernel_rfl) (fun _ _ _ h => h) (Or.inl ⟨by kernel_rfl, ?_⟩) (by assumption) ?_
                  rotate_left
                  · (intro w' hSw; (try dsimp only at hSw); dsimp only [o19_27]; go_simp; all_goals with_reducible rfl)
                  try simp only [Act.put, o19_27, List.setIfInBounds_toArray, List.set_cons_zero, List.set_cons_succ]
                  refine wpAnyH_take (i := 28) (oi := o19_28) (v := ?_) rfl (by kernel_rfl) (by kernel_rfl) (by kernel_rfl) (fun _ _ _ h => h) (Or.inl ⟨by kernel_rfl, ?_⟩) (by assumption) ?_
                  rotate_left
                  · (intro w' hSw; (try dsimp only at hSw); dsimp only [o19_28]; go_simp; all_goals with_reducible rfl)
                  try simp only [Act.put, o19_28, List.setIfInBounds_toArray, List.set_cons_zero, List.set_cons_succ]
                  refine wpAnyH_take (i := 29) (oi := o19_29) (v := ?_) rfl (by kernel_rfl) (by kernel_rfl) (by kernel_rfl) (fun _ _ _ h => h) (Or.inl ⟨by kernel_rfl, ?_⟩) (by assumption) ?_
                  rotate_left
                  · (intro w' hSw; (try dsimp only at hSw); dsimp only [o19_29]; go_simp; all_goals with_reducible rfl)
                  try simp only [Act.put, o19_29, List.setIfInBounds_toArray, List.set_cons_zero, List.set_cons_succ]
                  refine wpAnyH_take (i := 30) (oi := o19_30) (v := ?_) rfl (by kernel_rfl) (by kernel_rfl) (by kernel_rfl) (fun _ _ _ h => h) (Or.inl ⟨by kernel_rfl, ?_⟩) (by assumption) ?_
                  rotate_left
                  · (intro w' hSw; (try dsimp only at hSw); dsimp only [o19_30]; go_simp; all_goals with_reducible rfl)
                  try simp only [Act.put, o19_30, List.setIfInBounds_toArray, List.set_cons_zero, List.set_cons_succ]
                  refine wpAnyH_take (i := 31) (oi := o19_31) (v := ?_) rfl (by kernel_rfl) (by kernel_rfl) (by kernel_rfl) (fun _ _ _ h => h) (Or.inl ⟨by kernel_rfl, ?_⟩) (by assumption) ?_
                  rotate_left
                  · (intro w' hSw; (try dsimp only at hSw); dsimp only [o19_31]; go_simp; all_goals with_reducible rfl)
                  try simp only [Act.put, o19_31, List.setIfInBounds_toArray, List.set_cons_zero, List.set_cons_succ]
                  refine wpAnyH_take (i := 32) (oi := o19_32) (v := ?_) rfl (by kernel_rfl) (by kernel_rfl) (by kernel_rfl) (fun _ _ _ h => h) (Or.inl ⟨by kernel_rfl, ?_⟩) (by assumption) ?_
                  rotate_left
                  · (intro w' hSw; (try dsimp only at hSw); dsimp only [o19_32]; go_simp; all_goals with_reducible rfl)
                  try simp only [Act.put, o19_32, List.setIfInBounds_toArray, List.set_cons_zero, List.set_cons_succ]
                  refine wpAnyH_take (i := 33) (oi := o19_33) (v := ?_) rfl (by kernel_rfl) (by kernel_rfl) (by kernel_rfl) (fun _ _ _ h => h) (Or.inl ⟨by kernel_rfl, ?_⟩) (by assumption) ?_
                  rotate_left
                  · (intro w' hSw; (try dsimp only at hSw); dsimp only [o19_33]; go_simp; all_goals with_reducible rfl)
                  try simp only [Act.put, o19_33, List.setIfInBounds_toArray, List.set_cons_zero, List.set_cons_succ]
                  refine wpAnyH_take (i := 34) (oi := o19_34) (v := ?_) rfl (by kernel_rfl) (by kernel_rfl) (by kernel_rfl) (fun _ _ _ h => h) (Or.inl ⟨by kernel_rfl, ?_⟩) (by assumption) ?_
                  rotate_left
                  · (intro w' hSw; (try dsimp only at hSw); dsimp only [o19_34]; go_simp; all_goals with_reducible rfl)
                  try simp only [Act.put, o19_34, List.setIfInBounds_toArray, List.set_cons_zero, List.set_cons_succ]
                  refine wpAnyH_take (i := 35) (oi := o19_35) (v := ?_) rfl (by kernel_rfl) (by kernel_rfl) (by kernel_rfl) (fun _ _ _ h => h) (Or.inl ⟨by kernel_rfl, ?_⟩) (by assumption) ?_
                  rotate_left
                  · (intro w' hSw; (try dsimp only at hSw); dsimp only [o19_35]; go_simp; all_goals with_reducible rfl)
                  try simp only [Act.put, o19_35, List.setIfInBounds_toArray, List.set_cons_zero, List.set_cons_succ]
                  refine wpAnyH_take (i := 36) (oi := o19_36) (v := ?_) rfl (by kernel_rfl) (by kernel_rfl) (by kernel_rfl) (fun _ _ _ h => h) (Or.inl ⟨by kernel_rfl, ?_⟩) (by assumption) ?_
                  rotate_left
                  · (intro w' hSw; (try dsimp only at hSw); dsimp only [o19_36]; go_simp; all_goals with_reducible rfl)
                  try simp only [Act.put, o19_36, List.setIfInBounds_toArray, List.set_cons_zero, List.set_cons_succ]
                  refine wpAnyH_take (i := 37) (oi := o19_37) (v := ?_) rfl (by kernel_rfl) (by kernel_rfl) (by kernel_rfl) (fun _ _ _ h => h) (Or.inl ⟨by kernel_rfl, ?_⟩) (by assumption) ?_
                  rotate_left
                  · (intro w' hSw; (try dsimp only at hSw); dsimp only [o19_37]; go_simp; all_goals with_reducible rfl)
                  try simp only [Act.put, o19_37, List.setIfInBounds_toArray, List.set_cons_zero, List.set_cons_succ]
                  refine wpAnyH_take (i := 38) (oi := o19_38) (v := ?_) rfl (by kernel_rfl) (by kernel_rfl) (by kernel_rfl) (fun _ _ _ h => h) (Or.inl ⟨by kernel_rfl, ?_⟩) (by assumption) ?_
                  rotate_left
                  · (intro w' hSw; (try dsimp only at hSw); dsimp only [o19_38]; go_simp; all_goals with_reducible rfl)
                  try simp only [Act.put, o19_38, List.setIfInBounds_toArray, List.set_cons_zero, List.set_cons_succ]
                  refine wpAnyH_take (i := 39) (oi := o19_39) (v := ?_) rfl (by kernel_rfl) (by kernel_rfl) (by kernel_rfl) (fun _ _ _ h => h) (Or.inl ⟨by kernel_rfl, ?_⟩) (by assumption) ?_
                  rotate_left
                  · (intro w' hSw; (try dsimp only at hSw); dsimp only [o19_39]; go_simp; all_goals with_reducible rfl)
                  try simp only [Act.put, o19_39, List.setIfInBounds_toArray, List.set_cons_zero, List.set_cons_succ]
                  refine wpAnyH_take (i := 40) (oi := o19_40) (v := ?_) rfl (by kernel_rfl) (by kernel_rfl) (by kernel_rfl) (fun _ _ _ h => h) (Or.inl ⟨by kernel_rfl, ?_⟩) (by assumption) ?_
                  rotate_left
                  · (intro w' hSw; (try dsimp only at hSw); dsimp only [o19_40]; go_simp; all_goals with_reducible rfl)
                  try simp only [Act.put, o19_40, List.setIfInBounds_toArray, List.set_cons_zero, List.set_cons_succ]
                  refine wpAnyH_take (i := 41) (oi := o19_41) (v := ?_) rfl (by kernel_rfl) (by kernel_rfl) (by kernel_rfl) (fun _ _ _ h => h) (Or.inl ⟨by kernel_rfl, ?_⟩) (by assumption) ?_
                  rotate_left
                  · (intro w' hSw; (try dsimp only at hSw); dsimp only [o19_41]; go_simp; all_goals with_reducible rfl)
                  try simp only [Act.put, o19_41, List.setIfInBounds_toArray, List.set_cons_zero, List.set_cons_succ]
                  refine wpAnyH_take (i := 42) (oi := o19_42) (v := ?_) rfl (by kernel_rfl) (by kernel_rfl) (by kernel_rfl) (fun _ _ _ h => h) (Or.inl ⟨by kernel_rfl, ?_⟩) (by assumption) ?_
                  rotate_left
                  · (intro w' hSw; (try dsimp only at hSw); dsimp only [o19_42]; go_simp; all_goals with_reducible rfl)
                  try simp only [Act.put, o19_42, List.setIfInBounds_toArray, List.set_cons_zero, List.set_cons_succ]
                  refine wpAnyH_take (i := 43) (oi := o19_43) (v := ?_) rfl (by kernel_rfl) (by kernel_rfl) (by kernel_rfl) (fun _ _ _ h => h) (Or.inl ⟨by kernel_rfl, ?_⟩) (by assumption) ?_
                  rotate_left
                  · (intro w' hSw; (try dsimp only at hSw); dsimp only [o19_43]; go_simp; all_goals with_reducible rfl)
                  try simp only [Act.put, o19_43, List.setIfInBounds_toArray, List.set_cons_zero, List.set_cons_succ]
                  refine wpAnyH_take (i := 44) (oi := o19_44) (v := ?_) rfl (by kernel_rfl) (by kernel_rfl) (by kernel_rfl) (fun _ _ _ h => h) (Or.inl ⟨by kernel_rfl, ?_⟩) (by assumption) ?_
                  rotate_left
                  · (intro w' hSw; (try dsimp only at hSw); dsimp only [o19_44]; go_simp; all_goals with_reducible rfl)
                  try simp only [Act.put, o19_44, List.setIfInBounds_toArray, List.set_cons_zero, List.set_cons_succ]
                  refine wpAnyH_take (i := 45) (oi := o19_45) (v := ?_) rfl (by kernel_rfl) (by kernel_rfl) (by kernel_rfl) (fun _ _ _ h => h) (Or.inl ⟨by kernel_rfl, ?_⟩) (by assumption) ?_
                  rotate_left
                  · (intro w' hSw; (try dsimp only at hSw); dsimp only [o19_45]; go_simp; all_goals with_reducible rfl)
                  try simp only [Act.put, o19_45, List.setIfInBounds_toArray, List.set_cons_zero, List.set_cons_succ]
                  refine wpAnyH_take (i := 46) (oi := o19_46) (v := ?_) rfl (by kernel_rfl) (by kernel_rfl) (by kernel_rfl) (fun _ _ _ h => h) (Or.inl ⟨by kernel_rfl, ?_⟩) (by assumption) ?_
                  rotate_left
                  · (intro w' hSw; (try dsimp only at hSw); dsimp only [o19_46]; go_simp; all_goals with_reducible rfl)
                  try simp only [Act.put, o19_46, List.setIfInBounds_toArray, List.set_cons_zero, List.set_cons_succ]
                  refine wpAnyH_take (i := 47) (oi := o19_47) (v := ?_) rfl (by kernel_rfl) (by kernel_rfl) (by kernel_rfl) (fun _ _ _ h => h) (Or.inl ⟨by kernel_rfl, ?_⟩) (by assumption) ?_
                  rotate_left
                  · (intro w' hSw; (try dsimp only at hSw); dsimp only [o19_47]; go_simp; all_goals with_reducible rfl)
                  try simp only [Act.put, o19_47, List.setIfInBounds_toArray, List.set_cons_zero, List.set_cons_succ]
                  refine wpAnyH_take (i := 48) (oi := o19_48) (v := ?_) rfl (by kernel_rfl) (by kernel_rfl) (by kernel_rfl) (fun _ _ _ h => h) (Or.inl ⟨by kernel_rfl, ?_⟩) (by assumption) ?_
                  rotate_left
                  · (intro w' hSw; (try dsimp only at hSw); dsimp only [o19_48]; go_simp; all_goals with_reducible rfl)
                  try simp only [Act.put, o19_48, List.setIfInBounds_toArray, List.set_cons_zero, List.set_cons_succ]
                  refine wpAnyH_take (i := 49) (oi := o19_49) (v := ?_) rfl (by kernel_rfl) (by kernel_rfl) (by kernel_rfl) (fun _ _ _ h => h) (Or.inl ⟨by kernel_rfl, ?_⟩) (by assumption) ?_
                  rotate_left
                  · (intro w' hSw; (try dsimp only at hSw); dsimp only [o19_49]; go_simp; all_goals with_reducible rfl)
                  try simp only [Act.put, o19_49, List.setIfInBounds_toArray, List.set_cons_zero, List.set_cons_succ]
                  refine wpAnyH_take (i := 50) (oi := o19_50) (v := ?_) rfl (by kernel_rfl) (by kernel_rfl) (by kernel_rfl) (fun _ _ _ h => h) (Or.inl ⟨by kernel_rfl, ?_⟩) (by assumption) ?_
                  rotate_left
                  · (intro w' hSw; (try dsimp only at hSw); dsimp only [o19_50]; go_simp; all_goals with_reducible rfl)
                  try simp only [Act.put, o19_50, List.setIfInBounds_toArray, List.set_cons_zero, List.set_cons_succ]
                  refine wpAnyH_take (i := 51) (oi := o19_51) (v := ?_) rfl (by kernel_rfl) (by kernel_rfl) (by kernel_rfl) (fun _ _ _ h => h) (Or.inl ⟨by kernel_rfl, ?_⟩) (by assumption) ?_
                  rotate_left
                  · (intro w' hSw; (try dsimp only at hSw); dsimp only [o19_51]; go_simp; all_goals with_reducible rfl)
                  try simp only [Act.put, o19_51, List.setIfInBounds_toArray, List.set_cons_zero, List.set_cons_succ]
                  refine wpAnyH_take (i := 53) (oi := o19_53) (v := ?_) rfl (by kernel_rfl) (by kernel_rfl) (by kernel_rfl) (fun _ _ _ h => h) (Or.inl ⟨by kernel_rfl, ?_⟩) (by assumption) ?_
                  rotate_left
                  · (intro w' hSw; (try dsimp only at hSw); dsimp only [o19_53]; go_simp; all_goals with_reducible rfl)
                  try simp only [Act.put, o19_53, List.setIfInBounds_toArray, List.set_cons_zero, List.set_cons_succ]
                  as_aux_lemma =>
                    refine wpAnyH_ready (rs := [52]) (by kernel_rfl) (by simp) ?_
                    refine AllReadyH.cons (o := o19_52) rfl (fun K hK => ?_) AllReadyH.nil
                    rw [if_pos (by kernel_rfl)]
                    dsimp only [o19_52]
                    go_simp
                    refine (HDA.out _).mono ?_
                    rintro e y12 ⟨rfl, hb⟩
                    have HQ12 := Lib.hid (HQ11.out.trans (hb.mono HQ11.out.size))
                    have hS := HXP.out _ HQ12.out
                    clear hb
                    refine hK.out _ _ (by exact hS) (fun hHeld => ?_)
                    clear hK K
                    try simp only [Act.put, o19_52, List.setIfInBounds_toArray, List.set_cons_zero, List.set_cons_succ]
                    clear hS
                    refine wpAnyH_ready (rs := [54]) (by kernel_rfl) (by simp) ?_
                    refine AllReadyH.cons (o := o19_54) rfl (fun K hK => ?_) AllReadyH.nil
                    rw [if_pos (by kernel_rfl)]
                    dsimp only [o19_54]
                    go_simp
                    refine (HSB.out _).mono ?_
                    rintro e y13 ⟨rfl, hb⟩
                    have HQ13 := Lib.hid (HQ12.out.trans (hb.mono HQ12.out.size))
                    have hS := HXP.out _ HQ13.out
                    clear hb
                    refine hK.out _ _ (by exact hS) (fun hHeld => ?_)
                    clear hK K
                    try simp only [Act.put, o19_54, List.setIfInBounds_toArray, List.set_cons_zero, List.set_cons_succ]
                    clear hS
                    refine wpAnyH_ready (rs := [55]) (by kernel_rfl) (by simp) ?_
                    refine AllReadyH.cons (o := o19_55) rfl (fun K hK => ?_) AllReadyH.nil
                    rw [if_pos (by kernel_rfl)]
                    dsimp only [o19_55]
                    go_simp
                    refine (HBD.out _).mono ?_
                    rintro e y14 ⟨rfl, rfl⟩
                    have HQ14 := HQ13
                    have hS := HXP.out _ HQ14.out
                    refine hK.out _ _ (by exact hS) (fun hHeld => ?_)
                    clear hK K
                    try simp only [Act.put, o19_55, List.setIfInBounds_toArray, List.set_cons_zero, List.set_cons_succ]
                    clear hS
                    refine wpAnyH_take (i := 56) (oi := o19_56) (v := ?_) rfl (by kernel_rfl) (by kernel_rfl) (by kernel_rfl) (fun _ _ _ h => h) (Or.inl ⟨by kernel_rfl, ?_⟩) (by assumption) ?_
                    rotate_left
                    · (intro w' hSw; (try dsimp only at hSw); dsimp only [o19_56]; go_simp; all_goals with_reducible rfl)
                    try simp only [Act.put, o19_56, List.setIfInBounds_toArray, List.set_cons_zero, List.set_cons_succ]
                    refine wpAnyH_take (i := 57) (oi := o19_57) (v := ?_) rfl (by kernel_rfl) (by kernel_rfl) (by kernel_rfl) (fun _ _ _ h => h) (Or.inl ⟨by kernel_rfl, ?_⟩) (by assumption) ?_
                    rotate_left
                    · (intro w' hSw; (try dsimp only at hSw); dsimp only [o19_57]; go_simp; all_goals with_reducible rfl)
                    try simp only [Act.put, o19_57, List.setIfInBounds_toArray, List.set_cons_zero, List.set_cons_succ]
                    refine wpAnyH_take (i := 58) (oi := o19_58) (v := ?_) rfl (by kernel_rfl) (by kernel_rfl) (by kernel_rfl) (fun _ _ _ h => h) (Or.inl ⟨by kernel_rfl, ?_⟩) (by assumption) ?_
                    rotate_left
                    · (intro w' hSw; (try dsimp only at hSw); dsimp only [o19_58]; go_simp; all_goals with_reducible rfl)
                    try simp only [Act.put, o19_58, List.setIfInBounds_toArray, List.set_cons_zero, List.set_cons_succ]
                    refine wpAnyH_take (i := 59) (oi := o19_59) (v := ?_) rfl (by kernel_rfl) (by kernel_rfl) (by kernel_rfl) (fun _ _ _ h => h) (Or.inl ⟨by kernel_rfl, ?_⟩) (by assumption) ?_
                    rotate_left
                    · (intro w' hSw; (try dsimp only at hSw); dsimp only [o19_59]; go_simp; all_goals with_reducible rfl)
                    try simp only [Act.put, o19_59, List.setIfInBounds_toArray, List.set_cons_zero, List.set_cons_succ]
                    refine wpAnyH_take (i := 61) (oi := o19_61) (v := ?_) rfl (by kernel_rfl) (by kernel_rfl) (by kernel_rfl) (fun _ _ _ h => h) (Or.inl ⟨by kernel_rfl, ?_⟩) (by assumption) ?_
                    rotate_left
                    · (intro w' hSw; (try dsimp only at hSw); dsimp only [o19_61]; go_simp; all_goals with_reducible rfl)
                    try simp only [Act.put, o19_61, List.setIfInBounds_toArray, List.set_cons_zero, List.set_cons_succ]
                    refine wpAnyH_take (i := 62) (oi := o19_62) (v := ?_) rfl (by kernel_rfl) (by kernel_rfl) (by kernel_rfl) (fun _ _ _ h => h) (Or.inl ⟨by kernel_rfl, ?_⟩) (by assumption) ?_
                    rotate_left
                    · (intro w' hSw; (try dsimp only at hSw); dsimp only [o19_62]; go_simp; all_goals with_reducible rfl)
                    try simp only [Act.put, o19_62, List.setIfInBounds_toArray, List.set_cons_zero, List.set_cons_succ]
                    refine wpAnyH_take (i := 65) (oi := o19_65) (v := ?_) rfl (by kernel_rfl) (by kernel_rfl) (by kernel_rfl) (fun _ _ _ h => h) (Or.inl ⟨by kernel_rfl, ?_⟩) (by assumption) ?_
                    rotate_left
                    · (intro w' hSw; (try dsimp only at hSw); dsimp only [o19_65]; go_simp; all_goals with_reducible rfl)
                    try simp only [Act.put, o19_65, List.setIfInBounds_toArray, List.set_cons_zero, List.set_cons_succ]
                    refine wpAnyH_take (i := 66) (oi := o19_66) (v := ?_) rfl (by kernel_rfl) (by kernel_rfl) (by kernel_rfl) (fun _ _ _ h => h) (Or.inl ⟨by kernel_rfl, ?_⟩) (by assumption) ?_
                    rotate_left
                    · (intro w' hSw; (try dsimp only at hSw); dsimp only [o19_66]; go_simp; all_goals with_reducible rfl)
                    try simp only [Act.put, o19_66, List.setIfInBounds_toArray, List.set_cons_zero, List.set_cons_succ]
                    refine wpAnyH_take (i := 67) (oi := o19_67) (v := ?_) rfl (by kernel_rfl) (by kernel_rfl) (by kernel_rfl) (fun _ _ _ h => h) (Or.inl ⟨by kernel_rfl, ?_⟩) (by assumption) ?_
                    rotate_left
                    · (intro w' hSw; (try dsimp only at hSw); dsimp only [o19_67]; go_simp; all_goals with_reducible rfl)
                    try simp only [Act.put, o19_67, List.setIfInBounds_toArray, List.set_cons_zero, List.set_cons_succ]
                    refine wpAnyH_ready (rs := [60]) (by kernel_rfl) (by simp) ?_
                    refine AllReadyH.cons (o := o19_60) rfl (fun K hK => ?_) AllReadyH.nil
                    rw [if_pos (by kernel_rfl)]
                    dsimp only [o19_60]
                    go_simp
                    refine (HDA.out _).mono ?_
                    rintro e y15 ⟨rfl, hb⟩
                    have HQ15 := Lib.hid (HQ14.out.trans (hb.mono HQ14.out.size))
                    have hS := HXP.out _ HQ15.out
                    clear hb
                    refine hK.out _ _ (by exact hS) (fun hHeld => ?_)
                    clear hK K
                    try simp only [Act.put, o19_60, List.setIfInBounds_toArray, List.set_cons_zero, List.set_cons_succ]
                    clear hS
                    refine wpAnyH_ready (rs := [63]) (by kernel_rfl) (by simp) ?_
                    refine AllReadyH.cons (o := o19_63) rfl (fun K hK => ?_) AllReadyH.nil
                    rw [if_pos (by kernel_rfl)]
                    dsimp only [o19_63]
                    go_simp
                    refine (HDB.out _).mono ?_
                    rintro e y16 ⟨rfl, hb⟩
                    have HQ16 := Lib.hid (HQ15.out.trans (hb.mono HQ15.out.size))
                    have hS := HXP.out _ HQ16.out
                    clear hb
                    refine hK.out _ _ (by exact hS) (fun hHeld => ?_)
                    clear hK K
                    try simp only [Act.put, o19_63, List.setIfInBounds_toArray, List.set_cons_zero, List.set_cons_succ]
                    clear hS
                    refine wpAnyH_take (i := 64) (oi := o19_64) (v := ?_) rfl (by kernel_rfl) (by kernel_rfl) (by kernel_rfl) (fun _ _ _ h => h) (Or.inl ⟨by kernel_rfl, ?_⟩) (by assumption) ?_
                    rotate_left
                    · (intro w' hSw; (try dsimp only at hSw); dsimp only [o19_64]; go_simp; all_goals with_reducible rfl)
                    try simp only [Act.put, o19_64, List.setIfInBounds_toArray, List.set_cons_zero, List.set_cons_succ]
                    refine wpAnyH_take (i := 68) (oi := o19_68) (v := ?_) rfl (by kernel_rfl) (by kernel_rfl) (by kernel_rfl) (fun _ _ _ h => h) (Or.inl ⟨by kernel_rfl, ?_⟩) (by assumption) ?_
                    rotate_left
                    · (intro w' hSw; (try dsimp only at hSw); dsimp only [o19_68]; go_simp; all_goals with_reducible rfl)
                    try simp only [Act.put, o19_68, List.setIfInBounds_toArray, List.set_cons_zero, List.set_cons_succ]
                    refine wpAnyH_take (i := 69) (oi := o19_69) (v := ?_) rfl (by kernel_rfl) (by kernel_rfl) (by kernel_rfl) (fun _ _ _ h => h) (Or.inl ⟨by kernel_rfl, ?_⟩) (by assumption) ?_
                    rotate_left
                    · (intro w' hSw; (try dsimp only at hSw); dsimp only [o19_69]; go_simp; all_goals with_reducible rfl)
                    try simp only [Act.put, o19_69, List.setIfInBounds_toArray, List.set_cons_zero, List.set_cons_succ]
                    refine wpAnyH_take (i := 70) (oi := o19_70) (v := ?_) rfl (by kernel_rfl) (by kernel_rfl) (by kernel_rfl) (fun _ _ _ h => h) (Or.inl ⟨by kernel_rfl, ?_⟩) (by assumption) ?_
                    rotate_left
                    · (intro w' hSw; (try dsimp only at hSw); dsimp only [o19_70]; go_simp; all_goals with_reducible rfl)
                    try simp only [Act.put, o19_70, List.setIfInBounds_toArray, List.set_cons_zero, List.set_cons_succ]
                    refine wpAnyH_take (i := 71) (oi := o19_71) (v := ?_) rfl (by kernel_rfl) (by kernel_rfl) (by kernel_rfl) (fun _ _ _ h => h) (Or.inl ⟨by kernel_rfl, ?_⟩) (by assumption) ?_
                    rotate_left
                    · (intro w' hSw; (try dsimp only at hSw); dsimp only [o19_71]; go_simp; all_goals with_reducible rfl)
                    try simp only [Act.put, o19_71, List.setIfInBounds_toArray, List.set_cons_zero, List.set_cons_succ]
                    refine wpAnyH_take (i := 73) (oi := o19_73) (v := ?_) rfl (by kernel_rfl) (by kernel_rfl) (by kernel_rfl) (fun _ _ _ h => h) (Or.inl ⟨by kernel_rfl, ?_⟩) (by assumption) ?_
                    rotate_left
                    · (intro w' hSw; (try dsimp only at hSw); dsimp only [o19_73]; go_simp; all_goals with_reducible rfl)
                    try simp only [Act.put, o19_73, List.setIfInBounds_toArray, List.set_cons_zero, List.set_cons_succ]
                    refine wpAnyH_take (i := 74) (oi := o19_74) (v := ?_) rfl (by kernel_rfl) (by kernel_rfl) (by kernel_rfl) (fun _ _ _ h => h) (Or.inl ⟨by kernel_rfl, ?_⟩) (by assumption) ?_
                    rotate_left
                    · (intro w' hSw; (try dsimp only at hSw); dsimp only [o19_74]; go_simp; all_goals with_reducible rfl)
                    try simp only [Act.put, o19_74, List.setIfInBounds_toArray, List.set_cons_zero, List.set_cons_succ]
                    as_aux_lemma =>
                      refine wpAnyH_ready (rs := [72, 75]) (by kernel_rfl) (by simp) ?_
                      refine AllReadyH.cons (o := o19_72) rfl (fun K hK => ?_) (AllReadyH.cons (o := o19_75) rfl (fun K hK => ?_) AllReadyH.nil)
                      · rw [if_pos (by kernel_rfl)]
                        dsimp only [o19_72]
                        go_simp
                        refine (HKC.out _).mono ?_
                        rintro e y17 ⟨rfl, hb⟩
                        have HQ17 := Lib.hid (HQ16.out.trans (hb.mono HQ16.out.size))
                        have hS := HXP.out _ HQ17.out
                        clear hb
                        refine hK.out _ _ (by exact hS) (fun hHeld => ?_)
                        clear hK K hS
                        try simp only [Act.put, o19_72, List.setIfInBounds_toArray, List.set_cons_zero, List.set_cons_succ]
                        refine wpAnyH_ready (rs := [75]) (by kernel_rfl) (by simp) ?_
                        refine AllReadyH.cons (o := o19_75) rfl (fun K hK => ?_) AllReadyH.nil
                        rw [if_pos (by kernel_rfl)]
                        dsimp only [o19_75]
                        go_simp
                        have hS := HXP.out _ (HQ17.out.alloc HQ17.out.size (.cells #[.string ⟨#[99]⟩, .string cn] 9))
                        refine hK.out _ _ (by exact hS) (fun hHeld => ?_)
                        clear hK K
                        try simp only [Act.put, o19_75, List.setIfInBounds_toArray, List.set_cons_zero, List.set_cons_succ]
                        clear hS
                        refine wpAnyH_ready (rs := [76]) (by kernel_rfl) (by simp) ?_
                        refine AllReadyH.cons (o := o19_76) rfl (fun K hK => ?_) AllReadyH.nil
                        rw [if_pos (by kernel_rfl)]
                        dsimp only [o19_76]
                        go_simp
                        refine (HK2.out _).mono ?_
                        rintro e y19 ⟨rfl, hb⟩
                        have HQ19 := Lib.hid (HQ17.out.trans (hb.mono HQ17.out.size))
                        have hS := HXP.out _ HQ19.out
                        clear hb
                        refine hK.out _ _ (by exact hS) (fun hHeld => ?_)
                        clear hK K
                        try simp only [Act.put, o19_76, List.setIfInBounds_toArray, List.set_cons_zero, List.set_cons_succ]
                        clear hS
                        as_aux_lemma =>
                          refine wpAnyH_take (i := 77) (oi := o19_77) (v := ?_) rfl (by kernel_rfl) (by kernel_rfl) (by kernel_rfl) (fun _ _ _ h => h) (Or.inl ⟨by kernel_rfl, ?_⟩) (by assumption) ?_
                          rotate_left
                          · (intro w' hSw; (try dsimp only at hSw); dsimp only [o19_77]; go_simp; all_goals with_reducible rfl)
                          try simp only [Act.put, o19_77, List.setIfInBounds_toArray, List.set_cons_zero, List.set_cons_succ]
                          refine wpAnyH_take (i := 78) (oi := o19_78) (v := ?_) rfl (by kernel_rfl) (by kernel_rfl) (by kernel_rfl) (fun _ _ _ h => h) (Or.inl ⟨by kernel_rfl, ?_⟩) (by assumption) ?_
                          rotate_left
                          · (intro w' hSw; (try dsimp only at hSw); dsimp only [o19_78]; go_simp; all_goals with_reducible rfl)
                          try simp only [Act.put, o19_78, List.setIfInBounds_toArray, List.set_cons_zero, List.set_cons_succ]
                          refine wpAnyH_take (i := 79) (oi := o19_79) (v := ?_) rfl (by kernel_rfl) (by kernel_rfl) (by kernel_rfl) (fun _ _ _ h => h) (Or.inl ⟨by kernel_rfl, ?_⟩) (by assumption) ?_
                          rotate_left
                          · (intro w' hSw; (try dsimp only at hSw); dsimp only [o19_79]; go_simp; all_goals with_reducible rfl)
                          try simp only [Act.put, o19_79, List.setIfInBounds_toArray, List.set_cons_zero, List.set_cons_succ]
                          refine wpAnyH_done (by kernel_rfl) ?_ _
                          go_wp2
                          go_ret
                          exact ⟨rfl, (HXC.out _ (HC5.out.trans (HQ19.out.mono HC5.out.size))).1⟩
                      · rw [if_pos (by kernel_rfl)]
                        dsimp only [o19_75]
                        go_simp
                        have HQ17 := Lib.hid (HQ16.out.alloc HQ16.out.size (.cells #[.string ⟨#[99]⟩, .string cn] 9))
                        have HR17 := Lib.hid (row_of HQ16.out #[.string ⟨#[99]⟩, .string cn])
                        have hS := HXP.out _ HQ17.out
                        refine hK.out _ _ (by exact hS) (fun hHeld => ?_)
                        clear hK K hS
                        try simp only [Act.put, o19_75, List.setIfInBounds_toArray, List.set_cons_zero, List.set_cons_succ]
                        refine wpAnyH_ready (rs := [72]) (by kernel_rfl) (by simp) ?_
                        refine AllReadyH.cons (o := o19_72) rfl (fun K hK => ?_) AllReadyH.nil
                        rw [if_pos (by kernel_rfl)]
                        dsimp only [o19_72]
                        go_simp
                        refine (HKC.out _).mono ?_
                        rintro e y18 ⟨rfl, hb⟩
                        have HR18 := Lib.hid (HR17.out.below hb)
                        have HQ18 := Lib.hid (HQ17.out.trans (hb.mono HQ17.out.size))
                        have hS := HXP.out _ HQ18.out
                        clear hb
                        refine hK.out _ _ (by exact hS) (fun hHeld => ?_)
                        clear hK K
                        try simp only [Act.put, o19_72, List.setIfInBounds_toArray, List.set_cons_zero, List.set_cons_succ]
                        clear hS
                        refine wpAnyH_ready (rs := [76]) (by kernel_rfl) (by simp) ?_
                        refine AllReadyH.cons (o := o19_76) rfl (fun K hK => ?_) AllReadyH.nil
                        rw [if_pos (by kernel_rfl)]
                        dsimp only [o19_76]
                        go_simp
                        refine (HK2B.out _ _ HR18.out).mono ?_
                        rintro e y19 ⟨rfl, hb⟩
                        have HQ19 := Lib.hid (HQ18.out.trans (hb.mono HQ18.out.size))
                        have hS := HXP.out _ HQ19.out
                        clear hb
                        refine hK.out _ _ (by exact hS) (fun hHeld => ?_)
                        clear hK K
                        try simp only [Act.put, o19_76, List.setIfInBounds_toArray, List.set_cons_zero, List.set_cons_succ]
                        clear hS
                        as_aux_lemma =>
                          refine wpAnyH_take (i := 77) (oi := o19_77) (v := ?_) rfl (by kernel_rfl) (by kernel_rfl) (by kernel_rfl) (fun _ _ _ h => h) (Or.inl ⟨by kernel_rfl, ?_⟩) (by assumption) ?_
                          rotate_left
                          · (intro w' hSw; (try dsimp only at hSw); dsimp only [o19_77]; go_simp; all_goals with_reducible rfl)
                          try simp only [Act.put, o19_77, List.setIfInBounds_toArray, List.set_cons_zero, List.set_cons_succ]
                          refine wpAnyH_take (i := 78) (oi := o19_78) (v := ?_) rfl (by kernel_rfl) (by kernel_rfl) (by kernel_rfl) (fun _ _ _ h => h) (Or.inl ⟨by kernel_rfl, ?_⟩) (by assumption) ?_
                          rotate_left
                          · (intro w' hSw; (try dsimp only at hSw); dsimp only [o19_78]; go_simp; all_goals with_reducible rfl)
                          try simp only [Act.put, o19_78, List.setIfInBounds_toArray, List.set_cons_zero, List.set_cons_succ]
                          refine wpAnyH_take (i := 79) (oi := o19_79) (v := ?_) rfl (by kernel_rfl) (by kernel_rfl) (by kernel_rfl) (fun _ _ _ h => h) (Or.inl ⟨by kernel_rfl, ?_⟩) (by assumption) ?_
                          rotate_left
                          · (intro w' hSw; (try dsimp only at hSw); dsimp only [o19_79]; go_simp; all_goals with_reducible rfl)
                          try simp only [Act.put, o19_79, List.setIfInBounds_toArray, List.set_cons_zero, List.set_cons_succ]
                          refine wpAnyH_done (by kernel_rfl) ?_ _
                          go_wp2
                          go_ret
                          exact ⟨rfl, (HXC.out _ (HC5.out.trans (HQ19.out.mono HC5.out.size))).1⟩
              · rw [if_pos (by kernel_rfl)]
                dsimp only [o19_14]
                go_simp
                have HQ9 := Lib.hid (HQ8.out.alloc HQ8.out.size (.cells #[.string ⟨#[105]⟩, .string cn, .string x.name] 9))
                have HR9 := Lib.hid (row_of HQ8.out #[.string ⟨#[105]⟩, .string cn, .string x.name])
                have hS := HXP.out _ HQ9.out
                refine hK.out _ _ (by exact hS) (fun hHeld => ?_)
                clear hK K hS
                try simp only [Act.put, o19_14, List.setIfInBounds_toArray, List.set_cons_zero, List.set_cons_succ]
                refine wpAnyH_ready (rs := [9]) (by kernel_rfl) (by simp) ?_
                refine AllReadyH.cons (o := o19_9) rfl (fun K hK => ?_) AllReadyH.nil
                rw [if_pos (by kernel_rfl)]
                dsimp only [o19_9]
                go_simp
                refine (HEN.out _).mono ?_
                rintro e y10 ⟨rfl, hb⟩
                have HR10 := Lib.hid (HR9.out.below hb)
                have HQ10 := Lib.hid (HQ9.out.trans (hb.mono HQ9.out.size))
                have hS := HXP.out _ HQ10.out
                clear hb
                refine hK.out _ _ (by exact hS) (fun hHeld => ?_)
                clear hK K
                try simp only [Act.put, o19_9, List.setIfInBounds_toArray, List.set_cons_zero, List.set_cons_succ]
                clear hS
                refine wpAnyH_ready (rs := [15]) (by kernel_rfl) (by simp) ?_
                refine AllReadyH.cons (o := o19_15) rfl (fun K hK => ?_) AllReadyH.nil
                rw [if_pos (by kernel_rfl)]
                dsimp only [o19_15]
                go_simp
                refine (HK3B.out _ _ HR10.out).mono ?_
                rintro e y11 ⟨rfl, hb⟩
                have HQ11 := Lib.hid (HQ10.out.trans (hb.mono HQ10.out.size))
                have hS := HXP.out _ HQ11.out
                clear hb
                refine hK.out _ _ (by exact hS) (fun hHeld => ?_)
                clear hK K
                try simp only [Act.put, o19_15, List.setIfInBounds_toArray, List.set_cons_zero, List.set_cons_succ]
                clear hS
                as_aux_lemma =>
                  refine wpAnyH_take (i := 16) (oi := o19_16) (v := ?_) rfl (by kernel_rfl) (by kernel_rfl) (by kernel_rfl) (fun _ _ _ h => h) (Or.inl ⟨by kernel_rfl, ?_⟩) (by assumption) ?_
                  rotate_left
                  · (intro w' hSw; (try dsimp only at hSw); dsimp only [o19_16]; go_simp; all_goals with_reducible rfl)
                  try simp only [Act.put, o19_16, List.setIfInBounds_toArray, List.set_cons_zero, List.set_cons_succ]
                  refine wpAnyH_take (i := 17) (oi := o19_17) (v := ?_) rfl (by kernel_rfl) (by kernel_rfl) (by kernel_rfl) (fun _ _ _ h => h) (Or.inl ⟨by kernel_rfl, ?_⟩) (by assumption) ?_
                  rotate_left
                  · (intro w' hSw; (try dsimp only at hSw); dsimp only [o19_17]; go_simp; all_goals with_reducible rfl)
                  try simp only [Act.put, o19_17, List.setIfInBounds_toArray, List.set_cons_zero, List.set_cons_succ]
                  refine wpAnyH_take (i := 18) (oi := o19_18) (v := ?_) rfl (by kernel_rfl) (by kernel_rfl) (by kernel_rfl) (fun _ _ _ h => h) (Or.inl ⟨by kernel_rfl, ?_⟩) (by assumption) ?_
                  rotate_left
                  · (intro w' hSw; (try dsimp only at hSw); dsimp only [o19_18]; go_simp; all_goals with_reducible rfl)
                  try simp only [Act.put, o19_18, List.setIfInBounds_toArray, List.set_cons_zero, List.set_cons_succ]
                  refine wpAnyH_take (i := 19) (oi := o19_19) (v := ?_) rfl (by kernel_rfl) (by kernel_rfl) (by kernel_rfl) (fun _ _ _ h => h) (Or.inl ⟨by kernel_rfl, ?_⟩) (by assumption) ?_
                  rotate_left
                  · (intro w' hSw; (try dsimp only at hSw); dsimp only [o19_19]; go_simp; all_goals with_reducible rfl)
                  try simp only [Act.put, o19_19, List.setIfInBounds_toArray, List.set_cons_zero, List.set_cons_succ]
                  refine wpAnyH_take (i := 20) (oi := o19_20) (v := ?_) rfl (by kernel_rfl) (by kernel_rfl) (by kernel_rfl) (fun _ _ _ h => h) (Or.inl ⟨by kernel_rfl, ?_⟩) (by assumption) ?_
                  rotate_left
                  · (intro w' hSw; (try dsimp only at hSw); dsimp only [o19_20]; go_simp; all_goals with_reducible rfl)
                  try simp only [Act.put, o19_20, List.setIfInBounds_toArray, List.set_cons_zero, List.set_cons_succ]
                  refine wpAnyH_take (i := 21) (oi := o19_21) (v := ?_) rfl (by kernel_rfl) (by kernel_rfl) (by kernel_rfl) (fun _ _ _ h => h) (Or.inl ⟨by kernel_rfl, ?_⟩) (by assumption) ?_
                  rotate_left
                  · (intro w' hSw; (try dsimp only at hSw); dsimp only [o19_21]; go_simp; all_goals with_reducible rfl)
                  try simp only [Act.put, o19_21, List.setIfInBounds_toArray, List.set_cons_zero, List.set_cons_succ]
                  refine wpAnyH_take (i := 22) (oi := o19_22) (v := ?_) rfl (by kernel_rfl) (by kernel_rfl) (by kernel_rfl) (fun _ _ _ h => h) (Or.inl ⟨by kernel_rfl, ?_⟩) (by assumption) ?_
                  rotate_left
                  · (intro w' hSw; (try dsimp only at hSw); dsimp only [o19_22]; go_simp; all_goals with_reducible rfl)
                  try simp only [Act.put, o19_22, List.setIfInBounds_toArray, List.set_cons_zero, List.set_cons_succ]
                  refine wpAnyH_take (i := 23) (oi := o19_23) (v := ?_) rfl (by kernel_rfl) (by kernel_rfl) (by kernel_rfl) (fun _ _ _ h => h) (Or.inl ⟨by kernel_rfl, ?_⟩) (by assumption) ?_
                  rotate_left
                  · (intro w' hSw; (try dsimp only at hSw); dsimp only [o19_23]; go_simp; all_goals with_reducible rfl)
                  try simp only [Act.put, o19_23, List.setIfInBounds_toArray, List.set_cons_zero, List.set_cons_succ]
                  refine wpAnyH_take (i := 24) (oi := o19_24) (v := ?_) rfl (by kernel_rfl) (by kernel_rfl) (by kernel_rfl) (fun _ _ _ h => h) (Or.inl ⟨by kernel_rfl, ?_⟩) (by assumption) ?_
                  rotate_left
                  · (intro w' hSw; (try dsimp only at hSw); dsimp only [o19_24]; go_simp; all_goals with_reducible rfl)
                  try simp only [Act.put, o19_24, List.setIfInBounds_toArray, List.set_cons_zero, List.set_cons_succ]
                  refine wpAnyH_take (i := 25) (oi := o19_25) (v := ?_) rfl (by kernel_rfl) (by kernel_rfl) (by kernel_rfl) (fun _ _ _ h => h) (Or.inl ⟨by kernel_rfl, ?_⟩) (by assumption) ?_
                  rotate_left
                  · (intro w' hSw; (try dsimp only at hSw); dsimp only [o19_25]; go_simp; all_goals with_reducible rfl)
                  try simp only [Act.put, o19_25, List.setIfInBounds_toArray, List.set_cons_zero, List.set_cons_succ]
                  refine wpAnyH_take (i := 26) (oi := o19_26) (v := ?_) rfl (by kernel_rfl) (by kernel_rfl) (by kernel_rfl) (fun _ _ _ h => h) (Or.inl ⟨by kernel_rfl, ?_⟩) (by assumption) ?_
                  rotate_left
                  · (intro w' hSw; (try dsimp only at hSw); dsimp only [o19_26]; go_simp; all_goals with_reducible rfl)
                  try simp only [Act.put, o19_26, List.setIfInBounds_toArray, List.set_cons_zero, List.set_cons_succ]
                  refine wpAnyH_take (i := 27) (oi := o19_27) (v := ?_) rfl (by kernel_rfl) (by kernel_rfl) (by kernel_rfl) (fun _ _ _ h => h) (Or.inl ⟨by kernel_rfl, ?_⟩) (by assumption) ?_
                  rotate_left
                  · (intro w' hSw; (try dsimp only at hSw); dsimp only [o19_27]; go_simp; all_goals with_reducible rfl)
                  try simp only [Act.put, o19_27, List.setIfInBounds_toArray, List.set_cons_zero, List.set_cons_succ]
                  refine wpAnyH_take (i := 28) (oi := o19_28) (v := ?_) rfl (by kernel_rfl) (by kernel_rfl) (by kernel_rfl) (fun _ _ _ h => h) (Or.inl ⟨by kernel_rfl, ?_⟩) (by assumption) ?_
                  rotate_left
                  · (intro w' hSw; (try dsimp only at hSw); dsimp only [o19_28]; go_simp; all_goals with_reducible rfl)
                  try simp only [Act.put, o19_28, List.setIfInBounds_toArray, List.set_cons_zero, List.set_cons_succ]
                  refine wpAnyH_take (i := 29) (oi := o19_29) (v := ?_) rfl (by kernel_rfl) (by kernel_rfl) (by kernel_rfl) (fun _ _ _ h => h) (Or.inl ⟨by kernel_rfl, ?_⟩) (by assumption) ?_
                  rotate_left
                  · (intro w' hSw; (try dsimp only at hSw); dsimp only [o19_29]; go_simp; all_goals with_reducible rfl)
                  try simp only [Act.put, o19_29, List.setIfInBounds_toArray, List.set_cons_zero, List.set_cons_succ]
                  refine wpAnyH_take (i := 30) (oi := o19_30) (v := ?_) rfl (by kernel_rfl) (by kernel_rfl) (by kernel_rfl) (fun _ _ _ h => h) (Or.inl ⟨by kernel_rfl, ?_⟩) (by assumption) ?_
                  rotate_left
                  · (intro w' hSw; (try dsimp only at hSw); dsimp only [o19_30]; go_simp; all_goals with_reducible rfl)
                  try simp only [Act.put, o19_30, List.setIfInBounds_toArray, List.set_cons_zero, List.set_cons_succ]
                  refine wpAnyH_take (i := 31) (oi := o19_31) (v := ?_) rfl (by kernel_rfl) (by kernel_rfl) (by kernel_rfl) (fun _ _ _ h => h) (Or.inl ⟨by kernel_rfl, ?_⟩) (by assumption) ?_
                  rotate_left
                  · (intro w' hSw; (try dsimp only at hSw); dsimp only [o19_31]; go_simp; all_goals with_reducible rfl)
                  try simp only [Act.put, o19_31, List.setIfInBounds_toArray, List.set_cons_zero, List.set_cons_succ]
                  refine wpAnyH_take (i := 32) (oi := o19_32) (v := ?_) rfl (by kernel_rfl) (by kernel_rfl) (by kernel_rfl) (fun _ _ _ h => h) (Or.inl ⟨by kernel_rfl, ?_⟩) (by assumption) ?_
                  rotate_left
                  · (intro w' hSw; (try dsimp only at hSw); dsimp only [o19_32]; go_simp; all_goals with_reducible rfl)
                  try simp only [Act.put, o19_32, List.setIfInBounds_toArray, List.set_cons_zero, List.set_cons_succ]
                  refine wpAnyH_take (i := 33) (oi := o19_33) (v := ?_) rfl (by kernel_rfl) (by kernel_rfl) (by kernel_rfl) (fun _ _ _ h => h) (Or.inl ⟨by kernel_rfl, ?_⟩) (by assumption) ?_
                  rotate_left
                  · (intro w' hSw; (try dsimp only at hSw); dsimp only [o19_33]; go_simp; all_goals with_reducible rfl)
                  try simp only [Act.put, o19_33, List.setIfInBounds_toArray, List.set_cons_zero, List.set_cons_succ]
                  refine wpAnyH_take (i := 34) (oi := o19_34) (v := ?_) rfl (by kernel_rfl) (by kernel_rfl) (by kernel_rfl) (fun _ _ _ h => h) (Or.inl ⟨by kernel_rfl, ?_⟩) (by assumption) ?_
                  rotate_left
                  · (intro w' hSw; (try dsimp only at hSw); dsimp only [o19_34]; go_simp; all_goals with_reducible rfl)
                  try simp only [Act.put, o19_34, List.setIfInBounds_toArray, List.set_cons_zero, List.set_cons_succ]
                  refine wpAnyH_take (i := 35) (oi := o19_35) (v := ?_) rfl (by kernel_rfl) (by kernel_rfl) (by kernel_rfl) (fun _ _ _ h => h) (Or.inl ⟨by kernel_rfl, ?_⟩) (by assumption) ?_
                  rotate_left
                  · (intro w' hSw; (try dsimp only at hSw); dsimp only [o19_35]; go_simp; all_goals with_reducible rfl)
                  try simp only [Act.put, o19_35, List.setIfInBounds_toArray, List.set_cons_zero, List.set_cons_succ]
                  refine wpAnyH_take (i := 36) (oi := o19_36) (v := ?_) rfl (by kernel_rfl) (by kernel_rfl) (by kernel_rfl) (fun _ _ _ h => h) (Or.inl ⟨by kernel_rfl, ?_⟩) (by assumption) ?_
                  rotate_left
                  · (intro w' hSw; (try dsimp only at hSw); dsimp only [o19_36]; go_simp; all_goals with_reducible rfl)
                  try simp only [Act.put, o19_36, List.setIfInBounds_toArray, List.set_cons_zero, List.set_cons_succ]
                  refine wpAnyH_take (i := 37) (oi := o19_37) (v := ?_) rfl (by kernel_rfl) (by kernel_rfl) (by kernel_rfl) (fun _ _ _ h => h) (Or.inl ⟨by kernel_rfl, ?_⟩) (by assumption) ?_
                  rotate_left
                  · (intro w' hSw; (try dsimp only at hSw); dsimp only [o19_37]; go_simp; all_goals with_reducible rfl)
                  try simp only [Act.put, o19_37, List.setIfInBounds_toArray, List.set_cons_zero, List.set_cons_succ]
                  refine wpAnyH_take (i := 38) (oi := o19_38) (v := ?_) rfl (by kernel_rfl) (by kernel_rfl) (by kernel_rfl) (fun _ _ _ h => h) (Or.inl ⟨by kernel_rfl, ?_⟩) (by assumption) ?_
                  rotate_left
                  · (intro w' hSw; (try dsimp only at hSw); dsimp only [o19_38]; go_simp; all_goals with_reducible rfl)
                  try simp only [Act.put, o19_38, List.setIfInBounds_toArray, List.set_cons_zero, List.set_cons_succ]
                  refine wpAnyH_take (i := 39) (oi := o19_39) (v := ?_) rfl (by kernel_rfl) (by kernel_rfl) (by kernel_rfl) (fun _ _ _ h => h) (Or.inl ⟨by kernel_rfl, ?_⟩) (by assumption) ?_
                  rotate_left
                  · (intro w' hSw; (try dsimp only at hSw); dsimp only [o19_39]; go_simp; all_goals with_reducible rfl)
                  try simp only [Act.put, o19_39, List.setIfInBounds_toArray, List.set_cons_zero, List.set_cons_succ]
                  refine wpAnyH_take (i := 40) (oi := o19_40) (v := ?_) rfl (by kernel_rfl) (by kernel_rfl) (by kernel_rfl) (fun _ _ _ h => h) (Or.inl ⟨by kernel_rfl, ?_⟩) (by assumption) ?_
                  rotate_left
                  · (intro w' hSw; (try dsimp only at hSw); dsimp only [o19_40]; go_simp; all_goals with_reducible rfl)
                  try simp only [Act.put, o19_40, List.setIfInBounds_toArray, List.set_cons_zero, List.set_cons_succ]
                  refine wpAnyH_take (i := 41) (oi := o19_41) (v := ?_) rfl (by kernel_rfl) (by kernel_rfl) (by kernel_rfl) (fun _ _ _ h => h) (Or.inl ⟨by kernel_rfl, ?_⟩) (by assumption) ?_
                  rotate_left
                  · (intro w' hSw; (try dsimp only at hSw); dsimp only [o19_41]; go_simp; all_goals with_reducible rfl)
                  try simp only [Act.put, o19_41, List.setIfInBounds_toArray, List.set_cons_zero, List.set_cons_succ]
                  refine wpAnyH_take (i := 42) (oi := o19_42) (v := ?_) rfl (by kernel_rfl) (by kernel_rfl) (by kernel_rfl) (fun _ _ _ h => h) (Or.inl ⟨by kernel_rfl, ?_⟩) (by assumption) ?_
                  rotate_left
                  · (intro w' hSw; (try dsimp only at hSw); dsimp only [o19_42]; go_simp; all_goals with_reducible rfl)
                  try simp only [Act.put, o19_42, List.setIfInBounds_toArray, List.set_cons_zero, List.set_cons_succ]
                  refine wpAnyH_take (i := 43) (oi := o19_43) (v := ?_) rfl (by kernel_rfl) (by kernel_rfl) (by kernel_rfl) (fun _ _ _ h => h) (Or.inl ⟨by kernel_rfl, ?_⟩) (by assumption) ?_
                  rotate_left
                  · (intro w' hSw; (try dsimp only at hSw); dsimp only [o19_43]; go_simp; all_goals with_reducible rfl)
                  try simp only [Act.put, o19_43, List.setIfInBounds_toArray, List.set_cons_zero, List.set_cons_succ]
                  refine wpAnyH_take (i := 44) (oi := o19_44) (v := ?_) rfl (by kernel_rfl) (by kernel_rfl) (by kernel_rfl) (fun _ _ _ h => h) (Or.inl ⟨by kernel_rfl, ?_⟩) (by assumption) ?_
                  rotate_left
                  · (intro w' hSw; (try dsimp only at hSw); dsimp only [o19_44]; go_simp; all_goals with_reducible rfl)
                  try simp only [Act.put, o19_44, List.setIfInBounds_toArray, List.set_cons_zero, List.set_cons_succ]
                  refine wpAnyH_take (i := 45) (oi := o19_45) (v := ?_) rfl (by kernel_rfl) (by kernel_rfl) (by kernel_rfl) (fun _ _ _ h => h) (Or.inl ⟨by kernel_rfl, ?_⟩) (by assumption) ?_
                  rotate_left
                  · (intro w' hSw; (try dsimp only at hSw); dsimp only [o19_45]; go_simp; all_goals with_reducible rfl)
                  try simp only [Act.put, o19_45, List.setIfInBounds_toArray, List.set_cons_zero, List.set_cons_succ]
                  refine wpAnyH_take (i := 46) (oi := o19_46) (v := ?_) rfl (by kernel_rfl) (by kernel_rfl) (by kernel_rfl) (fun _ _ _ h => h) (Or.inl ⟨by kernel_rfl, ?_⟩) (by assumption) ?_
                  rotate_left
                  · (intro w' hSw; (try dsimp only at hSw); dsimp only [o19_46]; go_simp; all_goals with_reducible rfl)
                  try simp only [Act.put, o19_46, List.setIfInBounds_toArray, List.set_cons_zero, List.set_cons_succ]
                  refine wpAnyH_take (i := 47) (oi := o19_47) (v := ?_) rfl (by kernel_rfl) (by kernel_rfl) (by kernel_rfl) (fun _ _ _ h => h) (Or.inl ⟨by kernel_rfl, ?_⟩) (by assumption) ?_
                  rotate_left
                  · (intro w' hSw; (try dsimp only at hSw); dsimp only [o19_47]; go_simp; all_goals with_reducible rfl)
                  try simp only [Act.put, o19_47, List.setIfInBounds_toArray, List.set_cons_zero, List.set_cons_succ]
                  refine wpAnyH_take (i := 48) (oi := o19_48) (v := ?_) rfl (by kernel_rfl) (by kernel_rfl) (by kernel_rfl) (fun _ _ _ h => h) (Or.inl ⟨by kernel_rfl, ?_⟩) (by assumption) ?_
                  rotate_left
                  · (intro w' hSw; (try dsimp only at hSw); dsimp only [o19_48]; go_simp; all_goals with_reducible rfl)
                  try simp only [Act.put, o19_48, List.setIfInBounds_toArray, List.set_cons_zero, List.set_cons_succ]
                  refine wpAnyH_take (i := 49) (oi := o19_49) (v := ?_) rfl (by kernel_rfl) (by kernel_rfl) (by kernel_rfl) (fun _ _ _ h => h) (Or.inl ⟨by kernel_rfl, ?_⟩) (by assumption) ?_
                  rotate_left
                  · (intro w' hSw; (try dsimp only at hSw); dsimp only [o19_49]; go_simp; all_goals with_reducible rfl)
                  try simp only [Act.put, o19_49, List.setIfInBounds_toArray, List.set_cons_zero, List.set_cons_succ]
                  refine wpAnyH_take (i := 50) (oi := o19_50) (v := ?_) rfl (by kernel_rfl) (by kernel_rfl) (by kernel_rfl) (fun _ _ _ h => h) (Or.inl ⟨by kernel_rfl, ?_⟩) (by assumption) ?_
                  rotate_left
                  · (intro w' hSw; (try dsimp only at hSw); dsimp only [o19_50]; go_simp; all_goals with_reducible rfl)
                  try simp only [Act.put, o19_50, List.setIfInBounds_toArray, List.set_cons_zero, List.set_cons_succ]
                  refine wpAnyH_take (i := 51) (oi := o19_51) (v := ?_) rfl (by kernel_rfl) (by kernel_rfl) (by kernel_rfl) (fun _ _ _ h => h) (Or.inl ⟨by kernel_rfl, ?_⟩) (by assumption) ?_
                  rotate_left
                  · (intro w' hSw; (try dsimp only at hSw); dsimp only [o19_51]; go_simp; all_goals with_reducible rfl)
                  try simp only [Act.put, o19_51, List.setIfInBounds_toArray, List.set_cons_zero, List.set_cons_succ]
                  refine wpAnyH_take (i := 53) (oi := o19_53) (v := ?_) rfl (by kernel_rfl) (by kernel_rfl) (by kernel_rfl) (fun _ _ _ h => h) (Or.inl ⟨by kernel_rfl, ?_⟩) (by assumption) ?_
                  rotate_left
                  · (intro w' hSw; (try dsimp only at hSw); dsimp only [o19_53]; go_simp; all_goals with_reducible rfl)
                  try simp only [Act.put, o19_53, List.setIfInBounds_toArray, List.set_cons_zero, List.set_cons_succ]
                  as_aux_lemma =>
                    refine wpAnyH_ready (rs := [52]) (by kernel_rfl) (by simp) ?_
                    refine AllReadyH.cons (o := o19_52) rfl (fun K hK => ?_) AllReadyH.nil
                    rw [if_pos (by kernel_rfl)]
                    dsimp only [o19_52]
                    go_simp
                    refine (HDA.out _).mono ?_
                    rintro e y12 ⟨rfl, hb⟩
                    have HQ12 := Lib.hid (HQ11.out.trans (hb.mono HQ11.out.size))
                    have hS := HXP.out _ HQ12.out
                    clear hb
                    refine hK.out _ _ (by exact hS) (fun hHeld => ?_)
                    clear hK K
                    try simp only [Act.put, o19_52, List.setIfInBounds_toArray, List.set_cons_zero, List.set_cons_succ]
                    clear hS
                    refine wpAnyH_ready (rs := [54]) (by kernel_rfl) (by simp) ?_
                    refine AllReadyH.cons (o := o19_54) rfl (fun K hK => ?_) AllReadyH.nil
                    rw [if_pos (by kernel_rfl)]
                    dsimp only [o19_54]
                    go_simp
                    refine (HSB.out _).mono ?_
                    rintro e y13 ⟨rfl, hb⟩
                    have HQ13 := Lib.hid (HQ12.out.trans (hb.mono HQ12.out.size))
                    have hS := HXP.out _ HQ13.out
                    clear hb
                    refine hK.out _ _ (by exact hS) (fun hHeld => ?_)
                    clear hK K
                    try simp only [Act.put, o19_54, List.setIfInBounds_toArray, List.set_cons_zero, List.set_cons_succ]
                    clear hS
                    refine wpAnyH_ready (rs := [55]) (by kernel_rfl) (by simp) ?_
                    refine AllReadyH.cons (o := o19_55) rfl (fun K hK => ?_) AllReadyH.nil
                    rw [if_pos (by kernel_rfl)]
                    dsimp only [o19_55]
                    go_simp
                    refine (HBD.out _).mono ?_
                    rintro e y14 ⟨rfl, rfl⟩
                    have HQ14 := HQ13
                    have hS := HXP.out _ HQ14.out
                    refine hK.out _ _ (by exact hS) (fun hHeld => ?_)
                    clear hK K
                    try simp only [Act.put, o19_55, List.setIfInBounds_toArray, List.set_cons_zero, List.set_cons_succ]
                    clear hS
                    refine wpAnyH_take (i := 56) (oi := o19_56) (v := ?_) rfl (by kernel_rfl) (by kernel_rfl) (by kernel_rfl) (fun _ _ _ h => h) (Or.inl ⟨by kernel_rfl, ?_⟩) (by assumption) ?_
                    rotate_left
                    · (intro w' hSw; (try dsimp only at hSw); dsimp only [o19_56]; go_simp; all_goals with_reducible rfl)
                    try simp only [Act.put, o19_56, List.setIfInBounds_toArray, List.set_cons_zero, List.set_cons_succ]
                    refine wpAnyH_take (i := 57) (oi := o19_57) (v := ?_) rfl (by kernel_rfl) (by kernel_rfl) (by kernel_rfl) (fun _ _ _ h => h) (Or.inl ⟨by kernel_rfl, ?_⟩) (by assumption) ?_
                    rotate_left
                    · (intro w' hSw; (try dsimp only at hSw); dsimp only [o19_57]; go_simp; all_goals with_reducible rfl)
                    try simp only [Act.put, o19_57, List.setIfInBounds_toArray, List.set_cons_zero, List.set_cons_succ]
                    refine wpAnyH_take (i := 58) (oi := o19_58) (v := ?_) rfl (by kernel_rfl) (by kernel_rfl) (by kernel_rfl) (fun _ _ _ h => h) (Or.inl ⟨by kernel_rfl, ?_⟩) (by assumption) ?_
                    rotate_left
                    · (intro w' hSw; (try dsimp only at hSw); dsimp only [o19_58]; go_simp; all_goals with_reducible rfl)
                    try simp only [Act.put, o19_58, List.setIfInBounds_toArray, List.set_cons_zero, List.set_cons_succ]
                    refine wpAnyH_take (i := 59) (oi := o19_59) (v := ?_) rfl (by kernel_rfl) (by kernel_rfl) (by kernel_rfl) (fun _ _ _ h => h) (Or.inl ⟨by kernel_rfl, ?_⟩) (by assumption) ?_
                    rotate_left
                    · (intro w' hSw; (try dsimp only at hSw); dsimp only [o19_59]; go_simp; all_goals with_reducible rfl)
                    try simp only [Act.put, o19_59, List.setIfInBounds_toArray, List.set_cons_zero, List.set_cons_succ]
                    refine wpAnyH_take (i := 61) (oi := o19_61) (v := ?_) rfl (by kernel_rfl) (by kernel_rfl) (by kernel_rfl) (fun _ _ _ h => h) (Or.inl ⟨by kernel_rfl, ?_⟩) (by assumption) ?_
                    rotate_left
                    · (intro w' hSw; (try dsimp only at hSw); dsimp only [o19_61]; go_simp; all_goals with_reducible rfl)
                    try simp only [Act.put, o19_61, List.setIfInBounds_toArray, List.set_cons_zero, List.set_cons_succ]
                    refine wpAnyH_take (i := 62) (oi := o19_62) (v := ?_) rfl (by kernel_rfl) (by kernel_rfl) (by kernel_rfl) (fun _ _ _ h => h) (Or.inl ⟨by kernel_rfl, ?_⟩) (by assumption) ?_
                    rotate_left
                    · (intro w' hSw; (try dsimp only at hSw); dsimp only [o19_62]; go_simp; all_goals with_reducible rfl)
                    try simp only [Act.put, o19_62, List.setIfInBounds_toArray, List.set_cons_zero, List.set_cons_succ]
                    refine wpAnyH_take (i := 65) (oi := o19_65) (v := ?_) rfl (by kernel_rfl) (by kernel_rfl) (by kernel_rfl) (fun _ _ _ h => h) (Or.inl ⟨by kernel_rfl, ?_⟩) (by assumption) ?_
                    rotate_left
                    · (intro w' hSw; (try dsimp only at hSw); dsimp only [o19_65]; go_simp; all_goals with_reducible rfl)
                    try simp only [Act.put, o19_65, List.setIfInBounds_toArray, List.set_cons_zero, List.set_cons_succ]
                    refine wpAnyH_take (i := 66) (oi := o19_66) (v := ?_) rfl (by kernel_rfl) (by kernel_rfl) (by kernel_rfl) (fun _ _ _ h => h) (Or.inl ⟨by kernel_rfl, ?_⟩) (by assumption) ?_
                    rotate_left
                    · (intro w' hSw; (try dsimp only at hSw); dsimp only [o19_66]; go_simp; all_goals with_reducible rfl)
                    try simp only [Act.put, o19_66, List.setIfInBounds_toArray, List.set_cons_zero, List.set_cons_succ]
                    refine wpAnyH_take (i := 67) (oi := o19_67) (v := ?_) rfl (by kernel_rfl) (by kernel_rfl) (by kernel_rfl) (fun _ _ _ h => h) (Or.inl ⟨by kernel_rfl, ?_⟩) (by assumption) ?_
                    rotate_left
                    · (intro w' hSw; (try dsimp only at hSw); dsimp only [o19_67]; go_simp; all_goals with_reducible rfl)
                    try simp only [Act.put, o19_67, List.setIfInBounds_toArray, List.set_cons_zero, List.set_cons_succ]
                    refine wpAnyH_ready (rs := [60]) (by kernel_rfl) (by simp) ?_
                    refine AllReadyH.cons (o := o19_60) rfl (fun K hK => ?_) AllReadyH.nil
                    rw [if_pos (by kernel_rfl)]
                    dsimp only [o19_60]
                    go_simp
                    refine (HDA.out _).mono ?_
                    rintro e y15 ⟨rfl, hb⟩
                    have HQ15 := Lib.hid (HQ14.out.trans (hb.mono HQ14.out.size))
                    have hS := HXP.out _ HQ15.out
                    clear hb
                    refine hK.out _ _ (by exact hS) (fun hHeld => ?_)
                    clear hK K
                    try simp only [Act.put, o19_60, List.setIfInBounds_toArray, List.set_cons_zero, List.set_cons_succ]
                    clear hS
                    refine wpAnyH_ready (rs := [63]) (by kernel_rfl) (by simp) ?_
                    refine AllReadyH.cons (o := o19_63) rfl (fun K hK => ?_) AllReadyH.nil
                    rw [if_pos (by kernel_rfl)]
                    dsimp only [o19_63]
                    go_simp
                    refine (HDB.out _).mono ?_
                    rintro e y16 ⟨rfl, hb⟩
                    have HQ16 := Lib.hid (HQ15.out.trans (hb.mono HQ15.out.size))
                    have hS := HXP.out _ HQ16.out
                    clear hb
                    refine hK.out _ _ (by exact hS) (fun hHeld => ?_)
                    clear hK K
                    try simp only [Act.put, o19_63, List.setIfInBounds_toArray, List.set_cons_zero, List.set_cons_succ]
                    clear hS
                    refine wpAnyH_take (i := 64) (oi := o19_64) (v := ?_) rfl (by kernel_rfl) (by kernel_rfl) (by kernel_rfl) (fun _ _ _ h => h) (Or.inl ⟨by kernel_rfl, ?_⟩) (by assumption) ?_
                    rotate_left
                    · (intro w' hSw; (try dsimp only at hSw); dsimp only [o19_64]; go_simp; all_goals with_reducible rfl)
                    try simp only [Act.put, o19_64, List.setIfInBounds_toArray, List.set_cons_zero, List.set_cons_succ]
                    refine wpAnyH_take (i := 68) (oi := o19_68) (v := ?_) rfl (by kernel_rfl) (by kernel_rfl) (by kernel_rfl) (fun _ _ _ h => h) (Or.inl ⟨by kernel_rfl, ?_⟩) (by assumption) ?_
                    rotate_left
                    · (intro w' hSw; (try dsimp only at hSw); dsimp only [o19_68]; go_simp; all_goals with_reducible rfl)
                    try simp only [Act.put, o19_68, List.setIfInBounds_toArray, List.set_cons_zero, List.set_cons_succ]
                    refine wpAnyH_take (i := 69) (oi := o19_69) (v := ?_) rfl (by kernel_rfl) (by kernel_rfl) (by kernel_rfl) (fun _ _ _ h => h) (Or.inl ⟨by kernel_rfl, ?_⟩) (by assumption) ?_
                    rotate_left
                    · (intro w' hSw; (try dsimp only at hSw); dsimp only [o19_69]; go_simp; all_goals with_reducible rfl)
                    try simp only [Act.put, o19_69, List.setIfInBounds_toArray, List.set_cons_zero, List.set_cons_succ]
                    refine wpAnyH_take (i := 70) (oi := o19_70) (v := ?_) rfl (by kernel_rfl) (by kernel_rfl) (by kernel_rfl) (fun _ _ _ h => h) (Or.inl ⟨by kernel_rfl, ?_⟩) (by assumption) ?_
                    rotate_left
                    · (intro w' hSw; (try dsimp only at hSw); dsimp only [o19_70]; go_simp; all_goals with_reducible rfl)
                    try simp only [Act.put, o19_70, List.setIfInBounds_toArray, List.set_cons_zero, List.set_cons_succ]
                    refine wpAnyH_take (i := 71) (oi := o19_71) (v := ?_) rfl (by kernel_rfl) (by kernel_rfl) (by kernel_rfl) (fun _ _ _ h => h) (Or.inl ⟨by kernel_rfl, ?_⟩) (by assumption) ?_
                    rotate_left
                    · (intro w' hSw; (try dsimp only at hSw); dsimp only [o19_71]; go_simp; all_goals with_reducible rfl)
                    try simp only [Act.put, o19_71, List.setIfInBounds_toArray, List.set_cons_zero, List.set_cons_succ]
                    refine wpAnyH_take (i := 73) (oi := o19_73) (v := ?_) rfl (by kernel_rfl) (by kernel_rfl) (by kernel_rfl) (fun _ _ _ h => h) (Or.inl ⟨by kernel_rfl, ?_⟩) (by assumption) ?_
                    rotate_left
                    · (intro w' hSw; (try dsimp only at hSw); dsimp only [o19_73]; go_simp; all_goals with_reducible rfl)
                    try simp only [Act.put, o19_73, List.setIfInBounds_toArray, List.set_cons_zero, List.set_cons_succ]
                    refine wpAnyH_take (i := 74) (oi := o19_74) (v := ?_) rfl (by kernel_rfl) (by kernel_rfl) (by kernel_rfl) (fun _ _ _ h => h) (Or.inl ⟨by kernel_rfl, ?_⟩) (by assumption) ?_
                    rotate_left
                    · (intro w' hSw; (try dsimp only at hSw); dsimp only [o19_74]; go_simp; all_goals with_reducible rfl)
                    try simp only [Act.put, o19_74, List.setIfInBounds_toArray, List.set_cons_zero, List.set_cons_succ]
                    as_aux_lemma =>
                      refine wpAnyH_ready (rs := [72, 75]) (by kernel_rfl) (by simp) ?_
                      refine AllReadyH.cons (o := o19_72) rfl (fun K hK => ?_) (AllReadyH.cons (o := o19_75) rfl (fun K hK => ?_) AllReadyH.nil)
                      · rw [if_pos (by kernel_rfl)]
                        dsimp only [o19_72]
                        go_simp
                        refine (HKC.out _).mono ?_
                        rintro e y17 ⟨rfl, hb⟩
                        have HQ17 := Lib.hid (HQ16.out.trans (hb.mono HQ16.out.size))
                        have hS := HXP.out _ HQ17.out
                        clear hb
                        refine hK.out _ _ (by exact hS) (fun hHeld => ?_)
                        clear hK K hS
                        try simp only [Act.put, o19_72, List.setIfInBounds_toArray, List.set_cons_zero, List.set_cons_succ]
                        refine wpAnyH_ready (rs := [75]) (by kernel_rfl) (by simp) ?_
                        refine AllReadyH.cons (o := o19_75) rfl (fun K hK => ?_) AllReadyH.nil
                        rw [if_pos (by kernel_rfl)]
                        dsimp only [o19_75]
                        go_simp
                        have hS := HXP.out _ (HQ17.out.alloc HQ17.out.size (.cells #[.string ⟨#[99]⟩, .string cn] 9))
                        refine hK.out _ _ (by exact hS) (fun hHeld => ?_)
                        clear hK K
                        try simp only [Act.put, o19_75, List.setIfInBounds_toArray, List.set_cons_zero, List.set_cons_succ]
                        clear hS
                        refine wpAnyH_ready (rs := [76]) (by kernel_rfl) (by simp) ?_
                        refine AllReadyH.cons (o := o19_76) rfl (fun K hK => ?_) AllReadyH.nil
                        rw [if_pos (by kernel_rfl)]
                        dsimp only [o19_76]
                        go_simp
                        refine (HK2.out _).mono ?_
                        rintro e y19 ⟨rfl, hb⟩
                        have HQ19 := Lib.hid (HQ17.out.trans (hb.mono HQ17.out.size))
                        have hS := HXP.out _ HQ19.out
                        clear hb
                        refine hK.out _ _ (by exact hS) (fun hHeld => ?_)
                        clear hK K
                        try simp only [Act.put, o19_76, List.setIfInBounds_toArray, List.set_cons_zero, List.set_cons_succ]
                        clear hS
                        as_aux_lemma =>
                          refine wpAnyH_take (i := 77) (oi := o19_77) (v := ?_) rfl (by kernel_rfl) (by kernel_rfl) (by kernel_rfl) (fun _ _ _ h => h) (Or.inl ⟨by kernel_rfl, ?_⟩) (by assumption) ?_
                          rotate_left
                          · (intro w' hSw; (try dsimp only at hSw); dsimp only [o19_77]; go_simp; all_goals with_reducible rfl)
                          try simp only [Act.put, o19_77, List.setIfInBounds_toArray, List.set_cons_zero, List.set_cons_succ]
                          refine wpAnyH_take (i := 78) (oi := o19_78) (v := ?_) rfl (by kernel_rfl) (by kernel_rfl) (by kernel_rfl) (fun _ _ _ h => h) (Or.inl ⟨by kernel_rfl, ?_⟩) (by assumption) ?_
                          rotate_left
                          · (intro w' hSw; (try dsimp only at hSw); dsimp only [o19_78]; go_simp; all_goals with_reducible rfl)
                          try simp only [Act.put, o19_78, List.setIfInBounds_toArray, List.set_cons_zero, List.set_cons_succ]
                          refine wpAnyH_take (i := 79) (oi := o19_79) (v := ?_) rfl (by kernel_rfl) (by kernel_rfl) (by kernel_rfl) (fun _ _ _ h => h) (Or.inl ⟨by kernel_rfl, ?_⟩) (by assumption) ?_
                          rotate_left
                          · (intro w' hSw; (try dsimp only at hSw); dsimp only [o19_79]; go_simp; all_goals with_reducible rfl)
                          try simp only [Act.put, o19_79, List.setIfInBounds_toArray, List.set_cons_zero, List.set_cons_succ]
                          refine wpAnyH_done (by kernel_rfl) ?_ _
                          go_wp2
                          go_ret
                          exact ⟨rfl, (HXC.out _ (HC5.out.trans (HQ19.out.mono HC5.out.size))).1⟩
                      · rw [if_pos (by kernel_rfl)]
                        dsimp only [o19_75]
                        go_simp
                        have HQ17 := Lib.hid (HQ16.out.alloc HQ16.out.size (.cells #[.string ⟨#[99]⟩, .string cn] 9))
                        have HR17 := Lib.hid (row_of HQ16.out #[.string ⟨#[99]⟩, .string cn])
                        have hS := HXP.out _ HQ17.out
                        refine hK.out _ _ (by exact hS) (fun hHeld => ?_)
                        clear hK K hS
                        try simp only [Act.put, o19_75, List.setIfInBounds_toArray, List.set_cons_zero, List.set_cons_succ]
                        refine wpAnyH_ready (rs := [72]) (by kernel_rfl) (by simp) ?_
                        refine AllReadyH.cons (o := o19_72) rfl (fun K hK => ?_) AllReadyH.nil
                        rw [if_pos (by kernel_rfl)]
                        dsimp only [o19_72]
                        go_simp
                        refine (HKC.out _).mono ?_
                        rintro e y18 ⟨rfl, hb⟩
                        have HR18 := Lib.hid (HR17.out.below hb)
                        have HQ18 := Lib.hid (HQ17.out.trans (hb.mono HQ17.out.size))
                        have hS := HXP.out _ HQ18.out
                        clear hb
                        refine hK.out _ _ (by exact hS) (fun hHeld => ?_)
                        clear hK K
                        try simp only [Act.put, o19_72, List.setIfInBounds_toArray, List.set_cons_zero, List.set_cons_succ]
                        clear hS
                        refine wpAnyH_ready (rs := [76]) (by kernel_rfl) (by simp) ?_
                        refine AllReadyH.cons (o := o19_76) rfl (fun K hK => ?_) AllReadyH.nil
                        rw [if_pos (by kernel_rfl)]
                        dsimp only [o19_76]
                        go_simp
                        refine (HK2B.out _ _ HR18.out).mono ?_
                        rintro e y19 ⟨rfl, hb⟩
                        have HQ19 := Lib.hid (HQ18.out.trans (hb.mono HQ18.out.size))
                        have hS := HXP.out _ HQ19.out
                        clear hb
                        refine hK.out _ _ (by exact hS) (fun hHeld => ?_)
                        clear hK K
                        try simp only [Act.put, o19_76, List.setIfInBounds_toArray, List.set_cons_zero, List.set_cons_succ]
                        clear hS
                        as_aux_lemma =>
                          refine wpAnyH_take (i := 77) (oi := o19_77) (v := ?_) rfl (by kernel_rfl) (by kernel_rfl) (by kernel_rfl) (fun _ _ _ h => h) (Or.inl ⟨by kernel_rfl, ?_⟩) (by assumption) ?_
                          rotate_left
                          · (intro w' hSw; (try dsimp only at hSw); dsimp only [o19_77]; go_simp; all_goals with_reducible rfl)
                          try simp only [Act.put, o19_77, List.setIfInBounds_toArray, List.set_cons_zero, List.set_cons_succ]
                          refine wpAnyH_take (i := 78) (oi := o19_78) (v := ?_) rfl (by kernel_rfl) (by kernel_rfl) (by kernel_rfl) (fun _ _ _ h => h) (Or.inl ⟨by kernel_rfl, ?_⟩) (by assumption) ?_
                          rotate_left
                          · (intro w' hSw; (try dsimp only at hSw); dsimp only [o19_78]; go_simp; all_goals with_reducible rfl)
                          try simp only [Act.put, o19_78, List.setIfInBounds_toArray, List.set_cons_zero, List.set_cons_succ]
                          refine wpAnyH_take (i := 79) (oi := o19_79) (v := ?_) rfl (by kernel_rfl) (by kernel_rfl) (by kernel_rfl) (fun _ _ _ h => h) (Or.inl ⟨by kernel_rfl, ?_⟩) (by assumption) ?_
                          rotate_left
                          · (intro w' hSw; (try dsimp only at hSw); dsimp only [o19_79]; go_simp; all_goals with_reducible rfl)
                          try simp only [Act.put, o19_79, List.setIfInBounds_toArray, List.set_cons_zero, List.set_cons_succ]
                          refine wpAnyH_done (by kernel_rfl) ?_ _
                          go_wp2
                          go_ret
                          exact ⟨rfl, (HXC.out _ (HC5.out.trans (HQ19.out.mono HC5.out.size))).1⟩

theorem walk (w : World) (cn : ByteArray) (ca : Option Addr) (clen ccap : Nat) (cxs : List Ix) (hcc : IxsCame w ca clen ccap cxs) (x : Ix) (u0 : V) (lu fu : Value) (hu0 : u0.Is w lu fu) (nu0 : u0.n64) (v0 : V) (lv fv : Value) (hv0 : v0.Is w lv fv) (nv0 : v0.n64) (ta : ByteArray) (_hta : ta.size ≤ maxLen) (tb : ByteArray) (_htb : tb.size ≤ maxLen) :
    Calls Try.prog 7 #[.agg #[.string cn, .slice ca clen ccap], .agg #[.string x.name, .string x.field, .bool x.uniq], .agg #[.int .i64 u0.kind, .bool u0.yes, .int .i64 u0.num, .string u0.text, lu, fu], .agg #[.int .i64 v0.kind, .bool v0.yes, .int .i64 v0.num, .string v0.text, lv, fv], .string ta, .string tb] w fun e w' => e = .returned (.bool true) ∧ Below w.heap.size w w' := by
  obtain ⟨⟨la, lc, rfl⟩, ⟨fa, fc, rfl⟩, _, _⟩ := hu0.len
  obtain ⟨⟨ma, mc, rfl⟩, ⟨na, nc, rfl⟩, _, _⟩ := hv0.len
  cases f0 : fewCo cn cxs with
  | false => exact out0 w cn ca clen ccap cxs hcc x u0 la lc fa fc hu0 nu0 v0 ma mc na nc hv0 nv0 ta tb  f0
  | true =>
    by_cases f1 : (60 : Int) < (x.name.size : Int)
    · exact out1 w cn ca clen ccap cxs hcc x u0 la lc fa fc hu0 nu0 v0 ma mc na nc hv0 nv0 ta tb f0 f1
    cases f2 : u0.few 0 with
    | false => exact out2 w cn ca clen ccap cxs hcc x u0 la lc fa fc hu0 nu0 v0 ma mc na nc hv0 nv0 ta tb f0 f1 f2
    | true =>
      cases f3 : v0.few 0 with
      | false => exact out3 w cn ca clen ccap cxs hcc x u0 la lc fa fc hu0 nu0 v0 ma mc na nc hv0 nv0 ta tb f0 f1 f2 f3
      | true =>
        by_cases f4 : (60 : Int) < (ta.size : Int)
        · exact out4 w cn ca clen ccap cxs hcc x u0 la lc fa fc hu0 nu0 v0 ma mc na nc hv0 nv0 ta tb f0 f1 f2 f3 f4
        by_cases f5 : (60 : Int) < (tb.size : Int)
        · exact out5 w cn ca clen ccap cxs hcc x u0 la lc fa fc hu0 nu0 v0 ma mc na nc hv0 nv0 ta tb f0 f1 f2 f3 f4 f5
        exact main w cn ca clen ccap cxs hcc x u0 la lc fa fc hu0 nu0 v0 ma mc na nc hv0 nv0 ta tb f0 f1 f2 f3 f4 f5

end Go.Proofs.Ytacphlceggbfcaa.schemaKeys
