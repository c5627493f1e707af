/-
  CODE of SqAwX.
-/
import Derived.Test.YtjbegiaceekgcaaEngY
namespace Go.Proofs.Ytjbegiaceekgcaa.Eng
set_option linter.unusedSimpArgs false
set_option linter.unusedVariables false
def xf8 : XFunc := ⟨.seq (.reg [⟨(some 0), .mov (.c (.bool false)), none, []⟩])
  (.seq (.reg [⟨(some 15), .call (.c (.fn 47 [] [])) [], none, []⟩,
      ⟨(some 16), .build [.int .i64 0, .int .i64 0] [(0, 1, .c (.int .i64 1))], none, []⟩,
      ⟨(some 17), .call (.c (.fn 28 [] [])) [], none, []⟩,
      ⟨(some 18), .build [.int .i64 0, .bool false, .int .i64 0] [(0, 2, .t 17), (2, 1, .c (.int .i64 (-1)))], none, []⟩,
      ⟨(some 19), .call (.c (.fn 21 [] [])) [.t 15, .t 16, .t 18], none, []⟩,
      ⟨(some 14), .mov (.t 19), none, []⟩,
      ⟨(some 20), .extract (.t 14) 0, none, []⟩,
      ⟨(some 21), .extract (.t 14) 1, none, []⟩,
      ⟨(some 22), .extract (.t 14) 2, none, []⟩,
      ⟨(some 1), .new 27 [.int .i64 0, .int .i64 0], none, []⟩,
      ⟨none, .store 2 (.t 1) (.t 20), none, []⟩,
      ⟨(some 2), .mov (.t 21), none, []⟩,
      ⟨(some 3), .mov (.t 22), none, []⟩])
  (.seq (.reg [⟨(some 24), .call (.c (.fn 47 [] [])) [], none, []⟩,
      ⟨(some 25), .build [.int .i64 0, .int .i64 0] [(0, 1, .c (.int .i64 2)), (1, 1, .c (.int .i64 3))], none, []⟩,
      ⟨(some 26), .build [.int .i64 0, .bool false] [(0, 1, .c (.int .i64 1)), (1, 1, .c (.bool true))], none, []⟩,
      ⟨(some 27), .call (.c (.fn 48 [] [])) [.t 24, .t 25, .t 26], none, []⟩,
      ⟨(some 23), .mov (.t 27), none, []⟩,
      ⟨(some 28), .extract (.t 23) 0, none, []⟩,
      ⟨(some 29), .extract (.t 23) 1, none, []⟩,
      ⟨(some 30), .extract (.t 23) 2, none, []⟩,
      ⟨(some 4), .mov (.t 28), none, []⟩,
      ⟨(some 5), .mov (.t 29), none, []⟩,
      ⟨(some 6), .mov (.t 30), none, []⟩])
  (.seq (.reg [⟨(some 32), .call (.c (.fn 47 [] [])) [], none, []⟩,
      ⟨(some 33), .build [.int .i64 0, .int .i64 0] [], none, []⟩,
      ⟨(some 34), .call (.c (.fn 31 [] [])) [.t 32, .t 33, .c (.int .i64 2)], none, []⟩,
      ⟨(some 31), .mov (.t 34), none, []⟩,
      ⟨(some 35), .extract (.t 31) 0, none, []⟩,
      ⟨(some 36), .extract (.t 31) 1, none, []⟩,
      ⟨(some 37), .extract (.t 31) 2, none, []⟩,
      ⟨(some 7), .mov (.t 35), none, []⟩,
      ⟨(some 8), .mov (.t 36), none, []⟩,
      ⟨(some 9), .mov (.t 37), none, []⟩])
  (.seq (.reg [⟨(some 39), .call (.c (.fn 49 [] [])) [], none, []⟩,
      ⟨(some 40), .buildSlice 3 1 2 false [.int .i64 0, .int .i64 0] [(0, 1, .c (.int .i64 2)), (1, 1, .c (.int .i64 1))], none, []⟩,
      ⟨(some 41), .call (.c (.fn 40 [] [])) [.t 39, .t 40], none, []⟩,
      ⟨(some 38), .mov (.t 41), none, []⟩,
      ⟨(some 42), .extract (.t 38) 0, none, []⟩,
      ⟨(some 43), .extract (.t 38) 1, none, []⟩,
      ⟨(some 10), .new 89 [.int .i64 0, .int .i64 0], none, []⟩,
      ⟨none, .store 2 (.t 10) (.t 42), none, []⟩,
      ⟨(some 11), .mov (.t 43), none, []⟩])
  (.seq (.reg [⟨(some 45), .call (.c (.fn 49 [] [])) [], none, []⟩,
      ⟨(some 46), .buildSlice 3 1 2 false [.int .i64 0, .int .i64 0] [(0, 1, .c (.int .i64 0)), (1, 1, .c (.int .i64 0))], none, []⟩,
      ⟨(some 47), .call (.c (.fn 40 [] [])) [.t 45, .t 46], none, []⟩,
      ⟨(some 44), .mov (.t 47), none, []⟩,
      ⟨(some 48), .extract (.t 44) 0, none, []⟩,
      ⟨(some 49), .extract (.t 44) 1, none, []⟩,
      ⟨(some 12), .new 89 [.int .i64 0, .int .i64 0], none, []⟩,
      ⟨none, .store 2 (.t 12) (.t 48), none, []⟩,
      ⟨(some 13), .mov (.t 49), none, []⟩])
  (.seq (.reg [⟨(some 50), .mov (.t 3), none, []⟩,
      ⟨(some 51), .bin .eql (.t 50) (.c (.int .i64 0)), none, []⟩,
      ⟨(some 52), .mov (.t 51), none, []⟩,
      ⟨(some 53), .mov (.t 2), (some (52, true)), []⟩,
      ⟨(some 54), .bin .eql (.t 53) (.c (.int .i64 30)), (some (52, true)), []⟩,
      ⟨(some 55), .pick (.t 52) (.t 54) (.c (.bool false)), none, []⟩,
      ⟨(some 56), .mov (.t 55), none, []⟩,
      ⟨(some 57), .loadn 2 (.t 1), (some (56, true)), []⟩,
      ⟨(some 58), .build [.int .i64 0, .int .i64 0] [(0, 1, .c (.int .i64 2)), (1, 1, .c (.int .i64 3))], (some (56, true)), []⟩,
      ⟨(some 59), .eqA false (.s [(0, 1, false, .c 0), (1, 1, false, .c 0)]) (.t 57) (.t 58), (some (56, true)), []⟩,
      ⟨(some 60), .pick (.t 56) (.t 59) (.c (.bool false)), none, []⟩,
      ⟨(some 61), .mov (.t 60), none, []⟩,
      ⟨(some 62), .mov (.t 6), (some (61, true)), []⟩,
      ⟨(some 63), .bin .eql (.t 62) (.c (.int .i64 0)), (some (61, true)), []⟩,
      ⟨(some 64), .pick (.t 61) (.t 63) (.c (.bool false)), none, []⟩,
      ⟨(some 65), .mov (.t 64), none, []⟩,
      ⟨(some 66), .mov (.t 5), (some (65, true)), []⟩,
      ⟨(some 67), .bin .eql (.t 66) (.c (.int .i64 91)), (some (65, true)), []⟩,
      ⟨(some 68), .pick (.t 65) (.t 67) (.c (.bool false)), none, []⟩,
      ⟨(some 69), .mov (.t 68), none, []⟩,
      ⟨(some 70), .mov (.t 4), (some (69, true)), []⟩,
      ⟨(some 71), .len (.t 70), (some (69, true)), []⟩,
      ⟨(some 72), .bin .eql (.t 71) (.c (.int .i64 3)), (some (69, true)), []⟩,
      ⟨(some 73), .pick (.t 69) (.t 72) (.c (.bool false)), none, []⟩,
      ⟨(some 74), .mov (.t 73), none, []⟩,
      ⟨(some 75), .mov (.t 9), (some (74, true)), []⟩,
      ⟨(some 76), .bin .eql (.t 75) (.c (.int .i64 0)), (some (74, true)), []⟩,
      ⟨(some 77), .pick (.t 74) (.t 76) (.c (.bool false)), none, []⟩,
      ⟨(some 78), .mov (.t 77), none, []⟩,
      ⟨(some 79), .mov (.t 8), (some (78, true)), []⟩,
      ⟨(some 80), .bin .eql (.t 79) (.c (.int .i64 31)), (some (78, true)), []⟩,
      ⟨(some 81), .pick (.t 78) (.t 80) (.c (.bool false)), none, []⟩,
      ⟨(some 82), .mov (.t 81), none, []⟩,
      ⟨(some 83), .mov (.t 7), (some (82, true)), []⟩,
      ⟨(some 84), .buildSlice 3 1 1 false [.int .i64 0] [(0, 1, .c (.int .i64 1))], (some (82, true)), []⟩,
      ⟨(some 85), .call (.c (.fn 50 [] [])) [.t 83, .t 84], (some (82, true)), []⟩,
      ⟨(some 86), .pick (.t 82) (.t 85) (.c (.bool false)), none, []⟩,
      ⟨(some 87), .mov (.t 86), none, []⟩,
      ⟨(some 88), .mov (.t 11), (some (87, true)), []⟩,
      ⟨(some 89), .bin .eql (.t 88) (.c (.int .i64 0)), (some (87, true)), []⟩,
      ⟨(some 90), .pick (.t 87) (.t 89) (.c (.bool false)), none, []⟩,
      ⟨(some 91), .mov (.t 90), none, []⟩,
      ⟨(some 92), .loadn 2 (.t 10), (some (91, true)), []⟩,
      ⟨(some 93), .build [.int .i64 0, .int .i64 0] [], (some (91, true)), []⟩,
      ⟨(some 94), .eqA false (.s [(0, 1, false, .c 0), (1, 1, false, .c 0)]) (.t 92) (.t 93), (some (91, true)), []⟩,
      ⟨(some 95), .pick (.t 91) (.t 94) (.c (.bool false)), none, []⟩,
      ⟨(some 96), .mov (.t 95), none, []⟩,
      ⟨(some 97), .mov (.t 13), (some (96, true)), []⟩,
      ⟨(some 98), .bin .eql (.t 97) (.c (.int .i64 12)), (some (96, true)), []⟩,
      ⟨(some 99), .pick (.t 96) (.t 98) (.c (.bool false)), none, []⟩,
      ⟨(some 0), .mov (.t 99), none, []⟩])
  (.ret))))))), 100, [.t 0]⟩
def xf31 : XFunc := ⟨.seq (.reg [⟨(some 3), .box 25 (.t 0), none, []⟩,
      ⟨(some 4), .box 27 (.t 1), none, []⟩,
      ⟨(some 6), .mov (.c .nils), none, []⟩,
      ⟨(some 7), .mov (.c (.int .i64 0)), none, []⟩,
      ⟨(some 8), .mov (.c (.int .i64 0)), none, []⟩])
  (.seq (.dreg [⟨(some 15), .loadn 3 (.t 3), none, []⟩,
      ⟨(some 16), .loadn 2 (.t 4), none, []⟩,
      ⟨(some 17), .call (.c (.fn 80 [] [])) [], none, []⟩,
      ⟨(some 18), .call (.c (.fn 71 [] [])) [.t 15, .t 16, .t 17], none, [2, 1, 0]⟩,
      ⟨(some 14), .mov (.t 18), none, [0, 1, 2, 3]⟩,
      ⟨(some 19), .extract (.t 14) 0, none, [3, 2, 1, 0, 4]⟩,
      ⟨(some 20), .extract (.t 14) 1, none, [3, 2, 1, 0, 4]⟩,
      ⟨(some 9), .new 129 [.nils, .int .i64 0, .nils, .int .i64 0, .bool false], none, []⟩,
      ⟨none, .store 5 (.t 9) (.t 19), none, [4, 2, 1, 0, 3, 5, 7]⟩,
      ⟨(some 10), .mov (.t 20), none, [7, 5, 4, 3, 2, 1, 0, 8, 6]⟩])
  (.seq (.seq (.reg [⟨(some 21), .mov (.t 10), none, []⟩,
      ⟨(some 22), .mov (.t 2), none, []⟩,
      ⟨(some 23), .faddr 0 (.t 9), none, []⟩,
      ⟨(some 24), .faddr 0 (.t 23), none, []⟩,
      ⟨(some 25), .faddr 2 (.t 24), none, []⟩,
      ⟨(some 26), .load1 (.t 25), none, []⟩,
      ⟨(some 27), .len (.t 26), none, []⟩,
      ⟨(some 28), .call (.c (.fn 81 [] [])) [.t 22, .t 27], none, []⟩,
      ⟨(some 29), .buildSlice 32 1 2 false [.int .i64 0, .int .i64 0] [(0, 1, .t 21), (1, 1, .t 28)], none, []⟩,
      ⟨(some 30), .call (.c (.fn 51 [] [])) [.t 29], none, []⟩,
      ⟨(some 11), .mov (.t 30), none, []⟩])
  (.seq (.reg [⟨(some 31), .mov (.t 11), none, []⟩,
      ⟨(some 32), .bin .neq (.t 31) (.c (.int .i64 0)), none, []⟩])
  (.cond (.t 32) (.seq (.reg [⟨(some 33), .mov (.t 11), none, []⟩,
        ⟨(some 6), .mov (.c .nils), none, []⟩,
        ⟨(some 7), .mov (.c (.int .i64 0)), none, []⟩,
        ⟨(some 8), .mov (.t 33), none, []⟩])
    (.ret)) .skip)))
  (.seq (.seq (.reg [⟨(some 34), .loadn 5 (.t 9), none, []⟩,
      ⟨(some 35), .loadn 2 (.t 4), none, []⟩,
      ⟨(some 36), .call (.c (.fn 83 [] [])) [.t 34, .t 35], none, []⟩,
      ⟨(some 37), .call (.c (.fn 82 [] [])) [.t 36], none, []⟩,
      ⟨(some 38), .un .not (.t 37), none, []⟩,
      ⟨(some 39), .mov (.t 38), none, []⟩,
      ⟨(some 40), .faddr 0 (.t 9), (some (39, false)), []⟩,
      ⟨(some 41), .faddr 0 (.t 40), (some (39, false)), []⟩,
      ⟨(some 42), .faddr 2 (.t 41), (some (39, false)), []⟩,
      ⟨(some 43), .load1 (.t 42), (some (39, false)), []⟩,
      ⟨(some 44), .mov (.t 2), (some (39, false)), []⟩,
      ⟨(some 45), .iaddr 14 (.t 43) (.t 44), (some (39, false)), []⟩,
      ⟨(some 46), .loadn 14 (.t 45), (some (39, false)), []⟩,
      ⟨(some 47), .call (.c (.fn 82 [] [])) [.t 46], (some (39, false)), []⟩,
      ⟨(some 48), .un .not (.t 47), (some (39, false)), []⟩,
      ⟨(some 49), .pick (.t 39) (.c (.bool true)) (.t 48), none, []⟩])
  (.cond (.t 49) (.seq (.reg [⟨(some 6), .mov (.c .nils), none, []⟩,
        ⟨(some 7), .mov (.c (.int .i64 0)), none, []⟩,
        ⟨(some 8), .mov (.c (.int .i64 20)), none, []⟩])
    (.ret)) .skip))
  (.seq (.reg [⟨(some 50), .loadn 5 (.t 9), none, []⟩,
      ⟨(some 51), .mov (.t 2), none, []⟩,
      ⟨(some 52), .loadn 2 (.t 4), none, []⟩,
      ⟨(some 53), .call (.c (.fn 84 [] [])) [.t 50, .t 51, .t 52], none, []⟩,
      ⟨(some 12), .mov (.t 53), none, []⟩])
  (.seq (.seq (.reg [⟨(some 54), .mov (.t 12), none, []⟩,
      ⟨(some 55), .len (.t 54), none, []⟩,
      ⟨(some 56), .bin .eql (.t 55) (.c (.int .i64 0)), none, []⟩])
  (.cond (.t 56) (.seq (.reg [⟨(some 6), .mov (.c .nils), none, []⟩,
        ⟨(some 7), .mov (.c (.int .i64 0)), none, []⟩,
        ⟨(some 8), .mov (.c (.int .i64 12)), none, []⟩])
    (.ret)) .skip))
  (.seq (.reg [⟨(some 57), .mov (.t 12), none, []⟩,
      ⟨(some 58), .call (.c (.fn 85 [] [])) [.t 57, .c (.fn 86 [] [])], none, []⟩,
      ⟨(some 13), .new 144 [.nils, .int .i64 0], none, []⟩,
      ⟨none, .store 2 (.t 13) (.t 58), none, []⟩])
  (.seq (.dreg [⟨(some 59), .faddr 0 (.t 13), none, []⟩,
      ⟨(some 60), .load1 (.t 59), none, [0]⟩,
      ⟨(some 61), .faddr 1 (.t 13), none, []⟩,
      ⟨(some 62), .load1 (.t 61), none, [2]⟩,
      ⟨(some 6), .mov (.t 60), none, [0, 1]⟩,
      ⟨(some 7), .mov (.t 62), none, [2, 1, 0, 4, 3]⟩,
      ⟨(some 8), .mov (.c (.int .i64 0)), none, [4, 3, 2, 1, 0, 5]⟩])
  (.ret)))))))), 63, [.t 6, .t 7, .t 8]⟩
structure SqAwXCode (X : FuncId → Option XFunc) : Prop where
  h8 : X 8 = some xf8
  h31 : X 31 = some xf31
end Go.Proofs.Ytjbegiaceekgcaa.Eng

/-
  CODE of SqE.
-/
namespace Go.Proofs.Ytjbegiaceekgcaa.Eng
set_option linter.unusedSimpArgs false
set_option linter.unusedVariables false
def xe46 : XFunc := ⟨.seq (.reg [⟨(some 3), .box 84 (.t 1), none, []⟩,
      ⟨(some 4), .mov (.c .nils), none, []⟩])
  (.seq (.reg [⟨(some 6), .mov (.t 0), none, []⟩,
      ⟨(some 7), .callK 33 [.t 6], none, []⟩,
      ⟨(some 5), .mov (.t 7), none, []⟩])
  (.seq (.reg [⟨(some 8), .mov (.t 5), none, []⟩,
      ⟨(some 9), .faddr 0 (.t 3), none, []⟩,
      ⟨(some 10), .load1 (.t 9), none, []⟩,
      ⟨(some 11), .faddr 1 (.t 3), none, []⟩,
      ⟨(some 12), .load1 (.t 11), none, []⟩,
      ⟨(some 13), .iaddr 1 (.t 8) (.t 10), none, []⟩,
      ⟨none, .store 1 (.t 13) (.t 12), none, []⟩])
  (.seq (.reg [⟨(some 14), .mov (.t 5), none, []⟩,
      ⟨(some 4), .mov (.t 14), none, []⟩])
  (.ret)))), 15, [.t 4]⟩
def xe33 : XFunc := ⟨.seq (.reg [⟨(some 2), .mov (.c .nils), none, []⟩])
  (.seq (.reg [⟨(some 3), .buildSlice 3 1 0 false [] [], none, []⟩,
      ⟨(some 4), .mov (.t 0), none, []⟩,
      ⟨(some 5), .appendV 3 1 8 (.t 3) (.t 4), none, []⟩,
      ⟨(some 2), .mov (.t 5), none, []⟩])
  (.ret)), 6, [.t 2]⟩
structure SqECode (X : FuncId → Option XFunc) : Prop where
  h46 : X 46 = some xe46
  h33 : X 33 = some xe33
end Go.Proofs.Ytjbegiaceekgcaa.Eng

/-
  CODE of SqL.
-/
namespace Go.Proofs.Ytjbegiaceekgcaa.Eng
set_option linter.unusedSimpArgs false
set_option linter.unusedVariables false
def xf7 : XFunc := ⟨.seq (.reg [⟨(some 3), .box 82 (.t 0), none, []⟩,
      ⟨(some 5), .box 84 (.t 2), none, []⟩,
      ⟨(some 6), .mov (.c (.bool false)), none, []⟩])
  (.seq (.seq (.reg [⟨(some 19), .call (.c (.fn 8 [] [])) [], none, []⟩,
      ⟨(some 20), .un .not (.t 19), none, []⟩])
  (.cond (.t 20) (.seq (.reg [⟨(some 6), .mov (.c (.bool false)), none, []⟩])
    (.ret)) .skip))
  (.seq (.seq (.reg [⟨(some 21), .loadn 2 (.t 3), none, []⟩,
      ⟨(some 22), .mov (.t 1), none, []⟩,
      ⟨(some 23), .call (.c (.fn 37 [] [])) [.t 21, .t 22], none, []⟩,
      ⟨(some 24), .un .not (.t 23), none, []⟩])
  (.cond (.t 24) (.seq (.reg [⟨(some 6), .mov (.c (.bool true)), none, []⟩])
    (.ret)) .skip))
  (.seq (.reg [⟨(some 26), .loadn 2 (.t 3), none, []⟩,
      ⟨(some 27), .call (.c (.fn 39 [] [])) [.t 26], none, []⟩,
      ⟨(some 28), .call (.c (.fn 38 [] [])) [.t 27], none, []⟩,
      ⟨(some 25), .mov (.t 28), none, []⟩,
      ⟨(some 29), .extract (.t 25) 0, none, []⟩,
      ⟨(some 30), .extract (.t 25) 1, none, []⟩,
      ⟨(some 7), .mov (.t 29), none, []⟩,
      ⟨(some 8), .mov (.t 30), none, []⟩])
  (.seq (.reg [⟨(some 32), .loadn 2 (.t 3), none, []⟩,
      ⟨(some 33), .call (.c (.fn 39 [] [])) [.t 32], none, []⟩,
      ⟨(some 34), .mov (.t 1), none, []⟩,
      ⟨(some 35), .call (.c (.fn 33 [] [])) [.t 34], none, []⟩,
      ⟨(some 36), .call (.c (.fn 40 [] [])) [.t 33, .t 35], none, []⟩,
      ⟨(some 31), .mov (.t 36), none, []⟩,
      ⟨(some 37), .extract (.t 31) 0, none, []⟩,
      ⟨(some 38), .extract (.t 31) 1, none, []⟩,
      ⟨(some 9), .new 89 [.int .i64 0, .int .i64 0], none, []⟩,
      ⟨none, .store 2 (.t 9) (.t 37), none, []⟩,
      ⟨(some 10), .mov (.t 38), none, []⟩])
  (.seq (.dreg [⟨(some 40), .loadn 2 (.t 3), none, []⟩,
      ⟨(some 41), .call (.c (.fn 39 [] [])) [.t 40], none, [0]⟩,
      ⟨(some 42), .mov (.t 1), none, []⟩,
      ⟨(some 43), .call (.c (.fn 33 [] [])) [.t 42], none, [0, 1, 2]⟩,
      ⟨(some 44), .loadn 2 (.t 5), none, []⟩,
      ⟨(some 45), .call (.c (.fn 41 [] [])) [.t 41, .t 43, .t 44], none, [2, 0, 4, 3, 1]⟩,
      ⟨(some 39), .mov (.t 45), none, [1, 3, 4, 0, 2, 5]⟩,
      ⟨(some 46), .extract (.t 39) 0, none, [5, 2, 0, 4, 3, 1, 6]⟩,
      ⟨(some 47), .extract (.t 39) 1, none, [5, 2, 0, 4, 3, 1, 6]⟩,
      ⟨(some 11), .mov (.t 46), none, [6, 4, 3, 2, 1, 0, 5, 7]⟩,
      ⟨(some 12), .mov (.t 47), none, [7, 6, 5, 4, 3, 2, 1, 0, 9, 8]⟩])
  (.seq (.reg [⟨(some 49), .loadn 2 (.t 3), none, []⟩,
      ⟨(some 50), .call (.c (.fn 42 [] [])) [.t 49], none, []⟩,
      ⟨(some 48), .mov (.t 50), none, []⟩,
      ⟨(some 51), .extract (.t 48) 0, none, []⟩,
      ⟨(some 52), .extract (.t 48) 1, none, []⟩,
      ⟨(some 13), .mov (.t 51), none, []⟩,
      ⟨(some 14), .mov (.t 52), none, []⟩])
  (.seq (.seq (.reg [⟨(some 53), .mov (.t 8), none, []⟩,
      ⟨(some 54), .mov (.t 14), none, []⟩,
      ⟨(some 55), .bin .neq (.t 53) (.t 54), none, []⟩,
      ⟨(some 56), .mov (.t 55), none, []⟩,
      ⟨(some 57), .mov (.t 7), (some (56, false)), []⟩,
      ⟨(some 58), .mov (.t 13), (some (56, false)), []⟩,
      ⟨(some 59), .bin .neq (.t 57) (.t 58), (some (56, false)), []⟩,
      ⟨(some 60), .pick (.t 56) (.c (.bool true)) (.t 59), none, []⟩])
  (.cond (.t 60) (.seq (.reg [⟨(some 6), .mov (.c (.bool false)), none, []⟩])
    (.ret)) .skip))
  (.seq (.seq (.reg [⟨(some 61), .mov (.t 14), none, []⟩,
      ⟨(some 62), .bin .eql (.t 61) (.c (.int .i64 0)), none, []⟩])
  (.cond (.t 62) (.reg [⟨(some 63), .loadn 2 (.t 3), none, []⟩,
        ⟨(some 64), .mov (.t 1), none, []⟩,
        ⟨(some 65), .call (.c (.fn 43 [] [])) [.t 63, .t 64], none, []⟩,
        ⟨(some 14), .mov (.t 65), none, []⟩]) .skip))
  (.seq (.seq (.reg [⟨(some 66), .mov (.t 14), none, []⟩,
      ⟨(some 67), .bin .neq (.t 66) (.c (.int .i64 0)), none, []⟩])
  (.cond (.t 67) (.seq (.reg [⟨(some 68), .mov (.t 10), none, []⟩,
        ⟨(some 69), .mov (.t 14), none, []⟩,
        ⟨(some 70), .bin .eql (.t 68) (.t 69), none, []⟩,
        ⟨(some 71), .mov (.t 70), none, []⟩,
        ⟨(some 72), .loadn 2 (.t 9), (some (71, true)), []⟩,
        ⟨(some 73), .build [.int .i64 0, .int .i64 0] [], (some (71, true)), []⟩,
        ⟨(some 74), .eqA false (.s [(0, 1, false, .c 0), (1, 1, false, .c 0)]) (.t 72) (.t 73), (some (71, true)), []⟩,
        ⟨(some 75), .pick (.t 71) (.t 74) (.c (.bool false)), none, []⟩,
        ⟨(some 76), .mov (.t 75), none, []⟩,
        ⟨(some 77), .mov (.t 12), (some (76, true)), []⟩,
        ⟨(some 78), .mov (.t 14), (some (76, true)), []⟩,
        ⟨(some 79), .bin .eql (.t 77) (.t 78), (some (76, true)), []⟩,
        ⟨(some 80), .pick (.t 76) (.t 79) (.c (.bool false)), none, []⟩,
        ⟨(some 81), .mov (.t 80), none, []⟩,
        ⟨(some 82), .mov (.t 11), (some (81, true)), []⟩,
        ⟨(some 83), .bin .eql (.t 82) (.c (.int .i64 0)), (some (81, true)), []⟩,
        ⟨(some 84), .pick (.t 81) (.t 83) (.c (.bool false)), none, []⟩,
        ⟨(some 6), .mov (.t 84), none, []⟩])
    (.ret)) .skip))
  (.seq (.seq (.reg [⟨(some 86), .loadn 2 (.t 3), none, []⟩,
      ⟨(some 87), .mov (.t 1), none, []⟩,
      ⟨(some 88), .call (.c (.fn 44 [] [])) [.t 86, .t 87], none, []⟩,
      ⟨(some 85), .mov (.t 88), none, []⟩,
      ⟨(some 89), .extract (.t 85) 0, none, []⟩,
      ⟨(some 90), .extract (.t 85) 1, none, []⟩,
      ⟨(some 15), .new 89 [.int .i64 0, .int .i64 0], none, []⟩,
      ⟨none, .store 2 (.t 15) (.t 89), none, []⟩,
      ⟨(some 16), .mov (.t 90), none, []⟩])
  (.seq (.reg [⟨(some 91), .mov (.t 16), none, []⟩,
      ⟨(some 92), .mov (.t 91), none, []⟩,
      ⟨(some 93), .mov (.t 10), (some (92, true)), []⟩,
      ⟨(some 94), .bin .neq (.t 93) (.c (.int .i64 0)), (some (92, true)), []⟩,
      ⟨(some 95), .mov (.t 94), (some (92, true)), []⟩,
      ⟨(some 96), .loadn 2 (.t 9), (some (95, false)), []⟩,
      ⟨(some 97), .loadn 2 (.t 15), (some (95, false)), []⟩,
      ⟨(some 98), .eqA true (.s [(0, 1, false, .c 0), (1, 1, false, .c 0)]) (.t 96) (.t 97), (some (95, false)), []⟩,
      ⟨(some 99), .pick (.t 95) (.c (.bool true)) (.t 98), (some (92, true)), []⟩,
      ⟨(some 100), .pick (.t 92) (.t 99) (.c (.bool false)), none, []⟩,
      ⟨(some 101), .mov (.t 100), none, []⟩,
      ⟨(some 102), .mov (.t 16), (some (101, false)), []⟩,
      ⟨(some 103), .un .not (.t 102), (some (101, false)), []⟩,
      ⟨(some 104), .mov (.t 103), (some (101, false)), []⟩,
      ⟨(some 105), .mov (.t 10), (some (104, true)), []⟩,
      ⟨(some 106), .bin .neq (.t 105) (.c (.int .i64 12)), (some (104, true)), []⟩,
      ⟨(some 107), .mov (.t 106), (some (104, true)), []⟩,
      ⟨(some 108), .loadn 2 (.t 9), (some (107, false)), []⟩,
      ⟨(some 109), .build [.int .i64 0, .int .i64 0] [], (some (107, false)), []⟩,
      ⟨(some 110), .eqA true (.s [(0, 1, false, .c 0), (1, 1, false, .c 0)]) (.t 108) (.t 109), (some (107, false)), []⟩,
      ⟨(some 111), .pick (.t 107) (.c (.bool true)) (.t 110), (some (104, true)), []⟩,
      ⟨(some 112), .pick (.t 104) (.t 111) (.c (.bool false)), (some (101, false)), []⟩,
      ⟨(some 113), .pick (.t 101) (.c (.bool true)) (.t 112), none, []⟩])
  (.cond (.t 113) (.seq (.reg [⟨(some 6), .mov (.c (.bool false)), none, []⟩])
    (.ret)) .skip)))
  (.seq (.seq (.reg [⟨(some 114), .faddr 0 (.t 5), none, []⟩,
      ⟨(some 115), .load1 (.t 114), none, []⟩,
      ⟨(some 116), .faddr 0 (.t 3), none, []⟩,
      ⟨(some 117), .load1 (.t 116), none, []⟩,
      ⟨(some 118), .bin .sub (.t 117) (.c (.int .i64 1)), none, []⟩,
      ⟨(some 119), .call (.c (.fn 45 [] [])) [.t 115, .c (.int .i64 0), .t 118], none, []⟩,
      ⟨(some 120), .un .not (.t 119), none, []⟩,
      ⟨(some 121), .mov (.t 120), none, []⟩,
      ⟨(some 122), .faddr 1 (.t 5), (some (121, false)), []⟩,
      ⟨(some 123), .load1 (.t 122), (some (121, false)), []⟩,
      ⟨(some 124), .call (.c (.fn 45 [] [])) [.t 123, .c (.int .i64 0), .c (.int .i64 9)], (some (121, false)), []⟩,
      ⟨(some 125), .un .not (.t 124), (some (121, false)), []⟩,
      ⟨(some 126), .pick (.t 121) (.c (.bool true)) (.t 125), none, []⟩])
  (.cond (.t 126) (.seq (.reg [⟨(some 127), .mov (.t 12), none, []⟩,
        ⟨(some 128), .bin .eql (.t 127) (.c (.int .i64 6)), none, []⟩,
        ⟨(some 129), .mov (.t 128), none, []⟩,
        ⟨(some 130), .mov (.t 11), (some (129, true)), []⟩,
        ⟨(some 131), .bin .eql (.t 130) (.c (.int .i64 0)), (some (129, true)), []⟩,
        ⟨(some 132), .pick (.t 129) (.t 131) (.c (.bool false)), none, []⟩,
        ⟨(some 6), .mov (.t 132), none, []⟩])
    (.ret)) .skip))
  (.seq (.seq (.dreg [⟨(some 134), .loadn 2 (.t 3), none, []⟩,
      ⟨(some 135), .mov (.t 1), none, []⟩,
      ⟨(some 136), .loadn 2 (.t 5), none, []⟩,
      ⟨(some 137), .call (.c (.fn 46 [] [])) [.t 135, .t 136], none, [2, 1]⟩,
      ⟨(some 138), .call (.c (.fn 44 [] [])) [.t 134, .t 137], none, [1, 2, 3, 0]⟩,
      ⟨(some 133), .mov (.t 138), none, [0, 3, 2, 1, 4]⟩,
      ⟨(some 139), .extract (.t 133) 0, none, [4, 1, 2, 3, 0, 5]⟩,
      ⟨(some 140), .extract (.t 133) 1, none, [4, 1, 2, 3, 0, 5]⟩,
      ⟨(some 17), .new 89 [.int .i64 0, .int .i64 0], none, []⟩,
      ⟨none, .store 2 (.t 17) (.t 139), none, [5, 3, 2, 1, 0, 4, 6, 8]⟩,
      ⟨(some 18), .mov (.t 140), none, [8, 6, 5, 4, 3, 2, 1, 0, 9, 7]⟩])
  (.seq (.reg [⟨(some 141), .mov (.t 18), none, []⟩])
  (.cond (.t 141) (.seq (.reg [⟨(some 142), .mov (.t 12), none, []⟩,
        ⟨(some 143), .bin .eql (.t 142) (.c (.int .i64 24)), none, []⟩,
        ⟨(some 144), .mov (.t 143), none, []⟩,
        ⟨(some 145), .mov (.t 11), (some (144, true)), []⟩,
        ⟨(some 146), .faddr 1 (.t 17), (some (144, true)), []⟩,
        ⟨(some 147), .load1 (.t 146), (some (144, true)), []⟩,
        ⟨(some 148), .bin .eql (.t 145) (.t 147), (some (144, true)), []⟩,
        ⟨(some 149), .pick (.t 144) (.t 148) (.c (.bool false)), none, []⟩,
        ⟨(some 6), .mov (.t 149), none, []⟩])
    (.ret)) .skip)))
  (.seq (.reg [⟨(some 150), .mov (.t 12), none, []⟩,
      ⟨(some 151), .bin .eql (.t 150) (.c (.int .i64 0)), none, []⟩,
      ⟨(some 152), .mov (.t 151), none, []⟩,
      ⟨(some 153), .mov (.t 11), (some (152, true)), []⟩,
      ⟨(some 154), .bin .eql (.t 153) (.c (.int .i64 0)), (some (152, true)), []⟩,
      ⟨(some 155), .pick (.t 152) (.t 154) (.c (.bool false)), none, []⟩,
      ⟨(some 6), .mov (.t 155), none, []⟩])
  (.ret)))))))))))))), 156, [.t 6]⟩
def xf37 : XFunc := ⟨.seq (.reg [⟨(some 2), .box 82 (.t 0), none, []⟩,
      ⟨(some 4), .mov (.c (.bool false)), none, []⟩])
  (.seq (.reg [⟨(some 5), .faddr 1 (.t 2), none, []⟩,
      ⟨(some 6), .load1 (.t 5), none, []⟩,
      ⟨(some 7), .len (.t 6), none, []⟩,
      ⟨(some 8), .bin .leq (.t 7) (.c (.int .i64 14)), none, []⟩,
      ⟨(some 9), .mov (.t 8), none, []⟩,
      ⟨(some 10), .mov (.t 1), (some (9, true)), []⟩,
      ⟨(some 11), .len (.t 10), (some (9, true)), []⟩,
      ⟨(some 12), .bin .leq (.t 11) (.c (.int .i64 8)), (some (9, true)), []⟩,
      ⟨(some 13), .pick (.t 9) (.t 12) (.c (.bool false)), none, []⟩,
      ⟨(some 4), .mov (.t 13), none, []⟩])
  (.ret)), 14, [.t 4]⟩
def xf38 : XFunc := ⟨.seq (.reg [⟨(some 1), .box 82 (.t 0), none, []⟩,
      ⟨(some 2), .mov (.c (.int .i64 0)), none, []⟩,
      ⟨(some 3), .mov (.c (.int .i64 0)), none, []⟩])
  (.seq (.seq (.dreg [⟨(some 5), .faddr 0 (.t 1), none, []⟩,
      ⟨(some 6), .load1 (.t 5), none, [0]⟩,
      ⟨(some 7), .call (.c (.fn 90 [] [])) [.t 6, .c (.int .i64 1), .c (.int .i64 6)], none, [0, 1]⟩,
      ⟨(some 8), .faddr 1 (.t 1), none, []⟩,
      ⟨(some 9), .load1 (.t 8), none, [3]⟩,
      ⟨(some 10), .call (.c (.fn 91 [] [])) [.t 9, .c (.int .i64 12)], none, [1, 0, 3, 2, 4]⟩,
      ⟨(some 11), .buildSlice 32 1 2 false [.int .i64 0, .int .i64 0] [(0, 1, .t 7), (1, 1, .t 10)], none, [4, 3, 1, 0, 5, 2]⟩,
      ⟨(some 12), .call (.c (.fn 51 [] [])) [.t 11], none, [2, 0, 1, 3, 4, 5, 6]⟩,
      ⟨(some 4), .mov (.t 12), none, [6, 5, 4, 3, 2, 1, 0, 7]⟩])
  (.seq (.reg [⟨(some 13), .mov (.t 4), none, []⟩,
      ⟨(some 14), .bin .neq (.t 13) (.c (.int .i64 0)), none, []⟩])
  (.cond (.t 14) (.seq (.reg [⟨(some 15), .mov (.t 4), none, []⟩,
        ⟨(some 2), .mov (.c (.int .i64 0)), none, []⟩,
        ⟨(some 3), .mov (.t 15), none, []⟩])
    (.ret)) .skip)))
  (.seq (.reg [⟨(some 16), .faddr 1 (.t 1), none, []⟩,
      ⟨(some 17), .load1 (.t 16), none, []⟩,
      ⟨(some 18), .call (.c (.fn 92 [] [])) [.t 17, .c (.fn 93 [] [])], none, []⟩,
      ⟨(some 19), .extract (.t 18) 0, none, []⟩,
      ⟨(some 20), .extract (.t 18) 1, none, []⟩,
      ⟨(some 2), .mov (.t 19), none, []⟩,
      ⟨(some 3), .mov (.t 20), none, []⟩])
  (.ret))), 21, [.t 2, .t 3]⟩
def xf39 : XFunc := ⟨.seq (.reg [⟨(some 1), .box 82 (.t 0), none, []⟩,
      ⟨(some 2), .new 82 [.int .i64 0, .nils], none, []⟩])
  (.seq (.dreg [⟨(some 3), .faddr 0 (.t 1), none, []⟩,
      ⟨(some 4), .load1 (.t 3), none, [0]⟩,
      ⟨(some 5), .buildSlice 153 3 0 true [] [], none, []⟩,
      ⟨(some 6), .faddr 1 (.t 1), none, []⟩,
      ⟨(some 7), .load1 (.t 6), none, [3]⟩,
      ⟨(some 8), .append 153 3 24 (.t 5) (.t 7), none, [3, 4, 2]⟩,
      ⟨(some 9), .build [.int .i64 0, .nils] [(0, 1, .t 4), (1, 1, .t 8)], none, [2, 4, 3, 0, 5, 1]⟩,
      ⟨none, .store 2 (.t 2) (.t 9), none, [4, 3, 2, 1, 0, 5, 6]⟩])
  (.ret)), 10, [.cn 2 2]⟩
def xf40 : XFunc := ⟨.seq (.reg [⟨(some 2), .box 82 (.t 0), none, []⟩,
      ⟨(some 4), .new 89 [.int .i64 0, .int .i64 0], none, []⟩,
      ⟨(some 5), .mov (.c (.int .i64 0)), none, []⟩])
  (.seq (.seq (.reg [⟨(some 9), .loadn 2 (.t 2), none, []⟩,
      ⟨(some 10), .mov (.t 1), none, []⟩,
      ⟨(some 11), .call (.c (.fn 94 [] [])) [.t 9, .t 10], none, []⟩,
      ⟨(some 6), .mov (.t 11), none, []⟩])
  (.seq (.reg [⟨(some 12), .mov (.t 6), none, []⟩,
      ⟨(some 13), .bin .neq (.t 12) (.c (.int .i64 0)), none, []⟩])
  (.cond (.t 13) (.seq (.reg [⟨(some 14), .build [.int .i64 0, .int .i64 0] [], none, []⟩,
        ⟨(some 15), .mov (.t 6), none, []⟩,
        ⟨none, .store 2 (.t 4) (.t 14), none, []⟩,
        ⟨(some 5), .mov (.t 15), none, []⟩])
    (.ret)) .skip)))
  (.seq (.reg [⟨(some 17), .loadn 2 (.t 2), none, []⟩,
      ⟨(some 18), .movf (.t 1), none, []⟩,
      ⟨(some 19), .call (.c (.fn 95 [] [])) [.t 17, .t 18], none, []⟩,
      ⟨(some 16), .mov (.t 19), none, []⟩,
      ⟨(some 20), .extract (.t 16) 0, none, []⟩,
      ⟨(some 21), .extract (.t 16) 1, none, []⟩,
      ⟨(some 7), .new 89 [.int .i64 0, .int .i64 0], none, []⟩,
      ⟨none, .store 2 (.t 7) (.t 20), none, []⟩,
      ⟨(some 8), .mov (.t 21), none, []⟩])
  (.seq (.dreg [⟨(some 22), .loadn 2 (.t 7), none, []⟩,
      ⟨(some 23), .mov (.t 8), none, []⟩,
      ⟨(some 24), .call (.c (.fn 56 [] [])) [.t 23, .c (.int .i64 12)], none, [1]⟩,
      ⟨none, .store 2 (.t 4) (.t 22), none, [1, 2, 0]⟩,
      ⟨(some 5), .mov (.t 24), none, [1, 0, 3, 2]⟩])
  (.ret)))), 25, [.cn 4 2, .t 5]⟩
def xf41 : XFunc := ⟨.seq (.reg [⟨(some 3), .box 82 (.t 0), none, []⟩,
      ⟨(some 5), .box 84 (.t 2), none, []⟩,
      ⟨(some 6), .mov (.c (.int .i64 0)), none, []⟩,
      ⟨(some 7), .mov (.c (.int .i64 0)), none, []⟩])
  (.seq (.seq (.dreg [⟨(some 12), .loadn 2 (.t 3), none, []⟩,
      ⟨(some 13), .mov (.t 1), none, []⟩,
      ⟨(some 14), .call (.c (.fn 94 [] [])) [.t 12, .t 13], none, [1, 0]⟩,
      ⟨(some 15), .faddr 0 (.t 5), none, []⟩,
      ⟨(some 16), .load1 (.t 15), none, [3]⟩,
      ⟨(some 17), .mov (.t 1), none, []⟩,
      ⟨(some 18), .len (.t 17), none, [5]⟩,
      ⟨(some 19), .call (.c (.fn 81 [] [])) [.t 16, .t 18], none, [0, 1, 5, 3, 2, 6, 4]⟩,
      ⟨(some 20), .faddr 1 (.t 5), none, []⟩,
      ⟨(some 21), .load1 (.t 20), none, [8]⟩,
      ⟨(some 22), .call (.c (.fn 96 [] [])) [.t 21], none, [4, 6, 2, 3, 5, 1, 0, 8, 7, 9]⟩,
      ⟨(some 23), .buildSlice 32 1 3 false [.int .i64 0, .int .i64 0, .int .i64 0] [(0, 1, .t 14), (1, 1, .t 19), (2, 1, .t 22)], none, [9, 8, 4, 6, 3, 5, 0, 1, 10, 7, 2]⟩,
      ⟨(some 24), .call (.c (.fn 51 [] [])) [.t 23], none, [2, 7, 1, 0, 5, 3, 6, 4, 8, 9, 10, 11]⟩,
      ⟨(some 8), .mov (.t 24), none, [11, 10, 9, 8, 7, 6, 5, 4, 3, 2, 1, 0, 12]⟩])
  (.seq (.reg [⟨(some 25), .mov (.t 8), none, []⟩,
      ⟨(some 26), .bin .neq (.t 25) (.c (.int .i64 0)), none, []⟩])
  (.cond (.t 26) (.seq (.reg [⟨(some 27), .mov (.t 8), none, []⟩,
        ⟨(some 6), .mov (.c (.int .i64 0)), none, []⟩,
        ⟨(some 7), .mov (.t 27), none, []⟩])
    (.ret)) .skip)))
  (.seq (.reg [⟨(some 28), .mov (.t 1), none, []⟩,
      ⟨(some 29), .callK 97 [.t 28], none, []⟩,
      ⟨(some 9), .mov (.t 29), none, []⟩])
  (.seq (.reg [⟨(some 30), .mov (.t 9), none, []⟩,
      ⟨(some 31), .faddr 0 (.t 5), none, []⟩,
      ⟨(some 32), .load1 (.t 31), none, []⟩,
      ⟨(some 33), .faddr 1 (.t 5), none, []⟩,
      ⟨(some 34), .load1 (.t 33), none, []⟩,
      ⟨(some 35), .iaddr 1 (.t 30) (.t 32), none, []⟩,
      ⟨none, .store 1 (.t 35) (.t 34), none, []⟩])
  (.seq (.reg [⟨(some 37), .loadn 2 (.t 3), none, []⟩,
      ⟨(some 38), .movf (.t 9), none, []⟩,
      ⟨(some 39), .call (.c (.fn 95 [] [])) [.t 37, .t 38], none, []⟩,
      ⟨(some 36), .mov (.t 39), none, []⟩,
      ⟨(some 40), .extract (.t 36) 0, none, []⟩,
      ⟨(some 41), .extract (.t 36) 1, none, []⟩,
      ⟨(some 10), .new 89 [.int .i64 0, .int .i64 0], none, []⟩,
      ⟨none, .store 2 (.t 10) (.t 40), none, []⟩,
      ⟨(some 11), .mov (.t 41), none, []⟩])
  (.seq (.dreg [⟨(some 42), .faddr 1 (.t 10), none, []⟩,
      ⟨(some 43), .load1 (.t 42), none, [0]⟩,
      ⟨(some 44), .mov (.t 11), none, []⟩,
      ⟨(some 45), .un .not (.t 44), none, [2]⟩,
      ⟨(some 46), .call (.c (.fn 56 [] [])) [.t 45, .c (.int .i64 24)], none, [2, 3]⟩,
      ⟨(some 6), .mov (.t 43), none, [3, 2, 0, 4, 1]⟩,
      ⟨(some 7), .mov (.t 46), none, [3, 2, 1, 0, 5, 4]⟩])
  (.ret)))))), 47, [.t 6, .t 7]⟩
def xf42l0 : XCode := .seq (.seq (.reg [⟨(some 14), .mov (.t 4), none, []⟩,
      ⟨(some 15), .faddr 1 (.t 1), none, []⟩,
      ⟨(some 16), .load1 (.t 15), none, []⟩,
      ⟨(some 17), .len (.t 16), none, []⟩,
      ⟨(some 18), .bin .lss (.t 14) (.t 17), none, []⟩])
  (.cond (.t 18) .skip (.exit 0)))
  (.seq (.block 1 (.seq (.reg [⟨(some 21), .faddr 1 (.t 1), none, []⟩,
        ⟨(some 22), .load1 (.t 21), none, []⟩,
        ⟨(some 23), .mov (.t 4), none, []⟩,
        ⟨(some 24), .iaddr 3 (.t 22) (.t 23), none, []⟩,
        ⟨(some 25), .loadn 3 (.t 24), none, []⟩,
        ⟨(some 5), .new 153 [.int .i64 0, .int .i64 0, .int .i64 0], none, []⟩,
        ⟨none, .store 3 (.t 5) (.t 25), none, []⟩])
    (.seq (.seq (.reg [⟨(some 26), .faddr 0 (.t 5), none, []⟩,
        ⟨(some 27), .load1 (.t 26), none, []⟩,
        ⟨(some 28), .call (.c (.fn 98 [] [])) [.t 27], none, []⟩,
        ⟨(some 29), .un .not (.t 28), none, []⟩,
        ⟨(some 30), .mov (.t 29), none, []⟩,
        ⟨(some 31), .faddr 1 (.t 5), (some (30, false)), []⟩,
        ⟨(some 32), .load1 (.t 31), (some (30, false)), []⟩,
        ⟨(some 33), .call (.c (.fn 98 [] [])) [.t 32], (some (30, false)), []⟩,
        ⟨(some 34), .un .not (.t 33), (some (30, false)), []⟩,
        ⟨(some 35), .pick (.t 30) (.c (.bool true)) (.t 34), none, []⟩])
    (.cond (.t 35) (.seq (.reg [⟨(some 36), .mov (.t 4), none, []⟩,
          ⟨(some 2), .mov (.t 36), none, []⟩,
          ⟨(some 3), .mov (.c (.int .i64 6)), none, []⟩])
      (.ret)) .skip))
    (.seq (.reg [⟨(some 37), .faddr 2 (.t 5), none, []⟩,
        ⟨(some 38), .load1 (.t 37), none, []⟩,
        ⟨(some 39), .call (.c (.fn 45 [] [])) [.t 38, .c (.int .i64 0), .c (.int .i64 1)], none, []⟩,
        ⟨(some 40), .un .not (.t 39), none, []⟩])
    (.cond (.t 40) (.seq (.reg [⟨(some 41), .mov (.t 4), none, []⟩,
          ⟨(some 2), .mov (.t 41), none, []⟩,
          ⟨(some 3), .mov (.c (.int .i64 15)), none, []⟩])
      (.ret)) .skip)))))
  (.reg [⟨(some 19), .mov (.t 4), none, []⟩,
      ⟨(some 20), .bin .add (.t 19) (.c (.int .i64 1)), none, []⟩,
      ⟨(some 4), .mov (.t 20), none, []⟩]))
def xf42 : XFunc := ⟨.seq (.reg [⟨(some 1), .box 82 (.t 0), none, []⟩,
      ⟨(some 2), .mov (.c (.int .i64 0)), none, []⟩,
      ⟨(some 3), .mov (.c (.int .i64 0)), none, []⟩])
  (.seq (.seq (.reg [⟨(some 6), .faddr 0 (.t 1), none, []⟩,
      ⟨(some 7), .load1 (.t 6), none, []⟩,
      ⟨(some 8), .call (.c (.fn 45 [] [])) [.t 7, .c (.int .i64 1), .c (.int .i64 6)], none, []⟩,
      ⟨(some 9), .un .not (.t 8), none, []⟩])
  (.cond (.t 9) (.seq (.reg [⟨(some 2), .mov (.c (.int .i64 0)), none, []⟩,
        ⟨(some 3), .mov (.c (.int .i64 2)), none, []⟩])
    (.ret)) .skip))
  (.seq (.seq (.reg [⟨(some 10), .faddr 1 (.t 1), none, []⟩,
      ⟨(some 11), .load1 (.t 10), none, []⟩,
      ⟨(some 12), .len (.t 11), none, []⟩,
      ⟨(some 13), .bin .gtr (.t 12) (.c (.int .i64 12)), none, []⟩])
  (.cond (.t 13) (.seq (.reg [⟨(some 2), .mov (.c (.int .i64 0)), none, []⟩,
        ⟨(some 3), .mov (.c (.int .i64 8)), none, []⟩])
    (.ret)) .skip))
  (.seq (.seq (.reg [⟨(some 4), .mov (.c (.int .i64 0)), none, []⟩])
  (.block 0 (.loop xf42l0)))
  (.seq (.reg [⟨(some 2), .mov (.c (.int .i64 0)), none, []⟩,
      ⟨(some 3), .mov (.c (.int .i64 0)), none, []⟩])
  (.ret))))), 42, [.t 2, .t 3]⟩
def xf43l0 : XCode := .seq (.seq (.reg [⟨(some 11), .mov (.t 5), none, []⟩,
      ⟨(some 12), .mov (.t 1), none, []⟩,
      ⟨(some 13), .len (.t 12), none, []⟩,
      ⟨(some 14), .bin .lss (.t 11) (.t 13), none, []⟩])
  (.cond (.t 14) .skip (.exit 0)))
  (.seq (.block 1 (.seq (.reg [⟨(some 17), .mov (.t 1), none, []⟩,
        ⟨(some 18), .mov (.t 5), none, []⟩,
        ⟨(some 19), .iaddr 1 (.t 17) (.t 18), none, []⟩,
        ⟨(some 20), .load1 (.t 19), none, []⟩,
        ⟨(some 21), .call (.c (.fn 98 [] [])) [.t 20], none, []⟩,
        ⟨(some 22), .un .not (.t 21), none, []⟩])
    (.cond (.t 22) (.seq (.reg [⟨(some 4), .mov (.c (.int .i64 6)), none, []⟩])
      (.ret)) .skip)))
  (.reg [⟨(some 15), .mov (.t 5), none, []⟩,
      ⟨(some 16), .bin .add (.t 15) (.c (.int .i64 1)), none, []⟩,
      ⟨(some 5), .mov (.t 16), none, []⟩]))
def xf43 : XFunc := ⟨.seq (.reg [⟨(some 2), .box 82 (.t 0), none, []⟩,
      ⟨(some 4), .mov (.c (.int .i64 0)), none, []⟩])
  (.seq (.seq (.reg [⟨(some 6), .mov (.t 1), none, []⟩,
      ⟨(some 7), .len (.t 6), none, []⟩,
      ⟨(some 8), .faddr 0 (.t 2), none, []⟩,
      ⟨(some 9), .load1 (.t 8), none, []⟩,
      ⟨(some 10), .bin .neq (.t 7) (.t 9), none, []⟩])
  (.cond (.t 10) (.seq (.reg [⟨(some 4), .mov (.c (.int .i64 10)), none, []⟩])
    (.ret)) .skip))
  (.seq (.seq (.reg [⟨(some 5), .mov (.c (.int .i64 0)), none, []⟩])
  (.block 0 (.loop xf43l0)))
  (.seq (.reg [⟨(some 4), .mov (.c (.int .i64 0)), none, []⟩])
  (.ret)))), 23, [.t 4]⟩
def xf44l0 : XCode := .seq (.seq (.reg [⟨(some 15), .mov (.t 7), none, []⟩,
      ⟨(some 16), .faddr 1 (.t 2), none, []⟩,
      ⟨(some 17), .load1 (.t 16), none, []⟩,
      ⟨(some 18), .len (.t 17), none, []⟩,
      ⟨(some 19), .bin .lss (.t 15) (.t 18), none, []⟩])
  (.cond (.t 19) .skip (.exit 2)))
  (.seq (.block 3 (.seq (.reg [⟨(some 22), .faddr 1 (.t 2), none, []⟩,
        ⟨(some 23), .load1 (.t 22), none, []⟩,
        ⟨(some 24), .mov (.t 7), none, []⟩,
        ⟨(some 25), .iaddr 3 (.t 23) (.t 24), none, []⟩,
        ⟨(some 26), .loadn 3 (.t 25), none, []⟩,
        ⟨(some 8), .new 153 [.int .i64 0, .int .i64 0, .int .i64 0], none, []⟩,
        ⟨none, .store 3 (.t 8) (.t 26), none, []⟩])
    (.seq (.dreg [⟨(some 27), .faddr 0 (.t 8), none, []⟩,
        ⟨(some 28), .load1 (.t 27), none, [0]⟩,
        ⟨(some 29), .mov (.t 1), none, []⟩,
        ⟨(some 30), .mov (.t 6), none, []⟩,
        ⟨(some 31), .iaddr 1 (.t 29) (.t 30), none, [3, 2]⟩,
        ⟨(some 32), .load1 (.t 31), none, [2, 3, 4]⟩,
        ⟨(some 33), .bin .eql (.t 28) (.t 32), none, [4, 3, 2, 0, 5, 1]⟩,
        ⟨(some 34), .mov (.t 33), none, [1, 5, 0, 2, 3, 4, 6]⟩,
        ⟨(some 35), .mov (.t 1), (some (34, true)), [6, 4, 3, 2, 0, 5, 1, 7]⟩,
        ⟨(some 36), .mov (.t 6), (some (34, true)), [6, 4, 3, 2, 0, 5, 1, 7]⟩,
        ⟨(some 37), .faddr 1 (.t 8), (some (34, true)), [6, 4, 3, 2, 0, 5, 1, 7]⟩,
        ⟨(some 38), .load1 (.t 37), (some (34, true)), [1, 5, 0, 2, 3, 4, 6, 7, 10]⟩,
        ⟨(some 39), .call (.c (.fn 99 [] [])) [.t 35, .t 36, .t 38], (some (34, true)), [10, 1, 5, 0, 2, 3, 4, 6, 7, 11, 9, 8]⟩,
        ⟨(some 40), .faddr 2 (.t 8), (some (34, true)), [6, 4, 3, 2, 0, 5, 1, 7]⟩,
        ⟨(some 41), .load1 (.t 40), (some (34, true)), [1, 5, 0, 2, 3, 4, 6, 7, 13]⟩,
        ⟨(some 42), .bin .eql (.t 41) (.c (.int .i64 1)), (some (34, true)), [13, 6, 4, 3, 2, 0, 5, 1, 7, 14]⟩,
        ⟨(some 43), .eqb true (.t 39) (.t 42), (some (34, true)), [14, 13, 8, 9, 11, 6, 4, 3, 2, 0, 5, 1, 10, 7, 15, 12]⟩,
        ⟨(some 44), .pick (.t 34) (.t 43) (.c (.bool false)), none, [12, 15, 10, 11, 9, 8, 13, 14, 6, 4, 3, 2, 0, 5, 1, 16, 7]⟩])
    (.cond (.t 44) (.seq (.reg [⟨(some 45), .mov (.t 6), none, []⟩,
          ⟨(some 46), .mov (.t 7), none, []⟩,
          ⟨(some 47), .build [.int .i64 0, .int .i64 0] [(0, 1, .t 45), (1, 1, .t 46)], none, []⟩,
          ⟨none, .store 2 (.t 4) (.t 47), none, []⟩,
          ⟨(some 5), .mov (.c (.bool true)), none, []⟩])
      (.ret)) .skip))))
  (.reg [⟨(some 20), .mov (.t 7), none, []⟩,
      ⟨(some 21), .bin .add (.t 20) (.c (.int .i64 1)), none, []⟩,
      ⟨(some 7), .mov (.t 21), none, []⟩]))
def xf44l1 : XCode := .seq (.seq (.reg [⟨(some 9), .mov (.t 6), none, []⟩,
      ⟨(some 10), .mov (.t 1), none, []⟩,
      ⟨(some 11), .len (.t 10), none, []⟩,
      ⟨(some 12), .bin .lss (.t 9) (.t 11), none, []⟩])
  (.cond (.t 12) .skip (.exit 0)))
  (.seq (.block 1 (.seq (.reg [⟨(some 7), .mov (.c (.int .i64 0)), none, []⟩])
    (.block 2 (.loop xf44l0))))
  (.reg [⟨(some 13), .mov (.t 6), none, []⟩,
      ⟨(some 14), .bin .add (.t 13) (.c (.int .i64 1)), none, []⟩,
      ⟨(some 6), .mov (.t 14), none, []⟩]))
def xf44 : XFunc := ⟨.seq (.reg [⟨(some 2), .box 82 (.t 0), none, []⟩,
      ⟨(some 4), .new 89 [.int .i64 0, .int .i64 0], none, []⟩,
      ⟨(some 5), .mov (.c (.bool false)), none, []⟩])
  (.seq (.seq (.reg [⟨(some 6), .mov (.c (.int .i64 0)), none, []⟩])
  (.block 0 (.loop xf44l1)))
  (.seq (.reg [⟨(some 48), .build [.int .i64 0, .int .i64 0] [], none, []⟩,
      ⟨none, .store 2 (.t 4) (.t 48), none, []⟩,
      ⟨(some 5), .mov (.c (.bool false)), none, []⟩])
  (.ret))), 49, [.cn 4 2, .t 5]⟩
def xf33 : XFunc := ⟨.seq (.reg [⟨(some 2), .mov (.c .nils), none, []⟩])
  (.seq (.reg [⟨(some 3), .buildSlice 3 1 0 false [] [], none, []⟩,
      ⟨(some 4), .mov (.t 0), none, []⟩,
      ⟨(some 5), .appendV 3 1 8 (.t 3) (.t 4), none, []⟩,
      ⟨(some 2), .mov (.t 5), none, []⟩])
  (.ret)), 6, [.t 2]⟩
def xf51l0 : XCode := .seq (.reg [⟨(some 8), .bin .lss (.t 7) (.t 6), none, []⟩])
  (.seq (.cond (.t 8) .skip (.exit 0))
  (.seq (.block 1 (.seq (.reg [⟨(some 9), .iaddr 1 (.t 5) (.t 7), none, []⟩,
        ⟨(some 10), .load1 (.t 9), none, []⟩,
        ⟨(some 4), .mov (.t 10), none, []⟩])
    (.seq (.reg [⟨(some 11), .mov (.t 4), none, []⟩,
        ⟨(some 12), .bin .neq (.t 11) (.c (.int .i64 0)), none, []⟩])
    (.cond (.t 12) (.seq (.reg [⟨(some 13), .mov (.t 4), none, []⟩,
          ⟨(some 2), .mov (.t 13), none, []⟩])
      (.ret)) .skip))))
  (.reg [⟨(some 14), .bin .add (.t 7) (.c (.int .i64 1)), none, []⟩,
      ⟨(some 7), .mov (.t 14), none, []⟩])))
def xf51 : XFunc := ⟨.seq (.reg [⟨(some 2), .mov (.c (.int .i64 0)), none, []⟩])
  (.seq (.seq (.reg [⟨(some 5), .mov (.t 0), none, []⟩,
      ⟨(some 6), .len (.t 5), none, []⟩,
      ⟨(some 7), .mov (.c (.int .i64 0)), none, []⟩])
  (.block 0 (.loop xf51l0)))
  (.seq (.reg [⟨(some 2), .mov (.c (.int .i64 0)), none, []⟩])
  (.ret))), 15, [.t 2]⟩
def xf81 : XFunc := ⟨.seq (.reg [⟨(some 4), .mov (.c (.int .i64 0)), none, []⟩])
  (.seq (.reg [⟨(some 5), .mov (.t 0), none, []⟩,
      ⟨(some 6), .mov (.t 1), none, []⟩,
      ⟨(some 7), .bin .sub (.t 6) (.c (.int .i64 1)), none, []⟩,
      ⟨(some 8), .call (.c (.fn 112 [] [])) [.t 5, .c (.int .i64 0), .t 7], none, []⟩,
      ⟨(some 9), .call (.c (.fn 56 [] [])) [.t 8, .c (.int .i64 6)], none, []⟩,
      ⟨(some 4), .mov (.t 9), none, []⟩])
  (.ret)), 10, [.t 4]⟩
def xf88 : XFunc := ⟨.seq (.reg [⟨(some 4), .mov (.c (.int .i64 0)), none, []⟩])
  (.seq (.reg [⟨(some 8), .mov (.t 0), none, []⟩,
      ⟨(some 9), .mov (.t 1), none, []⟩,
      ⟨(some 10), .call (.c (.fn 119 [] [])) [.t 8, .t 9], none, []⟩,
      ⟨(some 7), .mov (.t 10), none, []⟩,
      ⟨(some 11), .extract (.t 7) 0, none, []⟩,
      ⟨(some 12), .extract (.t 7) 1, none, []⟩,
      ⟨(some 5), .mov (.t 11), none, []⟩,
      ⟨(some 6), .mov (.t 12), none, []⟩])
  (.seq (.reg [⟨(some 13), .mov (.t 6), none, []⟩,
      ⟨(some 4), .mov (.t 13), none, []⟩])
  (.ret))), 14, [.t 4]⟩
def xf90 : XFunc := ⟨.seq (.reg [⟨(some 6), .mov (.c (.int .i64 0)), none, []⟩])
  (.seq (.reg [⟨(some 7), .mov (.t 0), none, []⟩,
      ⟨(some 8), .mov (.t 1), none, []⟩,
      ⟨(some 9), .mov (.t 2), none, []⟩,
      ⟨(some 10), .call (.c (.fn 112 [] [])) [.t 7, .t 8, .t 9], none, []⟩,
      ⟨(some 11), .call (.c (.fn 56 [] [])) [.t 10, .c (.int .i64 2)], none, []⟩,
      ⟨(some 6), .mov (.t 11), none, []⟩])
  (.ret)), 12, [.t 6]⟩
def xf91 : XFunc := ⟨.seq (.reg [⟨(some 4), .mov (.c (.int .i64 0)), none, []⟩])
  (.seq (.reg [⟨(some 5), .mov (.t 0), none, []⟩,
      ⟨(some 6), .len (.t 5), none, []⟩,
      ⟨(some 7), .mov (.t 1), none, []⟩,
      ⟨(some 8), .bin .leq (.t 6) (.t 7), none, []⟩,
      ⟨(some 9), .call (.c (.fn 56 [] [])) [.t 8, .c (.int .i64 8)], none, []⟩,
      ⟨(some 4), .mov (.t 9), none, []⟩])
  (.ret)), 10, [.t 4]⟩
def xf92l0 : XCode := .seq (.reg [⟨(some 12), .bin .lss (.t 11) (.t 10), none, []⟩])
  (.seq (.cond (.t 12) .skip (.exit 0))
  (.seq (.block 1 (.seq (.reg [⟨(some 13), .mov (.t 11), none, []⟩,
        ⟨(some 14), .iaddr 3 (.t 9) (.t 11), none, []⟩,
        ⟨(some 15), .loadn 3 (.t 14), none, []⟩,
        ⟨(some 7), .new 153 [.int .i64 0, .int .i64 0, .int .i64 0], none, []⟩,
        ⟨(some 6), .mov (.t 13), none, []⟩,
        ⟨none, .store 3 (.t 7) (.t 15), none, []⟩])
    (.seq (.reg [⟨(some 16), .mov (.t 1), none, []⟩,
        ⟨(some 17), .loadn 3 (.t 7), none, []⟩,
        ⟨(some 18), .call (.t 16) [.t 17], none, []⟩,
        ⟨(some 8), .mov (.t 18), none, []⟩])
    (.seq (.reg [⟨(some 19), .mov (.t 8), none, []⟩,
        ⟨(some 20), .bin .neq (.t 19) (.c (.int .i64 0)), none, []⟩])
    (.cond (.t 20) (.seq (.reg [⟨(some 21), .mov (.t 6), none, []⟩,
          ⟨(some 22), .mov (.t 8), none, []⟩,
          ⟨(some 4), .mov (.t 21), none, []⟩,
          ⟨(some 5), .mov (.t 22), none, []⟩])
      (.ret)) .skip)))))
  (.reg [⟨(some 23), .bin .add (.t 11) (.c (.int .i64 1)), none, []⟩,
      ⟨(some 11), .mov (.t 23), none, []⟩])))
def xf92 : XFunc := ⟨.seq (.reg [⟨(some 4), .mov (.c (.int .i64 0)), none, []⟩,
      ⟨(some 5), .mov (.c (.int .i64 0)), none, []⟩])
  (.seq (.seq (.reg [⟨(some 9), .mov (.t 0), none, []⟩,
      ⟨(some 10), .len (.t 9), none, []⟩,
      ⟨(some 11), .mov (.c (.int .i64 0)), none, []⟩])
  (.block 0 (.loop xf92l0)))
  (.seq (.reg [⟨(some 4), .mov (.c (.int .i64 0)), none, []⟩,
      ⟨(some 5), .mov (.c (.int .i64 0)), none, []⟩])
  (.ret))), 24, [.t 4, .t 5]⟩
def xf93 : XFunc := ⟨.seq (.reg [⟨(some 1), .box 153 (.t 0), none, []⟩,
      ⟨(some 2), .mov (.c (.int .i64 0)), none, []⟩])
  (.seq (.dreg [⟨(some 3), .faddr 0 (.t 1), none, []⟩,
      ⟨(some 4), .load1 (.t 3), none, [0]⟩,
      ⟨(some 5), .call (.c (.fn 96 [] [])) [.t 4], none, [0, 1]⟩,
      ⟨(some 6), .faddr 1 (.t 1), none, []⟩,
      ⟨(some 7), .load1 (.t 6), none, [3]⟩,
      ⟨(some 8), .call (.c (.fn 96 [] [])) [.t 7], none, [1, 0, 3, 2, 4]⟩,
      ⟨(some 9), .faddr 2 (.t 1), none, []⟩,
      ⟨(some 10), .load1 (.t 9), none, [6]⟩,
      ⟨(some 11), .call (.c (.fn 112 [] [])) [.t 10, .c (.int .i64 0), .c (.int .i64 1)], none, [4, 2, 3, 0, 1, 6, 5, 7]⟩,
      ⟨(some 12), .call (.c (.fn 56 [] [])) [.t 11, .c (.int .i64 15)], none, [7, 5, 6, 1, 0, 3, 2, 4, 8]⟩,
      ⟨(some 13), .buildSlice 32 1 3 false [.int .i64 0, .int .i64 0, .int .i64 0] [(0, 1, .t 5), (1, 1, .t 8), (2, 1, .t 12)], none, [8, 6, 7, 4, 3, 1, 0, 9, 5, 2]⟩,
      ⟨(some 14), .call (.c (.fn 51 [] [])) [.t 13], none, [2, 5, 0, 1, 3, 4, 7, 6, 8, 9, 10]⟩,
      ⟨(some 2), .mov (.t 14), none, [10, 9, 8, 7, 6, 5, 4, 3, 2, 1, 0, 11]⟩])
  (.ret)), 15, [.t 2]⟩
def xf94 : XFunc := ⟨.seq (.reg [⟨(some 2), .box 82 (.t 0), none, []⟩,
      ⟨(some 4), .mov (.c (.int .i64 0)), none, []⟩])
  (.seq (.reg [⟨(some 8), .loadn 2 (.t 2), none, []⟩,
      ⟨(some 9), .call (.c (.fn 38 [] [])) [.t 8], none, []⟩,
      ⟨(some 7), .mov (.t 9), none, []⟩,
      ⟨(some 10), .extract (.t 7) 0, none, []⟩,
      ⟨(some 11), .extract (.t 7) 1, none, []⟩,
      ⟨(some 5), .mov (.t 10), none, []⟩,
      ⟨(some 6), .mov (.t 11), none, []⟩])
  (.seq (.reg [⟨(some 12), .mov (.t 6), none, []⟩,
      ⟨(some 13), .mov (.t 1), none, []⟩,
      ⟨(some 14), .len (.t 13), none, []⟩,
      ⟨(some 15), .faddr 0 (.t 2), none, []⟩,
      ⟨(some 16), .load1 (.t 15), none, []⟩,
      ⟨(some 17), .bin .eql (.t 14) (.t 16), none, []⟩,
      ⟨(some 18), .call (.c (.fn 56 [] [])) [.t 17, .c (.int .i64 10)], none, []⟩,
      ⟨(some 19), .mov (.t 1), none, []⟩,
      ⟨(some 20), .call (.c (.fn 88 [] [])) [.t 19, .c (.fn 96 [] [])], none, []⟩,
      ⟨(some 21), .buildSlice 32 1 3 false [.int .i64 0, .int .i64 0, .int .i64 0] [(0, 1, .t 12), (1, 1, .t 18), (2, 1, .t 20)], none, []⟩,
      ⟨(some 22), .call (.c (.fn 51 [] [])) [.t 21], none, []⟩,
      ⟨(some 4), .mov (.t 22), none, []⟩])
  (.ret))), 23, [.t 4]⟩
def xf95l0 : XCode := .seq (.reg [⟨(some 12), .bin .lss (.t 11) (.t 10), none, []⟩])
  (.seq (.cond (.t 12) .skip (.exit 0))
  (.seq (.block 1 (.seq (.reg [⟨(some 13), .mov (.t 11), none, []⟩,
        ⟨(some 6), .new 3 [.int .i64 0], none, []⟩,
        ⟨none, .store 1 (.t 6) (.t 13), none, []⟩])
    (.seq (.reg [⟨(some 14), .fn true 120 [] [.t 6, .t 3], none, []⟩,
        ⟨(some 7), .mov (.t 14), none, []⟩])
    (.seq (.reg [⟨(some 15), .faddr 1 (.t 2), none, []⟩,
        ⟨(some 16), .load1 (.t 15), none, []⟩,
        ⟨(some 17), .mov (.t 7), none, []⟩,
        ⟨(some 18), .call (.c (.fn 122 [] [])) [.t 16, .t 17], none, []⟩,
        ⟨(some 8), .mov (.t 18), none, []⟩])
    (.seq (.reg [⟨(some 19), .mov (.t 8), none, []⟩,
        ⟨(some 20), .bin .geq (.t 19) (.c (.int .i64 0)), none, []⟩])
    (.cond (.t 20) (.seq (.reg [⟨(some 21), .load1 (.t 6), none, []⟩,
          ⟨(some 22), .mov (.t 8), none, []⟩,
          ⟨(some 23), .build [.int .i64 0, .int .i64 0] [(0, 1, .t 21), (1, 1, .t 22)], none, []⟩,
          ⟨none, .store 2 (.t 4) (.t 23), none, []⟩,
          ⟨(some 5), .mov (.c (.bool true)), none, []⟩])
      (.ret)) .skip))))))
  (.reg [⟨(some 24), .bin .add (.t 11) (.c (.int .i64 1)), none, []⟩,
      ⟨(some 11), .mov (.t 24), none, []⟩])))
def xf95 : XFunc := ⟨.seq (.reg [⟨(some 2), .box 82 (.t 0), none, []⟩,
      ⟨(some 3), .box 62 (.t 1), none, []⟩,
      ⟨(some 4), .new 89 [.int .i64 0, .int .i64 0], none, []⟩,
      ⟨(some 5), .mov (.c (.bool false)), none, []⟩])
  (.seq (.seq (.reg [⟨(some 9), .load1 (.t 3), none, []⟩,
      ⟨(some 10), .len (.t 9), none, []⟩,
      ⟨(some 11), .mov (.c (.int .i64 0)), none, []⟩])
  (.block 0 (.loop xf95l0)))
  (.seq (.reg [⟨(some 25), .build [.int .i64 0, .int .i64 0] [], none, []⟩,
      ⟨none, .store 2 (.t 4) (.t 25), none, []⟩,
      ⟨(some 5), .mov (.c (.bool false)), none, []⟩])
  (.ret))), 26, [.cn 4 2, .t 5]⟩
def xf96 : XFunc := ⟨.seq (.reg [⟨(some 2), .mov (.c (.int .i64 0)), none, []⟩])
  (.seq (.reg [⟨(some 3), .mov (.t 0), none, []⟩,
      ⟨(some 4), .call (.c (.fn 81 [] [])) [.t 3, .c (.int .i64 10)], none, []⟩,
      ⟨(some 2), .mov (.t 4), none, []⟩])
  (.ret)), 5, [.t 2]⟩
def xf97 : XFunc := ⟨.seq (.reg [⟨(some 2), .mov (.c .nils), none, []⟩])
  (.seq (.seq (.reg [⟨(some 3), .mov (.t 0), none, []⟩,
      ⟨(some 4), .isnilS false (.t 3), none, []⟩])
  (.cond (.t 4) (.seq (.reg [⟨(some 2), .mov (.c .nils), none, []⟩])
    (.ret)) .skip))
  (.seq (.reg [⟨(some 5), .buildSlice 3 1 0 false [] [], none, []⟩,
      ⟨(some 6), .mov (.t 0), none, []⟩,
      ⟨(some 7), .appendV 3 1 8 (.t 5) (.t 6), none, []⟩,
      ⟨(some 2), .mov (.t 7), none, []⟩])
  (.ret))), 8, [.t 2]⟩
def xf98 : XFunc := ⟨.seq (.reg [⟨(some 2), .mov (.c (.bool false)), none, []⟩])
  (.seq (.reg [⟨(some 3), .mov (.t 0), none, []⟩,
      ⟨(some 4), .call (.c (.fn 45 [] [])) [.t 3, .c (.int .i64 0), .c (.int .i64 9)], none, []⟩,
      ⟨(some 2), .mov (.t 4), none, []⟩])
  (.ret)), 5, [.t 2]⟩
def xf99l0 : XCode := .seq (.seq (.reg [⟨(some 8), .mov (.t 7), none, []⟩,
      ⟨(some 9), .mov (.t 0), none, []⟩,
      ⟨(some 10), .len (.t 9), none, []⟩,
      ⟨(some 11), .bin .lss (.t 8) (.t 10), none, []⟩])
  (.cond (.t 11) .skip (.exit 0)))
  (.seq (.block 1 (.seq (.reg [⟨(some 14), .mov (.t 7), none, []⟩,
        ⟨(some 15), .mov (.t 1), none, []⟩,
        ⟨(some 16), .bin .neq (.t 14) (.t 15), none, []⟩,
        ⟨(some 17), .mov (.t 16), none, []⟩,
        ⟨(some 18), .mov (.t 0), (some (17, true)), []⟩,
        ⟨(some 19), .mov (.t 7), (some (17, true)), []⟩,
        ⟨(some 20), .iaddr 1 (.t 18) (.t 19), (some (17, true)), []⟩,
        ⟨(some 21), .load1 (.t 20), (some (17, true)), []⟩,
        ⟨(some 22), .mov (.t 2), (some (17, true)), []⟩,
        ⟨(some 23), .bin .eql (.t 21) (.t 22), (some (17, true)), []⟩,
        ⟨(some 24), .pick (.t 17) (.t 23) (.c (.bool false)), none, []⟩])
    (.cond (.t 24) (.seq (.reg [⟨(some 6), .mov (.c (.bool true)), none, []⟩])
      (.ret)) .skip)))
  (.reg [⟨(some 12), .mov (.t 7), none, []⟩,
      ⟨(some 13), .bin .add (.t 12) (.c (.int .i64 1)), none, []⟩,
      ⟨(some 7), .mov (.t 13), none, []⟩]))
def xf99 : XFunc := ⟨.seq (.reg [⟨(some 6), .mov (.c (.bool false)), none, []⟩])
  (.seq (.seq (.reg [⟨(some 7), .mov (.c (.int .i64 0)), none, []⟩])
  (.block 0 (.loop xf99l0)))
  (.seq (.reg [⟨(some 6), .mov (.c (.bool false)), none, []⟩])
  (.ret))), 25, [.t 6]⟩
def xf119l0 : XCode := .seq (.reg [⟨(some 12), .bin .lss (.t 11) (.t 10), none, []⟩])
  (.seq (.cond (.t 12) .skip (.exit 0))
  (.seq (.block 1 (.seq (.reg [⟨(some 13), .mov (.t 11), none, []⟩,
        ⟨(some 14), .iaddr 1 (.t 9) (.t 11), none, []⟩,
        ⟨(some 15), .load1 (.t 14), none, []⟩,
        ⟨(some 6), .mov (.t 13), none, []⟩,
        ⟨(some 7), .mov (.t 15), none, []⟩])
    (.seq (.reg [⟨(some 16), .mov (.t 1), none, []⟩,
        ⟨(some 17), .mov (.t 7), none, []⟩,
        ⟨(some 18), .call (.t 16) [.t 17], none, []⟩,
        ⟨(some 8), .mov (.t 18), none, []⟩])
    (.seq (.reg [⟨(some 19), .mov (.t 8), none, []⟩,
        ⟨(some 20), .bin .neq (.t 19) (.c (.int .i64 0)), none, []⟩])
    (.cond (.t 20) (.seq (.reg [⟨(some 21), .mov (.t 6), none, []⟩,
          ⟨(some 22), .mov (.t 8), none, []⟩,
          ⟨(some 4), .mov (.t 21), none, []⟩,
          ⟨(some 5), .mov (.t 22), none, []⟩])
      (.ret)) .skip)))))
  (.reg [⟨(some 23), .bin .add (.t 11) (.c (.int .i64 1)), none, []⟩,
      ⟨(some 11), .mov (.t 23), none, []⟩])))
def xf119 : XFunc := ⟨.seq (.reg [⟨(some 4), .mov (.c (.int .i64 0)), none, []⟩,
      ⟨(some 5), .mov (.c (.int .i64 0)), none, []⟩])
  (.seq (.seq (.reg [⟨(some 9), .mov (.t 0), none, []⟩,
      ⟨(some 10), .len (.t 9), none, []⟩,
      ⟨(some 11), .mov (.c (.int .i64 0)), none, []⟩])
  (.block 0 (.loop xf119l0)))
  (.seq (.reg [⟨(some 4), .mov (.c (.int .i64 0)), none, []⟩,
      ⟨(some 5), .mov (.c (.int .i64 0)), none, []⟩])
  (.ret))), 24, [.t 4, .t 5]⟩
def xf120 : XFunc := ⟨.seq (.reg [⟨(some 3), .box 153 (.t 0), none, []⟩,
      ⟨(some 4), .mov (.c (.bool false)), none, []⟩])
  (.seq (.reg [⟨(some 5), .load1 (.t 1), none, []⟩,
      ⟨(some 6), .loadn 3 (.t 3), none, []⟩,
      ⟨(some 7), .load1 (.t 2), none, []⟩,
      ⟨(some 8), .call (.c (.fn 121 [] [])) [.t 5, .t 6, .t 7], none, []⟩,
      ⟨(some 9), .un .not (.t 8), none, []⟩,
      ⟨(some 4), .mov (.t 9), none, []⟩])
  (.ret)), 10, [.t 4]⟩
def xf121 : XFunc := ⟨.seq (.reg [⟨(some 4), .box 153 (.t 1), none, []⟩,
      ⟨(some 6), .mov (.c (.bool false)), none, []⟩])
  (.seq (.seq (.dreg [⟨(some 7), .mov (.t 2), none, []⟩,
      ⟨(some 8), .mov (.t 0), none, []⟩,
      ⟨(some 9), .iaddr 1 (.t 7) (.t 8), none, [1, 0]⟩,
      ⟨(some 10), .load1 (.t 9), none, [0, 1, 2]⟩,
      ⟨(some 11), .faddr 0 (.t 4), none, []⟩,
      ⟨(some 12), .load1 (.t 11), none, [4]⟩,
      ⟨(some 13), .bin .neq (.t 10) (.t 12), none, [4, 2, 1, 0, 5, 3]⟩])
  (.cond (.t 13) (.seq (.reg [⟨(some 6), .mov (.c (.bool true)), none, []⟩])
    (.ret)) .skip))
  (.seq (.dreg [⟨(some 14), .mov (.t 0), none, []⟩,
      ⟨(some 15), .faddr 1 (.t 4), none, []⟩,
      ⟨(some 16), .load1 (.t 15), none, [1]⟩,
      ⟨(some 17), .mov (.t 2), none, []⟩,
      ⟨(some 18), .call (.c (.fn 129 [] [])) [.t 14, .t 16, .t 17], none, [1, 3, 2, 0]⟩,
      ⟨(some 19), .faddr 2 (.t 4), none, []⟩,
      ⟨(some 20), .load1 (.t 19), none, [5]⟩,
      ⟨(some 21), .bin .eql (.t 20) (.c (.int .i64 1)), none, [5, 6]⟩,
      ⟨(some 22), .eqb false (.t 18) (.t 21), none, [6, 5, 0, 2, 3, 1, 7, 4]⟩,
      ⟨(some 6), .mov (.t 22), none, [7, 6, 5, 3, 2, 1, 0, 4, 8]⟩])
  (.ret))), 23, [.t 6]⟩
def xf122l0 : XCode := .seq (.reg [⟨(some 9), .bin .lss (.t 8) (.t 7), none, []⟩])
  (.seq (.cond (.t 9) .skip (.exit 0))
  (.seq (.block 1 (.seq (.reg [⟨(some 10), .mov (.t 8), none, []⟩,
        ⟨(some 5), .mov (.t 10), none, []⟩])
    (.seq (.reg [⟨(some 11), .mov (.t 1), none, []⟩,
        ⟨(some 12), .mov (.t 0), none, []⟩,
        ⟨(some 13), .mov (.t 5), none, []⟩,
        ⟨(some 14), .iaddr 3 (.t 12) (.t 13), none, []⟩,
        ⟨(some 15), .loadn 3 (.t 14), none, []⟩,
        ⟨(some 16), .call (.t 11) [.t 15], none, []⟩])
    (.cond (.t 16) (.seq (.reg [⟨(some 17), .mov (.t 5), none, []⟩,
          ⟨(some 4), .mov (.t 17), none, []⟩])
      (.ret)) .skip))))
  (.reg [⟨(some 18), .bin .add (.t 8) (.c (.int .i64 1)), none, []⟩,
      ⟨(some 8), .mov (.t 18), none, []⟩])))
def xf122 : XFunc := ⟨.seq (.reg [⟨(some 4), .mov (.c (.int .i64 0)), none, []⟩])
  (.seq (.seq (.reg [⟨(some 6), .mov (.t 0), none, []⟩,
      ⟨(some 7), .len (.t 6), none, []⟩,
      ⟨(some 8), .mov (.c (.int .i64 0)), none, []⟩])
  (.block 0 (.loop xf122l0)))
  (.seq (.reg [⟨(some 4), .mov (.c (.int .i64 (-1))), none, []⟩])
  (.ret))), 19, [.t 4]⟩
def xf129l0 : XCode := .seq (.reg [⟨(some 12), .bin .lss (.t 11) (.t 10), none, []⟩])
  (.seq (.cond (.t 12) .skip (.exit 0))
  (.seq (.block 1 (.seq (.reg [⟨(some 13), .mov (.t 11), none, []⟩,
        ⟨(some 14), .iaddr 1 (.t 9) (.t 11), none, []⟩,
        ⟨(some 15), .load1 (.t 14), none, []⟩,
        ⟨(some 7), .mov (.t 13), none, []⟩,
        ⟨(some 8), .mov (.t 15), none, []⟩])
    (.seq (.reg [⟨(some 16), .mov (.t 7), none, []⟩,
        ⟨(some 17), .mov (.t 0), none, []⟩,
        ⟨(some 18), .bin .neq (.t 16) (.t 17), none, []⟩,
        ⟨(some 19), .mov (.t 18), none, []⟩,
        ⟨(some 20), .mov (.t 8), (some (19, true)), []⟩,
        ⟨(some 21), .mov (.t 1), (some (19, true)), []⟩,
        ⟨(some 22), .bin .eql (.t 20) (.t 21), (some (19, true)), []⟩,
        ⟨(some 23), .pick (.t 19) (.t 22) (.c (.bool false)), none, []⟩])
    (.cond (.t 23) (.seq (.reg [⟨(some 6), .mov (.c (.bool true)), none, []⟩])
      (.ret)) .skip))))
  (.reg [⟨(some 24), .bin .add (.t 11) (.c (.int .i64 1)), none, []⟩,
      ⟨(some 11), .mov (.t 24), none, []⟩])))
def xf129 : XFunc := ⟨.seq (.reg [⟨(some 6), .mov (.c (.bool false)), none, []⟩])
  (.seq (.seq (.reg [⟨(some 9), .mov (.t 2), none, []⟩,
      ⟨(some 10), .len (.t 9), none, []⟩,
      ⟨(some 11), .mov (.c (.int .i64 0)), none, []⟩])
  (.block 0 (.loop xf129l0)))
  (.seq (.reg [⟨(some 6), .mov (.c (.bool false)), none, []⟩])
  (.ret))), 25, [.t 6]⟩
def xf112 : XFunc := ⟨.seq (.reg [⟨(some 6), .mov (.c (.bool false)), none, []⟩])
  (.seq (.reg [⟨(some 7), .mov (.t 1), none, []⟩,
      ⟨(some 8), .mov (.t 0), none, []⟩,
      ⟨(some 9), .bin .leq (.t 7) (.t 8), none, []⟩,
      ⟨(some 10), .mov (.t 9), none, []⟩,
      ⟨(some 11), .mov (.t 0), (some (10, true)), []⟩,
      ⟨(some 12), .mov (.t 2), (some (10, true)), []⟩,
      ⟨(some 13), .bin .leq (.t 11) (.t 12), (some (10, true)), []⟩,
      ⟨(some 14), .pick (.t 10) (.t 13) (.c (.bool false)), none, []⟩,
      ⟨(some 6), .mov (.t 14), none, []⟩])
  (.ret)), 15, [.t 6]⟩
def xf56 : XFunc := ⟨.seq (.reg [⟨(some 4), .mov (.c (.int .i64 0)), none, []⟩])
  (.seq (.seq (.reg [⟨(some 5), .mov (.t 0), none, []⟩])
  (.cond (.t 5) (.seq (.reg [⟨(some 4), .mov (.c (.int .i64 0)), none, []⟩])
    (.ret)) .skip))
  (.seq (.reg [⟨(some 6), .mov (.t 1), none, []⟩,
      ⟨(some 4), .mov (.t 6), none, []⟩])
  (.ret))), 7, [.t 4]⟩
def xf45 : XFunc := ⟨.seq (.reg [⟨(some 6), .mov (.c (.bool false)), none, []⟩])
  (.seq (.reg [⟨(some 7), .mov (.t 1), none, []⟩,
      ⟨(some 8), .mov (.t 0), none, []⟩,
      ⟨(some 9), .bin .leq (.t 7) (.t 8), none, []⟩,
      ⟨(some 10), .mov (.t 9), none, []⟩,
      ⟨(some 11), .mov (.t 0), (some (10, true)), []⟩,
      ⟨(some 12), .mov (.t 2), (some (10, true)), []⟩,
      ⟨(some 13), .bin .leq (.t 11) (.t 12), (some (10, true)), []⟩,
      ⟨(some 14), .pick (.t 10) (.t 13) (.c (.bool false)), none, []⟩,
      ⟨(some 6), .mov (.t 14), none, []⟩])
  (.ret)), 15, [.t 6]⟩
structure SqLCode (X : FuncId → Option XFunc) : Prop where
  h7 : X 7 = some xf7
  h37 : X 37 = some xf37
  h38 : X 38 = some xf38
  h39 : X 39 = some xf39
  h40 : X 40 = some xf40
  h41 : X 41 = some xf41
  h42 : X 42 = some xf42
  h43 : X 43 = some xf43
  h44 : X 44 = some xf44
  h33 : X 33 = some xf33
  h51 : X 51 = some xf51
  h81 : X 81 = some xf81
  h88 : X 88 = some xf88
  h90 : X 90 = some xf90
  h91 : X 91 = some xf91
  h92 : X 92 = some xf92
  h93 : X 93 = some xf93
  h94 : X 94 = some xf94
  h95 : X 95 = some xf95
  h96 : X 96 = some xf96
  h97 : X 97 = some xf97
  h98 : X 98 = some xf98
  h99 : X 99 = some xf99
  h119 : X 119 = some xf119
  h120 : X 120 = some xf120
  h121 : X 121 = some xf121
  h122 : X 122 = some xf122
  h129 : X 129 = some xf129
  h112 : X 112 = some xf112
  h56 : X 56 = some xf56
  h45 : X 45 = some xf45
end Go.Proofs.Ytjbegiaceekgcaa.Eng
