/-
  CODE of SqAwX.
-/
import Derived.Test.YtjbegiaceekgcaaEngY
namespace Go.Proofs.Ytjbegiaceekgcaa.Eng
set_option linter.unusedSimpArgs false
set_option linter.unusedVariables false
def xf8 : XFunc := ⟨.seq (.reg [⟨(some 0), .mov (.c (.bool false)), none, []⟩])
  (.seq (.reg [⟨(some 15), .call (.c (.fn 47 [] [])) [], none, []⟩,
      ⟨(some 16), .build [.int .i64 0, .int .i64 0] [(0, 1, .c (.int .i64 1))], none, []⟩,
      ⟨(some 17), .call (.c (.fn 28 [] [])) [], none, []⟩,
      ⟨(some 18), .build [.int .i64 0, .bool false, .int .i64 0] [(0, 2, .t 17), (2, 1, .c (.int .i64 (-1)))], none, []⟩,
      ⟨(some 19), .call (.c (.fn 21 [] [])) [.t 15, .t 16, .t 18], none, []⟩,
      ⟨(some 14), .mov (.t 19), none, []⟩,
      ⟨(some 20), .extract (.t 14) 0, none, []⟩,
      ⟨(some 21), .extract (.t 14) 1, none, []⟩,
      ⟨(some 22), .extract (.t 14) 2, none, []⟩,
      ⟨(some 1), .new 27 [.int .i64 0, .int .i64 0], none, []⟩,
      ⟨none, .store 2 (.t 1) (.t 20), none, []⟩,
      ⟨(some 2), .mov (.t 21), none, []⟩,
      ⟨(some 3), .mov (.t 22), none, []⟩])
  (.seq (.reg [⟨(some 24), .call (.c (.fn 47 [] [])) [], none, []⟩,
      ⟨(some 25), .build [.int .i64 0, .int .i64 0] [(0, 1, .c (.int .i64 2)), (1, 1, .c (.int .i64 3))], none, []⟩,
      ⟨(some 26), .build [.int .i64 0, .bool false] [(0, 1, .c (.int .i64 1)), (1, 1, .c (.bool true))], none, []⟩,
      ⟨(some 27), .call (.c (.fn 48 [] [])) [.t 24, .t 25, .t 26], none, []⟩,
      ⟨(some 23), .mov (.t 27), none, []⟩,
      ⟨(some 28), .extract (.t 23) 0, none, []⟩,
      ⟨(some 29), .extract (.t 23) 1, none, []⟩,
      ⟨(some 30), .extract (.t 23) 2, none, []⟩,
      ⟨(some 4), .mov (.t 28), none, []⟩,
      ⟨(some 5), .mov (.t 29), none, []⟩,
      ⟨(some 6), .mov (.t 30), none, []⟩])
  (.seq (.reg [⟨(some 32), .call (.c (.fn 47 [] [])) [], none, []⟩,
      ⟨(some 33), .build [.int .i64 0, .int .i64 0] [], none, []⟩,
      ⟨(some 34), .call (.c (.fn 31 [] [])) [.t 32, .t 33, .c (.int .i64 2)], none, []⟩,
      ⟨(some 31), .mov (.t 34), none, []⟩,
      ⟨(some 35), .extract (.t 31) 0, none, []⟩,
      ⟨(some 36), .extract (.t 31) 1, none, []⟩,
      ⟨(some 37), .extract (.t 31) 2, none, []⟩,
      ⟨(some 7), .mov (.t 35), none, []⟩,
      ⟨(some 8), .mov (.t 36), none, []⟩,
      ⟨(some 9), .mov (.t 37), none, []⟩])
  (.seq (.reg [⟨(some 39), .call (.c (.fn 49 [] [])) [], none, []⟩,
      ⟨(some 40), .buildSlice 3 1 2 false [.int .i64 0, .int .i64 0] [(0, 1, .c (.int .i64 2)), (1, 1, .c (.int .i64 1))], none, []⟩,
      ⟨(some 41), .call (.c (.fn 40 [] [])) [.t 39, .t 40], none, []⟩,
      ⟨(some 38), .mov (.t 41), none, []⟩,
      ⟨(some 42), .extract (.t 38) 0, none, []⟩,
      ⟨(some 43), .extract (.t 38) 1, none, []⟩,
      ⟨(some 10), .new 89 [.int .i64 0, .int .i64 0], none, []⟩,
      ⟨none, .store 2 (.t 10) (.t 42), none, []⟩,
      ⟨(some 11), .mov (.t 43), none, []⟩])
  (.seq (.reg [⟨(some 45), .call (.c (.fn 49 [] [])) [], none, []⟩,
      ⟨(some 46), .buildSlice 3 1 2 false [.int .i64 0, .int .i64 0] [(0, 1, .c (.int .i64 0)), (1, 1, .c (.int .i64 0))], none, []⟩,
      ⟨(some 47), .call (.c (.fn 40 [] [])) [.t 45, .t 46], none, []⟩,
      ⟨(some 44), .mov (.t 47), none, []⟩,
      ⟨(some 48), .extract (.t 44) 0, none, []⟩,
      ⟨(some 49), .extract (.t 44) 1, none, []⟩,
      ⟨(some 12), .new 89 [.int .i64 0, .int .i64 0], none, []⟩,
      ⟨none, .store 2 (.t 12) (.t 48), none, []⟩,
      ⟨(some 13), .mov (.t 49), none, []⟩])
  (.seq (.reg [⟨(some 50), .mov (.t 3), none, []⟩,
      ⟨(some 51), .bin .eql (.t 50) (.c (.int .i64 0)), none, []⟩,
      ⟨(some 52), .mov (.t 51), none, []⟩,
      ⟨(some 53), .mov (.t 2), (some (52, true)), []⟩,
      ⟨(some 54), .bin .eql (.t 53) (.c (.int .i64 30)), (some (52, true)), []⟩,
      ⟨(some 55), .pick (.t 52) (.t 54) (.c (.bool false)), none, []⟩,
      ⟨(some 56), .mov (.t 55), none, []⟩,
      ⟨(some 57), .loadn 2 (.t 1), (some (56, true)), []⟩,
      ⟨(some 58), .build [.int .i64 0, .int .i64 0] [(0, 1, .c (.int .i64 2)), (1, 1, .c (.int .i64 3))], (some (56, true)), []⟩,
      ⟨(some 59), .eqA false (.s [(0, 1, false, .c 0), (1, 1, false, .c 0)]) (.t 57) (.t 58), (some (56, true)), []⟩,
      ⟨(some 60), .pick (.t 56) (.t 59) (.c (.bool false)), none, []⟩,
      ⟨(some 61), .mov (.t 60), none, []⟩,
      ⟨(some 62), .mov (.t 6), (some (61, true)), []⟩,
      ⟨(some 63), .bin .eql (.t 62) (.c (.int .i64 0)), (some (61, true)), []⟩,
      ⟨(some 64), .pick (.t 61) (.t 63) (.c (.bool false)), none, []⟩,
      ⟨(some 65), .mov (.t 64), none, []⟩,
      ⟨(some 66), .mov (.t 5), (some (65, true)), []⟩,
      ⟨(some 67), .bin .eql (.t 66) (.c (.int .i64 91)), (some (65, true)), []⟩,
      ⟨(some 68), .pick (.t 65) (.t 67) (.c (.bool false)), none, []⟩,
      ⟨(some 69), .mov (.t 68), none, []⟩,
      ⟨(some 70), .mov (.t 4), (some (69, true)), []⟩,
      ⟨(some 71), .len (.t 70), (some (69, true)), []⟩,
      ⟨(some 72), .bin .eql (.t 71) (.c (.int .i64 3)), (some (69, true)), []⟩,
      ⟨(some 73), .pick (.t 69) (.t 72) (.c (.bool false)), none, []⟩,
      ⟨(some 74), .mov (.t 73), none, []⟩,
      ⟨(some 75), .mov (.t 9), (some (74, true)), []⟩,
      ⟨(some 76), .bin .eql (.t 75) (.c (.int .i64 0)), (some (74, true)), []⟩,
      ⟨(some 77), .pick (.t 74) (.t 76) (.c (.bool false)), none, []⟩,
      ⟨(some 78), .mov (.t 77), none, []⟩,
      ⟨(some 79), .mov (.t 8), (some (78, true)), []⟩,
      ⟨(some 80), .bin .eql (.t 79) (.c (.int .i64 31)), (some (78, true)), []⟩,
      ⟨(some 81), .pick (.t 78) (.t 80) (.c (.bool false)), none, []⟩,
      ⟨(some 82), .mov (.t 81), none, []⟩,
      ⟨(some 83), .mov (.t 7), (some (82, true)), []⟩,
      ⟨(some 84), .buildSlice 3 1 1 false [.int .i64 0] [(0, 1, .c (.int .i64 1))], (some (82, true)), []⟩,
      ⟨(some 85), .call (.c (.fn 50 [] [])) [.t 83, .t 84], (some (82, true)), []⟩,
      ⟨(some 86), .pick (.t 82) (.t 85) (.c (.bool false)), none, []⟩,
      ⟨(some 87), .mov (.t 86), none, []⟩,
      ⟨(some 88), .mov (.t 11), (some (87, true)), []⟩,
      ⟨(some 89), .bin .eql (.t 88) (.c (.int .i64 0)), (some (87, true)), []⟩,
      ⟨(some 90), .pick (.t 87) (.t 89) (.c (.bool false)), none, []⟩,
      ⟨(some 91), .mov (.t 90), none, []⟩,
      ⟨(some 92), .loadn 2 (.t 10), (some (91, true)), []⟩,
      ⟨(some 93), .build [.int .i64 0, .int .i64 0] [], (some (91, true)), []⟩,
      ⟨(some 94), .eqA false (.s [(0, 1, false, .c 0), (1, 1, false, .c 0)]) (.t 92) (.t 93), (some (91, true)), []⟩,
      ⟨(some 95), .pick (.t 91) (.t 94) (.c (.bool false)), none, []⟩,
      ⟨(some 96), .mov (.t 95), none, []⟩,
      ⟨(some 97), .mov (.t 13), (some (96, true)), []⟩,
      ⟨(some 98), .bin .eql (.t 97) (.c (.int .i64 12)), (some (96, true)), []⟩,
      ⟨(some 99), .pick (.t 96) (.t 98) (.c (.bool false)), none, []⟩,
      ⟨(some 0), .mov (.t 99), none, []⟩])
  (.ret))))))), 100, [.t 0]⟩
def xf31 : XFunc := ⟨.seq (.reg [⟨(some 3), .box 25 (.t 0), none, []⟩,
      ⟨(some 4), .box 27 (.t 1), none, []⟩,
      ⟨(some 6), .mov (.c .nils), none, []⟩,
      ⟨(some 7), .mov (.c (.int .i64 0)), none, []⟩,
      ⟨(some 8), .mov (.c (.int .i64 0)), none, []⟩])
  (.seq (.dreg [⟨(some 15), .loadn 3 (.t 3), none, []⟩,
      ⟨(some 16), .loadn 2 (.t 4), none, []⟩,
      ⟨(some 17), .call (.c (.fn 80 [] [])) [], none, []⟩,
      ⟨(some 18), .call (.c (.fn 71 [] [])) [.t 15, .t 16, .t 17], none, [2, 1, 0]⟩,
      ⟨(some 14), .mov (.t 18), none, [0, 1, 2, 3]⟩,
      ⟨(some 19), .extract (.t 14) 0, none, [3, 2, 1, 0, 4]⟩,
      ⟨(some 20), .extract (.t 14) 1, none, [3, 2, 1, 0, 4]⟩,
      ⟨(some 9), .new 129 [.nils, .int .i64 0, .nils, .int .i64 0, .bool false], none, []⟩,
      ⟨none, .store 5 (.t 9) (.t 19), none, [4, 2, 1, 0, 3, 5, 7]⟩,
      ⟨(some 10), .mov (.t 20), none, [7, 5, 4, 3, 2, 1, 0, 8, 6]⟩])
  (.seq (.seq (.reg [⟨(some 21), .mov (.t 10), none, []⟩,
      ⟨(some 22), .mov (.t 2), none, []⟩,
      ⟨(some 23), .faddr 0 (.t 9), none, []⟩,
      ⟨(some 24), .faddr 0 (.t 23), none, []⟩,
      ⟨(some 25), .faddr 2 (.t 24), none, []⟩,
      ⟨(some 26), .load1 (.t 25), none, []⟩,
      ⟨(some 27), .len (.t 26), none, []⟩,
      ⟨(some 28), .call (.c (.fn 81 [] [])) [.t 22, .t 27], none, []⟩,
      ⟨(some 29), .buildSlice 32 1 2 false [.int .i64 0, .int .i64 0] [(0, 1, .t 21), (1, 1, .t 28)], none, []⟩,
      ⟨(some 30), .call (.c (.fn 51 [] [])) [.t 29], none, []⟩,
      ⟨(some 11), .mov (.t 30), none, []⟩])
  (.seq (.reg [⟨(some 31), .mov (.t 11), none, []⟩,
      ⟨(some 32), .bin .neq (.t 31) (.c (.int .i64 0)), none, []⟩])
  (.cond (.t 32) (.seq (.reg [⟨(some 33), .mov (.t 11), none, []⟩,
        ⟨(some 6), .mov (.c .nils), none, []⟩,
        ⟨(some 7), .mov (.c (.int .i64 0)), none, []⟩,
        ⟨(some 8), .mov (.t 33), none, []⟩])
    (.ret)) .skip)))
  (.seq (.seq (.reg [⟨(some 34), .loadn 5 (.t 9), none, []⟩,
      ⟨(some 35), .loadn 2 (.t 4), none, []⟩,
      ⟨(some 36), .call (.c (.fn 83 [] [])) [.t 34, .t 35], none, []⟩,
      ⟨(some 37), .call (.c (.fn 82 [] [])) [.t 36], none, []⟩,
      ⟨(some 38), .un .not (.t 37), none, []⟩,
      ⟨(some 39), .mov (.t 38), none, []⟩,
      ⟨(some 40), .faddr 0 (.t 9), (some (39, false)), []⟩,
      ⟨(some 41), .faddr 0 (.t 40), (some (39, false)), []⟩,
      ⟨(some 42), .faddr 2 (.t 41), (some (39, false)), []⟩,
      ⟨(some 43), .load1 (.t 42), (some (39, false)), []⟩,
      ⟨(some 44), .mov (.t 2), (some (39, false)), []⟩,
      ⟨(some 45), .iaddr 14 (.t 43) (.t 44), (some (39, false)), []⟩,
      ⟨(some 46), .loadn 14 (.t 45), (some (39, false)), []⟩,
      ⟨(some 47), .call (.c (.fn 82 [] [])) [.t 46], (some (39, false)), []⟩,
      ⟨(some 48), .un .not (.t 47), (some (39, false)), []⟩,
      ⟨(some 49), .pick (.t 39) (.c (.bool true)) (.t 48), none, []⟩])
  (.cond (.t 49) (.seq (.reg [⟨(some 6), .mov (.c .nils), none, []⟩,
        ⟨(some 7), .mov (.c (.int .i64 0)), none, []⟩,
        ⟨(some 8), .mov (.c (.int .i64 20)), none, []⟩])
    (.ret)) .skip))
  (.seq (.reg [⟨(some 50), .loadn 5 (.t 9), none, []⟩,
      ⟨(some 51), .mov (.t 2), none, []⟩,
      ⟨(some 52), .loadn 2 (.t 4), none, []⟩,
      ⟨(some 53), .call (.c (.fn 84 [] [])) [.t 50, .t 51, .t 52], none, []⟩,
      ⟨(some 12), .mov (.t 53), none, []⟩])
  (.seq (.seq (.reg [⟨(some 54), .mov (.t 12), none, []⟩,
      ⟨(some 55), .len (.t 54), none, []⟩,
      ⟨(some 56), .bin .eql (.t 55) (.c (.int .i64 0)), none, []⟩])
  (.cond (.t 56) (.seq (.reg [⟨(some 6), .mov (.c .nils), none, []⟩,
        ⟨(some 7), .mov (.c (.int .i64 0)), none, []⟩,
        ⟨(some 8), .mov (.c (.int .i64 12)), none, []⟩])
    (.ret)) .skip))
  (.seq (.reg [⟨(some 57), .mov (.t 12), none, []⟩,
      ⟨(some 58), .call (.c (.fn 85 [] [])) [.t 57, .c (.fn 86 [] [])], none, []⟩,
      ⟨(some 13), .new 144 [.nils, .int .i64 0], none, []⟩,
      ⟨none, .store 2 (.t 13) (.t 58), none, []⟩])
  (.seq (.dreg [⟨(some 59), .faddr 0 (.t 13), none, []⟩,
      ⟨(some 60), .load1 (.t 59), none, [0]⟩,
      ⟨(some 61), .faddr 1 (.t 13), none, []⟩,
      ⟨(some 62), .load1 (.t 61), none, [2]⟩,
      ⟨(some 6), .mov (.t 60), none, [0, 1]⟩,
      ⟨(some 7), .mov (.t 62), none, [2, 1, 0, 4, 3]⟩,
      ⟨(some 8), .mov (.c (.int .i64 0)), none, [4, 3, 2, 1, 0, 5]⟩])
  (.ret)))))))), 63, [.t 6, .t 7, .t 8]⟩
structure SqAwXCode (X : FuncId → Option XFunc) : Prop where
  h8 : X 8 = some xf8
  h31 : X 31 = some xf31
end Go.Proofs.Ytjbegiaceekgcaa.Eng

/-
  CODE of SqA.
-/
namespace Go.Proofs.Ytjbegiaceekgcaa.Eng
set_option linter.unusedSimpArgs false
set_option linter.unusedVariables false
def xf6l0 : XCode := .seq (.seq (.reg [⟨(some 36), .mov (.t 9), none, []⟩,
      ⟨(some 37), .bin .lss (.t 36) (.c (.int .i64 3)), none, []⟩])
  (.cond (.t 37) .skip (.exit 0)))
  (.seq (.block 1 (.seq (.reg [⟨(some 40), .mov (.t 9), none, []⟩,
        ⟨(some 41), .iaddrA 1 3 (.t 2) (.t 40), none, []⟩,
        ⟨(some 42), .load1 (.t 41), none, []⟩,
        ⟨(some 43), .mov (.t 1), none, []⟩,
        ⟨(some 44), .bin .neq (.t 42) (.t 43), none, []⟩])
    (.cond (.t 44) (.reg [⟨(some 45), .mov (.t 8), none, []⟩,
          ⟨(some 46), .bin .add (.t 45) (.c (.int .i64 1)), none, []⟩,
          ⟨(some 8), .mov (.t 46), none, []⟩]) .skip)))
  (.reg [⟨(some 38), .mov (.t 9), none, []⟩,
      ⟨(some 39), .bin .add (.t 38) (.c (.int .i64 1)), none, []⟩,
      ⟨(some 9), .mov (.t 39), none, []⟩]))
def xf6 : XFunc := ⟨.seq (.reg [⟨(some 2), .box 76 (.t 0), none, []⟩,
      ⟨(some 4), .mov (.c (.bool false)), none, []⟩])
  (.seq (.seq (.reg [⟨(some 10), .call (.c (.fn 8 [] [])) [], none, []⟩,
      ⟨(some 11), .un .not (.t 10), none, []⟩])
  (.cond (.t 11) (.seq (.reg [⟨(some 4), .mov (.c (.bool false)), none, []⟩])
    (.ret)) .skip))
  (.seq (.reg [⟨(some 13), .loadn 3 (.t 2), none, []⟩,
      ⟨(some 14), .call (.c (.fn 34 [] [])) [.t 13], none, []⟩,
      ⟨(some 12), .mov (.t 14), none, []⟩,
      ⟨(some 15), .extract (.t 12) 0, none, []⟩,
      ⟨(some 16), .extract (.t 12) 1, none, []⟩,
      ⟨(some 5), .mov (.t 15), none, []⟩,
      ⟨(some 6), .mov (.t 16), none, []⟩])
  (.seq (.seq (.reg [⟨(some 17), .loadn 3 (.t 2), none, []⟩,
      ⟨(some 18), .call (.c (.fn 35 [] [])) [.t 17], none, []⟩,
      ⟨(some 7), .mov (.t 18), none, []⟩])
  (.seq (.reg [⟨(some 19), .mov (.t 7), none, []⟩,
      ⟨(some 20), .bin .neq (.t 19) (.c (.int .i64 0)), none, []⟩])
  (.cond (.t 20) (.seq (.reg [⟨(some 21), .mov (.t 6), none, []⟩,
        ⟨(some 22), .mov (.t 7), none, []⟩,
        ⟨(some 23), .bin .eql (.t 21) (.t 22), none, []⟩,
        ⟨(some 24), .mov (.t 23), none, []⟩,
        ⟨(some 25), .mov (.t 5), (some (24, true)), []⟩,
        ⟨(some 26), .bin .eql (.t 25) (.c (.int .i64 0)), (some (24, true)), []⟩,
        ⟨(some 27), .pick (.t 24) (.t 26) (.c (.bool false)), none, []⟩,
        ⟨(some 4), .mov (.t 27), none, []⟩])
    (.ret)) .skip)))
  (.seq (.seq (.reg [⟨(some 28), .mov (.t 6), none, []⟩,
      ⟨(some 29), .bin .neq (.t 28) (.c (.int .i64 0)), none, []⟩,
      ⟨(some 30), .mov (.t 29), none, []⟩,
      ⟨(some 31), .mov (.t 5), (some (30, false)), []⟩,
      ⟨(some 32), .loadn 3 (.t 2), (some (30, false)), []⟩,
      ⟨(some 33), .call (.c (.fn 36 [] [])) [.t 32], (some (30, false)), []⟩,
      ⟨(some 34), .bin .neq (.t 31) (.t 33), (some (30, false)), []⟩,
      ⟨(some 35), .pick (.t 30) (.c (.bool true)) (.t 34), none, []⟩])
  (.cond (.t 35) (.seq (.reg [⟨(some 4), .mov (.c (.bool false)), none, []⟩])
    (.ret)) .skip))
  (.seq (.reg [⟨(some 8), .mov (.c (.int .i64 0)), none, []⟩])
  (.seq (.seq (.reg [⟨(some 9), .mov (.c (.int .i64 0)), none, []⟩])
  (.block 0 (.loop xf6l0)))
  (.seq (.reg [⟨(some 47), .mov (.t 8), none, []⟩,
      ⟨(some 48), .bin .gtr (.t 47) (.c (.int .i64 1)), none, []⟩,
      ⟨(some 49), .mov (.t 48), none, []⟩,
      ⟨(some 50), .mov (.t 5), (some (49, false)), []⟩,
      ⟨(some 51), .mov (.t 1), (some (49, false)), []⟩,
      ⟨(some 52), .bin .eql (.t 50) (.t 51), (some (49, false)), []⟩,
      ⟨(some 53), .pick (.t 49) (.c (.bool true)) (.t 52), none, []⟩,
      ⟨(some 4), .mov (.t 53), none, []⟩])
  (.ret)))))))), 54, [.t 4]⟩
def xf34 : XFunc := ⟨.seq (.reg [⟨(some 1), .box 76 (.t 0), none, []⟩,
      ⟨(some 2), .mov (.c (.int .i64 0)), none, []⟩,
      ⟨(some 3), .mov (.c (.int .i64 0)), none, []⟩])
  (.seq (.seq (.reg [⟨(some 5), .sliceArr 1 3 false (.t 1), none, []⟩,
      ⟨(some 6), .call (.c (.fn 88 [] [])) [.t 5, .c (.fn 89 [] [])], none, []⟩,
      ⟨(some 4), .mov (.t 6), none, []⟩])
  (.seq (.reg [⟨(some 7), .mov (.t 4), none, []⟩,
      ⟨(some 8), .bin .neq (.t 7) (.c (.int .i64 0)), none, []⟩])
  (.cond (.t 8) (.seq (.reg [⟨(some 9), .mov (.t 4), none, []⟩,
        ⟨(some 2), .mov (.c (.int .i64 0)), none, []⟩,
        ⟨(some 3), .mov (.t 9), none, []⟩])
    (.ret)) .skip)))
  (.seq (.reg [⟨(some 10), .iaddrA 1 3 (.t 1) (.c (.int .i64 0)), none, []⟩,
      ⟨(some 11), .load1 (.t 10), none, []⟩,
      ⟨(some 12), .iaddrA 1 3 (.t 1) (.c (.int .i64 1)), none, []⟩,
      ⟨(some 13), .load1 (.t 12), none, []⟩,
      ⟨(some 14), .bin .and (.t 11) (.t 13), none, []⟩,
      ⟨(some 15), .iaddrA 1 3 (.t 1) (.c (.int .i64 0)), none, []⟩,
      ⟨(some 16), .load1 (.t 15), none, []⟩,
      ⟨(some 17), .iaddrA 1 3 (.t 1) (.c (.int .i64 2)), none, []⟩,
      ⟨(some 18), .load1 (.t 17), none, []⟩,
      ⟨(some 19), .bin .and (.t 16) (.t 18), none, []⟩,
      ⟨(some 20), .bin .or (.t 14) (.t 19), none, []⟩,
      ⟨(some 21), .iaddrA 1 3 (.t 1) (.c (.int .i64 1)), none, []⟩,
      ⟨(some 22), .load1 (.t 21), none, []⟩,
      ⟨(some 23), .iaddrA 1 3 (.t 1) (.c (.int .i64 2)), none, []⟩,
      ⟨(some 24), .load1 (.t 23), none, []⟩,
      ⟨(some 25), .bin .and (.t 22) (.t 24), none, []⟩,
      ⟨(some 26), .bin .or (.t 20) (.t 25), none, []⟩,
      ⟨(some 2), .mov (.t 26), none, []⟩,
      ⟨(some 3), .mov (.c (.int .i64 0)), none, []⟩])
  (.ret))), 27, [.t 2, .t 3]⟩
def xf35l0 : XCode := .seq (.seq (.reg [⟨(some 4), .mov (.t 3), none, []⟩,
      ⟨(some 5), .bin .lss (.t 4) (.c (.int .i64 3)), none, []⟩])
  (.cond (.t 5) .skip (.exit 0)))
  (.seq (.block 1 (.seq (.reg [⟨(some 8), .mov (.t 3), none, []⟩,
        ⟨(some 9), .iaddrA 1 3 (.t 1) (.t 8), none, []⟩,
        ⟨(some 10), .load1 (.t 9), none, []⟩,
        ⟨(some 11), .call (.c (.fn 45 [] [])) [.t 10, .c (.int .i64 0), .c (.int .i64 31)], none, []⟩,
        ⟨(some 12), .un .not (.t 11), none, []⟩])
    (.cond (.t 12) (.seq (.reg [⟨(some 2), .mov (.c (.int .i64 2)), none, []⟩])
      (.ret)) .skip)))
  (.reg [⟨(some 6), .mov (.t 3), none, []⟩,
      ⟨(some 7), .bin .add (.t 6) (.c (.int .i64 1)), none, []⟩,
      ⟨(some 3), .mov (.t 7), none, []⟩]))
def xf35 : XFunc := ⟨.seq (.reg [⟨(some 1), .box 76 (.t 0), none, []⟩,
      ⟨(some 2), .mov (.c (.int .i64 0)), none, []⟩])
  (.seq (.seq (.reg [⟨(some 3), .mov (.c (.int .i64 0)), none, []⟩])
  (.block 0 (.loop xf35l0)))
  (.seq (.reg [⟨(some 2), .mov (.c (.int .i64 0)), none, []⟩])
  (.ret))), 13, [.t 2]⟩
def xf36l0 : XCode := .seq (.seq (.reg [⟨(some 6), .mov (.t 4), none, []⟩,
      ⟨(some 7), .bin .lss (.t 6) (.c (.int .i64 5)), none, []⟩])
  (.cond (.t 7) .skip (.exit 0)))
  (.seq (.block 1 (.seq (.dreg [⟨(some 10), .iaddrA 1 3 (.t 1) (.c (.int .i64 0)), none, []⟩,
        ⟨(some 11), .load1 (.t 10), none, [0]⟩,
        ⟨(some 12), .mov (.t 4), none, []⟩,
        ⟨(some 13), .bin .shr (.t 11) (.t 12), none, [0, 2, 1]⟩,
        ⟨(some 14), .bin .and (.t 13) (.c (.int .i64 1)), none, [1, 2, 0, 3]⟩,
        ⟨(some 15), .iaddrA 1 3 (.t 1) (.c (.int .i64 1)), none, []⟩,
        ⟨(some 16), .load1 (.t 15), none, [5]⟩,
        ⟨(some 17), .mov (.t 4), none, []⟩,
        ⟨(some 18), .bin .shr (.t 16) (.t 17), none, [5, 7, 6]⟩,
        ⟨(some 19), .bin .and (.t 18) (.c (.int .i64 1)), none, [6, 7, 5, 8]⟩,
        ⟨(some 20), .bin .add (.t 14) (.t 19), none, [8, 5, 7, 6, 3, 0, 2, 1, 9, 4]⟩,
        ⟨(some 21), .iaddrA 1 3 (.t 1) (.c (.int .i64 2)), none, []⟩,
        ⟨(some 22), .load1 (.t 21), none, [11]⟩,
        ⟨(some 23), .mov (.t 4), none, []⟩,
        ⟨(some 24), .bin .shr (.t 22) (.t 23), none, [11, 13, 12]⟩,
        ⟨(some 25), .bin .and (.t 24) (.c (.int .i64 1)), none, [12, 13, 11, 14]⟩,
        ⟨(some 26), .bin .add (.t 20) (.t 25), none, [14, 11, 13, 12, 4, 9, 1, 2, 0, 3, 6, 7, 5, 8, 15, 10]⟩,
        ⟨(some 5), .mov (.t 26), none, [15, 14, 13, 12, 11, 10, 9, 8, 7, 6, 5, 4, 3, 2, 1, 0, 16]⟩])
    (.seq (.reg [⟨(some 27), .mov (.t 5), none, []⟩,
        ⟨(some 28), .bin .geq (.t 27) (.c (.int .i64 2)), none, []⟩])
    (.cond (.t 28) (.reg [⟨(some 29), .mov (.t 3), none, []⟩,
          ⟨(some 30), .mov (.t 4), none, []⟩,
          ⟨(some 31), .bin .shl (.c (.int .i64 1)) (.t 30), none, []⟩,
          ⟨(some 32), .bin .add (.t 29) (.t 31), none, []⟩,
          ⟨(some 3), .mov (.t 32), none, []⟩]) .skip))))
  (.reg [⟨(some 8), .mov (.t 4), none, []⟩,
      ⟨(some 9), .bin .add (.t 8) (.c (.int .i64 1)), none, []⟩,
      ⟨(some 4), .mov (.t 9), none, []⟩]))
def xf36 : XFunc := ⟨.seq (.reg [⟨(some 1), .box 76 (.t 0), none, []⟩,
      ⟨(some 2), .mov (.c (.int .i64 0)), none, []⟩])
  (.seq (.reg [⟨(some 3), .mov (.c (.int .i64 0)), none, []⟩])
  (.seq (.seq (.reg [⟨(some 4), .mov (.c (.int .i64 0)), none, []⟩])
  (.block 0 (.loop xf36l0)))
  (.seq (.reg [⟨(some 33), .mov (.t 3), none, []⟩,
      ⟨(some 2), .mov (.t 33), none, []⟩])
  (.ret)))), 34, [.t 2]⟩
def xf88 : XFunc := ⟨.seq (.reg [⟨(some 4), .mov (.c (.int .i64 0)), none, []⟩])
  (.seq (.reg [⟨(some 8), .mov (.t 0), none, []⟩,
      ⟨(some 9), .mov (.t 1), none, []⟩,
      ⟨(some 10), .call (.c (.fn 119 [] [])) [.t 8, .t 9], none, []⟩,
      ⟨(some 7), .mov (.t 10), none, []⟩,
      ⟨(some 11), .extract (.t 7) 0, none, []⟩,
      ⟨(some 12), .extract (.t 7) 1, none, []⟩,
      ⟨(some 5), .mov (.t 11), none, []⟩,
      ⟨(some 6), .mov (.t 12), none, []⟩])
  (.seq (.reg [⟨(some 13), .mov (.t 6), none, []⟩,
      ⟨(some 4), .mov (.t 13), none, []⟩])
  (.ret))), 14, [.t 4]⟩
def xf89 : XFunc := ⟨.seq (.reg [⟨(some 2), .mov (.c (.int .i64 0)), none, []⟩])
  (.seq (.reg [⟨(some 3), .mov (.t 0), none, []⟩,
      ⟨(some 4), .call (.c (.fn 55 [] [])) [.t 3, .c (.int .i64 5)], none, []⟩,
      ⟨(some 2), .mov (.t 4), none, []⟩])
  (.ret)), 5, [.t 2]⟩
def xf90 : XFunc := ⟨.seq (.reg [⟨(some 6), .mov (.c (.int .i64 0)), none, []⟩])
  (.seq (.reg [⟨(some 7), .mov (.t 0), none, []⟩,
      ⟨(some 8), .mov (.t 1), none, []⟩,
      ⟨(some 9), .mov (.t 2), none, []⟩,
      ⟨(some 10), .call (.c (.fn 112 [] [])) [.t 7, .t 8, .t 9], none, []⟩,
      ⟨(some 11), .call (.c (.fn 56 [] [])) [.t 10, .c (.int .i64 2)], none, []⟩,
      ⟨(some 6), .mov (.t 11), none, []⟩])
  (.ret)), 12, [.t 6]⟩
def xf119l0 : XCode := .seq (.reg [⟨(some 12), .bin .lss (.t 11) (.t 10), none, []⟩])
  (.seq (.cond (.t 12) .skip (.exit 0))
  (.seq (.block 1 (.seq (.reg [⟨(some 13), .mov (.t 11), none, []⟩,
        ⟨(some 14), .iaddr 1 (.t 9) (.t 11), none, []⟩,
        ⟨(some 15), .load1 (.t 14), none, []⟩,
        ⟨(some 6), .mov (.t 13), none, []⟩,
        ⟨(some 7), .mov (.t 15), none, []⟩])
    (.seq (.reg [⟨(some 16), .mov (.t 1), none, []⟩,
        ⟨(some 17), .mov (.t 7), none, []⟩,
        ⟨(some 18), .call (.t 16) [.t 17], none, []⟩,
        ⟨(some 8), .mov (.t 18), none, []⟩])
    (.seq (.reg [⟨(some 19), .mov (.t 8), none, []⟩,
        ⟨(some 20), .bin .neq (.t 19) (.c (.int .i64 0)), none, []⟩])
    (.cond (.t 20) (.seq (.reg [⟨(some 21), .mov (.t 6), none, []⟩,
          ⟨(some 22), .mov (.t 8), none, []⟩,
          ⟨(some 4), .mov (.t 21), none, []⟩,
          ⟨(some 5), .mov (.t 22), none, []⟩])
      (.ret)) .skip)))))
  (.reg [⟨(some 23), .bin .add (.t 11) (.c (.int .i64 1)), none, []⟩,
      ⟨(some 11), .mov (.t 23), none, []⟩])))
def xf119 : XFunc := ⟨.seq (.reg [⟨(some 4), .mov (.c (.int .i64 0)), none, []⟩,
      ⟨(some 5), .mov (.c (.int .i64 0)), none, []⟩])
  (.seq (.seq (.reg [⟨(some 9), .mov (.t 0), none, []⟩,
      ⟨(some 10), .len (.t 9), none, []⟩,
      ⟨(some 11), .mov (.c (.int .i64 0)), none, []⟩])
  (.block 0 (.loop xf119l0)))
  (.seq (.reg [⟨(some 4), .mov (.c (.int .i64 0)), none, []⟩,
      ⟨(some 5), .mov (.c (.int .i64 0)), none, []⟩])
  (.ret))), 24, [.t 4, .t 5]⟩
def xf55 : XFunc := ⟨.seq (.reg [⟨(some 4), .mov (.c (.int .i64 0)), none, []⟩])
  (.seq (.reg [⟨(some 5), .mov (.t 0), none, []⟩,
      ⟨(some 6), .mov (.t 1), none, []⟩,
      ⟨(some 7), .bin .shl (.c (.int .i64 1)) (.t 6), none, []⟩,
      ⟨(some 8), .bin .sub (.t 7) (.c (.int .i64 1)), none, []⟩,
      ⟨(some 9), .call (.c (.fn 90 [] [])) [.t 5, .c (.int .i64 0), .t 8], none, []⟩,
      ⟨(some 4), .mov (.t 9), none, []⟩])
  (.ret)), 10, [.t 4]⟩
def xf56 : XFunc := ⟨.seq (.reg [⟨(some 4), .mov (.c (.int .i64 0)), none, []⟩])
  (.seq (.seq (.reg [⟨(some 5), .mov (.t 0), none, []⟩])
  (.cond (.t 5) (.seq (.reg [⟨(some 4), .mov (.c (.int .i64 0)), none, []⟩])
    (.ret)) .skip))
  (.seq (.reg [⟨(some 6), .mov (.t 1), none, []⟩,
      ⟨(some 4), .mov (.t 6), none, []⟩])
  (.ret))), 7, [.t 4]⟩
def xf112 : XFunc := ⟨.seq (.reg [⟨(some 6), .mov (.c (.bool false)), none, []⟩])
  (.seq (.reg [⟨(some 7), .mov (.t 1), none, []⟩,
      ⟨(some 8), .mov (.t 0), none, []⟩,
      ⟨(some 9), .bin .leq (.t 7) (.t 8), none, []⟩,
      ⟨(some 10), .mov (.t 9), none, []⟩,
      ⟨(some 11), .mov (.t 0), (some (10, true)), []⟩,
      ⟨(some 12), .mov (.t 2), (some (10, true)), []⟩,
      ⟨(some 13), .bin .leq (.t 11) (.t 12), (some (10, true)), []⟩,
      ⟨(some 14), .pick (.t 10) (.t 13) (.c (.bool false)), none, []⟩,
      ⟨(some 6), .mov (.t 14), none, []⟩])
  (.ret)), 15, [.t 6]⟩
def xf45 : XFunc := ⟨.seq (.reg [⟨(some 6), .mov (.c (.bool false)), none, []⟩])
  (.seq (.reg [⟨(some 7), .mov (.t 1), none, []⟩,
      ⟨(some 8), .mov (.t 0), none, []⟩,
      ⟨(some 9), .bin .leq (.t 7) (.t 8), none, []⟩,
      ⟨(some 10), .mov (.t 9), none, []⟩,
      ⟨(some 11), .mov (.t 0), (some (10, true)), []⟩,
      ⟨(some 12), .mov (.t 2), (some (10, true)), []⟩,
      ⟨(some 13), .bin .leq (.t 11) (.t 12), (some (10, true)), []⟩,
      ⟨(some 14), .pick (.t 10) (.t 13) (.c (.bool false)), none, []⟩,
      ⟨(some 6), .mov (.t 14), none, []⟩])
  (.ret)), 15, [.t 6]⟩
structure SqACode (X : FuncId → Option XFunc) : Prop where
  h6 : X 6 = some xf6
  h34 : X 34 = some xf34
  h35 : X 35 = some xf35
  h36 : X 36 = some xf36
  h88 : X 88 = some xf88
  h89 : X 89 = some xf89
  h90 : X 90 = some xf90
  h119 : X 119 = some xf119
  h55 : X 55 = some xf55
  h56 : X 56 = some xf56
  h112 : X 112 = some xf112
  h45 : X 45 = some xf45
end Go.Proofs.Ytjbegiaceekgcaa.Eng
