/-
  CODE of SrAwX.
-/
import Derived.Test.YtjbegiaceekgcabEngY
namespace Go.Proofs.Ytjbegiaceekgcab.Eng
set_option linter.unusedSimpArgs false
set_option linter.unusedVariables false
def xf5 : XFunc := ⟨.seq (.reg [⟨(some 0), .mov (.c (.bool false)), none, []⟩])
  (.seq (.reg [⟨(some 15), .call (.c (.fn 26 [] [])) [], none, []⟩,
      ⟨(some 16), .build [.int .i64 0, .int .i64 0] [(0, 1, .c (.int .i64 1))], none, []⟩,
      ⟨(some 17), .call (.c (.fn 24 [] [])) [], none, []⟩,
      ⟨(some 18), .build [.int .i64 0, .bool false, .int .i64 0] [(0, 2, .t 17), (2, 1, .c (.int .i64 (-1)))], none, []⟩,
      ⟨(some 19), .call (.c (.fn 25 [] [])) [.t 15, .t 16, .t 18], none, []⟩,
      ⟨(some 14), .mov (.t 19), none, []⟩,
      ⟨(some 20), .extract (.t 14) 0, none, []⟩,
      ⟨(some 21), .extract (.t 14) 1, none, []⟩,
      ⟨(some 22), .extract (.t 14) 2, none, []⟩,
      ⟨(some 1), .new 52 [.int .i64 0, .int .i64 0], none, []⟩,
      ⟨none, .store 2 (.t 1) (.t 20), none, []⟩,
      ⟨(some 2), .mov (.t 21), none, []⟩,
      ⟨(some 3), .mov (.t 22), none, []⟩])
  (.seq (.reg [⟨(some 24), .call (.c (.fn 26 [] [])) [], none, []⟩,
      ⟨(some 25), .build [.int .i64 0, .int .i64 0] [(0, 1, .c (.int .i64 2)), (1, 1, .c (.int .i64 3))], none, []⟩,
      ⟨(some 26), .build [.int .i64 0, .bool false] [(0, 1, .c (.int .i64 1)), (1, 1, .c (.bool true))], none, []⟩,
      ⟨(some 27), .call (.c (.fn 27 [] [])) [.t 24, .t 25, .t 26], none, []⟩,
      ⟨(some 23), .mov (.t 27), none, []⟩,
      ⟨(some 28), .extract (.t 23) 0, none, []⟩,
      ⟨(some 29), .extract (.t 23) 1, none, []⟩,
      ⟨(some 30), .extract (.t 23) 2, none, []⟩,
      ⟨(some 4), .mov (.t 28), none, []⟩,
      ⟨(some 5), .mov (.t 29), none, []⟩,
      ⟨(some 6), .mov (.t 30), none, []⟩])
  (.seq (.reg [⟨(some 32), .call (.c (.fn 26 [] [])) [], none, []⟩,
      ⟨(some 33), .build [.int .i64 0, .int .i64 0] [], none, []⟩,
      ⟨(some 34), .call (.c (.fn 21 [] [])) [.t 32, .t 33, .c (.int .i64 2)], none, []⟩,
      ⟨(some 31), .mov (.t 34), none, []⟩,
      ⟨(some 35), .extract (.t 31) 0, none, []⟩,
      ⟨(some 36), .extract (.t 31) 1, none, []⟩,
      ⟨(some 37), .extract (.t 31) 2, none, []⟩,
      ⟨(some 7), .mov (.t 35), none, []⟩,
      ⟨(some 8), .mov (.t 36), none, []⟩,
      ⟨(some 9), .mov (.t 37), none, []⟩])
  (.seq (.reg [⟨(some 39), .call (.c (.fn 28 [] [])) [], none, []⟩,
      ⟨(some 40), .buildSlice 3 1 2 false [.int .i64 0, .int .i64 0] [(0, 1, .c (.int .i64 2)), (1, 1, .c (.int .i64 1))], none, []⟩,
      ⟨(some 41), .call (.c (.fn 9 [] [])) [.t 39, .t 40], none, []⟩,
      ⟨(some 38), .mov (.t 41), none, []⟩,
      ⟨(some 42), .extract (.t 38) 0, none, []⟩,
      ⟨(some 43), .extract (.t 38) 1, none, []⟩,
      ⟨(some 10), .new 32 [.int .i64 0, .int .i64 0], none, []⟩,
      ⟨none, .store 2 (.t 10) (.t 42), none, []⟩,
      ⟨(some 11), .mov (.t 43), none, []⟩])
  (.seq (.reg [⟨(some 45), .call (.c (.fn 28 [] [])) [], none, []⟩,
      ⟨(some 46), .buildSlice 3 1 2 false [.int .i64 0, .int .i64 0] [(0, 1, .c (.int .i64 0)), (1, 1, .c (.int .i64 0))], none, []⟩,
      ⟨(some 47), .call (.c (.fn 9 [] [])) [.t 45, .t 46], none, []⟩,
      ⟨(some 44), .mov (.t 47), none, []⟩,
      ⟨(some 48), .extract (.t 44) 0, none, []⟩,
      ⟨(some 49), .extract (.t 44) 1, none, []⟩,
      ⟨(some 12), .new 32 [.int .i64 0, .int .i64 0], none, []⟩,
      ⟨none, .store 2 (.t 12) (.t 48), none, []⟩,
      ⟨(some 13), .mov (.t 49), none, []⟩])
  (.seq (.reg [⟨(some 50), .mov (.t 3), none, []⟩,
      ⟨(some 51), .bin .eql (.t 50) (.c (.int .i64 0)), none, []⟩,
      ⟨(some 52), .mov (.t 51), none, []⟩,
      ⟨(some 53), .mov (.t 2), (some (52, true)), []⟩,
      ⟨(some 54), .bin .eql (.t 53) (.c (.int .i64 30)), (some (52, true)), []⟩,
      ⟨(some 55), .pick (.t 52) (.t 54) (.c (.bool false)), none, []⟩,
      ⟨(some 56), .mov (.t 55), none, []⟩,
      ⟨(some 57), .loadn 2 (.t 1), (some (56, true)), []⟩,
      ⟨(some 58), .build [.int .i64 0, .int .i64 0] [(0, 1, .c (.int .i64 2)), (1, 1, .c (.int .i64 3))], (some (56, true)), []⟩,
      ⟨(some 59), .eqA false (.s [(0, 1, false, .c 0), (1, 1, false, .c 0)]) (.t 57) (.t 58), (some (56, true)), []⟩,
      ⟨(some 60), .pick (.t 56) (.t 59) (.c (.bool false)), none, []⟩,
      ⟨(some 61), .mov (.t 60), none, []⟩,
      ⟨(some 62), .mov (.t 6), (some (61, true)), []⟩,
      ⟨(some 63), .bin .eql (.t 62) (.c (.int .i64 0)), (some (61, true)), []⟩,
      ⟨(some 64), .pick (.t 61) (.t 63) (.c (.bool false)), none, []⟩,
      ⟨(some 65), .mov (.t 64), none, []⟩,
      ⟨(some 66), .mov (.t 5), (some (65, true)), []⟩,
      ⟨(some 67), .bin .eql (.t 66) (.c (.int .i64 91)), (some (65, true)), []⟩,
      ⟨(some 68), .pick (.t 65) (.t 67) (.c (.bool false)), none, []⟩,
      ⟨(some 69), .mov (.t 68), none, []⟩,
      ⟨(some 70), .mov (.t 4), (some (69, true)), []⟩,
      ⟨(some 71), .len (.t 70), (some (69, true)), []⟩,
      ⟨(some 72), .bin .eql (.t 71) (.c (.int .i64 3)), (some (69, true)), []⟩,
      ⟨(some 73), .pick (.t 69) (.t 72) (.c (.bool false)), none, []⟩,
      ⟨(some 74), .mov (.t 73), none, []⟩,
      ⟨(some 75), .mov (.t 9), (some (74, true)), []⟩,
      ⟨(some 76), .bin .eql (.t 75) (.c (.int .i64 0)), (some (74, true)), []⟩,
      ⟨(some 77), .pick (.t 74) (.t 76) (.c (.bool false)), none, []⟩,
      ⟨(some 78), .mov (.t 77), none, []⟩,
      ⟨(some 79), .mov (.t 8), (some (78, true)), []⟩,
      ⟨(some 80), .bin .eql (.t 79) (.c (.int .i64 31)), (some (78, true)), []⟩,
      ⟨(some 81), .pick (.t 78) (.t 80) (.c (.bool false)), none, []⟩,
      ⟨(some 82), .mov (.t 81), none, []⟩,
      ⟨(some 83), .mov (.t 7), (some (82, true)), []⟩,
      ⟨(some 84), .buildSlice 3 1 1 false [.int .i64 0] [(0, 1, .c (.int .i64 1))], (some (82, true)), []⟩,
      ⟨(some 85), .call (.c (.fn 29 [] [])) [.t 83, .t 84], (some (82, true)), []⟩,
      ⟨(some 86), .pick (.t 82) (.t 85) (.c (.bool false)), none, []⟩,
      ⟨(some 87), .mov (.t 86), none, []⟩,
      ⟨(some 88), .mov (.t 11), (some (87, true)), []⟩,
      ⟨(some 89), .bin .eql (.t 88) (.c (.int .i64 0)), (some (87, true)), []⟩,
      ⟨(some 90), .pick (.t 87) (.t 89) (.c (.bool false)), none, []⟩,
      ⟨(some 91), .mov (.t 90), none, []⟩,
      ⟨(some 92), .loadn 2 (.t 10), (some (91, true)), []⟩,
      ⟨(some 93), .build [.int .i64 0, .int .i64 0] [], (some (91, true)), []⟩,
      ⟨(some 94), .eqA false (.s [(0, 1, false, .c 0), (1, 1, false, .c 0)]) (.t 92) (.t 93), (some (91, true)), []⟩,
      ⟨(some 95), .pick (.t 91) (.t 94) (.c (.bool false)), none, []⟩,
      ⟨(some 96), .mov (.t 95), none, []⟩,
      ⟨(some 97), .mov (.t 13), (some (96, true)), []⟩,
      ⟨(some 98), .bin .eql (.t 97) (.c (.int .i64 12)), (some (96, true)), []⟩,
      ⟨(some 99), .pick (.t 96) (.t 98) (.c (.bool false)), none, []⟩,
      ⟨(some 0), .mov (.t 99), none, []⟩])
  (.ret))))))), 100, [.t 0]⟩
def xf21 : XFunc := ⟨.seq (.reg [⟨(some 3), .box 50 (.t 0), none, []⟩,
      ⟨(some 4), .box 52 (.t 1), none, []⟩,
      ⟨(some 6), .mov (.c .nils), none, []⟩,
      ⟨(some 7), .mov (.c (.int .i64 0)), none, []⟩,
      ⟨(some 8), .mov (.c (.int .i64 0)), none, []⟩])
  (.seq (.dreg [⟨(some 15), .loadn 3 (.t 3), none, []⟩,
      ⟨(some 16), .loadn 2 (.t 4), none, []⟩,
      ⟨(some 17), .call (.c (.fn 43 [] [])) [], none, []⟩,
      ⟨(some 18), .call (.c (.fn 42 [] [])) [.t 15, .t 16, .t 17], none, [2, 1, 0]⟩,
      ⟨(some 14), .mov (.t 18), none, [0, 1, 2, 3]⟩,
      ⟨(some 19), .extract (.t 14) 0, none, [3, 2, 1, 0, 4]⟩,
      ⟨(some 20), .extract (.t 14) 1, none, [3, 2, 1, 0, 4]⟩,
      ⟨(some 9), .new 95 [.nils, .int .i64 0, .nils, .int .i64 0, .bool false], none, []⟩,
      ⟨none, .store 5 (.t 9) (.t 19), none, [4, 2, 1, 0, 3, 5, 7]⟩,
      ⟨(some 10), .mov (.t 20), none, [7, 5, 4, 3, 2, 1, 0, 8, 6]⟩])
  (.seq (.seq (.reg [⟨(some 21), .mov (.t 10), none, []⟩,
      ⟨(some 22), .mov (.t 2), none, []⟩,
      ⟨(some 23), .faddr 0 (.t 9), none, []⟩,
      ⟨(some 24), .faddr 0 (.t 23), none, []⟩,
      ⟨(some 25), .faddr 2 (.t 24), none, []⟩,
      ⟨(some 26), .load1 (.t 25), none, []⟩,
      ⟨(some 27), .len (.t 26), none, []⟩,
      ⟨(some 28), .call (.c (.fn 36 [] [])) [.t 22, .t 27], none, []⟩,
      ⟨(some 29), .buildSlice 33 1 2 false [.int .i64 0, .int .i64 0] [(0, 1, .t 21), (1, 1, .t 28)], none, []⟩,
      ⟨(some 30), .call (.c (.fn 35 [] [])) [.t 29], none, []⟩,
      ⟨(some 11), .mov (.t 30), none, []⟩])
  (.seq (.reg [⟨(some 31), .mov (.t 11), none, []⟩,
      ⟨(some 32), .bin .neq (.t 31) (.c (.int .i64 0)), none, []⟩])
  (.cond (.t 32) (.seq (.reg [⟨(some 33), .mov (.t 11), none, []⟩,
        ⟨(some 6), .mov (.c .nils), none, []⟩,
        ⟨(some 7), .mov (.c (.int .i64 0)), none, []⟩,
        ⟨(some 8), .mov (.t 33), none, []⟩])
    (.ret)) .skip)))
  (.seq (.seq (.reg [⟨(some 34), .loadn 5 (.t 9), none, []⟩,
      ⟨(some 35), .loadn 2 (.t 4), none, []⟩,
      ⟨(some 36), .call (.c (.fn 45 [] [])) [.t 34, .t 35], none, []⟩,
      ⟨(some 37), .call (.c (.fn 44 [] [])) [.t 36], none, []⟩,
      ⟨(some 38), .un .not (.t 37), none, []⟩,
      ⟨(some 39), .mov (.t 38), none, []⟩,
      ⟨(some 40), .faddr 0 (.t 9), (some (39, false)), []⟩,
      ⟨(some 41), .faddr 0 (.t 40), (some (39, false)), []⟩,
      ⟨(some 42), .faddr 2 (.t 41), (some (39, false)), []⟩,
      ⟨(some 43), .load1 (.t 42), (some (39, false)), []⟩,
      ⟨(some 44), .mov (.t 2), (some (39, false)), []⟩,
      ⟨(some 45), .iaddr 14 (.t 43) (.t 44), (some (39, false)), []⟩,
      ⟨(some 46), .loadn 14 (.t 45), (some (39, false)), []⟩,
      ⟨(some 47), .call (.c (.fn 44 [] [])) [.t 46], (some (39, false)), []⟩,
      ⟨(some 48), .un .not (.t 47), (some (39, false)), []⟩,
      ⟨(some 49), .pick (.t 39) (.c (.bool true)) (.t 48), none, []⟩])
  (.cond (.t 49) (.seq (.reg [⟨(some 6), .mov (.c .nils), none, []⟩,
        ⟨(some 7), .mov (.c (.int .i64 0)), none, []⟩,
        ⟨(some 8), .mov (.c (.int .i64 20)), none, []⟩])
    (.ret)) .skip))
  (.seq (.reg [⟨(some 50), .loadn 5 (.t 9), none, []⟩,
      ⟨(some 51), .mov (.t 2), none, []⟩,
      ⟨(some 52), .loadn 2 (.t 4), none, []⟩,
      ⟨(some 53), .call (.c (.fn 46 [] [])) [.t 50, .t 51, .t 52], none, []⟩,
      ⟨(some 12), .mov (.t 53), none, []⟩])
  (.seq (.seq (.reg [⟨(some 54), .mov (.t 12), none, []⟩,
      ⟨(some 55), .len (.t 54), none, []⟩,
      ⟨(some 56), .bin .eql (.t 55) (.c (.int .i64 0)), none, []⟩])
  (.cond (.t 56) (.seq (.reg [⟨(some 6), .mov (.c .nils), none, []⟩,
        ⟨(some 7), .mov (.c (.int .i64 0)), none, []⟩,
        ⟨(some 8), .mov (.c (.int .i64 12)), none, []⟩])
    (.ret)) .skip))
  (.seq (.reg [⟨(some 57), .mov (.t 12), none, []⟩,
      ⟨(some 58), .call (.c (.fn 47 [] [])) [.t 57, .c (.fn 48 [] [])], none, []⟩,
      ⟨(some 13), .new 103 [.nils, .int .i64 0], none, []⟩,
      ⟨none, .store 2 (.t 13) (.t 58), none, []⟩])
  (.seq (.dreg [⟨(some 59), .faddr 0 (.t 13), none, []⟩,
      ⟨(some 60), .load1 (.t 59), none, [0]⟩,
      ⟨(some 61), .faddr 1 (.t 13), none, []⟩,
      ⟨(some 62), .load1 (.t 61), none, [2]⟩,
      ⟨(some 6), .mov (.t 60), none, [0, 1]⟩,
      ⟨(some 7), .mov (.t 62), none, [2, 1, 0, 4, 3]⟩,
      ⟨(some 8), .mov (.c (.int .i64 0)), none, [4, 3, 2, 1, 0, 5]⟩])
  (.ret)))))))), 63, [.t 6, .t 7, .t 8]⟩
structure SrAwXCode (X : FuncId → Option XFunc) : Prop where
  h5 : X 5 = some xf5
  h21 : X 21 = some xf21
end Go.Proofs.Ytjbegiaceekgcab.Eng

/-
  CODE of SrE.
-/
namespace Go.Proofs.Ytjbegiaceekgcab.Eng
set_option linter.unusedSimpArgs false
set_option linter.unusedVariables false
def xe14 : XFunc := ⟨.seq (.reg [⟨(some 3), .box 41 (.t 1), none, []⟩,
      ⟨(some 4), .mov (.c .nils), none, []⟩])
  (.seq (.reg [⟨(some 6), .mov (.t 0), none, []⟩,
      ⟨(some 7), .callK 11 [.t 6], none, []⟩,
      ⟨(some 5), .mov (.t 7), none, []⟩])
  (.seq (.reg [⟨(some 8), .mov (.t 5), none, []⟩,
      ⟨(some 9), .faddr 0 (.t 3), none, []⟩,
      ⟨(some 10), .load1 (.t 9), none, []⟩,
      ⟨(some 11), .faddr 1 (.t 3), none, []⟩,
      ⟨(some 12), .load1 (.t 11), none, []⟩,
      ⟨(some 13), .iaddr 1 (.t 8) (.t 10), none, []⟩,
      ⟨none, .store 1 (.t 13) (.t 12), none, []⟩])
  (.seq (.reg [⟨(some 14), .mov (.t 5), none, []⟩,
      ⟨(some 4), .mov (.t 14), none, []⟩])
  (.ret)))), 15, [.t 4]⟩
def xe11 : XFunc := ⟨.seq (.reg [⟨(some 2), .mov (.c .nils), none, []⟩])
  (.seq (.reg [⟨(some 3), .buildSlice 3 1 0 false [] [], none, []⟩,
      ⟨(some 4), .mov (.t 0), none, []⟩,
      ⟨(some 5), .appendV 3 1 8 (.t 3) (.t 4), none, []⟩,
      ⟨(some 2), .mov (.t 5), none, []⟩])
  (.ret)), 6, [.t 2]⟩
structure SrECode (X : FuncId → Option XFunc) : Prop where
  h14 : X 14 = some xe14
  h11 : X 11 = some xe11
end Go.Proofs.Ytjbegiaceekgcab.Eng

/-
  CODE of SrL.
-/
namespace Go.Proofs.Ytjbegiaceekgcab.Eng
set_option linter.unusedSimpArgs false
set_option linter.unusedVariables false
def xf3l0 : XCode := .seq (.seq (.reg [⟨(some 123), .mov (.t 17), none, []⟩,
      ⟨(some 124), .mov (.t 9), none, []⟩,
      ⟨(some 125), .len (.t 124), none, []⟩,
      ⟨(some 126), .bin .lss (.t 123) (.t 125), none, []⟩])
  (.cond (.t 126) .skip (.exit 6)))
  (.seq (.block 7 (.dreg [⟨(some 129), .mov (.t 16), none, []⟩,
        ⟨(some 130), .mov (.t 129), none, [0]⟩,
        ⟨(some 131), .mov (.t 15), (some (130, false)), [0, 1]⟩,
        ⟨(some 132), .mov (.t 17), (some (130, false)), [0, 1]⟩,
        ⟨(some 133), .bin .neq (.t 131) (.t 132), (some (130, false)), [0, 1, 3, 2]⟩,
        ⟨(some 134), .mov (.t 133), (some (130, false)), [2, 3, 0, 1, 4]⟩,
        ⟨(some 135), .mov (.t 9), (some (134, true)), [4, 1, 0, 3, 2, 5]⟩,
        ⟨(some 136), .mov (.t 17), (some (134, true)), [4, 1, 0, 3, 2, 5]⟩,
        ⟨(some 137), .iaddr 1 (.t 135) (.t 136), (some (134, true)), [2, 3, 0, 1, 4, 5, 7, 6]⟩,
        ⟨(some 138), .load1 (.t 137), (some (134, true)), [6, 7, 4, 1, 0, 3, 2, 5, 8]⟩,
        ⟨(some 139), .faddr 1 (.t 14), (some (134, true)), [4, 1, 0, 3, 2, 5]⟩,
        ⟨(some 140), .load1 (.t 139), (some (134, true)), [2, 3, 0, 1, 4, 5, 10]⟩,
        ⟨(some 141), .bin .eql (.t 138) (.t 140), (some (134, true)), [10, 8, 2, 3, 0, 1, 4, 7, 6, 5, 11, 9]⟩,
        ⟨(some 142), .pick (.t 134) (.t 141) (.c (.bool false)), (some (130, false)), [9, 11, 6, 7, 8, 10, 4, 0, 3, 2, 1, 12, 5]⟩,
        ⟨(some 143), .pick (.t 130) (.c (.bool true)) (.t 142), none, [5, 12, 2, 3, 4, 10, 8, 7, 6, 11, 9, 0, 13, 1]⟩,
        ⟨(some 16), .mov (.t 143), none, [13, 12, 11, 10, 9, 8, 7, 6, 4, 3, 2, 1, 0, 5, 14]⟩]))
  (.reg [⟨(some 127), .mov (.t 17), none, []⟩,
      ⟨(some 128), .bin .add (.t 127) (.c (.int .i64 1)), none, []⟩,
      ⟨(some 17), .mov (.t 128), none, []⟩]))
def xf3l1 : XCode := .seq (.seq (.reg [⟨(some 117), .mov (.t 15), none, []⟩,
      ⟨(some 118), .mov (.t 9), none, []⟩,
      ⟨(some 119), .len (.t 118), none, []⟩,
      ⟨(some 120), .bin .lss (.t 117) (.t 119), none, []⟩])
  (.cond (.t 120) .skip (.exit 4)))
  (.seq (.block 5 (.seq (.reg [⟨(some 16), .mov (.c (.bool false)), none, []⟩])
    (.seq (.seq (.reg [⟨(some 17), .mov (.c (.int .i64 0)), none, []⟩])
    (.block 6 (.loop xf3l0)))
    (.seq (.dreg [⟨(some 144), .mov (.t 9), none, []⟩,
        ⟨(some 145), .mov (.t 15), none, []⟩,
        ⟨(some 146), .iaddr 1 (.t 144) (.t 145), none, [1, 0]⟩,
        ⟨(some 147), .load1 (.t 146), none, [0, 1, 2]⟩,
        ⟨(some 148), .faddr 0 (.t 14), none, []⟩,
        ⟨(some 149), .load1 (.t 148), none, [4]⟩,
        ⟨(some 150), .bin .eql (.t 147) (.t 149), none, [4, 2, 1, 0, 5, 3]⟩,
        ⟨(some 151), .mov (.t 150), none, [3, 5, 0, 1, 2, 4, 6]⟩,
        ⟨(some 152), .faddr 2 (.t 14), (some (151, true)), [6, 4, 2, 1, 0, 5, 3, 7]⟩,
        ⟨(some 153), .load1 (.t 152), (some (151, true)), [3, 5, 0, 1, 2, 4, 6, 7, 8]⟩,
        ⟨(some 154), .bin .eql (.t 153) (.c (.int .i64 0)), (some (151, true)), [8, 6, 4, 2, 1, 0, 5, 3, 7, 9]⟩,
        ⟨(some 155), .mov (.t 154), (some (151, true)), [9, 3, 5, 0, 1, 2, 4, 6, 8, 7, 10]⟩,
        ⟨(some 156), .mov (.t 16), (some (155, true)), [10, 7, 8, 6, 4, 2, 1, 0, 5, 3, 9, 11]⟩,
        ⟨(some 157), .pick (.t 155) (.t 156) (.c (.bool false)), (some (151, true)), [10, 8, 6, 4, 2, 1, 0, 5, 3, 9, 7, 12, 11]⟩,
        ⟨(some 158), .mov (.t 157), (some (151, true)), [12, 9, 3, 5, 0, 1, 2, 4, 6, 8, 10, 7, 11, 13]⟩,
        ⟨(some 159), .faddr 2 (.t 14), (some (158, false)), [13, 11, 7, 10, 8, 6, 4, 2, 1, 0, 5, 3, 9, 12, 14]⟩,
        ⟨(some 160), .load1 (.t 159), (some (158, false)), [12, 9, 3, 5, 0, 1, 2, 4, 6, 8, 10, 7, 11, 13, 14, 15]⟩,
        ⟨(some 161), .bin .eql (.t 160) (.c (.int .i64 1)), (some (158, false)), [15, 13, 11, 7, 10, 8, 6, 4, 2, 1, 0, 5, 3, 9, 12, 14, 16]⟩,
        ⟨(some 162), .mov (.t 161), (some (158, false)), [16, 12, 9, 3, 5, 0, 1, 2, 4, 6, 8, 10, 7, 11, 13, 15, 14, 17]⟩,
        ⟨(some 163), .mov (.t 16), (some (162, true)), [17, 14, 15, 13, 11, 7, 10, 8, 6, 4, 2, 1, 0, 5, 3, 9, 12, 16, 18]⟩,
        ⟨(some 164), .un .not (.t 163), (some (162, true)), [16, 12, 9, 3, 5, 0, 1, 2, 4, 6, 8, 10, 7, 11, 13, 15, 14, 17, 18, 19]⟩,
        ⟨(some 165), .pick (.t 162) (.t 164) (.c (.bool false)), (some (158, false)), [19, 17, 15, 13, 11, 7, 10, 8, 6, 4, 2, 1, 0, 5, 3, 9, 12, 16, 14, 20, 18]⟩,
        ⟨(some 166), .pick (.t 158) (.c (.bool true)) (.t 165), (some (151, true)), [18, 20, 16, 15, 17, 19, 13, 11, 10, 8, 6, 4, 2, 1, 0, 5, 3, 9, 12, 7, 21, 14]⟩,
        ⟨(some 167), .pick (.t 151) (.t 166) (.c (.bool false)), none, [14, 21, 12, 9, 8, 10, 11, 13, 19, 17, 15, 16, 20, 18, 6, 4, 2, 1, 0, 5, 3, 22, 7]⟩])
    (.cond (.t 167) (.seq (.reg [⟨(some 6), .mov (.c (.bool false)), none, []⟩])
      (.ret)) .skip)))))
  (.reg [⟨(some 121), .mov (.t 15), none, []⟩,
      ⟨(some 122), .bin .add (.t 121) (.c (.int .i64 1)), none, []⟩,
      ⟨(some 15), .mov (.t 122), none, []⟩]))
def xf3l2 : XCode := .seq (.seq (.reg [⟨(some 105), .mov (.t 13), none, []⟩,
      ⟨(some 106), .faddr 1 (.t 3), none, []⟩,
      ⟨(some 107), .load1 (.t 106), none, []⟩,
      ⟨(some 108), .len (.t 107), none, []⟩,
      ⟨(some 109), .bin .lss (.t 105) (.t 108), none, []⟩])
  (.cond (.t 109) .skip (.exit 2)))
  (.seq (.block 3 (.seq (.reg [⟨(some 112), .faddr 1 (.t 3), none, []⟩,
        ⟨(some 113), .load1 (.t 112), none, []⟩,
        ⟨(some 114), .mov (.t 13), none, []⟩,
        ⟨(some 115), .iaddr 3 (.t 113) (.t 114), none, []⟩,
        ⟨(some 116), .loadn 3 (.t 115), none, []⟩,
        ⟨(some 14), .new 45 [.int .i64 0, .int .i64 0, .int .i64 0], none, []⟩,
        ⟨none, .store 3 (.t 14) (.t 116), none, []⟩])
    (.seq (.reg [⟨(some 15), .mov (.c (.int .i64 0)), none, []⟩])
    (.block 4 (.loop xf3l1)))))
  (.reg [⟨(some 110), .mov (.t 13), none, []⟩,
      ⟨(some 111), .bin .add (.t 110) (.c (.int .i64 1)), none, []⟩,
      ⟨(some 13), .mov (.t 111), none, []⟩]))
def xf3l3 : XCode := .seq (.seq (.reg [⟨(some 54), .mov (.t 10), none, []⟩,
      ⟨(some 55), .mov (.t 2), none, []⟩,
      ⟨(some 56), .len (.t 55), none, []⟩,
      ⟨(some 57), .bin .lss (.t 54) (.t 56), none, []⟩])
  (.cond (.t 57) .skip (.exit 0)))
  (.seq (.block 1 (.seq (.dreg [⟨(some 61), .loadn 2 (.t 3), none, []⟩,
        ⟨(some 62), .call (.c (.fn 10 [] [])) [.t 61], none, [0]⟩,
        ⟨(some 63), .mov (.t 9), none, []⟩,
        ⟨(some 64), .call (.c (.fn 11 [] [])) [.t 63], none, [0, 1, 2]⟩,
        ⟨(some 65), .mov (.t 2), none, []⟩,
        ⟨(some 66), .mov (.t 10), none, []⟩,
        ⟨(some 67), .iaddr 2 (.t 65) (.t 66), none, [5, 4]⟩,
        ⟨(some 68), .loadn 2 (.t 67), none, [4, 5, 6]⟩,
        ⟨(some 69), .call (.c (.fn 12 [] [])) [.t 62, .t 64, .t 68], none, [6, 5, 4, 2, 0, 7, 3, 1]⟩,
        ⟨(some 60), .mov (.t 69), none, [1, 3, 7, 0, 2, 4, 5, 6, 8]⟩,
        ⟨(some 70), .extract (.t 60) 0, none, [8, 6, 5, 4, 2, 0, 7, 3, 1, 9]⟩,
        ⟨(some 71), .extract (.t 60) 1, none, [8, 6, 5, 4, 2, 0, 7, 3, 1, 9]⟩,
        ⟨(some 11), .mov (.t 70), none, [9, 7, 6, 5, 4, 3, 2, 1, 0, 8, 10]⟩,
        ⟨(some 12), .mov (.t 71), none, [10, 9, 8, 7, 6, 5, 4, 3, 2, 1, 0, 12, 11]⟩])
    (.seq (.seq (.reg [⟨(some 72), .mov (.t 12), none, []⟩,
        ⟨(some 73), .bin .eql (.t 72) (.c (.int .i64 0)), none, []⟩])
    (.cond (.t 73) (.seq (.seq (.reg [⟨(some 74), .mov (.t 2), none, []⟩,
          ⟨(some 75), .mov (.t 10), none, []⟩,
          ⟨(some 76), .iaddr 2 (.t 74) (.t 75), none, []⟩,
          ⟨(some 77), .faddr 0 (.t 76), none, []⟩,
          ⟨(some 78), .load1 (.t 77), none, []⟩,
          ⟨(some 79), .mov (.t 9), none, []⟩,
          ⟨(some 80), .len (.t 79), none, []⟩,
          ⟨(some 81), .bin .sub (.t 80) (.c (.int .i64 1)), none, []⟩,
          ⟨(some 82), .call (.c (.fn 13 [] [])) [.t 78, .c (.int .i64 0), .t 81], none, []⟩,
          ⟨(some 83), .un .not (.t 82), none, []⟩,
          ⟨(some 84), .mov (.t 83), none, []⟩,
          ⟨(some 85), .mov (.t 2), (some (84, false)), []⟩,
          ⟨(some 86), .mov (.t 10), (some (84, false)), []⟩,
          ⟨(some 87), .iaddr 2 (.t 85) (.t 86), (some (84, false)), []⟩,
          ⟨(some 88), .faddr 1 (.t 87), (some (84, false)), []⟩,
          ⟨(some 89), .load1 (.t 88), (some (84, false)), []⟩,
          ⟨(some 90), .call (.c (.fn 13 [] [])) [.t 89, .c (.int .i64 0), .c (.int .i64 9)], (some (84, false)), []⟩,
          ⟨(some 91), .un .not (.t 90), (some (84, false)), []⟩,
          ⟨(some 92), .pick (.t 84) (.c (.bool true)) (.t 91), none, []⟩])
      (.cond (.t 92) (.seq (.reg [⟨(some 6), .mov (.c (.bool false)), none, []⟩])
        (.ret)) .skip))
      (.reg [⟨(some 93), .mov (.t 9), none, []⟩,
          ⟨(some 94), .mov (.t 2), none, []⟩,
          ⟨(some 95), .mov (.t 10), none, []⟩,
          ⟨(some 96), .iaddr 2 (.t 94) (.t 95), none, []⟩,
          ⟨(some 97), .loadn 2 (.t 96), none, []⟩,
          ⟨(some 98), .call (.c (.fn 14 [] [])) [.t 93, .t 97], none, []⟩,
          ⟨(some 9), .mov (.t 98), none, []⟩])) (.seq (.reg [⟨(some 99), .mov (.t 12), none, []⟩,
          ⟨(some 100), .bin .neq (.t 99) (.c (.int .i64 24)), none, []⟩,
          ⟨(some 101), .mov (.t 100), none, []⟩,
          ⟨(some 102), .mov (.t 12), (some (101, true)), []⟩,
          ⟨(some 103), .bin .neq (.t 102) (.c (.int .i64 6)), (some (101, true)), []⟩,
          ⟨(some 104), .pick (.t 101) (.t 103) (.c (.bool false)), none, []⟩])
      (.cond (.t 104) (.seq (.reg [⟨(some 6), .mov (.c (.bool false)), none, []⟩])
        (.ret)) .skip))))
    (.seq (.reg [⟨(some 13), .mov (.c (.int .i64 0)), none, []⟩])
    (.block 2 (.loop xf3l2))))))
  (.reg [⟨(some 58), .mov (.t 10), none, []⟩,
      ⟨(some 59), .bin .add (.t 58) (.c (.int .i64 1)), none, []⟩,
      ⟨(some 10), .mov (.t 59), none, []⟩]))
def xf3 : XFunc := ⟨.seq (.reg [⟨(some 3), .box 24 (.t 0), none, []⟩,
      ⟨(some 6), .mov (.c (.bool false)), none, []⟩])
  (.seq (.seq (.reg [⟨(some 18), .call (.c (.fn 5 [] [])) [], none, []⟩,
      ⟨(some 19), .un .not (.t 18), none, []⟩])
  (.cond (.t 19) (.seq (.reg [⟨(some 6), .mov (.c (.bool false)), none, []⟩])
    (.ret)) .skip))
  (.seq (.seq (.reg [⟨(some 20), .loadn 2 (.t 3), none, []⟩,
      ⟨(some 21), .mov (.t 1), none, []⟩,
      ⟨(some 22), .call (.c (.fn 6 [] [])) [.t 20, .t 21], none, []⟩,
      ⟨(some 23), .un .not (.t 22), none, []⟩,
      ⟨(some 24), .mov (.t 23), none, []⟩,
      ⟨(some 25), .loadn 2 (.t 3), (some (24, false)), []⟩,
      ⟨(some 26), .call (.c (.fn 7 [] [])) [.t 25], (some (24, false)), []⟩,
      ⟨(some 27), .bin .neq (.t 26) (.c (.int .i64 0)), (some (24, false)), []⟩,
      ⟨(some 28), .pick (.t 24) (.c (.bool true)) (.t 27), none, []⟩,
      ⟨(some 29), .mov (.t 28), none, []⟩,
      ⟨(some 30), .loadn 2 (.t 3), (some (29, false)), []⟩,
      ⟨(some 31), .mov (.t 1), (some (29, false)), []⟩,
      ⟨(some 32), .call (.c (.fn 8 [] [])) [.t 30, .t 31], (some (29, false)), []⟩,
      ⟨(some 33), .bin .neq (.t 32) (.c (.int .i64 0)), (some (29, false)), []⟩,
      ⟨(some 34), .pick (.t 29) (.c (.bool true)) (.t 33), none, []⟩,
      ⟨(some 35), .mov (.t 34), none, []⟩,
      ⟨(some 36), .mov (.t 2), (some (35, false)), []⟩,
      ⟨(some 37), .len (.t 36), (some (35, false)), []⟩,
      ⟨(some 38), .bin .gtr (.t 37) (.c (.int .i64 12)), (some (35, false)), []⟩,
      ⟨(some 39), .pick (.t 35) (.c (.bool true)) (.t 38), none, []⟩])
  (.cond (.t 39) (.seq (.reg [⟨(some 6), .mov (.c (.bool true)), none, []⟩])
    (.ret)) .skip))
  (.seq (.seq (.reg [⟨(some 41), .loadn 2 (.t 3), none, []⟩,
      ⟨(some 42), .call (.c (.fn 10 [] [])) [.t 41], none, []⟩,
      ⟨(some 43), .mov (.t 1), none, []⟩,
      ⟨(some 44), .call (.c (.fn 11 [] [])) [.t 43], none, []⟩,
      ⟨(some 45), .call (.c (.fn 9 [] [])) [.t 42, .t 44], none, []⟩,
      ⟨(some 40), .mov (.t 45), none, []⟩,
      ⟨(some 46), .extract (.t 40) 0, none, []⟩,
      ⟨(some 47), .extract (.t 40) 1, none, []⟩,
      ⟨(some 7), .new 32 [.int .i64 0, .int .i64 0], none, []⟩,
      ⟨none, .store 2 (.t 7) (.t 46), none, []⟩,
      ⟨(some 8), .mov (.t 47), none, []⟩])
  (.seq (.reg [⟨(some 48), .mov (.t 8), none, []⟩,
      ⟨(some 49), .bin .neq (.t 48) (.c (.int .i64 12)), none, []⟩])
  (.cond (.t 49) (.seq (.reg [⟨(some 50), .mov (.t 8), none, []⟩,
        ⟨(some 51), .bin .eql (.t 50) (.c (.int .i64 0)), none, []⟩,
        ⟨(some 6), .mov (.t 51), none, []⟩])
    (.ret)) .skip)))
  (.seq (.reg [⟨(some 52), .mov (.t 1), none, []⟩,
      ⟨(some 53), .call (.c (.fn 11 [] [])) [.t 52], none, []⟩,
      ⟨(some 9), .mov (.t 53), none, []⟩])
  (.seq (.seq (.reg [⟨(some 10), .mov (.c (.int .i64 0)), none, []⟩])
  (.block 0 (.loop xf3l3)))
  (.seq (.reg [⟨(some 6), .mov (.c (.bool true)), none, []⟩])
  (.ret))))))), 168, [.t 6]⟩
def xf6 : XFunc := ⟨.seq (.reg [⟨(some 2), .box 24 (.t 0), none, []⟩,
      ⟨(some 4), .mov (.c (.bool false)), none, []⟩])
  (.seq (.reg [⟨(some 5), .faddr 1 (.t 2), none, []⟩,
      ⟨(some 6), .load1 (.t 5), none, []⟩,
      ⟨(some 7), .len (.t 6), none, []⟩,
      ⟨(some 8), .bin .leq (.t 7) (.c (.int .i64 14)), none, []⟩,
      ⟨(some 9), .mov (.t 8), none, []⟩,
      ⟨(some 10), .mov (.t 1), (some (9, true)), []⟩,
      ⟨(some 11), .len (.t 10), (some (9, true)), []⟩,
      ⟨(some 12), .bin .leq (.t 11) (.c (.int .i64 8)), (some (9, true)), []⟩,
      ⟨(some 13), .pick (.t 9) (.t 12) (.c (.bool false)), none, []⟩,
      ⟨(some 4), .mov (.t 13), none, []⟩])
  (.ret)), 14, [.t 4]⟩
def xf7 : XFunc := ⟨.seq (.reg [⟨(some 1), .box 24 (.t 0), none, []⟩,
      ⟨(some 2), .mov (.c (.int .i64 0)), none, []⟩])
  (.seq (.reg [⟨(some 6), .loadn 2 (.t 1), none, []⟩,
      ⟨(some 7), .call (.c (.fn 30 [] [])) [.t 6], none, []⟩,
      ⟨(some 5), .mov (.t 7), none, []⟩,
      ⟨(some 8), .extract (.t 5) 0, none, []⟩,
      ⟨(some 9), .extract (.t 5) 1, none, []⟩,
      ⟨(some 3), .mov (.t 8), none, []⟩,
      ⟨(some 4), .mov (.t 9), none, []⟩])
  (.seq (.reg [⟨(some 10), .mov (.t 4), none, []⟩,
      ⟨(some 2), .mov (.t 10), none, []⟩])
  (.ret))), 11, [.t 2]⟩
def xf8l0 : XCode := .seq (.seq (.reg [⟨(some 11), .mov (.t 5), none, []⟩,
      ⟨(some 12), .mov (.t 1), none, []⟩,
      ⟨(some 13), .len (.t 12), none, []⟩,
      ⟨(some 14), .bin .lss (.t 11) (.t 13), none, []⟩])
  (.cond (.t 14) .skip (.exit 0)))
  (.seq (.block 1 (.seq (.reg [⟨(some 17), .mov (.t 1), none, []⟩,
        ⟨(some 18), .mov (.t 5), none, []⟩,
        ⟨(some 19), .iaddr 1 (.t 17) (.t 18), none, []⟩,
        ⟨(some 20), .load1 (.t 19), none, []⟩,
        ⟨(some 21), .call (.c (.fn 31 [] [])) [.t 20], none, []⟩,
        ⟨(some 22), .un .not (.t 21), none, []⟩])
    (.cond (.t 22) (.seq (.reg [⟨(some 4), .mov (.c (.int .i64 6)), none, []⟩])
      (.ret)) .skip)))
  (.reg [⟨(some 15), .mov (.t 5), none, []⟩,
      ⟨(some 16), .bin .add (.t 15) (.c (.int .i64 1)), none, []⟩,
      ⟨(some 5), .mov (.t 16), none, []⟩]))
def xf8 : XFunc := ⟨.seq (.reg [⟨(some 2), .box 24 (.t 0), none, []⟩,
      ⟨(some 4), .mov (.c (.int .i64 0)), none, []⟩])
  (.seq (.seq (.reg [⟨(some 6), .mov (.t 1), none, []⟩,
      ⟨(some 7), .len (.t 6), none, []⟩,
      ⟨(some 8), .faddr 0 (.t 2), none, []⟩,
      ⟨(some 9), .load1 (.t 8), none, []⟩,
      ⟨(some 10), .bin .neq (.t 7) (.t 9), none, []⟩])
  (.cond (.t 10) (.seq (.reg [⟨(some 4), .mov (.c (.int .i64 10)), none, []⟩])
    (.ret)) .skip))
  (.seq (.seq (.reg [⟨(some 5), .mov (.c (.int .i64 0)), none, []⟩])
  (.block 0 (.loop xf8l0)))
  (.seq (.reg [⟨(some 4), .mov (.c (.int .i64 0)), none, []⟩])
  (.ret)))), 23, [.t 4]⟩
def xf9 : XFunc := ⟨.seq (.reg [⟨(some 2), .box 24 (.t 0), none, []⟩,
      ⟨(some 4), .new 32 [.int .i64 0, .int .i64 0], none, []⟩,
      ⟨(some 5), .mov (.c (.int .i64 0)), none, []⟩])
  (.seq (.seq (.reg [⟨(some 9), .loadn 2 (.t 2), none, []⟩,
      ⟨(some 10), .mov (.t 1), none, []⟩,
      ⟨(some 11), .call (.c (.fn 32 [] [])) [.t 9, .t 10], none, []⟩,
      ⟨(some 6), .mov (.t 11), none, []⟩])
  (.seq (.reg [⟨(some 12), .mov (.t 6), none, []⟩,
      ⟨(some 13), .bin .neq (.t 12) (.c (.int .i64 0)), none, []⟩])
  (.cond (.t 13) (.seq (.reg [⟨(some 14), .build [.int .i64 0, .int .i64 0] [], none, []⟩,
        ⟨(some 15), .mov (.t 6), none, []⟩,
        ⟨none, .store 2 (.t 4) (.t 14), none, []⟩,
        ⟨(some 5), .mov (.t 15), none, []⟩])
    (.ret)) .skip)))
  (.seq (.reg [⟨(some 17), .loadn 2 (.t 2), none, []⟩,
      ⟨(some 18), .movf (.t 1), none, []⟩,
      ⟨(some 19), .call (.c (.fn 33 [] [])) [.t 17, .t 18], none, []⟩,
      ⟨(some 16), .mov (.t 19), none, []⟩,
      ⟨(some 20), .extract (.t 16) 0, none, []⟩,
      ⟨(some 21), .extract (.t 16) 1, none, []⟩,
      ⟨(some 7), .new 32 [.int .i64 0, .int .i64 0], none, []⟩,
      ⟨none, .store 2 (.t 7) (.t 20), none, []⟩,
      ⟨(some 8), .mov (.t 21), none, []⟩])
  (.seq (.dreg [⟨(some 22), .loadn 2 (.t 7), none, []⟩,
      ⟨(some 23), .mov (.t 8), none, []⟩,
      ⟨(some 24), .call (.c (.fn 34 [] [])) [.t 23, .c (.int .i64 12)], none, [1]⟩,
      ⟨none, .store 2 (.t 4) (.t 22), none, [1, 2, 0]⟩,
      ⟨(some 5), .mov (.t 24), none, [1, 0, 3, 2]⟩])
  (.ret)))), 25, [.cn 4 2, .t 5]⟩
def xf10 : XFunc := ⟨.seq (.reg [⟨(some 1), .box 24 (.t 0), none, []⟩,
      ⟨(some 2), .new 24 [.int .i64 0, .nils], none, []⟩])
  (.seq (.dreg [⟨(some 3), .faddr 0 (.t 1), none, []⟩,
      ⟨(some 4), .load1 (.t 3), none, [0]⟩,
      ⟨(some 5), .buildSlice 45 3 0 true [] [], none, []⟩,
      ⟨(some 6), .faddr 1 (.t 1), none, []⟩,
      ⟨(some 7), .load1 (.t 6), none, [3]⟩,
      ⟨(some 8), .append 45 3 24 (.t 5) (.t 7), none, [3, 4, 2]⟩,
      ⟨(some 9), .build [.int .i64 0, .nils] [(0, 1, .t 4), (1, 1, .t 8)], none, [2, 4, 3, 0, 5, 1]⟩,
      ⟨none, .store 2 (.t 2) (.t 9), none, [4, 3, 2, 1, 0, 5, 6]⟩])
  (.ret)), 10, [.cn 2 2]⟩
def xf11 : XFunc := ⟨.seq (.reg [⟨(some 2), .mov (.c .nils), none, []⟩])
  (.seq (.reg [⟨(some 3), .buildSlice 3 1 0 false [] [], none, []⟩,
      ⟨(some 4), .mov (.t 0), none, []⟩,
      ⟨(some 5), .appendV 3 1 8 (.t 3) (.t 4), none, []⟩,
      ⟨(some 2), .mov (.t 5), none, []⟩])
  (.ret)), 6, [.t 2]⟩
def xf12 : XFunc := ⟨.seq (.reg [⟨(some 3), .box 24 (.t 0), none, []⟩,
      ⟨(some 5), .box 41 (.t 2), none, []⟩,
      ⟨(some 6), .mov (.c (.int .i64 0)), none, []⟩,
      ⟨(some 7), .mov (.c (.int .i64 0)), none, []⟩])
  (.seq (.seq (.dreg [⟨(some 12), .loadn 2 (.t 3), none, []⟩,
      ⟨(some 13), .mov (.t 1), none, []⟩,
      ⟨(some 14), .call (.c (.fn 32 [] [])) [.t 12, .t 13], none, [1, 0]⟩,
      ⟨(some 15), .faddr 0 (.t 5), none, []⟩,
      ⟨(some 16), .load1 (.t 15), none, [3]⟩,
      ⟨(some 17), .mov (.t 1), none, []⟩,
      ⟨(some 18), .len (.t 17), none, [5]⟩,
      ⟨(some 19), .call (.c (.fn 36 [] [])) [.t 16, .t 18], none, [0, 1, 5, 3, 2, 6, 4]⟩,
      ⟨(some 20), .faddr 1 (.t 5), none, []⟩,
      ⟨(some 21), .load1 (.t 20), none, [8]⟩,
      ⟨(some 22), .call (.c (.fn 37 [] [])) [.t 21], none, [4, 6, 2, 3, 5, 1, 0, 8, 7, 9]⟩,
      ⟨(some 23), .buildSlice 33 1 3 false [.int .i64 0, .int .i64 0, .int .i64 0] [(0, 1, .t 14), (1, 1, .t 19), (2, 1, .t 22)], none, [9, 8, 4, 6, 3, 5, 0, 1, 10, 7, 2]⟩,
      ⟨(some 24), .call (.c (.fn 35 [] [])) [.t 23], none, [2, 7, 1, 0, 5, 3, 6, 4, 8, 9, 10, 11]⟩,
      ⟨(some 8), .mov (.t 24), none, [11, 10, 9, 8, 7, 6, 5, 4, 3, 2, 1, 0, 12]⟩])
  (.seq (.reg [⟨(some 25), .mov (.t 8), none, []⟩,
      ⟨(some 26), .bin .neq (.t 25) (.c (.int .i64 0)), none, []⟩])
  (.cond (.t 26) (.seq (.reg [⟨(some 27), .mov (.t 8), none, []⟩,
        ⟨(some 6), .mov (.c (.int .i64 0)), none, []⟩,
        ⟨(some 7), .mov (.t 27), none, []⟩])
    (.ret)) .skip)))
  (.seq (.reg [⟨(some 28), .mov (.t 1), none, []⟩,
      ⟨(some 29), .callK 38 [.t 28], none, []⟩,
      ⟨(some 9), .mov (.t 29), none, []⟩])
  (.seq (.reg [⟨(some 30), .mov (.t 9), none, []⟩,
      ⟨(some 31), .faddr 0 (.t 5), none, []⟩,
      ⟨(some 32), .load1 (.t 31), none, []⟩,
      ⟨(some 33), .faddr 1 (.t 5), none, []⟩,
      ⟨(some 34), .load1 (.t 33), none, []⟩,
      ⟨(some 35), .iaddr 1 (.t 30) (.t 32), none, []⟩,
      ⟨none, .store 1 (.t 35) (.t 34), none, []⟩])
  (.seq (.reg [⟨(some 37), .loadn 2 (.t 3), none, []⟩,
      ⟨(some 38), .movf (.t 9), none, []⟩,
      ⟨(some 39), .call (.c (.fn 33 [] [])) [.t 37, .t 38], none, []⟩,
      ⟨(some 36), .mov (.t 39), none, []⟩,
      ⟨(some 40), .extract (.t 36) 0, none, []⟩,
      ⟨(some 41), .extract (.t 36) 1, none, []⟩,
      ⟨(some 10), .new 32 [.int .i64 0, .int .i64 0], none, []⟩,
      ⟨none, .store 2 (.t 10) (.t 40), none, []⟩,
      ⟨(some 11), .mov (.t 41), none, []⟩])
  (.seq (.dreg [⟨(some 42), .faddr 1 (.t 10), none, []⟩,
      ⟨(some 43), .load1 (.t 42), none, [0]⟩,
      ⟨(some 44), .mov (.t 11), none, []⟩,
      ⟨(some 45), .un .not (.t 44), none, [2]⟩,
      ⟨(some 46), .call (.c (.fn 34 [] [])) [.t 45, .c (.int .i64 24)], none, [2, 3]⟩,
      ⟨(some 6), .mov (.t 43), none, [3, 2, 0, 4, 1]⟩,
      ⟨(some 7), .mov (.t 46), none, [3, 2, 1, 0, 5, 4]⟩])
  (.ret)))))), 47, [.t 6, .t 7]⟩
def xf13 : XFunc := ⟨.seq (.reg [⟨(some 6), .mov (.c (.bool false)), none, []⟩])
  (.seq (.reg [⟨(some 7), .mov (.t 1), none, []⟩,
      ⟨(some 8), .mov (.t 0), none, []⟩,
      ⟨(some 9), .bin .leq (.t 7) (.t 8), none, []⟩,
      ⟨(some 10), .mov (.t 9), none, []⟩,
      ⟨(some 11), .mov (.t 0), (some (10, true)), []⟩,
      ⟨(some 12), .mov (.t 2), (some (10, true)), []⟩,
      ⟨(some 13), .bin .leq (.t 11) (.t 12), (some (10, true)), []⟩,
      ⟨(some 14), .pick (.t 10) (.t 13) (.c (.bool false)), none, []⟩,
      ⟨(some 6), .mov (.t 14), none, []⟩])
  (.ret)), 15, [.t 6]⟩
def xf30l0 : XCode := .seq (.seq (.reg [⟨(some 14), .mov (.t 4), none, []⟩,
      ⟨(some 15), .faddr 1 (.t 1), none, []⟩,
      ⟨(some 16), .load1 (.t 15), none, []⟩,
      ⟨(some 17), .len (.t 16), none, []⟩,
      ⟨(some 18), .bin .lss (.t 14) (.t 17), none, []⟩])
  (.cond (.t 18) .skip (.exit 0)))
  (.seq (.block 1 (.seq (.reg [⟨(some 21), .faddr 1 (.t 1), none, []⟩,
        ⟨(some 22), .load1 (.t 21), none, []⟩,
        ⟨(some 23), .mov (.t 4), none, []⟩,
        ⟨(some 24), .iaddr 3 (.t 22) (.t 23), none, []⟩,
        ⟨(some 25), .loadn 3 (.t 24), none, []⟩,
        ⟨(some 5), .new 45 [.int .i64 0, .int .i64 0, .int .i64 0], none, []⟩,
        ⟨none, .store 3 (.t 5) (.t 25), none, []⟩])
    (.seq (.seq (.reg [⟨(some 26), .faddr 0 (.t 5), none, []⟩,
        ⟨(some 27), .load1 (.t 26), none, []⟩,
        ⟨(some 28), .call (.c (.fn 31 [] [])) [.t 27], none, []⟩,
        ⟨(some 29), .un .not (.t 28), none, []⟩,
        ⟨(some 30), .mov (.t 29), none, []⟩,
        ⟨(some 31), .faddr 1 (.t 5), (some (30, false)), []⟩,
        ⟨(some 32), .load1 (.t 31), (some (30, false)), []⟩,
        ⟨(some 33), .call (.c (.fn 31 [] [])) [.t 32], (some (30, false)), []⟩,
        ⟨(some 34), .un .not (.t 33), (some (30, false)), []⟩,
        ⟨(some 35), .pick (.t 30) (.c (.bool true)) (.t 34), none, []⟩])
    (.cond (.t 35) (.seq (.reg [⟨(some 36), .mov (.t 4), none, []⟩,
          ⟨(some 2), .mov (.t 36), none, []⟩,
          ⟨(some 3), .mov (.c (.int .i64 6)), none, []⟩])
      (.ret)) .skip))
    (.seq (.reg [⟨(some 37), .faddr 2 (.t 5), none, []⟩,
        ⟨(some 38), .load1 (.t 37), none, []⟩,
        ⟨(some 39), .call (.c (.fn 13 [] [])) [.t 38, .c (.int .i64 0), .c (.int .i64 1)], none, []⟩,
        ⟨(some 40), .un .not (.t 39), none, []⟩])
    (.cond (.t 40) (.seq (.reg [⟨(some 41), .mov (.t 4), none, []⟩,
          ⟨(some 2), .mov (.t 41), none, []⟩,
          ⟨(some 3), .mov (.c (.int .i64 15)), none, []⟩])
      (.ret)) .skip)))))
  (.reg [⟨(some 19), .mov (.t 4), none, []⟩,
      ⟨(some 20), .bin .add (.t 19) (.c (.int .i64 1)), none, []⟩,
      ⟨(some 4), .mov (.t 20), none, []⟩]))
def xf30 : XFunc := ⟨.seq (.reg [⟨(some 1), .box 24 (.t 0), none, []⟩,
      ⟨(some 2), .mov (.c (.int .i64 0)), none, []⟩,
      ⟨(some 3), .mov (.c (.int .i64 0)), none, []⟩])
  (.seq (.seq (.reg [⟨(some 6), .faddr 0 (.t 1), none, []⟩,
      ⟨(some 7), .load1 (.t 6), none, []⟩,
      ⟨(some 8), .call (.c (.fn 13 [] [])) [.t 7, .c (.int .i64 1), .c (.int .i64 6)], none, []⟩,
      ⟨(some 9), .un .not (.t 8), none, []⟩])
  (.cond (.t 9) (.seq (.reg [⟨(some 2), .mov (.c (.int .i64 0)), none, []⟩,
        ⟨(some 3), .mov (.c (.int .i64 2)), none, []⟩])
    (.ret)) .skip))
  (.seq (.seq (.reg [⟨(some 10), .faddr 1 (.t 1), none, []⟩,
      ⟨(some 11), .load1 (.t 10), none, []⟩,
      ⟨(some 12), .len (.t 11), none, []⟩,
      ⟨(some 13), .bin .gtr (.t 12) (.c (.int .i64 12)), none, []⟩])
  (.cond (.t 13) (.seq (.reg [⟨(some 2), .mov (.c (.int .i64 0)), none, []⟩,
        ⟨(some 3), .mov (.c (.int .i64 8)), none, []⟩])
    (.ret)) .skip))
  (.seq (.seq (.reg [⟨(some 4), .mov (.c (.int .i64 0)), none, []⟩])
  (.block 0 (.loop xf30l0)))
  (.seq (.reg [⟨(some 2), .mov (.c (.int .i64 0)), none, []⟩,
      ⟨(some 3), .mov (.c (.int .i64 0)), none, []⟩])
  (.ret))))), 42, [.t 2, .t 3]⟩
def xf31 : XFunc := ⟨.seq (.reg [⟨(some 2), .mov (.c (.bool false)), none, []⟩])
  (.seq (.reg [⟨(some 3), .mov (.t 0), none, []⟩,
      ⟨(some 4), .call (.c (.fn 13 [] [])) [.t 3, .c (.int .i64 0), .c (.int .i64 9)], none, []⟩,
      ⟨(some 2), .mov (.t 4), none, []⟩])
  (.ret)), 5, [.t 2]⟩
def xf32 : XFunc := ⟨.seq (.reg [⟨(some 2), .box 24 (.t 0), none, []⟩,
      ⟨(some 4), .mov (.c (.int .i64 0)), none, []⟩])
  (.seq (.reg [⟨(some 8), .loadn 2 (.t 2), none, []⟩,
      ⟨(some 9), .call (.c (.fn 55 [] [])) [.t 8], none, []⟩,
      ⟨(some 7), .mov (.t 9), none, []⟩,
      ⟨(some 10), .extract (.t 7) 0, none, []⟩,
      ⟨(some 11), .extract (.t 7) 1, none, []⟩,
      ⟨(some 5), .mov (.t 10), none, []⟩,
      ⟨(some 6), .mov (.t 11), none, []⟩])
  (.seq (.reg [⟨(some 12), .mov (.t 6), none, []⟩,
      ⟨(some 13), .mov (.t 1), none, []⟩,
      ⟨(some 14), .len (.t 13), none, []⟩,
      ⟨(some 15), .faddr 0 (.t 2), none, []⟩,
      ⟨(some 16), .load1 (.t 15), none, []⟩,
      ⟨(some 17), .bin .eql (.t 14) (.t 16), none, []⟩,
      ⟨(some 18), .call (.c (.fn 34 [] [])) [.t 17, .c (.int .i64 10)], none, []⟩,
      ⟨(some 19), .mov (.t 1), none, []⟩,
      ⟨(some 20), .call (.c (.fn 56 [] [])) [.t 19, .c (.fn 37 [] [])], none, []⟩,
      ⟨(some 21), .buildSlice 33 1 3 false [.int .i64 0, .int .i64 0, .int .i64 0] [(0, 1, .t 12), (1, 1, .t 18), (2, 1, .t 20)], none, []⟩,
      ⟨(some 22), .call (.c (.fn 35 [] [])) [.t 21], none, []⟩,
      ⟨(some 4), .mov (.t 22), none, []⟩])
  (.ret))), 23, [.t 4]⟩
def xf33l0 : XCode := .seq (.reg [⟨(some 12), .bin .lss (.t 11) (.t 10), none, []⟩])
  (.seq (.cond (.t 12) .skip (.exit 0))
  (.seq (.block 1 (.seq (.reg [⟨(some 13), .mov (.t 11), none, []⟩,
        ⟨(some 6), .new 3 [.int .i64 0], none, []⟩,
        ⟨none, .store 1 (.t 6) (.t 13), none, []⟩])
    (.seq (.reg [⟨(some 14), .fn true 57 [] [.t 6, .t 3], none, []⟩,
        ⟨(some 7), .mov (.t 14), none, []⟩])
    (.seq (.reg [⟨(some 15), .faddr 1 (.t 2), none, []⟩,
        ⟨(some 16), .load1 (.t 15), none, []⟩,
        ⟨(some 17), .mov (.t 7), none, []⟩,
        ⟨(some 18), .call (.c (.fn 59 [] [])) [.t 16, .t 17], none, []⟩,
        ⟨(some 8), .mov (.t 18), none, []⟩])
    (.seq (.reg [⟨(some 19), .mov (.t 8), none, []⟩,
        ⟨(some 20), .bin .geq (.t 19) (.c (.int .i64 0)), none, []⟩])
    (.cond (.t 20) (.seq (.reg [⟨(some 21), .load1 (.t 6), none, []⟩,
          ⟨(some 22), .mov (.t 8), none, []⟩,
          ⟨(some 23), .build [.int .i64 0, .int .i64 0] [(0, 1, .t 21), (1, 1, .t 22)], none, []⟩,
          ⟨none, .store 2 (.t 4) (.t 23), none, []⟩,
          ⟨(some 5), .mov (.c (.bool true)), none, []⟩])
      (.ret)) .skip))))))
  (.reg [⟨(some 24), .bin .add (.t 11) (.c (.int .i64 1)), none, []⟩,
      ⟨(some 11), .mov (.t 24), none, []⟩])))
def xf33 : XFunc := ⟨.seq (.reg [⟨(some 2), .box 24 (.t 0), none, []⟩,
      ⟨(some 3), .box 25 (.t 1), none, []⟩,
      ⟨(some 4), .new 32 [.int .i64 0, .int .i64 0], none, []⟩,
      ⟨(some 5), .mov (.c (.bool false)), none, []⟩])
  (.seq (.seq (.reg [⟨(some 9), .load1 (.t 3), none, []⟩,
      ⟨(some 10), .len (.t 9), none, []⟩,
      ⟨(some 11), .mov (.c (.int .i64 0)), none, []⟩])
  (.block 0 (.loop xf33l0)))
  (.seq (.reg [⟨(some 25), .build [.int .i64 0, .int .i64 0] [], none, []⟩,
      ⟨none, .store 2 (.t 4) (.t 25), none, []⟩,
      ⟨(some 5), .mov (.c (.bool false)), none, []⟩])
  (.ret))), 26, [.cn 4 2, .t 5]⟩
def xf34 : XFunc := ⟨.seq (.reg [⟨(some 4), .mov (.c (.int .i64 0)), none, []⟩])
  (.seq (.seq (.reg [⟨(some 5), .mov (.t 0), none, []⟩])
  (.cond (.t 5) (.seq (.reg [⟨(some 4), .mov (.c (.int .i64 0)), none, []⟩])
    (.ret)) .skip))
  (.seq (.reg [⟨(some 6), .mov (.t 1), none, []⟩,
      ⟨(some 4), .mov (.t 6), none, []⟩])
  (.ret))), 7, [.t 4]⟩
def xf35l0 : XCode := .seq (.reg [⟨(some 8), .bin .lss (.t 7) (.t 6), none, []⟩])
  (.seq (.cond (.t 8) .skip (.exit 0))
  (.seq (.block 1 (.seq (.reg [⟨(some 9), .iaddr 1 (.t 5) (.t 7), none, []⟩,
        ⟨(some 10), .load1 (.t 9), none, []⟩,
        ⟨(some 4), .mov (.t 10), none, []⟩])
    (.seq (.reg [⟨(some 11), .mov (.t 4), none, []⟩,
        ⟨(some 12), .bin .neq (.t 11) (.c (.int .i64 0)), none, []⟩])
    (.cond (.t 12) (.seq (.reg [⟨(some 13), .mov (.t 4), none, []⟩,
          ⟨(some 2), .mov (.t 13), none, []⟩])
      (.ret)) .skip))))
  (.reg [⟨(some 14), .bin .add (.t 7) (.c (.int .i64 1)), none, []⟩,
      ⟨(some 7), .mov (.t 14), none, []⟩])))
def xf35 : XFunc := ⟨.seq (.reg [⟨(some 2), .mov (.c (.int .i64 0)), none, []⟩])
  (.seq (.seq (.reg [⟨(some 5), .mov (.t 0), none, []⟩,
      ⟨(some 6), .len (.t 5), none, []⟩,
      ⟨(some 7), .mov (.c (.int .i64 0)), none, []⟩])
  (.block 0 (.loop xf35l0)))
  (.seq (.reg [⟨(some 2), .mov (.c (.int .i64 0)), none, []⟩])
  (.ret))), 15, [.t 2]⟩
def xf36 : XFunc := ⟨.seq (.reg [⟨(some 4), .mov (.c (.int .i64 0)), none, []⟩])
  (.seq (.reg [⟨(some 5), .mov (.t 0), none, []⟩,
      ⟨(some 6), .mov (.t 1), none, []⟩,
      ⟨(some 7), .bin .sub (.t 6) (.c (.int .i64 1)), none, []⟩,
      ⟨(some 8), .call (.c (.fn 60 [] [])) [.t 5, .c (.int .i64 0), .t 7], none, []⟩,
      ⟨(some 9), .call (.c (.fn 34 [] [])) [.t 8, .c (.int .i64 6)], none, []⟩,
      ⟨(some 4), .mov (.t 9), none, []⟩])
  (.ret)), 10, [.t 4]⟩
def xf37 : XFunc := ⟨.seq (.reg [⟨(some 2), .mov (.c (.int .i64 0)), none, []⟩])
  (.seq (.reg [⟨(some 3), .mov (.t 0), none, []⟩,
      ⟨(some 4), .call (.c (.fn 36 [] [])) [.t 3, .c (.int .i64 10)], none, []⟩,
      ⟨(some 2), .mov (.t 4), none, []⟩])
  (.ret)), 5, [.t 2]⟩
def xf38 : XFunc := ⟨.seq (.reg [⟨(some 2), .mov (.c .nils), none, []⟩])
  (.seq (.seq (.reg [⟨(some 3), .mov (.t 0), none, []⟩,
      ⟨(some 4), .isnilS false (.t 3), none, []⟩])
  (.cond (.t 4) (.seq (.reg [⟨(some 2), .mov (.c .nils), none, []⟩])
    (.ret)) .skip))
  (.seq (.reg [⟨(some 5), .buildSlice 3 1 0 false [] [], none, []⟩,
      ⟨(some 6), .mov (.t 0), none, []⟩,
      ⟨(some 7), .appendV 3 1 8 (.t 5) (.t 6), none, []⟩,
      ⟨(some 2), .mov (.t 7), none, []⟩])
  (.ret))), 8, [.t 2]⟩
def xf55 : XFunc := ⟨.seq (.reg [⟨(some 1), .box 24 (.t 0), none, []⟩,
      ⟨(some 2), .mov (.c (.int .i64 0)), none, []⟩,
      ⟨(some 3), .mov (.c (.int .i64 0)), none, []⟩])
  (.seq (.seq (.dreg [⟨(some 5), .faddr 0 (.t 1), none, []⟩,
      ⟨(some 6), .load1 (.t 5), none, [0]⟩,
      ⟨(some 7), .call (.c (.fn 80 [] [])) [.t 6, .c (.int .i64 1), .c (.int .i64 6)], none, [0, 1]⟩,
      ⟨(some 8), .faddr 1 (.t 1), none, []⟩,
      ⟨(some 9), .load1 (.t 8), none, [3]⟩,
      ⟨(some 10), .call (.c (.fn 81 [] [])) [.t 9, .c (.int .i64 12)], none, [1, 0, 3, 2, 4]⟩,
      ⟨(some 11), .buildSlice 33 1 2 false [.int .i64 0, .int .i64 0] [(0, 1, .t 7), (1, 1, .t 10)], none, [4, 3, 1, 0, 5, 2]⟩,
      ⟨(some 12), .call (.c (.fn 35 [] [])) [.t 11], none, [2, 0, 1, 3, 4, 5, 6]⟩,
      ⟨(some 4), .mov (.t 12), none, [6, 5, 4, 3, 2, 1, 0, 7]⟩])
  (.seq (.reg [⟨(some 13), .mov (.t 4), none, []⟩,
      ⟨(some 14), .bin .neq (.t 13) (.c (.int .i64 0)), none, []⟩])
  (.cond (.t 14) (.seq (.reg [⟨(some 15), .mov (.t 4), none, []⟩,
        ⟨(some 2), .mov (.c (.int .i64 0)), none, []⟩,
        ⟨(some 3), .mov (.t 15), none, []⟩])
    (.ret)) .skip)))
  (.seq (.reg [⟨(some 16), .faddr 1 (.t 1), none, []⟩,
      ⟨(some 17), .load1 (.t 16), none, []⟩,
      ⟨(some 18), .call (.c (.fn 82 [] [])) [.t 17, .c (.fn 83 [] [])], none, []⟩,
      ⟨(some 19), .extract (.t 18) 0, none, []⟩,
      ⟨(some 20), .extract (.t 18) 1, none, []⟩,
      ⟨(some 2), .mov (.t 19), none, []⟩,
      ⟨(some 3), .mov (.t 20), none, []⟩])
  (.ret))), 21, [.t 2, .t 3]⟩
def xf56 : XFunc := ⟨.seq (.reg [⟨(some 4), .mov (.c (.int .i64 0)), none, []⟩])
  (.seq (.reg [⟨(some 8), .mov (.t 0), none, []⟩,
      ⟨(some 9), .mov (.t 1), none, []⟩,
      ⟨(some 10), .call (.c (.fn 84 [] [])) [.t 8, .t 9], none, []⟩,
      ⟨(some 7), .mov (.t 10), none, []⟩,
      ⟨(some 11), .extract (.t 7) 0, none, []⟩,
      ⟨(some 12), .extract (.t 7) 1, none, []⟩,
      ⟨(some 5), .mov (.t 11), none, []⟩,
      ⟨(some 6), .mov (.t 12), none, []⟩])
  (.seq (.reg [⟨(some 13), .mov (.t 6), none, []⟩,
      ⟨(some 4), .mov (.t 13), none, []⟩])
  (.ret))), 14, [.t 4]⟩
def xf57 : XFunc := ⟨.seq (.reg [⟨(some 3), .box 45 (.t 0), none, []⟩,
      ⟨(some 4), .mov (.c (.bool false)), none, []⟩])
  (.seq (.reg [⟨(some 5), .load1 (.t 1), none, []⟩,
      ⟨(some 6), .loadn 3 (.t 3), none, []⟩,
      ⟨(some 7), .load1 (.t 2), none, []⟩,
      ⟨(some 8), .call (.c (.fn 58 [] [])) [.t 5, .t 6, .t 7], none, []⟩,
      ⟨(some 9), .un .not (.t 8), none, []⟩,
      ⟨(some 4), .mov (.t 9), none, []⟩])
  (.ret)), 10, [.t 4]⟩
def xf58 : XFunc := ⟨.seq (.reg [⟨(some 4), .box 45 (.t 1), none, []⟩,
      ⟨(some 6), .mov (.c (.bool false)), none, []⟩])
  (.seq (.seq (.dreg [⟨(some 7), .mov (.t 2), none, []⟩,
      ⟨(some 8), .mov (.t 0), none, []⟩,
      ⟨(some 9), .iaddr 1 (.t 7) (.t 8), none, [1, 0]⟩,
      ⟨(some 10), .load1 (.t 9), none, [0, 1, 2]⟩,
      ⟨(some 11), .faddr 0 (.t 4), none, []⟩,
      ⟨(some 12), .load1 (.t 11), none, [4]⟩,
      ⟨(some 13), .bin .neq (.t 10) (.t 12), none, [4, 2, 1, 0, 5, 3]⟩])
  (.cond (.t 13) (.seq (.reg [⟨(some 6), .mov (.c (.bool true)), none, []⟩])
    (.ret)) .skip))
  (.seq (.dreg [⟨(some 14), .mov (.t 0), none, []⟩,
      ⟨(some 15), .faddr 1 (.t 4), none, []⟩,
      ⟨(some 16), .load1 (.t 15), none, [1]⟩,
      ⟨(some 17), .mov (.t 2), none, []⟩,
      ⟨(some 18), .call (.c (.fn 85 [] [])) [.t 14, .t 16, .t 17], none, [1, 3, 2, 0]⟩,
      ⟨(some 19), .faddr 2 (.t 4), none, []⟩,
      ⟨(some 20), .load1 (.t 19), none, [5]⟩,
      ⟨(some 21), .bin .eql (.t 20) (.c (.int .i64 1)), none, [5, 6]⟩,
      ⟨(some 22), .eqb false (.t 18) (.t 21), none, [6, 5, 0, 2, 3, 1, 7, 4]⟩,
      ⟨(some 6), .mov (.t 22), none, [7, 6, 5, 3, 2, 1, 0, 4, 8]⟩])
  (.ret))), 23, [.t 6]⟩
def xf59l0 : XCode := .seq (.reg [⟨(some 9), .bin .lss (.t 8) (.t 7), none, []⟩])
  (.seq (.cond (.t 9) .skip (.exit 0))
  (.seq (.block 1 (.seq (.reg [⟨(some 10), .mov (.t 8), none, []⟩,
        ⟨(some 5), .mov (.t 10), none, []⟩])
    (.seq (.reg [⟨(some 11), .mov (.t 1), none, []⟩,
        ⟨(some 12), .mov (.t 0), none, []⟩,
        ⟨(some 13), .mov (.t 5), none, []⟩,
        ⟨(some 14), .iaddr 3 (.t 12) (.t 13), none, []⟩,
        ⟨(some 15), .loadn 3 (.t 14), none, []⟩,
        ⟨(some 16), .call (.t 11) [.t 15], none, []⟩])
    (.cond (.t 16) (.seq (.reg [⟨(some 17), .mov (.t 5), none, []⟩,
          ⟨(some 4), .mov (.t 17), none, []⟩])
      (.ret)) .skip))))
  (.reg [⟨(some 18), .bin .add (.t 8) (.c (.int .i64 1)), none, []⟩,
      ⟨(some 8), .mov (.t 18), none, []⟩])))
def xf59 : XFunc := ⟨.seq (.reg [⟨(some 4), .mov (.c (.int .i64 0)), none, []⟩])
  (.seq (.seq (.reg [⟨(some 6), .mov (.t 0), none, []⟩,
      ⟨(some 7), .len (.t 6), none, []⟩,
      ⟨(some 8), .mov (.c (.int .i64 0)), none, []⟩])
  (.block 0 (.loop xf59l0)))
  (.seq (.reg [⟨(some 4), .mov (.c (.int .i64 (-1))), none, []⟩])
  (.ret))), 19, [.t 4]⟩
def xf60 : XFunc := ⟨.seq (.reg [⟨(some 6), .mov (.c (.bool false)), none, []⟩])
  (.seq (.reg [⟨(some 7), .mov (.t 1), none, []⟩,
      ⟨(some 8), .mov (.t 0), none, []⟩,
      ⟨(some 9), .bin .leq (.t 7) (.t 8), none, []⟩,
      ⟨(some 10), .mov (.t 9), none, []⟩,
      ⟨(some 11), .mov (.t 0), (some (10, true)), []⟩,
      ⟨(some 12), .mov (.t 2), (some (10, true)), []⟩,
      ⟨(some 13), .bin .leq (.t 11) (.t 12), (some (10, true)), []⟩,
      ⟨(some 14), .pick (.t 10) (.t 13) (.c (.bool false)), none, []⟩,
      ⟨(some 6), .mov (.t 14), none, []⟩])
  (.ret)), 15, [.t 6]⟩
def xf80 : XFunc := ⟨.seq (.reg [⟨(some 6), .mov (.c (.int .i64 0)), none, []⟩])
  (.seq (.reg [⟨(some 7), .mov (.t 0), none, []⟩,
      ⟨(some 8), .mov (.t 1), none, []⟩,
      ⟨(some 9), .mov (.t 2), none, []⟩,
      ⟨(some 10), .call (.c (.fn 60 [] [])) [.t 7, .t 8, .t 9], none, []⟩,
      ⟨(some 11), .call (.c (.fn 34 [] [])) [.t 10, .c (.int .i64 2)], none, []⟩,
      ⟨(some 6), .mov (.t 11), none, []⟩])
  (.ret)), 12, [.t 6]⟩
def xf81 : XFunc := ⟨.seq (.reg [⟨(some 4), .mov (.c (.int .i64 0)), none, []⟩])
  (.seq (.reg [⟨(some 5), .mov (.t 0), none, []⟩,
      ⟨(some 6), .len (.t 5), none, []⟩,
      ⟨(some 7), .mov (.t 1), none, []⟩,
      ⟨(some 8), .bin .leq (.t 6) (.t 7), none, []⟩,
      ⟨(some 9), .call (.c (.fn 34 [] [])) [.t 8, .c (.int .i64 8)], none, []⟩,
      ⟨(some 4), .mov (.t 9), none, []⟩])
  (.ret)), 10, [.t 4]⟩
def xf82l0 : XCode := .seq (.reg [⟨(some 12), .bin .lss (.t 11) (.t 10), none, []⟩])
  (.seq (.cond (.t 12) .skip (.exit 0))
  (.seq (.block 1 (.seq (.reg [⟨(some 13), .mov (.t 11), none, []⟩,
        ⟨(some 14), .iaddr 3 (.t 9) (.t 11), none, []⟩,
        ⟨(some 15), .loadn 3 (.t 14), none, []⟩,
        ⟨(some 7), .new 45 [.int .i64 0, .int .i64 0, .int .i64 0], none, []⟩,
        ⟨(some 6), .mov (.t 13), none, []⟩,
        ⟨none, .store 3 (.t 7) (.t 15), none, []⟩])
    (.seq (.reg [⟨(some 16), .mov (.t 1), none, []⟩,
        ⟨(some 17), .loadn 3 (.t 7), none, []⟩,
        ⟨(some 18), .call (.t 16) [.t 17], none, []⟩,
        ⟨(some 8), .mov (.t 18), none, []⟩])
    (.seq (.reg [⟨(some 19), .mov (.t 8), none, []⟩,
        ⟨(some 20), .bin .neq (.t 19) (.c (.int .i64 0)), none, []⟩])
    (.cond (.t 20) (.seq (.reg [⟨(some 21), .mov (.t 6), none, []⟩,
          ⟨(some 22), .mov (.t 8), none, []⟩,
          ⟨(some 4), .mov (.t 21), none, []⟩,
          ⟨(some 5), .mov (.t 22), none, []⟩])
      (.ret)) .skip)))))
  (.reg [⟨(some 23), .bin .add (.t 11) (.c (.int .i64 1)), none, []⟩,
      ⟨(some 11), .mov (.t 23), none, []⟩])))
def xf82 : XFunc := ⟨.seq (.reg [⟨(some 4), .mov (.c (.int .i64 0)), none, []⟩,
      ⟨(some 5), .mov (.c (.int .i64 0)), none, []⟩])
  (.seq (.seq (.reg [⟨(some 9), .mov (.t 0), none, []⟩,
      ⟨(some 10), .len (.t 9), none, []⟩,
      ⟨(some 11), .mov (.c (.int .i64 0)), none, []⟩])
  (.block 0 (.loop xf82l0)))
  (.seq (.reg [⟨(some 4), .mov (.c (.int .i64 0)), none, []⟩,
      ⟨(some 5), .mov (.c (.int .i64 0)), none, []⟩])
  (.ret))), 24, [.t 4, .t 5]⟩
def xf83 : XFunc := ⟨.seq (.reg [⟨(some 1), .box 45 (.t 0), none, []⟩,
      ⟨(some 2), .mov (.c (.int .i64 0)), none, []⟩])
  (.seq (.dreg [⟨(some 3), .faddr 0 (.t 1), none, []⟩,
      ⟨(some 4), .load1 (.t 3), none, [0]⟩,
      ⟨(some 5), .call (.c (.fn 37 [] [])) [.t 4], none, [0, 1]⟩,
      ⟨(some 6), .faddr 1 (.t 1), none, []⟩,
      ⟨(some 7), .load1 (.t 6), none, [3]⟩,
      ⟨(some 8), .call (.c (.fn 37 [] [])) [.t 7], none, [1, 0, 3, 2, 4]⟩,
      ⟨(some 9), .faddr 2 (.t 1), none, []⟩,
      ⟨(some 10), .load1 (.t 9), none, [6]⟩,
      ⟨(some 11), .call (.c (.fn 60 [] [])) [.t 10, .c (.int .i64 0), .c (.int .i64 1)], none, [4, 2, 3, 0, 1, 6, 5, 7]⟩,
      ⟨(some 12), .call (.c (.fn 34 [] [])) [.t 11, .c (.int .i64 15)], none, [7, 5, 6, 1, 0, 3, 2, 4, 8]⟩,
      ⟨(some 13), .buildSlice 33 1 3 false [.int .i64 0, .int .i64 0, .int .i64 0] [(0, 1, .t 5), (1, 1, .t 8), (2, 1, .t 12)], none, [8, 6, 7, 4, 3, 1, 0, 9, 5, 2]⟩,
      ⟨(some 14), .call (.c (.fn 35 [] [])) [.t 13], none, [2, 5, 0, 1, 3, 4, 7, 6, 8, 9, 10]⟩,
      ⟨(some 2), .mov (.t 14), none, [10, 9, 8, 7, 6, 5, 4, 3, 2, 1, 0, 11]⟩])
  (.ret)), 15, [.t 2]⟩
def xf84l0 : XCode := .seq (.reg [⟨(some 12), .bin .lss (.t 11) (.t 10), none, []⟩])
  (.seq (.cond (.t 12) .skip (.exit 0))
  (.seq (.block 1 (.seq (.reg [⟨(some 13), .mov (.t 11), none, []⟩,
        ⟨(some 14), .iaddr 1 (.t 9) (.t 11), none, []⟩,
        ⟨(some 15), .load1 (.t 14), none, []⟩,
        ⟨(some 6), .mov (.t 13), none, []⟩,
        ⟨(some 7), .mov (.t 15), none, []⟩])
    (.seq (.reg [⟨(some 16), .mov (.t 1), none, []⟩,
        ⟨(some 17), .mov (.t 7), none, []⟩,
        ⟨(some 18), .call (.t 16) [.t 17], none, []⟩,
        ⟨(some 8), .mov (.t 18), none, []⟩])
    (.seq (.reg [⟨(some 19), .mov (.t 8), none, []⟩,
        ⟨(some 20), .bin .neq (.t 19) (.c (.int .i64 0)), none, []⟩])
    (.cond (.t 20) (.seq (.reg [⟨(some 21), .mov (.t 6), none, []⟩,
          ⟨(some 22), .mov (.t 8), none, []⟩,
          ⟨(some 4), .mov (.t 21), none, []⟩,
          ⟨(some 5), .mov (.t 22), none, []⟩])
      (.ret)) .skip)))))
  (.reg [⟨(some 23), .bin .add (.t 11) (.c (.int .i64 1)), none, []⟩,
      ⟨(some 11), .mov (.t 23), none, []⟩])))
def xf84 : XFunc := ⟨.seq (.reg [⟨(some 4), .mov (.c (.int .i64 0)), none, []⟩,
      ⟨(some 5), .mov (.c (.int .i64 0)), none, []⟩])
  (.seq (.seq (.reg [⟨(some 9), .mov (.t 0), none, []⟩,
      ⟨(some 10), .len (.t 9), none, []⟩,
      ⟨(some 11), .mov (.c (.int .i64 0)), none, []⟩])
  (.block 0 (.loop xf84l0)))
  (.seq (.reg [⟨(some 4), .mov (.c (.int .i64 0)), none, []⟩,
      ⟨(some 5), .mov (.c (.int .i64 0)), none, []⟩])
  (.ret))), 24, [.t 4, .t 5]⟩
def xf85l0 : XCode := .seq (.reg [⟨(some 12), .bin .lss (.t 11) (.t 10), none, []⟩])
  (.seq (.cond (.t 12) .skip (.exit 0))
  (.seq (.block 1 (.seq (.reg [⟨(some 13), .mov (.t 11), none, []⟩,
        ⟨(some 14), .iaddr 1 (.t 9) (.t 11), none, []⟩,
        ⟨(some 15), .load1 (.t 14), none, []⟩,
        ⟨(some 7), .mov (.t 13), none, []⟩,
        ⟨(some 8), .mov (.t 15), none, []⟩])
    (.seq (.reg [⟨(some 16), .mov (.t 7), none, []⟩,
        ⟨(some 17), .mov (.t 0), none, []⟩,
        ⟨(some 18), .bin .neq (.t 16) (.t 17), none, []⟩,
        ⟨(some 19), .mov (.t 18), none, []⟩,
        ⟨(some 20), .mov (.t 8), (some (19, true)), []⟩,
        ⟨(some 21), .mov (.t 1), (some (19, true)), []⟩,
        ⟨(some 22), .bin .eql (.t 20) (.t 21), (some (19, true)), []⟩,
        ⟨(some 23), .pick (.t 19) (.t 22) (.c (.bool false)), none, []⟩])
    (.cond (.t 23) (.seq (.reg [⟨(some 6), .mov (.c (.bool true)), none, []⟩])
      (.ret)) .skip))))
  (.reg [⟨(some 24), .bin .add (.t 11) (.c (.int .i64 1)), none, []⟩,
      ⟨(some 11), .mov (.t 24), none, []⟩])))
def xf85 : XFunc := ⟨.seq (.reg [⟨(some 6), .mov (.c (.bool false)), none, []⟩])
  (.seq (.seq (.reg [⟨(some 9), .mov (.t 2), none, []⟩,
      ⟨(some 10), .len (.t 9), none, []⟩,
      ⟨(some 11), .mov (.c (.int .i64 0)), none, []⟩])
  (.block 0 (.loop xf85l0)))
  (.seq (.reg [⟨(some 6), .mov (.c (.bool false)), none, []⟩])
  (.ret))), 25, [.t 6]⟩
structure SrLCode (X : FuncId → Option XFunc) : Prop where
  h3 : X 3 = some xf3
  h6 : X 6 = some xf6
  h7 : X 7 = some xf7
  h8 : X 8 = some xf8
  h9 : X 9 = some xf9
  h10 : X 10 = some xf10
  h11 : X 11 = some xf11
  h12 : X 12 = some xf12
  h13 : X 13 = some xf13
  h30 : X 30 = some xf30
  h31 : X 31 = some xf31
  h32 : X 32 = some xf32
  h33 : X 33 = some xf33
  h34 : X 34 = some xf34
  h35 : X 35 = some xf35
  h36 : X 36 = some xf36
  h37 : X 37 = some xf37
  h38 : X 38 = some xf38
  h55 : X 55 = some xf55
  h56 : X 56 = some xf56
  h57 : X 57 = some xf57
  h58 : X 58 = some xf58
  h59 : X 59 = some xf59
  h60 : X 60 = some xf60
  h80 : X 80 = some xf80
  h81 : X 81 = some xf81
  h82 : X 82 = some xf82
  h83 : X 83 = some xf83
  h84 : X 84 = some xf84
  h85 : X 85 = some xf85
end Go.Proofs.Ytjbegiaceekgcab.Eng
