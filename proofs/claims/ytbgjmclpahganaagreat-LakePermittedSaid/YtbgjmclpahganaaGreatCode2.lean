/-
  CODE of VVio.
-/
import Derived.Test.YtbgjmclpahganaaGreatEngY
import Derived.Test.YtbgjmclpahganaaGreatCode1
namespace Go.Proofs.YtbgjmclpahganaaGreat.Eng
set_option linter.unusedSimpArgs false
set_option linter.unusedVariables false
def xf4 : XFunc := ⟨.seq (.reg [⟨(some 3), .box 26 (.t 0), none, []⟩,
      ⟨(some 4), .box 28 (.t 1), none, []⟩,
      ⟨(some 5), .box 54 (.t 2), none, []⟩,
      ⟨(some 6), .mov (.c (.bool false)), none, []⟩])
  (.seq (.seq (.reg [⟨(some 12), .call (.c (.fn 8 [] [])) [], none, []⟩,
      ⟨(some 13), .un .not (.t 12), none, []⟩])
  (.cond (.t 13) (.seq (.reg [⟨(some 6), .mov (.c (.bool false)), none, []⟩])
    (.ret)) .skip))
  (.seq (.seq (.reg [⟨(some 14), .loadn 3 (.t 3), none, []⟩,
      ⟨(some 15), .call (.c (.fn 9 [] [])) [.t 14], none, []⟩,
      ⟨(some 16), .un .not (.t 15), none, []⟩,
      ⟨(some 17), .mov (.t 16), none, []⟩,
      ⟨(some 18), .faddr 10 (.t 5), (some (17, false)), []⟩,
      ⟨(some 19), .load1 (.t 18), (some (17, false)), []⟩,
      ⟨(some 20), .len (.t 19), (some (17, false)), []⟩,
      ⟨(some 21), .call (.c (.fn 10 [] [])) [.t 20], (some (17, false)), []⟩,
      ⟨(some 22), .un .not (.t 21), (some (17, false)), []⟩,
      ⟨(some 23), .pick (.t 17) (.c (.bool true)) (.t 22), none, []⟩])
  (.cond (.t 23) (.seq (.reg [⟨(some 6), .mov (.c (.bool true)), none, []⟩])
    (.ret)) .skip))
  (.seq (.dreg [⟨(some 25), .loadn 3 (.t 3), none, []⟩,
      ⟨(some 26), .call (.c (.fn 12 [] [])) [.t 25], none, [0]⟩,
      ⟨(some 27), .loadn 2 (.t 4), none, []⟩,
      ⟨(some 28), .loadn 11 (.t 5), none, []⟩,
      ⟨(some 29), .call (.c (.fn 19 [] [])) [.t 28], none, [0, 1, 3]⟩,
      ⟨(some 30), .call (.c (.fn 18 [] [])) [.t 26, .t 27, .t 29], none, [3, 0, 4, 2, 1]⟩,
      ⟨(some 24), .mov (.t 30), none, [1, 2, 4, 0, 3, 5]⟩,
      ⟨(some 31), .extract (.t 24) 0, none, [5, 3, 0, 4, 2, 1, 6]⟩,
      ⟨(some 32), .extract (.t 24) 1, none, [5, 3, 0, 4, 2, 1, 6]⟩,
      ⟨(some 7), .new 56 [.int .i64 0, .int .i64 0, .int .i64 0], none, []⟩,
      ⟨none, .store 3 (.t 7) (.t 31), none, [6, 4, 3, 2, 1, 0, 5, 7, 9]⟩,
      ⟨(some 8), .mov (.t 32), none, [9, 7, 6, 5, 4, 3, 2, 1, 0, 10, 8]⟩])
  (.seq (.reg [⟨(some 33), .loadn 3 (.t 3), none, []⟩,
      ⟨(some 34), .call (.c (.fn 20 [] [])) [.t 33], none, []⟩,
      ⟨(some 9), .mov (.t 34), none, []⟩])
  (.seq (.seq (.reg [⟨(some 35), .mov (.t 9), none, []⟩,
      ⟨(some 36), .bin .eql (.t 35) (.c (.int .i64 0)), none, []⟩])
  (.cond (.t 36) (.reg [⟨(some 37), .loadn 3 (.t 3), none, []⟩,
        ⟨(some 38), .faddr 0 (.t 5), none, []⟩,
        ⟨(some 39), .loadn 10 (.t 38), none, []⟩,
        ⟨(some 40), .call (.c (.fn 21 [] [])) [.t 37, .t 39], none, []⟩,
        ⟨(some 9), .mov (.t 40), none, []⟩]) .skip))
  (.seq (.seq (.dreg [⟨(some 41), .loadn 3 (.t 3), none, []⟩,
      ⟨(some 42), .call (.c (.fn 12 [] [])) [.t 41], none, [0]⟩,
      ⟨(some 43), .faddr 0 (.t 5), none, []⟩,
      ⟨(some 44), .loadn 10 (.t 43), none, [2]⟩,
      ⟨(some 45), .call (.c (.fn 22 [] [])) [.t 42, .t 44], none, [2, 0, 3, 1]⟩,
      ⟨(some 46), .mov (.t 9), none, []⟩,
      ⟨(some 47), .bin .neq (.t 45) (.t 46), none, [1, 3, 0, 2, 5, 4]⟩])
  (.cond (.t 47) (.seq (.reg [⟨(some 6), .mov (.c (.bool false)), none, []⟩])
    (.ret)) .skip))
  (.seq (.seq (.reg [⟨(some 48), .loadn 3 (.t 3), none, []⟩,
      ⟨(some 49), .loadn 2 (.t 4), none, []⟩,
      ⟨(some 50), .call (.c (.fn 14 [] [])) [.t 48, .t 49], none, []⟩,
      ⟨(some 9), .mov (.t 50), none, []⟩])
  (.seq (.reg [⟨(some 51), .mov (.t 9), none, []⟩,
      ⟨(some 52), .bin .eql (.t 51) (.c (.int .i64 0)), none, []⟩])
  (.cond (.t 52) (.reg [⟨(some 53), .loadn 3 (.t 3), none, []⟩,
        ⟨(some 54), .loadn 11 (.t 5), none, []⟩,
        ⟨(some 55), .call (.c (.fn 23 [] [])) [.t 53, .t 54], none, []⟩,
        ⟨(some 9), .mov (.t 55), none, []⟩]) .skip)))
  (.seq (.seq (.reg [⟨(some 56), .mov (.t 9), none, []⟩,
      ⟨(some 57), .bin .neq (.t 56) (.c (.int .i64 0)), none, []⟩])
  (.cond (.t 57) (.seq (.reg [⟨(some 58), .mov (.t 8), none, []⟩,
        ⟨(some 59), .mov (.t 9), none, []⟩,
        ⟨(some 60), .bin .eql (.t 58) (.t 59), none, []⟩,
        ⟨(some 61), .mov (.t 60), none, []⟩,
        ⟨(some 62), .loadn 3 (.t 7), (some (61, true)), []⟩,
        ⟨(some 63), .build [.int .i64 0, .int .i64 0, .int .i64 0] [], (some (61, true)), []⟩,
        ⟨(some 64), .eqA false (.s [(0, 1, false, .c 0), (1, 1, false, .c 0), (2, 1, false, .c 0)]) (.t 62) (.t 63), (some (61, true)), []⟩,
        ⟨(some 65), .pick (.t 61) (.t 64) (.c (.bool false)), none, []⟩,
        ⟨(some 6), .mov (.t 65), none, []⟩])
    (.ret)) .skip))
  (.seq (.reg [⟨(some 67), .loadn 3 (.t 3), none, []⟩,
      ⟨(some 68), .loadn 2 (.t 4), none, []⟩,
      ⟨(some 69), .loadn 11 (.t 5), none, []⟩,
      ⟨(some 70), .call (.c (.fn 24 [] [])) [.t 67, .t 68, .t 69], none, []⟩,
      ⟨(some 66), .mov (.t 70), none, []⟩,
      ⟨(some 71), .extract (.t 66) 0, none, []⟩,
      ⟨(some 72), .extract (.t 66) 1, none, []⟩,
      ⟨(some 10), .new 56 [.int .i64 0, .int .i64 0, .int .i64 0], none, []⟩,
      ⟨none, .store 3 (.t 10) (.t 71), none, []⟩,
      ⟨(some 11), .mov (.t 72), none, []⟩])
  (.seq (.reg [⟨(some 73), .mov (.t 8), none, []⟩,
      ⟨(some 74), .mov (.t 11), none, []⟩,
      ⟨(some 75), .bin .eql (.t 73) (.t 74), none, []⟩,
      ⟨(some 76), .mov (.t 75), none, []⟩,
      ⟨(some 77), .loadn 3 (.t 7), (some (76, true)), []⟩,
      ⟨(some 78), .loadn 3 (.t 10), (some (76, true)), []⟩,
      ⟨(some 79), .eqA false (.s [(0, 1, false, .c 0), (1, 1, false, .c 0), (2, 1, false, .c 0)]) (.t 77) (.t 78), (some (76, true)), []⟩,
      ⟨(some 80), .pick (.t 76) (.t 79) (.c (.bool false)), none, []⟩,
      ⟨(some 6), .mov (.t 80), none, []⟩])
  (.ret))))))))))), 81, [.t 6]⟩
def xf18 : XFunc := ⟨.seq (.reg [⟨(some 3), .box 26 (.t 0), none, []⟩,
      ⟨(some 4), .box 28 (.t 1), none, []⟩,
      ⟨(some 5), .box 54 (.t 2), none, []⟩,
      ⟨(some 6), .new 56 [.int .i64 0, .int .i64 0, .int .i64 0], none, []⟩,
      ⟨(some 7), .mov (.c (.int .i64 0)), none, []⟩])
  (.seq (.reg [⟨(some 13), .loadn 3 (.t 3), none, []⟩,
      ⟨(some 14), .loadn 2 (.t 4), none, []⟩,
      ⟨(some 15), .loadn 11 (.t 5), none, []⟩,
      ⟨(some 16), .call (.c (.fn 51 [] [])) [.t 13, .t 14, .t 15], none, []⟩,
      ⟨(some 12), .mov (.t 16), none, []⟩,
      ⟨(some 17), .extract (.t 12) 0, none, []⟩,
      ⟨(some 18), .extract (.t 12) 1, none, []⟩,
      ⟨(some 8), .new 123 [.nils, .nils, .int .i64 0, .int .i64 0, .int .i64 0, .int .i64 0, .int .i64 0, .int .i64 0, .int .i64 0, .int .i64 0, .int .i64 0, .int .i64 0, .int .i64 0, .int .i64 0, .int .i64 0], none, []⟩,
      ⟨none, .store 15 (.t 8) (.t 17), none, []⟩,
      ⟨(some 9), .mov (.t 18), none, []⟩])
  (.seq (.seq (.reg [⟨(some 19), .mov (.t 9), none, []⟩,
      ⟨(some 20), .bin .neq (.t 19) (.c (.int .i64 0)), none, []⟩])
  (.cond (.t 20) (.seq (.reg [⟨(some 21), .build [.int .i64 0, .int .i64 0, .int .i64 0] [], none, []⟩,
        ⟨(some 22), .mov (.t 9), none, []⟩,
        ⟨none, .store 3 (.t 6) (.t 21), none, []⟩,
        ⟨(some 7), .mov (.t 22), none, []⟩])
    (.ret)) .skip))
  (.seq (.reg [⟨(some 24), .loadn 15 (.t 8), none, []⟩,
      ⟨(some 25), .faddr 10 (.t 5), none, []⟩,
      ⟨(some 26), .load1 (.t 25), none, []⟩,
      ⟨(some 27), .call (.c (.fn 52 [] [])) [.t 24, .t 26], none, []⟩,
      ⟨(some 23), .mov (.t 27), none, []⟩,
      ⟨(some 28), .extract (.t 23) 0, none, []⟩,
      ⟨(some 29), .extract (.t 23) 1, none, []⟩,
      ⟨(some 30), .extract (.t 23) 2, none, []⟩,
      ⟨(some 11), .new 56 [.int .i64 0, .int .i64 0, .int .i64 0], none, []⟩,
      ⟨(some 10), .mov (.t 28), none, []⟩,
      ⟨none, .store 3 (.t 11) (.t 29), none, []⟩,
      ⟨(some 9), .mov (.t 30), none, []⟩])
  (.seq (.reg [⟨(some 31), .loadn 3 (.t 11), none, []⟩,
      ⟨(some 32), .mov (.t 9), none, []⟩,
      ⟨none, .store 3 (.t 6) (.t 31), none, []⟩,
      ⟨(some 7), .mov (.t 32), none, []⟩])
  (.ret))))), 33, [.cn 6 3, .t 7]⟩
def xf19 : XFunc := ⟨.seq (.reg [⟨(some 1), .box 54 (.t 0), none, []⟩,
      ⟨(some 2), .new 54 [.int .i64 0, .int .i64 0, .int .i64 0, .int .i64 0, .int .i64 0, .int .i64 0, .int .i64 0, .int .i64 0, .int .i64 0, .int .i64 0, .nils], none, []⟩])
  (.seq (.dreg [⟨(some 3), .faddr 0 (.t 1), none, []⟩,
      ⟨(some 4), .loadn 10 (.t 3), none, [0]⟩,
      ⟨(some 5), .faddr 10 (.t 1), none, []⟩,
      ⟨(some 6), .load1 (.t 5), none, [2]⟩,
      ⟨(some 7), .call (.c (.fn 13 [] [])) [.t 6], none, [2, 3]⟩,
      ⟨(some 8), .build [.int .i64 0, .int .i64 0, .int .i64 0, .int .i64 0, .int .i64 0, .int .i64 0, .int .i64 0, .int .i64 0, .int .i64 0, .int .i64 0, .nils] [(0, 10, .t 4), (10, 1, .t 7)], none, [3, 2, 0, 4, 1]⟩,
      ⟨none, .store 11 (.t 2) (.t 8), none, [3, 2, 1, 0, 4, 5]⟩])
  (.ret)), 9, [.cn 2 11]⟩
def xf21 : XFunc := ⟨.seq (.reg [⟨(some 2), .box 26 (.t 0), none, []⟩,
      ⟨(some 3), .box 52 (.t 1), none, []⟩,
      ⟨(some 4), .mov (.c (.int .i64 0)), none, []⟩])
  (.seq (.seq (.reg [⟨(some 6), .faddr 0 (.t 2), none, []⟩,
      ⟨(some 7), .loadn 1 (.t 6), none, []⟩,
      ⟨(some 8), .faddr 0 (.t 3), none, []⟩,
      ⟨(some 9), .loadn 5 (.t 8), none, []⟩,
      ⟨(some 10), .call (.c (.fn 54 [] [])) [.t 7, .t 9], none, []⟩,
      ⟨(some 5), .mov (.t 10), none, []⟩])
  (.seq (.reg [⟨(some 11), .mov (.t 5), none, []⟩,
      ⟨(some 12), .bin .neq (.t 11) (.c (.int .i64 0)), none, []⟩])
  (.cond (.t 12) (.seq (.reg [⟨(some 13), .mov (.t 5), none, []⟩,
        ⟨(some 4), .mov (.t 13), none, []⟩])
    (.ret)) .skip)))
  (.seq (.reg [⟨(some 14), .faddr 1 (.t 2), none, []⟩,
      ⟨(some 15), .loadn 1 (.t 14), none, []⟩,
      ⟨(some 16), .faddr 5 (.t 3), none, []⟩,
      ⟨(some 17), .loadn 5 (.t 16), none, []⟩,
      ⟨(some 18), .call (.c (.fn 54 [] [])) [.t 15, .t 17], none, []⟩,
      ⟨(some 4), .mov (.t 18), none, []⟩])
  (.ret))), 19, [.t 4]⟩
def xf22 : XFunc := ⟨.seq (.reg [⟨(some 2), .box 26 (.t 0), none, []⟩,
      ⟨(some 3), .box 52 (.t 1), none, []⟩,
      ⟨(some 4), .mov (.c (.int .i64 0)), none, []⟩])
  (.seq (.reg [⟨(some 8), .loadn 3 (.t 2), none, []⟩,
      ⟨(some 9), .call (.c (.fn 55 [] [])) [.t 8], none, []⟩,
      ⟨(some 7), .mov (.t 9), none, []⟩,
      ⟨(some 10), .extract (.t 7) 0, none, []⟩,
      ⟨(some 11), .extract (.t 7) 1, none, []⟩,
      ⟨(some 5), .new 104 [.nils, .nils, .int .i64 0], none, []⟩,
      ⟨none, .store 3 (.t 5) (.t 10), none, []⟩,
      ⟨(some 6), .mov (.t 11), none, []⟩])
  (.seq (.seq (.reg [⟨(some 12), .mov (.t 6), none, []⟩,
      ⟨(some 13), .bin .neq (.t 12) (.c (.int .i64 0)), none, []⟩])
  (.cond (.t 13) (.seq (.reg [⟨(some 14), .mov (.t 6), none, []⟩,
        ⟨(some 4), .mov (.t 14), none, []⟩])
    (.ret)) .skip))
  (.seq (.reg [⟨(some 15), .loadn 3 (.t 5), none, []⟩,
      ⟨(some 16), .faddr 0 (.t 3), none, []⟩,
      ⟨(some 17), .loadn 5 (.t 16), none, []⟩,
      ⟨(some 18), .faddr 5 (.t 3), none, []⟩,
      ⟨(some 19), .loadn 5 (.t 18), none, []⟩,
      ⟨(some 20), .buildSlice 50 5 2 true [.int .i64 0, .int .i64 0, .int .i64 0, .int .i64 0, .int .i64 0, .int .i64 0, .int .i64 0, .int .i64 0, .int .i64 0, .int .i64 0] [(0, 5, .t 17), (5, 5, .t 19)], none, []⟩,
      ⟨(some 21), .call (.c (.fn 56 [] [])) [.t 15, .t 20], none, []⟩,
      ⟨(some 4), .mov (.t 21), none, []⟩])
  (.ret)))), 22, [.t 4]⟩
def xf23 : XFunc := ⟨.seq (.reg [⟨(some 2), .box 26 (.t 0), none, []⟩,
      ⟨(some 3), .box 54 (.t 1), none, []⟩,
      ⟨(some 4), .mov (.c (.int .i64 0)), none, []⟩])
  (.seq (.seq (.reg [⟨(some 6), .loadn 3 (.t 2), none, []⟩,
      ⟨(some 7), .faddr 0 (.t 3), none, []⟩,
      ⟨(some 8), .loadn 10 (.t 7), none, []⟩,
      ⟨(some 9), .call (.c (.fn 21 [] [])) [.t 6, .t 8], none, []⟩,
      ⟨(some 5), .mov (.t 9), none, []⟩])
  (.seq (.reg [⟨(some 10), .mov (.t 5), none, []⟩,
      ⟨(some 11), .bin .neq (.t 10) (.c (.int .i64 0)), none, []⟩])
  (.cond (.t 11) (.seq (.reg [⟨(some 12), .mov (.t 5), none, []⟩,
        ⟨(some 4), .mov (.t 12), none, []⟩])
    (.ret)) .skip)))
  (.seq (.reg [⟨(some 13), .faddr 10 (.t 3), none, []⟩,
      ⟨(some 14), .load1 (.t 13), none, []⟩,
      ⟨(some 15), .call (.c (.fn 15 [] [])) [.t 14], none, []⟩,
      ⟨(some 4), .mov (.t 15), none, []⟩])
  (.ret))), 16, [.t 4]⟩
def xf24l0 : XCode := .seq (.seq (.reg [⟨(some 28), .mov (.t 12), none, []⟩,
      ⟨(some 29), .mov (.t 11), none, []⟩,
      ⟨(some 30), .len (.t 29), none, []⟩,
      ⟨(some 31), .bin .lss (.t 28) (.t 30), none, []⟩])
  (.cond (.t 31) .skip (.exit 0)))
  (.seq (.block 1 (.seq (.reg [⟨(some 35), .loadn 3 (.t 3), none, []⟩,
        ⟨(some 36), .faddr 0 (.t 5), none, []⟩,
        ⟨(some 37), .loadn 10 (.t 36), none, []⟩,
        ⟨(some 38), .mov (.t 11), none, []⟩,
        ⟨(some 39), .mov (.t 12), none, []⟩,
        ⟨(some 40), .call (.c (.fn 57 [] [])) [.t 35, .t 37, .t 38, .t 39], none, []⟩,
        ⟨(some 34), .mov (.t 40), none, []⟩,
        ⟨(some 41), .extract (.t 34) 0, none, []⟩,
        ⟨(some 42), .extract (.t 34) 1, none, []⟩,
        ⟨(some 13), .new 56 [.int .i64 0, .int .i64 0, .int .i64 0], none, []⟩,
        ⟨none, .store 3 (.t 13) (.t 41), none, []⟩,
        ⟨(some 14), .mov (.t 42), none, []⟩])
    (.seq (.reg [⟨(some 43), .mov (.t 14), none, []⟩])
    (.cond (.t 43) (.seq (.reg [⟨(some 44), .loadn 3 (.t 13), none, []⟩,
          ⟨none, .store 3 (.t 6) (.t 44), none, []⟩,
          ⟨(some 7), .mov (.c (.int .i64 0)), none, []⟩])
      (.ret)) .skip))))
  (.reg [⟨(some 32), .mov (.t 12), none, []⟩,
      ⟨(some 33), .bin .add (.t 32) (.c (.int .i64 1)), none, []⟩,
      ⟨(some 12), .mov (.t 33), none, []⟩]))
def xf24 : XFunc := ⟨.seq (.reg [⟨(some 3), .box 26 (.t 0), none, []⟩,
      ⟨(some 4), .box 28 (.t 1), none, []⟩,
      ⟨(some 5), .box 54 (.t 2), none, []⟩,
      ⟨(some 6), .new 56 [.int .i64 0, .int .i64 0, .int .i64 0], none, []⟩,
      ⟨(some 7), .mov (.c (.int .i64 0)), none, []⟩])
  (.seq (.reg [⟨(some 16), .loadn 3 (.t 3), none, []⟩,
      ⟨(some 17), .loadn 2 (.t 4), none, []⟩,
      ⟨(some 18), .faddr 10 (.t 5), none, []⟩,
      ⟨(some 19), .load1 (.t 18), none, []⟩,
      ⟨(some 20), .call (.c (.fn 16 [] [])) [.t 16, .t 17, .t 19], none, []⟩,
      ⟨(some 15), .mov (.t 20), none, []⟩,
      ⟨(some 21), .extract (.t 15) 0, none, []⟩,
      ⟨(some 22), .extract (.t 15) 1, none, []⟩,
      ⟨(some 23), .extract (.t 15) 2, none, []⟩,
      ⟨(some 9), .new 35 [.int .i64 0, .int .i64 0], none, []⟩,
      ⟨(some 8), .mov (.t 21), none, []⟩,
      ⟨none, .store 2 (.t 9) (.t 22), none, []⟩,
      ⟨(some 10), .mov (.t 23), none, []⟩])
  (.seq (.reg [⟨(some 24), .loadn 2 (.t 4), none, []⟩,
      ⟨(some 25), .buildSlice 28 2 1 true [.int .i64 0, .int .i64 0] [(0, 2, .t 24)], none, []⟩,
      ⟨(some 26), .mov (.t 8), none, []⟩,
      ⟨(some 27), .append 28 2 16 (.t 25) (.t 26), none, []⟩,
      ⟨(some 11), .mov (.t 27), none, []⟩])
  (.seq (.seq (.reg [⟨(some 12), .mov (.c (.int .i64 1)), none, []⟩])
  (.block 0 (.loop xf24l0)))
  (.seq (.seq (.reg [⟨(some 45), .mov (.t 10), none, []⟩,
      ⟨(some 46), .un .not (.t 45), none, []⟩])
  (.cond (.t 46) (.seq (.reg [⟨(some 47), .build [.int .i64 0, .int .i64 0, .int .i64 0] [], none, []⟩,
        ⟨none, .store 3 (.t 6) (.t 47), none, []⟩,
        ⟨(some 7), .mov (.c (.int .i64 22)), none, []⟩])
    (.ret)) .skip))
  (.seq (.reg [⟨(some 48), .build [.int .i64 0, .int .i64 0, .int .i64 0] [], none, []⟩,
      ⟨none, .store 3 (.t 6) (.t 48), none, []⟩,
      ⟨(some 7), .mov (.c (.int .i64 12)), none, []⟩])
  (.ret)))))), 49, [.cn 6 3, .t 7]⟩
def xf51 : XFunc := ⟨.seq (.reg [⟨(some 3), .box 26 (.t 0), none, []⟩,
      ⟨(some 4), .box 28 (.t 1), none, []⟩,
      ⟨(some 5), .box 54 (.t 2), none, []⟩,
      ⟨(some 6), .new 123 [.nils, .nils, .int .i64 0, .int .i64 0, .int .i64 0, .int .i64 0, .int .i64 0, .int .i64 0, .int .i64 0, .int .i64 0, .int .i64 0, .int .i64 0, .int .i64 0, .int .i64 0, .int .i64 0], none, []⟩,
      ⟨(some 7), .mov (.c (.int .i64 0)), none, []⟩])
  (.seq (.reg [⟨(some 12), .loadn 3 (.t 3), none, []⟩,
      ⟨(some 13), .loadn 2 (.t 4), none, []⟩,
      ⟨(some 14), .call (.c (.fn 44 [] [])) [.t 12, .t 13], none, []⟩,
      ⟨(some 11), .mov (.t 14), none, []⟩,
      ⟨(some 15), .extract (.t 11) 0, none, []⟩,
      ⟨(some 16), .extract (.t 11) 1, none, []⟩,
      ⟨(some 8), .new 108 [.nils, .nils, .int .i64 0, .int .i64 0, .int .i64 0], none, []⟩,
      ⟨none, .store 5 (.t 8) (.t 15), none, []⟩,
      ⟨(some 9), .mov (.t 16), none, []⟩])
  (.seq (.seq (.reg [⟨(some 17), .mov (.t 9), none, []⟩,
      ⟨(some 18), .bin .neq (.t 17) (.c (.int .i64 0)), none, []⟩])
  (.cond (.t 18) (.seq (.reg [⟨(some 19), .build [.nils, .nils, .int .i64 0, .int .i64 0, .int .i64 0, .int .i64 0, .int .i64 0, .int .i64 0, .int .i64 0, .int .i64 0, .int .i64 0, .int .i64 0, .int .i64 0, .int .i64 0, .int .i64 0] [], none, []⟩,
        ⟨(some 20), .mov (.t 9), none, []⟩,
        ⟨none, .store 15 (.t 6) (.t 19), none, []⟩,
        ⟨(some 7), .mov (.t 20), none, []⟩])
    (.ret)) .skip))
  (.seq (.reg [⟨(some 21), .loadn 5 (.t 8), none, []⟩,
      ⟨(some 22), .faddr 0 (.t 5), none, []⟩,
      ⟨(some 23), .faddr 0 (.t 22), none, []⟩,
      ⟨(some 24), .loadn 5 (.t 23), none, []⟩,
      ⟨(some 25), .faddr 0 (.t 5), none, []⟩,
      ⟨(some 26), .faddr 5 (.t 25), none, []⟩,
      ⟨(some 27), .loadn 5 (.t 26), none, []⟩,
      ⟨(some 28), .build [.int .i64 0, .int .i64 0, .int .i64 0, .int .i64 0, .int .i64 0, .int .i64 0, .int .i64 0, .int .i64 0, .int .i64 0, .int .i64 0] [(0, 5, .t 24), (5, 5, .t 27)], none, []⟩,
      ⟨(some 29), .build [.nils, .nils, .int .i64 0, .int .i64 0, .int .i64 0, .int .i64 0, .int .i64 0, .int .i64 0, .int .i64 0, .int .i64 0, .int .i64 0, .int .i64 0, .int .i64 0, .int .i64 0, .int .i64 0] [(0, 5, .t 21), (5, 10, .t 28)], none, []⟩,
      ⟨(some 10), .new 123 [.nils, .nils, .int .i64 0, .int .i64 0, .int .i64 0, .int .i64 0, .int .i64 0, .int .i64 0, .int .i64 0, .int .i64 0, .int .i64 0, .int .i64 0, .int .i64 0, .int .i64 0, .int .i64 0], none, []⟩,
      ⟨none, .store 15 (.t 10) (.t 29), none, []⟩])
  (.seq (.reg [⟨(some 30), .fn true 84 [] [.t 10], none, []⟩,
      ⟨(some 31), .fn true 85 [] [.t 5], none, []⟩,
      ⟨(some 32), .buildSlice 159 1 2 false [.nilfn, .nilfn] [(0, 1, .t 30), (1, 1, .t 31)], none, []⟩,
      ⟨(some 33), .call (.c (.fn 77 [] [])) [.t 32], none, []⟩,
      ⟨(some 9), .mov (.t 33), none, []⟩])
  (.seq (.reg [⟨(some 34), .loadn 15 (.t 10), none, []⟩,
      ⟨(some 35), .mov (.t 9), none, []⟩,
      ⟨none, .store 15 (.t 6) (.t 34), none, []⟩,
      ⟨(some 7), .mov (.t 35), none, []⟩])
  (.ret)))))), 36, [.cn 6 15, .t 7]⟩
def xf52a0 : XCode := .seq (.reg [⟨(some 8), .new 116 [.int .i64 0, .int .i64 0, .int .i64 0, .int .i64 0], none, []⟩,
      ⟨none, .store 4 (.t 8) (.t 25), none, []⟩])
  (.reg [⟨(some 9), .mov (.t 26), none, []⟩])
def xf52b0 : XCode := .block 1 (.seq (.reg [⟨(some 27), .load1 (.t 7), none, []⟩,
        ⟨(some 28), .len (.t 27), none, []⟩,
        ⟨(some 29), .bin .sub (.t 28) (.c (.int .i64 1)), none, []⟩,
        ⟨(some 10), .mov (.t 29), none, []⟩])
    (.seq (.seq (.reg [⟨(some 30), .mov (.t 9), none, []⟩,
        ⟨(some 31), .bin .neq (.t 30) (.c (.int .i64 0)), none, []⟩])
    (.cond (.t 31) (.seq (.reg [⟨(some 32), .mov (.t 10), none, []⟩,
          ⟨(some 33), .build [.int .i64 0, .int .i64 0, .int .i64 0] [], none, []⟩,
          ⟨(some 34), .mov (.t 9), none, []⟩,
          ⟨none, .store 1 (.t 4) (.t 32), none, []⟩,
          ⟨none, .store 3 (.t 5) (.t 33), none, []⟩,
          ⟨none, .store 1 (.t 6) (.t 34), none, []⟩])
      (.ret)) .skip))
    (.seq (.dreg [⟨(some 35), .load1 (.t 7), none, []⟩,
        ⟨(some 36), .faddr 0 (.t 2), none, []⟩,
        ⟨(some 37), .faddr 0 (.t 36), none, [1]⟩,
        ⟨(some 38), .loadn 3 (.t 37), none, [1, 2]⟩,
        ⟨(some 39), .faddr 0 (.t 8), none, []⟩,
        ⟨(some 40), .loadn 2 (.t 39), none, [4]⟩,
        ⟨(some 41), .call (.c (.fn 86 [] [])) [.t 38, .t 40], none, [4, 2, 1, 5, 3]⟩,
        ⟨(some 42), .buildSlice 167 6 1 true [.int .i64 0, .int .i64 0, .int .i64 0, .int .i64 0, .int .i64 0, .int .i64 0] [(0, 6, .t 41)], none, [3, 5, 1, 2, 4, 6]⟩,
        ⟨(some 43), .append 167 6 48 (.t 35) (.t 42), none, [4, 2, 1, 5, 3, 6, 7, 0]⟩,
        ⟨none, .store 1 (.t 7) (.t 43), none, [7, 6, 5, 4, 3, 2, 1, 0, 8]⟩])
    (.seq (.reg [⟨(some 45), .loadn 15 (.t 2), none, []⟩,
        ⟨(some 46), .load1 (.t 7), none, []⟩,
        ⟨(some 47), .call (.c (.fn 87 [] [])) [.t 45, .t 46], none, []⟩,
        ⟨(some 44), .mov (.t 47), none, []⟩,
        ⟨(some 48), .extract (.t 44) 0, none, []⟩,
        ⟨(some 49), .extract (.t 44) 1, none, []⟩,
        ⟨(some 11), .new 56 [.int .i64 0, .int .i64 0, .int .i64 0], none, []⟩,
        ⟨none, .store 3 (.t 11) (.t 48), none, []⟩,
        ⟨(some 12), .mov (.t 49), none, []⟩])
    (.seq (.reg [⟨(some 50), .mov (.t 12), none, []⟩])
    (.cond (.t 50) (.seq (.dreg [⟨(some 51), .mov (.t 10), none, []⟩,
          ⟨(some 52), .loadn 3 (.t 11), none, []⟩,
          ⟨none, .store 1 (.t 4) (.t 51), none, [0]⟩,
          ⟨none, .store 3 (.t 5) (.t 52), none, [0, 2, 1]⟩,
          ⟨none, .store 1 (.t 6) (.c (.int .i64 0)), none, [2, 1, 0, 3]⟩])
      (.ret)) .skip))))))
def xf52 : XFunc := ⟨.seq (.reg [⟨(some 2), .box 123 (.t 0), none, []⟩,
      ⟨(some 4), .new 3 [.int .i64 0], none, []⟩,
      ⟨(some 5), .new 56 [.int .i64 0, .int .i64 0, .int .i64 0], none, []⟩,
      ⟨(some 6), .new 36 [.int .i64 0], none, []⟩])
  (.seq (.reg [⟨(some 13), .faddr 0 (.t 2), none, []⟩,
      ⟨(some 14), .faddr 0 (.t 13), none, []⟩,
      ⟨(some 15), .loadn 3 (.t 14), none, []⟩,
      ⟨(some 16), .faddr 0 (.t 2), none, []⟩,
      ⟨(some 17), .faddr 3 (.t 16), none, []⟩,
      ⟨(some 18), .loadn 2 (.t 17), none, []⟩,
      ⟨(some 19), .call (.c (.fn 86 [] [])) [.t 15, .t 18], none, []⟩,
      ⟨(some 20), .buildSlice 167 6 1 true [.int .i64 0, .int .i64 0, .int .i64 0, .int .i64 0, .int .i64 0, .int .i64 0] [(0, 6, .t 19)], none, []⟩,
      ⟨(some 7), .new 169 [.nils], none, []⟩,
      ⟨none, .store 1 (.t 7) (.t 20), none, []⟩])
  (.seq (.seq (.reg [⟨(some 21), .faddr 0 (.t 2), none, []⟩,
      ⟨(some 22), .loadn 5 (.t 21), none, []⟩,
      ⟨(some 23), .mov (.t 1), none, []⟩,
      ⟨(some 24), .call (.c (.fn 46 [] [])) [.t 22, .t 23], none, []⟩])
  (.block 0 (.rangeF (.t 24) [25, 26] xf52a0 xf52b0)))
  (.seq (.reg [⟨(some 53), .mov (.t 1), none, []⟩,
      ⟨(some 54), .len (.t 53), none, []⟩,
      ⟨(some 55), .build [.int .i64 0, .int .i64 0, .int .i64 0] [], none, []⟩,
      ⟨none, .store 1 (.t 4) (.t 54), none, []⟩,
      ⟨none, .store 3 (.t 5) (.t 55), none, []⟩,
      ⟨none, .store 1 (.t 6) (.c (.int .i64 12)), none, []⟩])
  (.ret)))), 56, [.c1 4, .cn 5 3, .c1 6]⟩
def xf54 : XFunc := ⟨.seq (.reg [⟨(some 2), .box 24 (.t 0), none, []⟩,
      ⟨(some 3), .box 50 (.t 1), none, []⟩,
      ⟨(some 4), .mov (.c (.int .i64 0)), none, []⟩])
  (.seq (.seq (.reg [⟨(some 5), .loadn 1 (.t 2), none, []⟩,
      ⟨(some 6), .faddr 0 (.t 3), none, []⟩,
      ⟨(some 7), .faddr 0 (.t 6), none, []⟩,
      ⟨(some 8), .load1 (.t 7), none, []⟩,
      ⟨(some 9), .call (.c (.fn 89 [] [])) [.t 5, .t 8], none, []⟩,
      ⟨(some 10), .un .not (.t 9), none, []⟩,
      ⟨(some 11), .mov (.t 10), none, []⟩,
      ⟨(some 12), .loadn 1 (.t 2), (some (11, false)), []⟩,
      ⟨(some 13), .faddr 0 (.t 3), (some (11, false)), []⟩,
      ⟨(some 14), .faddr 1 (.t 13), (some (11, false)), []⟩,
      ⟨(some 15), .load1 (.t 14), (some (11, false)), []⟩,
      ⟨(some 16), .call (.c (.fn 89 [] [])) [.t 12, .t 15], (some (11, false)), []⟩,
      ⟨(some 17), .un .not (.t 16), (some (11, false)), []⟩,
      ⟨(some 18), .pick (.t 11) (.c (.bool true)) (.t 17), none, []⟩,
      ⟨(some 19), .mov (.t 18), none, []⟩,
      ⟨(some 20), .faddr 2 (.t 3), (some (19, false)), []⟩,
      ⟨(some 21), .load1 (.t 20), (some (19, false)), []⟩,
      ⟨(some 22), .call (.c (.fn 27 [] [])) [.t 21, .c (.int .i64 0), .c (.int .i64 1000000)], (some (19, false)), []⟩,
      ⟨(some 23), .un .not (.t 22), (some (19, false)), []⟩,
      ⟨(some 24), .pick (.t 19) (.c (.bool true)) (.t 23), none, []⟩,
      ⟨(some 25), .mov (.t 24), none, []⟩,
      ⟨(some 26), .faddr 3 (.t 3), (some (25, false)), []⟩,
      ⟨(some 27), .load1 (.t 26), (some (25, false)), []⟩,
      ⟨(some 28), .call (.c (.fn 27 [] [])) [.t 27, .c (.int .i64 0), .c (.int .i64 1000000)], (some (25, false)), []⟩,
      ⟨(some 29), .un .not (.t 28), (some (25, false)), []⟩,
      ⟨(some 30), .pick (.t 25) (.c (.bool true)) (.t 29), none, []⟩,
      ⟨(some 31), .mov (.t 30), none, []⟩,
      ⟨(some 32), .faddr 4 (.t 3), (some (31, false)), []⟩,
      ⟨(some 33), .load1 (.t 32), (some (31, false)), []⟩,
      ⟨(some 34), .call (.c (.fn 27 [] [])) [.t 33, .c (.int .i64 1), .c (.int .i64 200)], (some (31, false)), []⟩,
      ⟨(some 35), .un .not (.t 34), (some (31, false)), []⟩,
      ⟨(some 36), .pick (.t 31) (.c (.bool true)) (.t 35), none, []⟩])
  (.cond (.t 36) (.seq (.reg [⟨(some 4), .mov (.c (.int .i64 2)), none, []⟩])
    (.ret)) .skip))
  (.seq (.seq (.reg [⟨(some 37), .faddr 0 (.t 3), none, []⟩,
      ⟨(some 38), .faddr 0 (.t 37), none, []⟩,
      ⟨(some 39), .load1 (.t 38), none, []⟩,
      ⟨(some 40), .faddr 0 (.t 3), none, []⟩,
      ⟨(some 41), .faddr 1 (.t 40), none, []⟩,
      ⟨(some 42), .load1 (.t 41), none, []⟩,
      ⟨(some 43), .bin .gtr (.t 39) (.t 42), none, []⟩])
  (.cond (.t 43) (.seq (.reg [⟨(some 4), .mov (.c (.int .i64 9)), none, []⟩])
    (.ret)) .skip))
  (.seq (.reg [⟨(some 4), .mov (.c (.int .i64 0)), none, []⟩])
  (.ret)))), 44, [.t 4]⟩
def xf56 : XFunc := ⟨.seq (.reg [⟨(some 2), .box 104 (.t 0), none, []⟩,
      ⟨(some 3), .box 165 (.t 1), none, []⟩,
      ⟨(some 4), .mov (.c (.int .i64 0)), none, []⟩])
  (.seq (.reg [⟨(some 8), .load1 (.t 3), none, []⟩,
      ⟨(some 9), .len (.t 8), none, []⟩,
      ⟨(some 10), .fn true 93 [] [.t 2, .t 3], none, []⟩,
      ⟨(some 11), .call (.c (.fn 74 [] [])) [.t 9, .t 10], none, []⟩,
      ⟨(some 7), .mov (.t 11), none, []⟩,
      ⟨(some 12), .extract (.t 7) 0, none, []⟩,
      ⟨(some 13), .extract (.t 7) 1, none, []⟩,
      ⟨(some 5), .mov (.t 12), none, []⟩,
      ⟨(some 6), .mov (.t 13), none, []⟩])
  (.seq (.reg [⟨(some 14), .mov (.t 6), none, []⟩,
      ⟨(some 4), .mov (.t 14), none, []⟩])
  (.ret))), 15, [.t 4]⟩
def xf57l0 : XCode := .seq (.seq (.reg [⟨(some 78), .mov (.t 16), none, []⟩,
      ⟨(some 79), .bin .lss (.t 78) (.c (.int .i64 4)), none, []⟩])
  (.cond (.t 79) .skip (.exit 2)))
  (.seq (.block 3 (.seq (.reg [⟨(some 82), .mov (.t 16), none, []⟩,
        ⟨(some 83), .iaddrA 1 4 (.t 15) (.t 82), none, []⟩,
        ⟨(some 84), .load1 (.t 83), none, []⟩])
    (.cond (.t 84) (.seq (.reg [⟨(some 85), .mov (.t 3), none, []⟩,
          ⟨(some 86), .mov (.t 10), none, []⟩,
          ⟨(some 87), .mov (.t 16), none, []⟩,
          ⟨(some 88), .build [.int .i64 0, .int .i64 0, .int .i64 0] [(0, 1, .t 85), (1, 1, .t 86), (2, 1, .t 87)], none, []⟩,
          ⟨none, .store 3 (.t 8) (.t 88), none, []⟩,
          ⟨(some 9), .mov (.c (.bool true)), none, []⟩])
      (.ret)) .skip)))
  (.reg [⟨(some 80), .mov (.t 16), none, []⟩,
      ⟨(some 81), .bin .add (.t 80) (.c (.int .i64 1)), none, []⟩,
      ⟨(some 16), .mov (.t 81), none, []⟩]))
def xf57l1 : XCode := .seq (.seq (.reg [⟨(some 17), .mov (.t 10), none, []⟩,
      ⟨(some 18), .bin .lss (.t 17) (.c (.int .i64 2)), none, []⟩])
  (.cond (.t 18) .skip (.exit 0)))
  (.seq (.block 1 (.seq (.dreg [⟨(some 21), .loadn 3 (.t 4), none, []⟩,
        ⟨(some 22), .mov (.t 10), none, []⟩,
        ⟨(some 23), .call (.c (.fn 95 [] [])) [.t 21, .t 22], none, [1, 0]⟩,
        ⟨(some 24), .loadn 10 (.t 5), none, []⟩,
        ⟨(some 25), .mov (.t 10), none, []⟩,
        ⟨(some 26), .call (.c (.fn 96 [] [])) [.t 24, .t 25], none, [0, 1, 2, 4, 3]⟩,
        ⟨(some 11), .new 24 [.nils], none, []⟩,
        ⟨(some 12), .new 50 [.int .i64 0, .int .i64 0, .int .i64 0, .int .i64 0, .int .i64 0], none, []⟩,
        ⟨none, .store 1 (.t 11) (.t 23), none, [3, 4, 7, 1, 0, 5, 2, 6]⟩,
        ⟨none, .store 5 (.t 12) (.t 26), none, [6, 4, 3, 2, 1, 0, 8, 5, 7]⟩])
    (.seq (.dreg [⟨(some 27), .loadn 1 (.t 11), none, []⟩,
        ⟨(some 28), .mov (.t 2), none, []⟩,
        ⟨(some 29), .mov (.t 3), none, []⟩,
        ⟨(some 30), .iaddr 2 (.t 28) (.t 29), none, [2, 1]⟩,
        ⟨(some 31), .loadn 2 (.t 30), none, [1, 2, 3]⟩,
        ⟨(some 32), .mov (.t 10), none, []⟩,
        ⟨(some 33), .call (.c (.fn 98 [] [])) [.t 31, .t 32], none, [3, 2, 1, 5, 4]⟩,
        ⟨(some 34), .call (.c (.fn 97 [] [])) [.t 27, .t 33], none, [4, 5, 1, 2, 3, 6, 0]⟩,
        ⟨(some 13), .new 181 [.int .i64 0, .nils, .int .i64 0, .nils], none, []⟩,
        ⟨none, .store 4 (.t 13) (.t 34), none, [6, 5, 4, 3, 2, 1, 0, 7, 8]⟩])
    (.seq (.dreg [⟨(some 35), .loadn 1 (.t 11), none, []⟩,
        ⟨(some 36), .mov (.t 2), none, []⟩,
        ⟨(some 37), .mov (.t 3), none, []⟩,
        ⟨(some 38), .faddr 4 (.t 12), none, []⟩,
        ⟨(some 39), .load1 (.t 38), none, [3]⟩,
        ⟨(some 40), .bin .sub (.t 37) (.t 39), none, [3, 4, 2]⟩,
        ⟨(some 41), .ext true (.c (.int .i64 0)) [.t 40], none, [2, 4, 3, 5]⟩,
        ⟨(some 42), .iaddr 2 (.t 36) (.t 41), none, [5, 3, 4, 2, 6, 1]⟩,
        ⟨(some 43), .loadn 2 (.t 42), none, [1, 6, 2, 4, 3, 5, 7]⟩,
        ⟨(some 44), .mov (.t 10), none, []⟩,
        ⟨(some 45), .call (.c (.fn 98 [] [])) [.t 43, .t 44], none, [7, 5, 3, 4, 2, 6, 1, 9, 8]⟩,
        ⟨(some 46), .call (.c (.fn 97 [] [])) [.t 35, .t 45], none, [8, 9, 1, 6, 2, 4, 3, 5, 7, 10, 0]⟩,
        ⟨(some 14), .new 181 [.int .i64 0, .nils, .int .i64 0, .nils], none, []⟩,
        ⟨none, .store 4 (.t 14) (.t 46), none, [10, 9, 8, 7, 6, 5, 4, 3, 2, 1, 0, 11, 12]⟩])
    (.seq (.dreg [⟨(some 47), .loadn 4 (.t 13), none, []⟩,
        ⟨(some 48), .faddr 0 (.t 12), none, []⟩,
        ⟨(some 49), .faddr 0 (.t 48), none, [1]⟩,
        ⟨(some 50), .load1 (.t 49), none, [1, 2]⟩,
        ⟨(some 51), .call (.c (.fn 100 [] [])) [.t 50], none, [2, 1, 3]⟩,
        ⟨(some 52), .call (.c (.fn 99 [] [])) [.t 47, .t 51], none, [3, 1, 2, 4, 0]⟩,
        ⟨(some 53), .bin .lss (.t 52) (.c (.int .i64 0)), none, [0, 4, 2, 1, 3, 5]⟩,
        ⟨(some 54), .loadn 4 (.t 13), none, []⟩,
        ⟨(some 55), .faddr 0 (.t 12), none, []⟩,
        ⟨(some 56), .faddr 1 (.t 55), none, [8]⟩,
        ⟨(some 57), .load1 (.t 56), none, [8, 9]⟩,
        ⟨(some 58), .call (.c (.fn 100 [] [])) [.t 57], none, [0, 4, 2, 1, 3, 9, 8, 5, 10]⟩,
        ⟨(some 59), .call (.c (.fn 99 [] [])) [.t 54, .t 58], none, [10, 5, 8, 9, 3, 1, 2, 4, 0, 11, 7]⟩,
        ⟨(some 60), .bin .gtr (.t 59) (.c (.int .i64 0)), none, [7, 11, 0, 4, 2, 1, 3, 9, 8, 5, 10, 12]⟩,
        ⟨(some 61), .loadn 4 (.t 14), none, []⟩,
        ⟨(some 62), .loadn 4 (.t 13), none, []⟩,
        ⟨(some 63), .call (.c (.fn 101 [] [])) [.t 61, .t 62], none, [7, 11, 0, 4, 2, 1, 3, 9, 8, 5, 10, 12, 15, 14]⟩,
        ⟨(some 64), .faddr 2 (.t 12), none, []⟩,
        ⟨(some 65), .load1 (.t 64), none, [17]⟩,
        ⟨(some 66), .call (.c (.fn 100 [] [])) [.t 65], none, [14, 15, 12, 10, 5, 8, 9, 3, 1, 2, 4, 0, 11, 7, 17, 16, 18]⟩,
        ⟨(some 67), .call (.c (.fn 99 [] [])) [.t 63, .t 66], none, [18, 17, 14, 15, 12, 10, 5, 8, 9, 3, 1, 2, 4, 0, 11, 7, 19, 16]⟩,
        ⟨(some 68), .bin .gtr (.t 67) (.c (.int .i64 0)), none, [16, 19, 7, 11, 0, 4, 2, 1, 3, 9, 8, 5, 10, 12, 15, 14, 17, 18, 20]⟩,
        ⟨(some 69), .loadn 4 (.t 13), none, []⟩,
        ⟨(some 70), .loadn 4 (.t 14), none, []⟩,
        ⟨(some 71), .call (.c (.fn 101 [] [])) [.t 69, .t 70], none, [16, 19, 7, 11, 0, 4, 2, 1, 3, 9, 8, 5, 10, 12, 15, 14, 17, 18, 20, 23, 22]⟩,
        ⟨(some 72), .faddr 3 (.t 12), none, []⟩,
        ⟨(some 73), .load1 (.t 72), none, [25]⟩,
        ⟨(some 74), .call (.c (.fn 100 [] [])) [.t 73], none, [22, 23, 20, 18, 17, 14, 15, 12, 10, 5, 8, 9, 3, 1, 2, 4, 0, 11, 7, 19, 16, 25, 24, 26]⟩,
        ⟨(some 75), .call (.c (.fn 99 [] [])) [.t 71, .t 74], none, [26, 25, 22, 23, 20, 18, 17, 14, 15, 12, 10, 5, 8, 9, 3, 1, 2, 4, 0, 11, 7, 19, 16, 27, 24]⟩,
        ⟨(some 76), .bin .gtr (.t 75) (.c (.int .i64 0)), none, [24, 27, 16, 19, 7, 11, 0, 4, 2, 1, 3, 9, 8, 5, 10, 12, 15, 14, 17, 18, 20, 23, 22, 25, 26, 28]⟩,
        ⟨(some 77), .build [.bool false, .bool false, .bool false, .bool false] [(0, 1, .t 53), (1, 1, .t 60), (2, 1, .t 68), (3, 1, .t 76)], none, [28, 26, 25, 22, 23, 27, 24, 20, 18, 17, 14, 15, 19, 16, 12, 10, 8, 9, 11, 7, 5, 3, 1, 2, 4, 0, 29, 21, 13, 6]⟩,
        ⟨(some 15), .new 187 [.bool false, .bool false, .bool false, .bool false], none, []⟩,
        ⟨none, .store 4 (.t 15) (.t 77), none, [29, 27, 26, 25, 24, 23, 22, 21, 20, 19, 18, 17, 16, 15, 14, 13, 12, 11, 10, 9, 8, 7, 6, 5, 4, 3, 2, 1, 0, 28, 30, 31]⟩])
    (.seq (.reg [⟨(some 16), .mov (.c (.int .i64 0)), none, []⟩])
    (.block 2 (.loop xf57l0))))))))
  (.reg [⟨(some 19), .mov (.t 10), none, []⟩,
      ⟨(some 20), .bin .add (.t 19) (.c (.int .i64 1)), none, []⟩,
      ⟨(some 10), .mov (.t 20), none, []⟩]))
def xf57 : XFunc := ⟨.seq (.reg [⟨(some 4), .box 26 (.t 0), none, []⟩,
      ⟨(some 5), .box 52 (.t 1), none, []⟩,
      ⟨(some 8), .new 56 [.int .i64 0, .int .i64 0, .int .i64 0], none, []⟩,
      ⟨(some 9), .mov (.c (.bool false)), none, []⟩])
  (.seq (.seq (.reg [⟨(some 10), .mov (.c (.int .i64 0)), none, []⟩])
  (.block 0 (.loop xf57l1)))
  (.seq (.reg [⟨(some 89), .build [.int .i64 0, .int .i64 0, .int .i64 0] [], none, []⟩,
      ⟨none, .store 3 (.t 8) (.t 89), none, []⟩,
      ⟨(some 9), .mov (.c (.bool false)), none, []⟩])
  (.ret))), 90, [.cn 8 3, .t 9]⟩
def xf84 : XFunc := ⟨.seq (.reg [⟨(some 1), .mov (.c (.int .i64 0)), none, []⟩])
  (.seq (.dreg [⟨(some 2), .faddr 0 (.t 0), none, []⟩,
      ⟨(some 3), .faddr 0 (.t 2), none, [0]⟩,
      ⟨(some 4), .loadn 3 (.t 3), none, [0, 1]⟩,
      ⟨(some 5), .faddr 5 (.t 0), none, []⟩,
      ⟨(some 6), .sliceArr 5 2 true (.t 5), none, [3]⟩,
      ⟨(some 7), .call (.c (.fn 56 [] [])) [.t 4, .t 6], none, [3, 1, 0, 4, 2]⟩,
      ⟨(some 1), .mov (.t 7), none, [4, 3, 2, 1, 0, 5]⟩])
  (.ret)), 8, [.t 1]⟩
def xf85 : XFunc := ⟨.seq (.reg [⟨(some 1), .mov (.c (.int .i64 0)), none, []⟩])
  (.seq (.reg [⟨(some 2), .faddr 10 (.t 0), none, []⟩,
      ⟨(some 3), .load1 (.t 2), none, []⟩,
      ⟨(some 4), .call (.c (.fn 45 [] [])) [.t 3], none, []⟩,
      ⟨(some 1), .mov (.t 4), none, []⟩])
  (.ret)), 5, [.t 1]⟩
def xf86l0 : XCode := .seq (.reg [⟨(some 11), .bin .lss (.t 10) (.c (.int .i64 2)), none, []⟩])
  (.seq (.cond (.t 11) .skip (.exit 0))
  (.seq (.block 1 (.seq (.reg [⟨(some 12), .mov (.t 10), none, []⟩,
        ⟨(some 13), .index 1 2 true (.t 9) (.t 10), none, []⟩,
        ⟨(some 7), .new 101 [.nils], none, []⟩,
        ⟨(some 6), .mov (.t 12), none, []⟩,
        ⟨none, .store 1 (.t 7) (.t 13), none, []⟩])
    (.dreg [⟨(some 14), .mov (.t 6), none, []⟩,
        ⟨(some 15), .loadn 1 (.t 7), none, []⟩,
        ⟨(some 16), .mov (.t 6), none, []⟩,
        ⟨(some 17), .iaddrA 1 2 (.t 3) (.t 16), none, [2]⟩,
        ⟨(some 18), .load1 (.t 17), none, [2, 3]⟩,
        ⟨(some 19), .call (.c (.fn 68 [] [])) [.t 15, .t 18], none, [3, 2, 4, 1]⟩,
        ⟨(some 20), .iaddrA 3 2 (.t 5) (.t 14), none, [5, 4, 3, 2, 1, 0]⟩,
        ⟨none, .store 3 (.t 20) (.t 19), none, [4, 3, 2, 1, 0, 5, 6]⟩])))
  (.reg [⟨(some 21), .bin .add (.t 10) (.c (.int .i64 1)), none, []⟩,
      ⟨(some 10), .mov (.t 21), none, []⟩])))
def xf86 : XFunc := ⟨.seq (.reg [⟨(some 2), .box 104 (.t 0), none, []⟩,
      ⟨(some 3), .box 106 (.t 1), none, []⟩,
      ⟨(some 4), .new 167 [.int .i64 0, .int .i64 0, .int .i64 0, .int .i64 0, .int .i64 0, .int .i64 0], none, []⟩])
  (.seq (.reg [⟨(some 5), .new 167 [.int .i64 0, .int .i64 0, .int .i64 0, .int .i64 0, .int .i64 0, .int .i64 0], none, []⟩])
  (.seq (.seq (.reg [⟨(some 8), .faddr 0 (.t 2), none, []⟩,
      ⟨(some 9), .loadn 2 (.t 8), none, []⟩,
      ⟨(some 10), .mov (.c (.int .i64 0)), none, []⟩])
  (.block 0 (.loop xf86l0)))
  (.seq (.reg [⟨(some 22), .loadn 6 (.t 5), none, []⟩,
      ⟨none, .store 6 (.t 4) (.t 22), none, []⟩])
  (.ret)))), 23, [.cn 4 6]⟩
def xf87l0 : XCode := .seq (.reg [⟨(some 43), .bin .lss (.t 42) (.c (.int .i64 4)), none, []⟩])
  (.seq (.cond (.t 43) .skip (.exit 2))
  (.seq (.block 3 (.seq (.reg [⟨(some 44), .mov (.t 42), none, []⟩,
        ⟨(some 45), .index 1 4 false (.t 41) (.t 42), none, []⟩,
        ⟨(some 11), .mov (.t 44), none, []⟩,
        ⟨(some 12), .mov (.t 45), none, []⟩])
    (.seq (.reg [⟨(some 46), .mov (.t 12), none, []⟩])
    (.cond (.t 46) (.seq (.reg [⟨(some 47), .mov (.t 6), none, []⟩,
          ⟨(some 48), .mov (.t 7), none, []⟩,
          ⟨(some 49), .mov (.t 11), none, []⟩,
          ⟨(some 50), .build [.int .i64 0, .int .i64 0, .int .i64 0] [(0, 1, .t 47), (1, 1, .t 48), (2, 1, .t 49)], none, []⟩,
          ⟨none, .store 3 (.t 4) (.t 50), none, []⟩,
          ⟨(some 5), .mov (.c (.bool true)), none, []⟩])
      (.ret)) .skip))))
  (.reg [⟨(some 51), .bin .add (.t 42) (.c (.int .i64 1)), none, []⟩,
      ⟨(some 42), .mov (.t 51), none, []⟩])))
def xf87l1 : XCode := .seq (.reg [⟨(some 19), .bin .lss (.t 18) (.c (.int .i64 2)), none, []⟩])
  (.seq (.cond (.t 19) .skip (.exit 0))
  (.seq (.block 1 (.seq (.reg [⟨(some 20), .mov (.t 18), none, []⟩,
        ⟨(some 21), .index 5 2 true (.t 17) (.t 18), none, []⟩,
        ⟨(some 8), .new 50 [.int .i64 0, .int .i64 0, .int .i64 0, .int .i64 0, .int .i64 0], none, []⟩,
        ⟨(some 7), .mov (.t 20), none, []⟩,
        ⟨none, .store 5 (.t 8) (.t 21), none, []⟩])
    (.seq (.dreg [⟨(some 22), .mov (.t 1), none, []⟩,
        ⟨(some 23), .mov (.t 6), none, []⟩,
        ⟨(some 24), .mov (.t 7), none, []⟩,
        ⟨(some 25), .iaddr 6 (.t 22) (.t 23), none, [1, 0]⟩,
        ⟨(some 26), .iaddrA 3 2 (.t 25) (.t 24), none, [0, 1, 2, 3]⟩,
        ⟨(some 27), .loadn 3 (.t 26), none, [3, 2, 1, 0, 4]⟩,
        ⟨(some 28), .mov (.t 1), none, []⟩,
        ⟨(some 29), .mov (.t 6), none, []⟩,
        ⟨(some 30), .faddr 4 (.t 8), none, []⟩,
        ⟨(some 31), .load1 (.t 30), none, [8]⟩,
        ⟨(some 32), .bin .sub (.t 29) (.t 31), none, [8, 9, 7]⟩,
        ⟨(some 33), .ext true (.c (.int .i64 0)) [.t 32], none, [7, 9, 8, 10]⟩,
        ⟨(some 34), .mov (.t 7), none, []⟩,
        ⟨(some 35), .iaddr 6 (.t 28) (.t 33), none, [10, 8, 9, 7, 11, 6]⟩,
        ⟨(some 36), .iaddrA 3 2 (.t 35) (.t 34), none, [6, 11, 7, 9, 8, 10, 12, 13]⟩,
        ⟨(some 37), .loadn 3 (.t 36), none, [13, 12, 10, 8, 9, 7, 11, 6, 14]⟩,
        ⟨(some 9), .new 149 [.int .i64 0, .int .i64 0, .int .i64 0], none, []⟩,
        ⟨(some 10), .new 149 [.int .i64 0, .int .i64 0, .int .i64 0], none, []⟩,
        ⟨none, .store 3 (.t 9) (.t 27), none, [17, 4, 3, 2, 1, 0, 5, 16]⟩,
        ⟨none, .store 3 (.t 10) (.t 37), none, [16, 14, 13, 12, 11, 10, 9, 8, 7, 6, 5, 4, 3, 2, 1, 0, 18, 15, 17]⟩])
    (.seq (.reg [⟨(some 38), .loadn 5 (.t 8), none, []⟩,
        ⟨(some 39), .loadn 3 (.t 9), none, []⟩,
        ⟨(some 40), .loadn 3 (.t 10), none, []⟩,
        ⟨(some 41), .call (.c (.fn 120 [] [])) [.t 38, .t 39, .t 40], none, []⟩,
        ⟨(some 42), .mov (.c (.int .i64 0)), none, []⟩])
    (.block 2 (.loop xf87l0))))))
  (.reg [⟨(some 52), .bin .add (.t 18) (.c (.int .i64 1)), none, []⟩,
      ⟨(some 18), .mov (.t 52), none, []⟩])))
def xf87 : XFunc := ⟨.seq (.reg [⟨(some 2), .box 123 (.t 0), none, []⟩,
      ⟨(some 4), .new 56 [.int .i64 0, .int .i64 0, .int .i64 0], none, []⟩,
      ⟨(some 5), .mov (.c (.bool false)), none, []⟩])
  (.seq (.reg [⟨(some 13), .mov (.t 1), none, []⟩,
      ⟨(some 14), .len (.t 13), none, []⟩,
      ⟨(some 15), .bin .sub (.t 14) (.c (.int .i64 1)), none, []⟩,
      ⟨(some 6), .mov (.t 15), none, []⟩])
  (.seq (.seq (.reg [⟨(some 16), .faddr 5 (.t 2), none, []⟩,
      ⟨(some 17), .loadn 10 (.t 16), none, []⟩,
      ⟨(some 18), .mov (.c (.int .i64 0)), none, []⟩])
  (.block 0 (.loop xf87l1)))
  (.seq (.reg [⟨(some 53), .build [.int .i64 0, .int .i64 0, .int .i64 0] [], none, []⟩,
      ⟨none, .store 3 (.t 4) (.t 53), none, []⟩,
      ⟨(some 5), .mov (.c (.bool false)), none, []⟩])
  (.ret)))), 54, [.cn 4 3, .t 5]⟩
def xf93 : XFunc := ⟨.seq (.reg [⟨(some 4), .mov (.c (.int .i64 0)), none, []⟩])
  (.seq (.dreg [⟨(some 5), .mov (.t 0), none, []⟩,
      ⟨(some 6), .faddr 0 (.t 1), none, []⟩,
      ⟨(some 7), .iaddrA 1 2 (.t 6) (.t 5), none, [0, 1]⟩,
      ⟨(some 8), .loadn 1 (.t 7), none, [1, 0, 2]⟩,
      ⟨(some 9), .load1 (.t 2), none, []⟩,
      ⟨(some 10), .mov (.t 0), none, []⟩,
      ⟨(some 11), .iaddr 5 (.t 9) (.t 10), none, [5, 4]⟩,
      ⟨(some 12), .loadn 5 (.t 11), none, [4, 5, 6]⟩,
      ⟨(some 13), .call (.c (.fn 94 [] [])) [.t 8, .t 12], none, [6, 5, 4, 2, 0, 1, 7, 3]⟩,
      ⟨(some 4), .mov (.t 13), none, [7, 6, 5, 4, 3, 2, 1, 0, 8]⟩])
  (.ret)), 14, [.t 4]⟩
def xf94 : XFunc := ⟨.seq (.reg [⟨(some 2), .box 101 (.t 0), none, []⟩,
      ⟨(some 3), .box 50 (.t 1), none, []⟩,
      ⟨(some 4), .mov (.c (.int .i64 0)), none, []⟩])
  (.seq (.dreg [⟨(some 5), .loadn 1 (.t 2), none, []⟩,
      ⟨(some 6), .faddr 0 (.t 3), none, []⟩,
      ⟨(some 7), .faddr 0 (.t 6), none, [1]⟩,
      ⟨(some 8), .load1 (.t 7), none, [1, 2]⟩,
      ⟨(some 9), .call (.c (.fn 122 [] [])) [.t 5, .t 8], none, [2, 1, 3, 0]⟩,
      ⟨(some 10), .un .not (.t 9), none, [0, 3, 1, 2, 4]⟩,
      ⟨(some 11), .mov (.t 10), none, [2, 1, 3, 0, 4, 5]⟩,
      ⟨(some 12), .loadn 1 (.t 2), (some (11, false)), [5, 4, 0, 3, 1, 2, 6]⟩,
      ⟨(some 13), .faddr 0 (.t 3), (some (11, false)), [5, 4, 0, 3, 1, 2, 6]⟩,
      ⟨(some 14), .faddr 1 (.t 13), (some (11, false)), [2, 1, 3, 0, 4, 5, 6, 8]⟩,
      ⟨(some 15), .load1 (.t 14), (some (11, false)), [8, 5, 4, 0, 3, 1, 2, 6, 9]⟩,
      ⟨(some 16), .call (.c (.fn 122 [] [])) [.t 12, .t 15], (some (11, false)), [9, 8, 2, 1, 3, 0, 4, 5, 6, 10, 7]⟩,
      ⟨(some 17), .un .not (.t 16), (some (11, false)), [7, 10, 5, 4, 0, 3, 1, 2, 8, 9, 6, 11]⟩,
      ⟨(some 18), .pick (.t 11) (.c (.bool true)) (.t 17), none, [11, 9, 8, 10, 7, 5, 4, 0, 3, 1, 2, 12, 6]⟩,
      ⟨(some 19), .call (.c (.fn 78 [] [])) [.t 18, .c (.int .i64 2)], none, [6, 12, 2, 1, 3, 0, 4, 5, 7, 10, 8, 9, 11, 13]⟩,
      ⟨(some 20), .faddr 2 (.t 3), none, []⟩,
      ⟨(some 21), .load1 (.t 20), none, [15]⟩,
      ⟨(some 22), .call (.c (.fn 92 [] [])) [.t 21, .c (.int .i64 0), .c (.int .i64 1000000)], none, [13, 11, 9, 8, 10, 7, 5, 4, 0, 3, 1, 2, 12, 6, 15, 14, 16]⟩,
      ⟨(some 23), .un .not (.t 22), none, [16, 14, 15, 6, 12, 2, 1, 3, 0, 4, 5, 7, 10, 8, 9, 11, 13, 17]⟩,
      ⟨(some 24), .mov (.t 23), none, [13, 11, 9, 8, 10, 7, 5, 4, 0, 3, 1, 2, 12, 6, 15, 14, 16, 17, 18]⟩,
      ⟨(some 25), .faddr 3 (.t 3), (some (24, false)), [18, 17, 16, 14, 15, 6, 12, 2, 1, 3, 0, 4, 5, 7, 10, 8, 9, 11, 13, 19]⟩,
      ⟨(some 26), .load1 (.t 25), (some (24, false)), [13, 11, 9, 8, 10, 7, 5, 4, 0, 3, 1, 2, 12, 6, 15, 14, 16, 17, 18, 19, 20]⟩,
      ⟨(some 27), .call (.c (.fn 92 [] [])) [.t 26, .c (.int .i64 0), .c (.int .i64 1000000)], (some (24, false)), [20, 18, 17, 16, 14, 15, 6, 12, 2, 1, 3, 0, 4, 5, 7, 10, 8, 9, 11, 13, 19, 21]⟩,
      ⟨(some 28), .un .not (.t 27), (some (24, false)), [21, 13, 11, 9, 8, 10, 7, 5, 4, 0, 3, 1, 2, 12, 6, 15, 14, 16, 17, 18, 20, 19, 22]⟩,
      ⟨(some 29), .pick (.t 24) (.c (.bool true)) (.t 28), none, [22, 20, 21, 18, 17, 16, 14, 15, 6, 12, 2, 1, 3, 0, 4, 5, 7, 10, 8, 9, 11, 13, 23, 19]⟩,
      ⟨(some 30), .call (.c (.fn 78 [] [])) [.t 29, .c (.int .i64 2)], none, [19, 23, 13, 11, 9, 8, 10, 7, 5, 4, 0, 3, 1, 2, 12, 6, 15, 14, 16, 17, 18, 21, 20, 22, 24]⟩,
      ⟨(some 31), .faddr 4 (.t 3), none, []⟩,
      ⟨(some 32), .load1 (.t 31), none, [26]⟩,
      ⟨(some 33), .call (.c (.fn 92 [] [])) [.t 32, .c (.int .i64 1), .c (.int .i64 200)], none, [24, 22, 20, 21, 18, 17, 16, 14, 15, 6, 12, 2, 1, 3, 0, 4, 5, 7, 10, 8, 9, 11, 13, 23, 19, 26, 25, 27]⟩,
      ⟨(some 34), .un .not (.t 33), none, [27, 25, 26, 19, 23, 13, 11, 9, 8, 10, 7, 5, 4, 0, 3, 1, 2, 12, 6, 15, 14, 16, 17, 18, 21, 20, 22, 24, 28]⟩,
      ⟨(some 35), .call (.c (.fn 78 [] [])) [.t 34, .c (.int .i64 2)], none, [24, 22, 20, 21, 18, 17, 16, 14, 15, 6, 12, 2, 1, 3, 0, 4, 5, 7, 10, 8, 9, 11, 13, 23, 19, 26, 25, 27, 28, 29]⟩,
      ⟨(some 36), .faddr 0 (.t 3), none, []⟩,
      ⟨(some 37), .faddr 0 (.t 36), none, [31]⟩,
      ⟨(some 38), .load1 (.t 37), none, [31, 32]⟩,
      ⟨(some 39), .faddr 0 (.t 3), none, []⟩,
      ⟨(some 40), .faddr 1 (.t 39), none, [34]⟩,
      ⟨(some 41), .load1 (.t 40), none, [34, 35]⟩,
      ⟨(some 42), .bin .gtr (.t 38) (.t 41), none, [35, 34, 32, 31, 36, 33]⟩,
      ⟨(some 43), .call (.c (.fn 78 [] [])) [.t 42, .c (.int .i64 9)], none, [29, 28, 27, 25, 26, 19, 23, 13, 11, 9, 8, 10, 7, 5, 4, 0, 3, 1, 2, 12, 6, 15, 14, 16, 17, 18, 21, 20, 22, 24, 33, 36, 31, 32, 34, 35, 30, 37]⟩,
      ⟨(some 44), .buildSlice 159 1 4 false [.nilfn, .nilfn, .nilfn, .nilfn] [(0, 1, .t 19), (1, 1, .t 30), (2, 1, .t 35), (3, 1, .t 43)], none, [37, 35, 34, 32, 31, 36, 33, 29, 28, 27, 26, 24, 22, 20, 21, 18, 17, 16, 15, 23, 19, 13, 11, 9, 8, 10, 7, 5, 4, 0, 3, 1, 2, 12, 6, 38, 30, 25, 14]⟩,
      ⟨(some 45), .call (.c (.fn 77 [] [])) [.t 44], none, [14, 25, 30, 6, 12, 2, 1, 3, 0, 4, 5, 7, 10, 8, 9, 11, 13, 19, 23, 15, 16, 17, 18, 21, 20, 22, 24, 26, 27, 28, 29, 33, 36, 31, 32, 34, 35, 37, 38, 39]⟩,
      ⟨(some 4), .mov (.t 45), none, [39, 38, 37, 36, 35, 34, 33, 32, 31, 30, 29, 28, 27, 26, 25, 24, 23, 22, 21, 20, 19, 18, 17, 16, 15, 14, 13, 12, 11, 10, 9, 8, 7, 6, 5, 4, 3, 2, 1, 0, 40]⟩])
  (.ret)), 46, [.t 4]⟩
def xf95 : XFunc := ⟨.seq (.reg [⟨(some 2), .box 26 (.t 0), none, []⟩,
      ⟨(some 4), .new 24 [.nils], none, []⟩])
  (.seq (.seq (.reg [⟨(some 5), .mov (.t 1), none, []⟩,
      ⟨(some 6), .bin .eql (.t 5) (.c (.int .i64 0)), none, []⟩])
  (.cond (.t 6) (.seq (.reg [⟨(some 7), .faddr 0 (.t 2), none, []⟩,
        ⟨(some 8), .loadn 1 (.t 7), none, []⟩,
        ⟨none, .store 1 (.t 4) (.t 8), none, []⟩])
    (.ret)) .skip))
  (.seq (.reg [⟨(some 9), .faddr 1 (.t 2), none, []⟩,
      ⟨(some 10), .loadn 1 (.t 9), none, []⟩,
      ⟨none, .store 1 (.t 4) (.t 10), none, []⟩])
  (.ret))), 11, [.cn 4 1]⟩
def xf96 : XFunc := ⟨.seq (.reg [⟨(some 2), .box 52 (.t 0), none, []⟩,
      ⟨(some 4), .new 50 [.int .i64 0, .int .i64 0, .int .i64 0, .int .i64 0, .int .i64 0], none, []⟩])
  (.seq (.seq (.reg [⟨(some 5), .mov (.t 1), none, []⟩,
      ⟨(some 6), .bin .eql (.t 5) (.c (.int .i64 0)), none, []⟩])
  (.cond (.t 6) (.seq (.reg [⟨(some 7), .faddr 0 (.t 2), none, []⟩,
        ⟨(some 8), .loadn 5 (.t 7), none, []⟩,
        ⟨none, .store 5 (.t 4) (.t 8), none, []⟩])
    (.ret)) .skip))
  (.seq (.reg [⟨(some 9), .faddr 5 (.t 2), none, []⟩,
      ⟨(some 10), .loadn 5 (.t 9), none, []⟩,
      ⟨none, .store 5 (.t 4) (.t 10), none, []⟩])
  (.ret))), 11, [.cn 4 5]⟩
def xf98 : XFunc := ⟨.seq (.reg [⟨(some 2), .box 28 (.t 0), none, []⟩,
      ⟨(some 4), .mov (.c (.int .i64 0)), none, []⟩])
  (.seq (.seq (.reg [⟨(some 5), .mov (.t 1), none, []⟩,
      ⟨(some 6), .bin .eql (.t 5) (.c (.int .i64 0)), none, []⟩])
  (.cond (.t 6) (.seq (.reg [⟨(some 7), .faddr 0 (.t 2), none, []⟩,
        ⟨(some 8), .load1 (.t 7), none, []⟩,
        ⟨(some 4), .mov (.t 8), none, []⟩])
    (.ret)) .skip))
  (.seq (.reg [⟨(some 9), .faddr 1 (.t 2), none, []⟩,
      ⟨(some 10), .load1 (.t 9), none, []⟩,
      ⟨(some 4), .mov (.t 10), none, []⟩])
  (.ret))), 11, [.t 4]⟩
def xf101 : XFunc := ⟨.seq (.reg [⟨(some 2), .box 181 (.t 0), none, []⟩,
      ⟨(some 3), .box 181 (.t 1), none, []⟩,
      ⟨(some 4), .new 181 [.int .i64 0, .nils, .int .i64 0, .nils], none, []⟩])
  (.seq (.dreg [⟨(some 5), .loadn 4 (.t 2), none, []⟩,
      ⟨(some 6), .loadn 4 (.t 3), none, []⟩,
      ⟨(some 7), .call (.c (.fn 127 [] [])) [.t 6], none, [1]⟩,
      ⟨(some 8), .call (.c (.fn 123 [] [])) [.t 5, .t 7], none, [1, 2, 0]⟩,
      ⟨none, .store 4 (.t 4) (.t 8), none, [2, 1, 0, 3]⟩])
  (.ret)), 9, [.cn 4 4]⟩
def xf120 : XFunc := ⟨.seq (.reg [⟨(some 3), .box 50 (.t 0), none, []⟩,
      ⟨(some 4), .box 149 (.t 1), none, []⟩,
      ⟨(some 5), .box 149 (.t 2), none, []⟩,
      ⟨(some 6), .new 187 [.bool false, .bool false, .bool false, .bool false], none, []⟩])
  (.seq (.dreg [⟨(some 7), .faddr 0 (.t 3), none, []⟩,
      ⟨(some 8), .faddr 0 (.t 7), none, [0]⟩,
      ⟨(some 9), .load1 (.t 8), none, [0, 1]⟩,
      ⟨(some 10), .call (.c (.fn 141 [] [])) [.t 9], none, [1, 0, 2]⟩,
      ⟨(some 11), .loadn 3 (.t 4), none, []⟩,
      ⟨(some 12), .call (.c (.fn 142 [] [])) [.t 10, .t 11, .c (.int .i64 0)], none, [2, 0, 1, 4, 3]⟩,
      ⟨(some 13), .loadn 3 (.t 4), none, []⟩,
      ⟨(some 14), .faddr 0 (.t 3), none, []⟩,
      ⟨(some 15), .faddr 1 (.t 14), none, [7]⟩,
      ⟨(some 16), .load1 (.t 15), none, [7, 8]⟩,
      ⟨(some 17), .call (.c (.fn 141 [] [])) [.t 16], none, [3, 4, 1, 0, 2, 8, 7, 5, 9]⟩,
      ⟨(some 18), .call (.c (.fn 142 [] [])) [.t 13, .t 17, .c (.int .i64 0)], none, [9, 5, 7, 8, 2, 0, 1, 4, 3, 10, 6]⟩,
      ⟨(some 19), .loadn 3 (.t 5), none, []⟩,
      ⟨(some 20), .loadn 3 (.t 4), none, []⟩,
      ⟨(some 21), .faddr 2 (.t 3), none, []⟩,
      ⟨(some 22), .load1 (.t 21), none, [14]⟩,
      ⟨(some 23), .call (.c (.fn 142 [] [])) [.t 19, .t 20, .t 22], none, [6, 10, 3, 4, 1, 0, 2, 8, 7, 5, 9, 14, 11, 15, 13, 12]⟩,
      ⟨(some 24), .loadn 3 (.t 4), none, []⟩,
      ⟨(some 25), .loadn 3 (.t 5), none, []⟩,
      ⟨(some 26), .faddr 3 (.t 3), none, []⟩,
      ⟨(some 27), .load1 (.t 26), none, [19]⟩,
      ⟨(some 28), .call (.c (.fn 142 [] [])) [.t 24, .t 25, .t 27], none, [12, 13, 15, 11, 14, 9, 5, 7, 8, 2, 0, 1, 4, 3, 10, 6, 19, 16, 20, 18, 17]⟩,
      ⟨(some 29), .build [.bool false, .bool false, .bool false, .bool false] [(0, 1, .t 12), (1, 1, .t 18), (2, 1, .t 23), (3, 1, .t 28)], none, [17, 18, 20, 19, 12, 13, 15, 14, 6, 10, 8, 7, 9, 3, 4, 1, 0, 2, 21, 16, 11, 5]⟩,
      ⟨none, .store 4 (.t 6) (.t 29), none, [20, 19, 18, 17, 16, 15, 14, 13, 12, 11, 10, 9, 8, 7, 6, 5, 4, 3, 2, 1, 0, 21, 22]⟩])
  (.ret)), 30, [.cn 6 4]⟩
def xf127 : XFunc := ⟨.seq (.reg [⟨(some 1), .box 181 (.t 0), none, []⟩,
      ⟨(some 2), .new 181 [.int .i64 0, .nils, .int .i64 0, .nils], none, []⟩])
  (.seq (.dreg [⟨(some 3), .faddr 0 (.t 1), none, []⟩,
      ⟨(some 4), .loadn 2 (.t 3), none, [0]⟩,
      ⟨(some 5), .call (.c (.fn 149 [] [])) [.t 4], none, [0, 1]⟩,
      ⟨(some 6), .faddr 2 (.t 1), none, []⟩,
      ⟨(some 7), .loadn 2 (.t 6), none, [3]⟩,
      ⟨(some 8), .build [.int .i64 0, .nils, .int .i64 0, .nils] [(0, 2, .t 5), (2, 2, .t 7)], none, [3, 1, 0, 4, 2]⟩,
      ⟨none, .store 4 (.t 2) (.t 8), none, [4, 3, 1, 0, 2, 5]⟩])
  (.ret)), 9, [.cn 2 4]⟩
def xf141 : XFunc := ⟨.seq (.reg [⟨(some 2), .new 149 [.int .i64 0, .int .i64 0, .int .i64 0], none, []⟩])
  (.seq (.reg [⟨(some 3), .mov (.t 0), none, []⟩,
      ⟨(some 4), .build [.int .i64 0, .int .i64 0, .int .i64 0] [(0, 1, .t 3), (2, 1, .c (.int .i64 1))], none, []⟩,
      ⟨none, .store 3 (.t 2) (.t 4), none, []⟩])
  (.ret)), 5, [.cn 2 3]⟩
def xf142 : XFunc := ⟨.seq (.reg [⟨(some 3), .box 149 (.t 0), none, []⟩,
      ⟨(some 4), .box 149 (.t 1), none, []⟩,
      ⟨(some 6), .mov (.c (.bool false)), none, []⟩])
  (.seq (.reg [⟨(some 8), .faddr 0 (.t 3), none, []⟩,
      ⟨(some 9), .load1 (.t 8), none, []⟩,
      ⟨(some 10), .faddr 0 (.t 4), none, []⟩,
      ⟨(some 11), .load1 (.t 10), none, []⟩,
      ⟨(some 12), .bin .sub (.t 9) (.t 11), none, []⟩,
      ⟨(some 13), .mov (.t 2), none, []⟩,
      ⟨(some 14), .bin .sub (.t 12) (.t 13), none, []⟩,
      ⟨(some 7), .mov (.t 14), none, []⟩])
  (.seq (.seq (.reg [⟨(some 15), .mov (.t 7), none, []⟩,
      ⟨(some 16), .bin .neq (.t 15) (.c (.int .i64 0)), none, []⟩])
  (.cond (.t 16) (.seq (.reg [⟨(some 17), .mov (.t 7), none, []⟩,
        ⟨(some 18), .bin .gtr (.t 17) (.c (.int .i64 0)), none, []⟩,
        ⟨(some 6), .mov (.t 18), none, []⟩])
    (.ret)) .skip))
  (.seq (.reg [⟨(some 19), .faddr 1 (.t 3), none, []⟩,
      ⟨(some 20), .load1 (.t 19), none, []⟩,
      ⟨(some 21), .faddr 2 (.t 4), none, []⟩,
      ⟨(some 22), .load1 (.t 21), none, []⟩,
      ⟨(some 23), .bin .mul (.t 20) (.t 22), none, []⟩,
      ⟨(some 24), .faddr 1 (.t 4), none, []⟩,
      ⟨(some 25), .load1 (.t 24), none, []⟩,
      ⟨(some 26), .faddr 2 (.t 3), none, []⟩,
      ⟨(some 27), .load1 (.t 26), none, []⟩,
      ⟨(some 28), .bin .mul (.t 25) (.t 27), none, []⟩,
      ⟨(some 29), .bin .gtr (.t 23) (.t 28), none, []⟩,
      ⟨(some 6), .mov (.t 29), none, []⟩])
  (.ret)))), 30, [.t 6]⟩
structure VVioCode (X : FuncId → Option XFunc) : Prop where
  runs : VRunsCode X
  h4 : X 4 = some xf4
  h18 : X 18 = some xf18
  h19 : X 19 = some xf19
  h20 : X 20 = some xf20
  h21 : X 21 = some xf21
  h22 : X 22 = some xf22
  h23 : X 23 = some xf23
  h24 : X 24 = some xf24
  h51 : X 51 = some xf51
  h52 : X 52 = some xf52
  h53 : X 53 = some xf53
  h54 : X 54 = some xf54
  h56 : X 56 = some xf56
  h57 : X 57 = some xf57
  h84 : X 84 = some xf84
  h85 : X 85 = some xf85
  h86 : X 86 = some xf86
  h87 : X 87 = some xf87
  h93 : X 93 = some xf93
  h94 : X 94 = some xf94
  h95 : X 95 = some xf95
  h96 : X 96 = some xf96
  h97 : X 97 = some xf97
  h98 : X 98 = some xf98
  h99 : X 99 = some xf99
  h100 : X 100 = some xf100
  h101 : X 101 = some xf101
  h120 : X 120 = some xf120
  h122 : X 122 = some xf122
  h127 : X 127 = some xf127
  h141 : X 141 = some xf141
  h142 : X 142 = some xf142
  h89 : X 89 = some xf89
end Go.Proofs.YtbgjmclpahganaaGreat.Eng

/-
  CODE of VPerm.
-/
namespace Go.Proofs.YtbgjmclpahganaaGreat.Eng
set_option linter.unusedSimpArgs false
set_option linter.unusedVariables false
def xf5 : XFunc := ⟨.seq (.reg [⟨(some 3), .box 26 (.t 0), none, []⟩,
      ⟨(some 4), .box 28 (.t 1), none, []⟩,
      ⟨(some 5), .box 54 (.t 2), none, []⟩,
      ⟨(some 6), .mov (.c (.bool false)), none, []⟩])
  (.seq (.seq (.reg [⟨(some 10), .call (.c (.fn 8 [] [])) [], none, []⟩,
      ⟨(some 11), .un .not (.t 10), none, []⟩])
  (.cond (.t 11) (.seq (.reg [⟨(some 6), .mov (.c (.bool false)), none, []⟩])
    (.ret)) .skip))
  (.seq (.seq (.reg [⟨(some 12), .loadn 3 (.t 3), none, []⟩,
      ⟨(some 13), .call (.c (.fn 9 [] [])) [.t 12], none, []⟩,
      ⟨(some 14), .un .not (.t 13), none, []⟩,
      ⟨(some 15), .mov (.t 14), none, []⟩,
      ⟨(some 16), .faddr 10 (.t 5), (some (15, false)), []⟩,
      ⟨(some 17), .load1 (.t 16), (some (15, false)), []⟩,
      ⟨(some 18), .len (.t 17), (some (15, false)), []⟩,
      ⟨(some 19), .call (.c (.fn 10 [] [])) [.t 18], (some (15, false)), []⟩,
      ⟨(some 20), .un .not (.t 19), (some (15, false)), []⟩,
      ⟨(some 21), .pick (.t 15) (.c (.bool true)) (.t 20), none, []⟩])
  (.cond (.t 21) (.seq (.reg [⟨(some 6), .mov (.c (.bool true)), none, []⟩])
    (.ret)) .skip))
  (.seq (.dreg [⟨(some 23), .loadn 3 (.t 3), none, []⟩,
      ⟨(some 24), .call (.c (.fn 12 [] [])) [.t 23], none, [0]⟩,
      ⟨(some 25), .loadn 2 (.t 4), none, []⟩,
      ⟨(some 26), .loadn 11 (.t 5), none, []⟩,
      ⟨(some 27), .call (.c (.fn 19 [] [])) [.t 26], none, [0, 1, 3]⟩,
      ⟨(some 28), .call (.c (.fn 25 [] [])) [.t 24, .t 25, .t 27], none, [3, 0, 4, 2, 1]⟩,
      ⟨(some 22), .mov (.t 28), none, [1, 2, 4, 0, 3, 5]⟩,
      ⟨(some 29), .extract (.t 22) 0, none, [5, 3, 0, 4, 2, 1, 6]⟩,
      ⟨(some 30), .extract (.t 22) 1, none, [5, 3, 0, 4, 2, 1, 6]⟩,
      ⟨(some 7), .mov (.t 29), none, [6, 4, 3, 2, 1, 0, 5, 7]⟩,
      ⟨(some 8), .mov (.t 30), none, [7, 6, 5, 4, 3, 2, 1, 0, 9, 8]⟩])
  (.seq (.reg [⟨(some 31), .loadn 3 (.t 3), none, []⟩,
      ⟨(some 32), .loadn 2 (.t 4), none, []⟩,
      ⟨(some 33), .call (.c (.fn 14 [] [])) [.t 31, .t 32], none, []⟩,
      ⟨(some 9), .mov (.t 33), none, []⟩])
  (.seq (.seq (.reg [⟨(some 34), .mov (.t 9), none, []⟩,
      ⟨(some 35), .bin .eql (.t 34) (.c (.int .i64 0)), none, []⟩])
  (.cond (.t 35) (.reg [⟨(some 36), .loadn 3 (.t 3), none, []⟩,
        ⟨(some 37), .loadn 11 (.t 5), none, []⟩,
        ⟨(some 38), .call (.c (.fn 23 [] [])) [.t 36, .t 37], none, []⟩,
        ⟨(some 9), .mov (.t 38), none, []⟩]) .skip))
  (.seq (.seq (.reg [⟨(some 39), .mov (.t 9), none, []⟩,
      ⟨(some 40), .bin .eql (.t 39) (.c (.int .i64 0)), none, []⟩,
      ⟨(some 41), .mov (.t 40), none, []⟩,
      ⟨(some 42), .faddr 10 (.t 5), (some (41, true)), []⟩,
      ⟨(some 43), .load1 (.t 42), (some (41, true)), []⟩,
      ⟨(some 44), .len (.t 43), (some (41, true)), []⟩,
      ⟨(some 45), .bin .eql (.t 44) (.c (.int .i64 0)), (some (41, true)), []⟩,
      ⟨(some 46), .pick (.t 41) (.t 45) (.c (.bool false)), none, []⟩])
  (.cond (.t 46) (.reg [⟨(some 9), .mov (.c (.int .i64 10)), none, []⟩]) .skip))
  (.seq (.seq (.reg [⟨(some 47), .mov (.t 9), none, []⟩,
      ⟨(some 48), .bin .neq (.t 47) (.c (.int .i64 0)), none, []⟩])
  (.cond (.t 48) (.seq (.reg [⟨(some 49), .mov (.t 8), none, []⟩,
        ⟨(some 50), .mov (.t 9), none, []⟩,
        ⟨(some 51), .bin .eql (.t 49) (.t 50), none, []⟩,
        ⟨(some 52), .mov (.t 51), none, []⟩,
        ⟨(some 53), .mov (.t 7), (some (52, true)), []⟩,
        ⟨(some 54), .bin .eql (.t 53) (.c (.int .i64 0)), (some (52, true)), []⟩,
        ⟨(some 55), .pick (.t 52) (.t 54) (.c (.bool false)), none, []⟩,
        ⟨(some 6), .mov (.t 55), none, []⟩])
    (.ret)) .skip))
  (.seq (.reg [⟨(some 56), .mov (.t 8), none, []⟩,
      ⟨(some 57), .bin .eql (.t 56) (.c (.int .i64 0)), none, []⟩,
      ⟨(some 58), .mov (.t 57), none, []⟩,
      ⟨(some 59), .mov (.t 7), (some (58, true)), []⟩,
      ⟨(some 60), .loadn 3 (.t 3), (some (58, true)), []⟩,
      ⟨(some 61), .loadn 2 (.t 4), (some (58, true)), []⟩,
      ⟨(some 62), .loadn 11 (.t 5), (some (58, true)), []⟩,
      ⟨(some 63), .call (.c (.fn 26 [] [])) [.t 60, .t 61, .t 62], (some (58, true)), []⟩,
      ⟨(some 64), .bin .eql (.t 59) (.t 63), (some (58, true)), []⟩,
      ⟨(some 65), .pick (.t 58) (.t 64) (.c (.bool false)), none, []⟩,
      ⟨(some 6), .mov (.t 65), none, []⟩])
  (.ret))))))))), 66, [.t 6]⟩
def xf25 : XFunc := ⟨.seq (.reg [⟨(some 3), .box 26 (.t 0), none, []⟩,
      ⟨(some 4), .box 28 (.t 1), none, []⟩,
      ⟨(some 5), .box 54 (.t 2), none, []⟩,
      ⟨(some 6), .mov (.c (.int .i64 0)), none, []⟩,
      ⟨(some 7), .mov (.c (.int .i64 0)), none, []⟩])
  (.seq (.reg [⟨(some 15), .loadn 3 (.t 3), none, []⟩,
      ⟨(some 16), .loadn 2 (.t 4), none, []⟩,
      ⟨(some 17), .loadn 11 (.t 5), none, []⟩,
      ⟨(some 18), .call (.c (.fn 51 [] [])) [.t 15, .t 16, .t 17], none, []⟩,
      ⟨(some 14), .mov (.t 18), none, []⟩,
      ⟨(some 19), .extract (.t 14) 0, none, []⟩,
      ⟨(some 20), .extract (.t 14) 1, none, []⟩,
      ⟨(some 8), .new 123 [.nils, .nils, .int .i64 0, .int .i64 0, .int .i64 0, .int .i64 0, .int .i64 0, .int .i64 0, .int .i64 0, .int .i64 0, .int .i64 0, .int .i64 0, .int .i64 0, .int .i64 0, .int .i64 0], none, []⟩,
      ⟨none, .store 15 (.t 8) (.t 19), none, []⟩,
      ⟨(some 9), .mov (.t 20), none, []⟩])
  (.seq (.seq (.reg [⟨(some 21), .mov (.t 9), none, []⟩,
      ⟨(some 22), .bin .neq (.t 21) (.c (.int .i64 0)), none, []⟩])
  (.cond (.t 22) (.seq (.reg [⟨(some 23), .mov (.t 9), none, []⟩,
        ⟨(some 6), .mov (.c (.int .i64 0)), none, []⟩,
        ⟨(some 7), .mov (.t 23), none, []⟩])
    (.ret)) .skip))
  (.seq (.reg [⟨(some 24), .faddr 10 (.t 5), none, []⟩,
      ⟨(some 25), .load1 (.t 24), none, []⟩,
      ⟨(some 26), .len (.t 25), none, []⟩,
      ⟨(some 10), .mov (.t 26), none, []⟩])
  (.seq (.seq (.reg [⟨(some 27), .mov (.t 10), none, []⟩,
      ⟨(some 28), .bin .eql (.t 27) (.c (.int .i64 0)), none, []⟩])
  (.cond (.t 28) (.seq (.reg [⟨(some 6), .mov (.c (.int .i64 0)), none, []⟩,
        ⟨(some 7), .mov (.c (.int .i64 10)), none, []⟩])
    (.ret)) .skip))
  (.seq (.dreg [⟨(some 30), .loadn 15 (.t 8), none, []⟩,
      ⟨(some 31), .faddr 10 (.t 5), none, []⟩,
      ⟨(some 32), .load1 (.t 31), none, [1]⟩,
      ⟨(some 33), .mov (.t 10), none, []⟩,
      ⟨(some 34), .bin .sub (.t 33) (.c (.int .i64 1)), none, [3]⟩,
      ⟨(some 35), .slice 3 (.t 32) (some (.t 34)) none, none, [3, 1, 4, 2]⟩,
      ⟨(some 36), .call (.c (.fn 58 [] [])) [.t 35, .c (.int .i64 200)], none, [2, 4, 1, 3, 5]⟩,
      ⟨(some 37), .call (.c (.fn 52 [] [])) [.t 30, .t 36], none, [5, 3, 1, 4, 2, 6, 0]⟩,
      ⟨(some 29), .mov (.t 37), none, [0, 6, 2, 4, 1, 3, 5, 7]⟩,
      ⟨(some 38), .extract (.t 29) 0, none, [7, 5, 3, 1, 4, 2, 6, 0, 8]⟩,
      ⟨(some 39), .extract (.t 29) 1, none, [7, 5, 3, 1, 4, 2, 6, 0, 8]⟩,
      ⟨(some 40), .extract (.t 29) 2, none, [7, 5, 3, 1, 4, 2, 6, 0, 8]⟩,
      ⟨(some 12), .new 56 [.int .i64 0, .int .i64 0, .int .i64 0], none, []⟩,
      ⟨(some 11), .mov (.t 38), none, [12, 8, 6, 5, 4, 3, 2, 1, 0, 7, 9]⟩,
      ⟨none, .store 3 (.t 12) (.t 39), none, [9, 8, 7, 6, 5, 4, 3, 2, 1, 0, 13, 10, 12]⟩,
      ⟨(some 13), .mov (.t 40), none, [13, 12, 10, 9, 8, 7, 6, 5, 4, 3, 2, 1, 0, 14, 11]⟩])
  (.seq (.reg [⟨(some 41), .mov (.t 11), none, []⟩,
      ⟨(some 6), .mov (.t 41), none, []⟩,
      ⟨(some 7), .mov (.c (.int .i64 0)), none, []⟩])
  (.ret))))))), 42, [.t 6, .t 7]⟩
def xf26l0 : XCode := .seq (.seq (.reg [⟨(some 16), .mov (.t 8), none, []⟩,
      ⟨(some 17), .bin .lss (.t 16) (.c (.int .i64 200)), none, []⟩])
  (.cond (.t 17) .skip (.exit 0)))
  (.seq (.block 1 (.reg [⟨(some 20), .mov (.t 7), none, []⟩,
        ⟨(some 21), .faddr 10 (.t 5), none, []⟩,
        ⟨(some 22), .load1 (.t 21), none, []⟩,
        ⟨(some 23), .faddr 10 (.t 5), none, []⟩,
        ⟨(some 24), .load1 (.t 23), none, []⟩,
        ⟨(some 25), .len (.t 24), none, []⟩,
        ⟨(some 26), .bin .sub (.t 25) (.c (.int .i64 1)), none, []⟩,
        ⟨(some 27), .iaddr 3 (.t 22) (.t 26), none, []⟩,
        ⟨(some 28), .loadn 3 (.t 27), none, []⟩,
        ⟨(some 29), .buildSlice 73 3 1 true [.int .i64 0, .int .i64 0, .int .i64 0] [(0, 3, .t 28)], none, []⟩,
        ⟨(some 30), .append 73 3 24 (.t 20) (.t 29), none, []⟩,
        ⟨(some 7), .mov (.t 30), none, []⟩]))
  (.reg [⟨(some 18), .mov (.t 8), none, []⟩,
      ⟨(some 19), .bin .add (.t 18) (.c (.int .i64 1)), none, []⟩,
      ⟨(some 8), .mov (.t 19), none, []⟩]))
def xf26l1 : XCode := .seq (.seq (.reg [⟨(some 43), .mov (.t 13), none, []⟩,
      ⟨(some 44), .mov (.t 12), none, []⟩,
      ⟨(some 45), .len (.t 44), none, []⟩,
      ⟨(some 46), .bin .lss (.t 43) (.t 45), none, []⟩])
  (.cond (.t 46) .skip (.exit 2)))
  (.seq (.block 3 (.seq (.reg [⟨(some 50), .loadn 3 (.t 3), none, []⟩,
        ⟨(some 51), .faddr 0 (.t 5), none, []⟩,
        ⟨(some 52), .loadn 10 (.t 51), none, []⟩,
        ⟨(some 53), .mov (.t 12), none, []⟩,
        ⟨(some 54), .mov (.t 13), none, []⟩,
        ⟨(some 55), .call (.c (.fn 57 [] [])) [.t 50, .t 52, .t 53, .t 54], none, []⟩,
        ⟨(some 49), .mov (.t 55), none, []⟩,
        ⟨(some 56), .extract (.t 49) 0, none, []⟩,
        ⟨(some 57), .extract (.t 49) 1, none, []⟩,
        ⟨(some 14), .new 56 [.int .i64 0, .int .i64 0, .int .i64 0], none, []⟩,
        ⟨none, .store 3 (.t 14) (.t 56), none, []⟩,
        ⟨(some 15), .mov (.t 57), none, []⟩])
    (.seq (.reg [⟨(some 58), .mov (.t 15), none, []⟩])
    (.cond (.t 58) (.seq (.reg [⟨(some 59), .mov (.t 13), none, []⟩,
          ⟨(some 60), .bin .sub (.t 59) (.c (.int .i64 1)), none, []⟩,
          ⟨(some 6), .mov (.t 60), none, []⟩])
      (.ret)) .skip))))
  (.reg [⟨(some 47), .mov (.t 13), none, []⟩,
      ⟨(some 48), .bin .add (.t 47) (.c (.int .i64 1)), none, []⟩,
      ⟨(some 13), .mov (.t 48), none, []⟩]))
def xf26 : XFunc := ⟨.seq (.reg [⟨(some 3), .box 26 (.t 0), none, []⟩,
      ⟨(some 4), .box 28 (.t 1), none, []⟩,
      ⟨(some 5), .box 54 (.t 2), none, []⟩,
      ⟨(some 6), .mov (.c (.int .i64 0)), none, []⟩])
  (.seq (.reg [⟨(some 7), .mov (.c .nils), none, []⟩])
  (.seq (.seq (.reg [⟨(some 8), .mov (.c (.int .i64 0)), none, []⟩])
  (.block 0 (.loop xf26l0)))
  (.seq (.reg [⟨(some 32), .loadn 3 (.t 3), none, []⟩,
      ⟨(some 33), .loadn 2 (.t 4), none, []⟩,
      ⟨(some 34), .mov (.t 7), none, []⟩,
      ⟨(some 35), .call (.c (.fn 16 [] [])) [.t 32, .t 33, .t 34], none, []⟩,
      ⟨(some 31), .mov (.t 35), none, []⟩,
      ⟨(some 36), .extract (.t 31) 0, none, []⟩,
      ⟨(some 37), .extract (.t 31) 1, none, []⟩,
      ⟨(some 38), .extract (.t 31) 2, none, []⟩,
      ⟨(some 10), .new 35 [.int .i64 0, .int .i64 0], none, []⟩,
      ⟨(some 9), .mov (.t 36), none, []⟩,
      ⟨none, .store 2 (.t 10) (.t 37), none, []⟩,
      ⟨(some 11), .mov (.t 38), none, []⟩])
  (.seq (.reg [⟨(some 39), .loadn 2 (.t 4), none, []⟩,
      ⟨(some 40), .buildSlice 28 2 1 true [.int .i64 0, .int .i64 0] [(0, 2, .t 39)], none, []⟩,
      ⟨(some 41), .mov (.t 9), none, []⟩,
      ⟨(some 42), .append 28 2 16 (.t 40) (.t 41), none, []⟩,
      ⟨(some 12), .mov (.t 42), none, []⟩])
  (.seq (.seq (.reg [⟨(some 13), .mov (.c (.int .i64 1)), none, []⟩])
  (.block 2 (.loop xf26l1)))
  (.seq (.reg [⟨(some 61), .mov (.t 9), none, []⟩,
      ⟨(some 62), .len (.t 61), none, []⟩,
      ⟨(some 6), .mov (.t 62), none, []⟩])
  (.ret))))))), 63, [.t 6]⟩
def xf58l0 : XCode := .seq (.seq (.reg [⟨(some 34), .mov (.t 8), none, []⟩,
      ⟨(some 35), .mov (.t 7), none, []⟩,
      ⟨(some 36), .len (.t 35), none, []⟩,
      ⟨(some 37), .bin .lss (.t 34) (.t 36), none, []⟩])
  (.cond (.t 37) .skip (.exit 0)))
  (.block 1 (.dreg [⟨(some 38), .mov (.t 8), none, []⟩,
        ⟨(some 39), .mov (.t 7), none, []⟩,
        ⟨(some 40), .mov (.t 8), none, []⟩,
        ⟨(some 41), .slice 3 (.t 39) (some (.t 40)) none, none, [2, 1]⟩,
        ⟨(some 42), .mov (.t 7), none, []⟩,
        ⟨(some 43), .mov (.t 8), none, []⟩,
        ⟨(some 44), .slice 3 (.t 42) none (some (.t 43)), none, [5, 4]⟩,
        ⟨(some 45), .copy 3 (.t 41) (.t 44), none, [4, 5, 1, 2, 6, 3]⟩,
        ⟨(some 46), .bin .add (.t 38) (.t 45), none, [3, 6, 2, 1, 5, 4, 7, 0]⟩,
        ⟨(some 8), .mov (.t 46), none, [6, 5, 4, 3, 2, 1, 0, 7, 8]⟩]))
def xf58 : XFunc := ⟨.seq (.reg [⟨(some 4), .mov (.c .nils), none, []⟩])
  (.seq (.seq (.reg [⟨(some 9), .mov (.t 1), none, []⟩,
      ⟨(some 10), .bin .lss (.t 9) (.c (.int .i64 0)), none, []⟩])
  (.cond (.t 10) (.reg [⟨(some 11), .lenS (.c .nilp), none, []⟩,
        ⟨none, .lenS (.c .nilp), none, []⟩]) .skip))
  (.seq (.reg [⟨(some 13), .mov (.t 0), none, []⟩,
      ⟨(some 14), .len (.t 13), none, []⟩,
      ⟨(some 15), .conv .u64 (.t 14), none, []⟩,
      ⟨(some 16), .mov (.t 1), none, []⟩,
      ⟨(some 17), .conv .u64 (.t 16), none, []⟩,
      ⟨(some 18), .call (.c (.fn 102 [] [])) [.t 15, .t 17], none, []⟩,
      ⟨(some 12), .mov (.t 18), none, []⟩,
      ⟨(some 19), .extract (.t 12) 0, none, []⟩,
      ⟨(some 20), .extract (.t 12) 1, none, []⟩,
      ⟨(some 5), .mov (.t 19), none, []⟩,
      ⟨(some 6), .mov (.t 20), none, []⟩])
  (.seq (.seq (.reg [⟨(some 21), .mov (.t 5), none, []⟩,
      ⟨(some 22), .bin .gtr (.t 21) (.c (.int .u64 0)), none, []⟩,
      ⟨(some 23), .mov (.t 22), none, []⟩,
      ⟨(some 24), .mov (.t 6), (some (23, false)), []⟩,
      ⟨(some 25), .bin .gtr (.t 24) (.c (.int .u64 9223372036854775807)), (some (23, false)), []⟩,
      ⟨(some 26), .pick (.t 23) (.c (.bool true)) (.t 25), none, []⟩])
  (.cond (.t 26) (.reg [⟨(some 27), .lenS (.c .nilp), none, []⟩,
        ⟨none, .lenS (.c .nilp), none, []⟩]) .skip))
  (.seq (.reg [⟨(some 28), .mov (.t 6), none, []⟩,
      ⟨(some 29), .conv .i64 (.t 28), none, []⟩,
      ⟨(some 30), .makeS 73 3 24 [.int .i64 0, .int .i64 0, .int .i64 0] (.t 29) (.t 29), none, []⟩,
      ⟨(some 7), .mov (.t 30), none, []⟩])
  (.seq (.reg [⟨(some 31), .mov (.t 7), none, []⟩,
      ⟨(some 32), .mov (.t 0), none, []⟩,
      ⟨(some 33), .copy 3 (.t 31) (.t 32), none, []⟩,
      ⟨(some 8), .mov (.t 33), none, []⟩])
  (.seq (.block 0 (.loop xf58l0))
  (.seq (.reg [⟨(some 47), .mov (.t 7), none, []⟩,
      ⟨(some 4), .mov (.t 47), none, []⟩])
  (.ret)))))))), 48, [.t 4]⟩
structure VPermCode (X : FuncId → Option XFunc) : Prop where
  h5 : X 5 = some xf5
  h25 : X 25 = some xf25
  h26 : X 26 = some xf26
  h58 : X 58 = some xf58
end Go.Proofs.YtbgjmclpahganaaGreat.Eng
