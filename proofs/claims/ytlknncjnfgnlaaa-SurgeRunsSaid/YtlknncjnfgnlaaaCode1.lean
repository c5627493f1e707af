/-
  CODE of SuA.
-/
import Derived.Test.YtlknncjnfgnlaaaEngY
namespace Go.Proofs.Ytlknncjnfgnlaaa.Eng
set_option linter.unusedSimpArgs false
set_option linter.unusedVariables false
def xf3 : XFunc := ⟨.seq (.reg [⟨(some 3), .box 25 (.t 0), none, []⟩,
      ⟨(some 4), .box 27 (.t 1), none, []⟩,
      ⟨(some 5), .box 29 (.t 2), none, []⟩,
      ⟨(some 6), .mov (.c (.bool false)), none, []⟩])
  (.seq (.seq (.reg [⟨(some 10), .call (.c (.fn 14 [] [])) [], none, []⟩,
      ⟨(some 11), .un .not (.t 10), none, []⟩])
  (.cond (.t 11) (.seq (.reg [⟨(some 6), .mov (.c (.bool false)), none, []⟩])
    (.ret)) .skip))
  (.seq (.reg [⟨(some 13), .loadn 5 (.t 3), none, []⟩,
      ⟨(some 14), .loadn 2 (.t 4), none, []⟩,
      ⟨(some 15), .loadn 2 (.t 5), none, []⟩,
      ⟨(some 16), .call (.c (.fn 15 [] [])) [.t 13, .t 14, .t 15], none, []⟩,
      ⟨(some 12), .mov (.t 16), none, []⟩,
      ⟨(some 17), .extract (.t 12) 0, none, []⟩,
      ⟨(some 18), .extract (.t 12) 1, none, []⟩,
      ⟨(some 7), .new 27 [.int .i64 0, .int .i64 0], none, []⟩,
      ⟨none, .store 2 (.t 7) (.t 17), none, []⟩,
      ⟨(some 8), .mov (.t 18), none, []⟩])
  (.seq (.reg [⟨(some 19), .loadn 5 (.t 3), none, []⟩,
      ⟨(some 20), .call (.c (.fn 16 [] [])) [.t 19], none, []⟩,
      ⟨(some 9), .mov (.t 20), none, []⟩])
  (.seq (.seq (.reg [⟨(some 21), .loadn 5 (.t 3), none, []⟩,
      ⟨(some 22), .call (.c (.fn 17 [] [])) [.t 21], none, []⟩,
      ⟨(some 23), .mov (.t 9), none, []⟩,
      ⟨(some 24), .bin .neq (.t 22) (.t 23), none, []⟩])
  (.cond (.t 24) (.seq (.reg [⟨(some 6), .mov (.c (.bool false)), none, []⟩])
    (.ret)) .skip))
  (.seq (.seq (.reg [⟨(some 25), .mov (.t 9), none, []⟩,
      ⟨(some 26), .bin .eql (.t 25) (.c (.int .i64 0)), none, []⟩])
  (.cond (.t 26) (.reg [⟨(some 27), .loadn 2 (.t 4), none, []⟩,
        ⟨(some 28), .call (.c (.fn 18 [] [])) [.t 27], none, []⟩,
        ⟨(some 9), .mov (.t 28), none, []⟩]) .skip))
  (.seq (.seq (.reg [⟨(some 29), .loadn 5 (.t 3), none, []⟩,
      ⟨(some 30), .loadn 2 (.t 4), none, []⟩,
      ⟨(some 31), .call (.c (.fn 19 [] [])) [.t 29, .t 30], none, []⟩,
      ⟨(some 32), .mov (.t 9), none, []⟩,
      ⟨(some 33), .bin .neq (.t 31) (.t 32), none, []⟩])
  (.cond (.t 33) (.seq (.reg [⟨(some 6), .mov (.c (.bool false)), none, []⟩])
    (.ret)) .skip))
  (.seq (.seq (.reg [⟨(some 34), .mov (.t 9), none, []⟩,
      ⟨(some 35), .bin .eql (.t 34) (.c (.int .i64 0)), none, []⟩])
  (.cond (.t 35) (.reg [⟨(some 36), .faddr 0 (.t 5), none, []⟩,
        ⟨(some 37), .load1 (.t 36), none, []⟩,
        ⟨(some 38), .call (.c (.fn 20 [] [])) [.t 37], none, []⟩,
        ⟨(some 9), .mov (.t 38), none, []⟩]) .skip))
  (.seq (.seq (.reg [⟨(some 39), .mov (.t 9), none, []⟩,
      ⟨(some 40), .bin .eql (.t 39) (.c (.int .i64 0)), none, []⟩])
  (.cond (.t 40) (.reg [⟨(some 41), .loadn 5 (.t 3), none, []⟩,
        ⟨(some 42), .faddr 1 (.t 5), none, []⟩,
        ⟨(some 43), .load1 (.t 42), none, []⟩,
        ⟨(some 44), .call (.c (.fn 21 [] [])) [.t 41, .t 43], none, []⟩,
        ⟨(some 9), .mov (.t 44), none, []⟩]) .skip))
  (.seq (.seq (.reg [⟨(some 45), .mov (.t 9), none, []⟩,
      ⟨(some 46), .bin .neq (.t 45) (.c (.int .i64 0)), none, []⟩])
  (.cond (.t 46) (.seq (.reg [⟨(some 47), .mov (.t 8), none, []⟩,
        ⟨(some 48), .mov (.t 9), none, []⟩,
        ⟨(some 49), .bin .eql (.t 47) (.t 48), none, []⟩,
        ⟨(some 50), .mov (.t 49), none, []⟩,
        ⟨(some 51), .loadn 2 (.t 7), (some (50, true)), []⟩,
        ⟨(some 52), .build [.int .i64 0, .int .i64 0] [], (some (50, true)), []⟩,
        ⟨(some 53), .eqA false (.s [(0, 1, false, .c 0), (1, 1, false, .c 0)]) (.t 51) (.t 52), (some (50, true)), []⟩,
        ⟨(some 54), .pick (.t 50) (.t 53) (.c (.bool false)), none, []⟩,
        ⟨(some 6), .mov (.t 54), none, []⟩])
    (.ret)) .skip))
  (.seq (.dreg [⟨(some 55), .mov (.t 8), none, []⟩,
      ⟨(some 56), .bin .eql (.t 55) (.c (.int .i64 0)), none, [0]⟩,
      ⟨(some 57), .mov (.t 56), none, [0, 1]⟩,
      ⟨(some 58), .loadn 2 (.t 7), (some (57, true)), [1, 0, 2]⟩,
      ⟨(some 59), .loadn 5 (.t 3), (some (57, true)), [1, 0, 2]⟩,
      ⟨(some 60), .loadn 2 (.t 4), (some (57, true)), [1, 0, 2]⟩,
      ⟨(some 61), .faddr 0 (.t 5), (some (57, true)), [1, 0, 2]⟩,
      ⟨(some 62), .load1 (.t 61), (some (57, true)), [0, 1, 2, 6]⟩,
      ⟨(some 63), .faddr 1 (.t 5), (some (57, true)), [1, 0, 2]⟩,
      ⟨(some 64), .load1 (.t 63), (some (57, true)), [0, 1, 2, 8]⟩,
      ⟨(some 65), .call (.c (.fn 22 [] [])) [.t 59, .t 60, .t 62, .t 64], (some (57, true)), [8, 6, 0, 1, 2, 9, 7, 5, 4]⟩,
      ⟨(some 66), .eqA false (.s [(0, 1, false, .c 0), (1, 1, false, .c 0)]) (.t 58) (.t 65), (some (57, true)), [4, 5, 7, 9, 6, 8, 0, 1, 2, 10, 3]⟩,
      ⟨(some 67), .pick (.t 57) (.t 66) (.c (.bool false)), none, [3, 10, 8, 6, 9, 7, 5, 4, 1, 0, 11, 2]⟩,
      ⟨(some 6), .mov (.t 67), none, [11, 9, 8, 7, 6, 5, 4, 3, 2, 1, 0, 10, 12]⟩])
  (.ret))))))))))), 68, [.t 6]⟩
def xf15 : XFunc := ⟨.seq (.reg [⟨(some 3), .box 25 (.t 0), none, []⟩,
      ⟨(some 4), .box 27 (.t 1), none, []⟩,
      ⟨(some 5), .box 29 (.t 2), none, []⟩,
      ⟨(some 6), .new 27 [.int .i64 0, .int .i64 0], none, []⟩,
      ⟨(some 7), .mov (.c (.int .i64 0)), none, []⟩])
  (.seq (.reg [⟨(some 12), .loadn 5 (.t 3), none, []⟩,
      ⟨(some 13), .call (.c (.fn 73 [] [])) [.t 12], none, []⟩,
      ⟨(some 11), .mov (.t 13), none, []⟩,
      ⟨(some 14), .extract (.t 11) 0, none, []⟩,
      ⟨(some 15), .extract (.t 11) 1, none, []⟩,
      ⟨(some 8), .new 135 [.int .i64 0, .int .i64 0, .int .i64 0, .int .i64 0, .int .i64 0, .int .i64 0, .int .i64 0], none, []⟩,
      ⟨none, .store 7 (.t 8) (.t 14), none, []⟩,
      ⟨(some 9), .mov (.t 15), none, []⟩])
  (.seq (.seq (.dreg [⟨(some 16), .mov (.t 9), none, []⟩,
      ⟨(some 17), .loadn 2 (.t 4), none, []⟩,
      ⟨(some 18), .call (.c (.fn 75 [] [])) [.t 17], none, [1]⟩,
      ⟨(some 19), .faddr 0 (.t 5), none, []⟩,
      ⟨(some 20), .load1 (.t 19), none, [3]⟩,
      ⟨(some 21), .call (.c (.fn 76 [] [])) [.t 20], none, [1, 3, 2, 4]⟩,
      ⟨(some 22), .loadn 7 (.t 8), none, []⟩,
      ⟨(some 23), .faddr 1 (.t 5), none, []⟩,
      ⟨(some 24), .load1 (.t 23), none, [7]⟩,
      ⟨(some 25), .call (.c (.fn 77 [] [])) [.t 22, .t 24], none, [4, 2, 3, 1, 7, 5, 8, 6]⟩,
      ⟨(some 26), .buildSlice 31 1 4 false [.int .i64 0, .int .i64 0, .int .i64 0, .int .i64 0] [(0, 1, .t 16), (1, 1, .t 18), (2, 1, .t 21), (3, 1, .t 25)], none, [6, 8, 7, 4, 3, 1, 9, 5, 2, 0]⟩,
      ⟨(some 27), .call (.c (.fn 74 [] [])) [.t 26], none, [0, 2, 5, 1, 3, 4, 7, 8, 6, 9, 10]⟩,
      ⟨(some 10), .mov (.t 27), none, [10, 9, 8, 7, 6, 5, 4, 3, 2, 1, 0, 11]⟩])
  (.seq (.reg [⟨(some 28), .mov (.t 10), none, []⟩,
      ⟨(some 29), .bin .neq (.t 28) (.c (.int .i64 0)), none, []⟩])
  (.cond (.t 29) (.seq (.reg [⟨(some 30), .build [.int .i64 0, .int .i64 0] [], none, []⟩,
        ⟨(some 31), .mov (.t 10), none, []⟩,
        ⟨none, .store 2 (.t 6) (.t 30), none, []⟩,
        ⟨(some 7), .mov (.t 31), none, []⟩])
    (.ret)) .skip)))
  (.seq (.reg [⟨(some 32), .loadn 7 (.t 8), none, []⟩,
      ⟨(some 33), .loadn 2 (.t 4), none, []⟩,
      ⟨(some 34), .faddr 0 (.t 5), none, []⟩,
      ⟨(some 35), .load1 (.t 34), none, []⟩,
      ⟨(some 36), .faddr 1 (.t 5), none, []⟩,
      ⟨(some 37), .load1 (.t 36), none, []⟩,
      ⟨(some 38), .call (.c (.fn 78 [] [])) [.t 32, .t 33, .t 35, .t 37], none, []⟩,
      ⟨none, .store 2 (.t 6) (.t 38), none, []⟩,
      ⟨(some 7), .mov (.c (.int .i64 0)), none, []⟩])
  (.ret)))), 39, [.cn 6 2, .t 7]⟩
def xf16l0 : XCode := .seq (.seq (.reg [⟨(some 14), .mov (.t 4), none, []⟩,
      ⟨(some 15), .mov (.t 3), none, []⟩,
      ⟨(some 16), .len (.t 15), none, []⟩,
      ⟨(some 17), .bin .lss (.t 14) (.t 16), none, []⟩])
  (.cond (.t 17) .skip (.exit 0)))
  (.seq (.block 1 (.seq (.reg [⟨(some 20), .mov (.t 3), none, []⟩,
        ⟨(some 21), .mov (.t 4), none, []⟩,
        ⟨(some 22), .iaddr 1 (.t 20) (.t 21), none, []⟩,
        ⟨(some 23), .load1 (.t 22), none, []⟩,
        ⟨(some 24), .call (.c (.fn 37 [] [])) [.t 23, .c (.int .i64 0), .c (.int .i64 100)], none, []⟩,
        ⟨(some 25), .un .not (.t 24), none, []⟩])
    (.cond (.t 25) (.seq (.reg [⟨(some 2), .mov (.c (.int .i64 2)), none, []⟩])
      (.ret)) .skip)))
  (.reg [⟨(some 18), .mov (.t 4), none, []⟩,
      ⟨(some 19), .bin .add (.t 18) (.c (.int .i64 1)), none, []⟩,
      ⟨(some 4), .mov (.t 19), none, []⟩]))
def xf16 : XFunc := ⟨.seq (.reg [⟨(some 1), .box 25 (.t 0), none, []⟩,
      ⟨(some 2), .mov (.c (.int .i64 0)), none, []⟩])
  (.seq (.reg [⟨(some 5), .faddr 2 (.t 1), none, []⟩,
      ⟨(some 6), .faddr 0 (.t 5), none, []⟩,
      ⟨(some 7), .load1 (.t 6), none, []⟩,
      ⟨(some 8), .faddr 2 (.t 1), none, []⟩,
      ⟨(some 9), .faddr 1 (.t 8), none, []⟩,
      ⟨(some 10), .load1 (.t 9), none, []⟩,
      ⟨(some 11), .faddr 4 (.t 1), none, []⟩,
      ⟨(some 12), .load1 (.t 11), none, []⟩,
      ⟨(some 13), .buildSlice 3 1 3 false [.int .i64 0, .int .i64 0, .int .i64 0] [(0, 1, .t 7), (1, 1, .t 10), (2, 1, .t 12)], none, []⟩,
      ⟨(some 3), .mov (.t 13), none, []⟩])
  (.seq (.seq (.reg [⟨(some 4), .mov (.c (.int .i64 0)), none, []⟩])
  (.block 0 (.loop xf16l0)))
  (.seq (.seq (.reg [⟨(some 26), .faddr 0 (.t 1), none, []⟩,
      ⟨(some 27), .load1 (.t 26), none, []⟩,
      ⟨(some 28), .call (.c (.fn 37 [] [])) [.t 27, .c (.int .i64 1), .c (.int .i64 1000)], none, []⟩,
      ⟨(some 29), .un .not (.t 28), none, []⟩,
      ⟨(some 30), .mov (.t 29), none, []⟩,
      ⟨(some 31), .faddr 1 (.t 1), (some (30, false)), []⟩,
      ⟨(some 32), .load1 (.t 31), (some (30, false)), []⟩,
      ⟨(some 33), .call (.c (.fn 37 [] [])) [.t 32, .c (.int .i64 1), .c (.int .i64 1000)], (some (30, false)), []⟩,
      ⟨(some 34), .un .not (.t 33), (some (30, false)), []⟩,
      ⟨(some 35), .pick (.t 30) (.c (.bool true)) (.t 34), none, []⟩])
  (.cond (.t 35) (.seq (.reg [⟨(some 2), .mov (.c (.int .i64 2)), none, []⟩])
    (.ret)) .skip))
  (.seq (.seq (.reg [⟨(some 36), .faddr 2 (.t 1), none, []⟩,
      ⟨(some 37), .faddr 0 (.t 36), none, []⟩,
      ⟨(some 38), .load1 (.t 37), none, []⟩,
      ⟨(some 39), .faddr 2 (.t 1), none, []⟩,
      ⟨(some 40), .faddr 1 (.t 39), none, []⟩,
      ⟨(some 41), .load1 (.t 40), none, []⟩,
      ⟨(some 42), .bin .gtr (.t 38) (.t 41), none, []⟩])
  (.cond (.t 42) (.seq (.reg [⟨(some 2), .mov (.c (.int .i64 9)), none, []⟩])
    (.ret)) .skip))
  (.seq (.seq (.reg [⟨(some 43), .faddr 2 (.t 1), none, []⟩,
      ⟨(some 44), .faddr 1 (.t 43), none, []⟩,
      ⟨(some 45), .load1 (.t 44), none, []⟩,
      ⟨(some 46), .bin .mul (.c (.int .i64 2001)) (.t 45), none, []⟩,
      ⟨(some 47), .faddr 4 (.t 1), none, []⟩,
      ⟨(some 48), .load1 (.t 47), none, []⟩,
      ⟨(some 49), .bin .mul (.c (.int .i64 4001)) (.t 48), none, []⟩,
      ⟨(some 50), .bin .add (.t 46) (.t 49), none, []⟩,
      ⟨(some 51), .bin .add (.t 50) (.c (.int .i64 2000)), none, []⟩,
      ⟨(some 52), .faddr 0 (.t 1), none, []⟩,
      ⟨(some 53), .load1 (.t 52), none, []⟩,
      ⟨(some 54), .bin .mul (.c (.int .i64 1000)) (.t 53), none, []⟩,
      ⟨(some 55), .bin .gtr (.t 51) (.t 54), none, []⟩])
  (.cond (.t 55) (.seq (.reg [⟨(some 2), .mov (.c (.int .i64 13)), none, []⟩])
    (.ret)) .skip))
  (.seq (.reg [⟨(some 2), .mov (.c (.int .i64 0)), none, []⟩])
  (.ret))))))), 56, [.t 2]⟩
def xf17 : XFunc := ⟨.seq (.reg [⟨(some 1), .box 25 (.t 0), none, []⟩,
      ⟨(some 2), .mov (.c (.int .i64 0)), none, []⟩])
  (.seq (.dreg [⟨(some 3), .faddr 0 (.t 1), none, []⟩,
      ⟨(some 4), .load1 (.t 3), none, [0]⟩,
      ⟨(some 5), .call (.c (.fn 79 [] [])) [.t 4, .c (.int .i64 1), .c (.int .i64 1000)], none, [0, 1]⟩,
      ⟨(some 6), .faddr 1 (.t 1), none, []⟩,
      ⟨(some 7), .load1 (.t 6), none, [3]⟩,
      ⟨(some 8), .call (.c (.fn 79 [] [])) [.t 7, .c (.int .i64 1), .c (.int .i64 1000)], none, [1, 0, 3, 2, 4]⟩,
      ⟨(some 9), .faddr 2 (.t 1), none, []⟩,
      ⟨(some 10), .faddr 0 (.t 9), none, [6]⟩,
      ⟨(some 11), .load1 (.t 10), none, [6, 7]⟩,
      ⟨(some 12), .call (.c (.fn 80 [] [])) [.t 11], none, [4, 2, 3, 0, 1, 7, 6, 5, 8]⟩,
      ⟨(some 13), .faddr 2 (.t 1), none, []⟩,
      ⟨(some 14), .faddr 1 (.t 13), none, [10]⟩,
      ⟨(some 15), .load1 (.t 14), none, [10, 11]⟩,
      ⟨(some 16), .call (.c (.fn 80 [] [])) [.t 15], none, [8, 5, 6, 7, 1, 0, 3, 2, 4, 11, 10, 9, 12]⟩,
      ⟨(some 17), .faddr 4 (.t 1), none, []⟩,
      ⟨(some 18), .load1 (.t 17), none, [14]⟩,
      ⟨(some 19), .call (.c (.fn 80 [] [])) [.t 18], none, [12, 9, 10, 11, 4, 2, 3, 0, 1, 7, 6, 5, 8, 14, 13, 15]⟩,
      ⟨(some 20), .faddr 2 (.t 1), none, []⟩,
      ⟨(some 21), .faddr 0 (.t 20), none, [17]⟩,
      ⟨(some 22), .load1 (.t 21), none, [17, 18]⟩,
      ⟨(some 23), .faddr 2 (.t 1), none, []⟩,
      ⟨(some 24), .faddr 1 (.t 23), none, [20]⟩,
      ⟨(some 25), .load1 (.t 24), none, [20, 21]⟩,
      ⟨(some 26), .bin .leq (.t 22) (.t 25), none, [21, 20, 18, 17, 22, 19]⟩,
      ⟨(some 27), .call (.c (.fn 81 [] [])) [.t 26, .c (.int .i64 9)], none, [15, 13, 14, 8, 5, 6, 7, 1, 0, 3, 2, 4, 11, 10, 9, 12, 19, 22, 17, 18, 20, 21, 16, 23]⟩,
      ⟨(some 28), .faddr 2 (.t 1), none, []⟩,
      ⟨(some 29), .faddr 1 (.t 28), none, [25]⟩,
      ⟨(some 30), .load1 (.t 29), none, [25, 26]⟩,
      ⟨(some 31), .bin .mul (.c (.int .i64 2001)) (.t 30), none, [26, 25, 27]⟩,
      ⟨(some 32), .faddr 4 (.t 1), none, []⟩,
      ⟨(some 33), .load1 (.t 32), none, [29]⟩,
      ⟨(some 34), .bin .mul (.c (.int .i64 4001)) (.t 33), none, [29, 30]⟩,
      ⟨(some 35), .bin .add (.t 31) (.t 34), none, [30, 29, 27, 25, 26, 31, 28]⟩,
      ⟨(some 36), .bin .add (.t 35) (.c (.int .i64 2000)), none, [28, 31, 26, 25, 27, 29, 30, 32]⟩,
      ⟨(some 37), .faddr 0 (.t 1), none, []⟩,
      ⟨(some 38), .load1 (.t 37), none, [34]⟩,
      ⟨(some 39), .bin .mul (.c (.int .i64 1000)) (.t 38), none, [34, 35]⟩,
      ⟨(some 40), .bin .leq (.t 36) (.t 39), none, [35, 34, 32, 30, 29, 27, 25, 26, 31, 28, 36, 33]⟩,
      ⟨(some 41), .call (.c (.fn 81 [] [])) [.t 40, .c (.int .i64 13)], none, [23, 16, 21, 20, 18, 17, 22, 19, 12, 9, 10, 11, 4, 2, 3, 0, 1, 7, 6, 5, 8, 14, 13, 15, 33, 36, 28, 31, 26, 25, 27, 29, 30, 32, 34, 35, 24, 37]⟩,
      ⟨(some 42), .buildSlice 31 1 7 false [.int .i64 0, .int .i64 0, .int .i64 0, .int .i64 0, .int .i64 0, .int .i64 0, .int .i64 0] [(0, 1, .t 5), (1, 1, .t 8), (2, 1, .t 12), (3, 1, .t 16), (4, 1, .t 19), (5, 1, .t 27), (6, 1, .t 41)], none, [37, 35, 34, 32, 30, 29, 27, 25, 26, 31, 28, 36, 33, 23, 21, 20, 18, 17, 22, 19, 15, 14, 12, 10, 11, 8, 6, 7, 4, 3, 1, 0, 38, 24, 16, 13, 9, 5, 2]⟩,
      ⟨(some 43), .call (.c (.fn 74 [] [])) [.t 42], none, [2, 5, 9, 13, 16, 24, 0, 1, 3, 4, 7, 6, 8, 11, 10, 12, 14, 15, 19, 22, 17, 18, 20, 21, 23, 33, 36, 28, 31, 26, 25, 27, 29, 30, 32, 34, 35, 37, 38, 39]⟩,
      ⟨(some 2), .mov (.t 43), none, [39, 38, 37, 36, 35, 34, 33, 32, 31, 30, 29, 28, 27, 26, 25, 24, 23, 22, 21, 20, 19, 18, 17, 16, 15, 14, 13, 12, 11, 10, 9, 8, 7, 6, 5, 4, 3, 2, 1, 0, 40]⟩])
  (.ret)), 44, [.t 2]⟩
def xf18 : XFunc := ⟨.seq (.reg [⟨(some 1), .box 27 (.t 0), none, []⟩,
      ⟨(some 2), .mov (.c (.int .i64 0)), none, []⟩])
  (.seq (.seq (.reg [⟨(some 3), .faddr 0 (.t 1), none, []⟩,
      ⟨(some 4), .load1 (.t 3), none, []⟩,
      ⟨(some 5), .call (.c (.fn 37 [] [])) [.t 4, .c (.int .i64 (-100000)), .c (.int .i64 100000)], none, []⟩,
      ⟨(some 6), .un .not (.t 5), none, []⟩,
      ⟨(some 7), .mov (.t 6), none, []⟩,
      ⟨(some 8), .faddr 1 (.t 1), (some (7, false)), []⟩,
      ⟨(some 9), .load1 (.t 8), (some (7, false)), []⟩,
      ⟨(some 10), .call (.c (.fn 37 [] [])) [.t 9, .c (.int .i64 (-1000)), .c (.int .i64 1000)], (some (7, false)), []⟩,
      ⟨(some 11), .un .not (.t 10), (some (7, false)), []⟩,
      ⟨(some 12), .pick (.t 7) (.c (.bool true)) (.t 11), none, []⟩])
  (.cond (.t 12) (.seq (.reg [⟨(some 2), .mov (.c (.int .i64 2)), none, []⟩])
    (.ret)) .skip))
  (.seq (.reg [⟨(some 2), .mov (.c (.int .i64 0)), none, []⟩])
  (.ret))), 13, [.t 2]⟩
def xf19 : XFunc := ⟨.seq (.reg [⟨(some 2), .box 25 (.t 0), none, []⟩,
      ⟨(some 3), .box 27 (.t 1), none, []⟩,
      ⟨(some 4), .mov (.c (.int .i64 0)), none, []⟩])
  (.seq (.dreg [⟨(some 5), .loadn 5 (.t 2), none, []⟩,
      ⟨(some 6), .call (.c (.fn 17 [] [])) [.t 5], none, [0]⟩,
      ⟨(some 7), .loadn 2 (.t 3), none, []⟩,
      ⟨(some 8), .call (.c (.fn 75 [] [])) [.t 7], none, [0, 1, 2]⟩,
      ⟨(some 9), .buildSlice 31 1 2 false [.int .i64 0, .int .i64 0] [(0, 1, .t 6), (1, 1, .t 8)], none, [2, 0, 3, 1]⟩,
      ⟨(some 10), .call (.c (.fn 74 [] [])) [.t 9], none, [1, 0, 2, 3, 4]⟩,
      ⟨(some 4), .mov (.t 10), none, [4, 3, 2, 1, 0, 5]⟩])
  (.ret)), 11, [.t 4]⟩
def xf20 : XFunc := ⟨.seq (.reg [⟨(some 2), .mov (.c (.int .i64 0)), none, []⟩])
  (.seq (.seq (.reg [⟨(some 3), .mov (.t 0), none, []⟩,
      ⟨(some 4), .call (.c (.fn 37 [] [])) [.t 3, .c (.int .i64 0), .c (.int .i64 1000)], none, []⟩,
      ⟨(some 5), .un .not (.t 4), none, []⟩])
  (.cond (.t 5) (.seq (.reg [⟨(some 2), .mov (.c (.int .i64 2)), none, []⟩])
    (.ret)) .skip))
  (.seq (.reg [⟨(some 2), .mov (.c (.int .i64 0)), none, []⟩])
  (.ret))), 6, [.t 2]⟩
def xf21 : XFunc := ⟨.seq (.reg [⟨(some 2), .box 25 (.t 0), none, []⟩,
      ⟨(some 4), .mov (.c (.int .i64 0)), none, []⟩])
  (.seq (.seq (.reg [⟨(some 5), .mov (.t 1), none, []⟩,
      ⟨(some 6), .faddr 2 (.t 2), none, []⟩,
      ⟨(some 7), .faddr 0 (.t 6), none, []⟩,
      ⟨(some 8), .load1 (.t 7), none, []⟩,
      ⟨(some 9), .faddr 2 (.t 2), none, []⟩,
      ⟨(some 10), .faddr 1 (.t 9), none, []⟩,
      ⟨(some 11), .load1 (.t 10), none, []⟩,
      ⟨(some 12), .call (.c (.fn 37 [] [])) [.t 5, .t 8, .t 11], none, []⟩,
      ⟨(some 13), .un .not (.t 12), none, []⟩])
  (.cond (.t 13) (.seq (.reg [⟨(some 4), .mov (.c (.int .i64 2)), none, []⟩])
    (.ret)) .skip))
  (.seq (.reg [⟨(some 4), .mov (.c (.int .i64 0)), none, []⟩])
  (.ret))), 14, [.t 4]⟩
def xf22 : XFunc := ⟨.seq (.reg [⟨(some 4), .box 25 (.t 0), none, []⟩,
      ⟨(some 5), .box 27 (.t 1), none, []⟩,
      ⟨(some 8), .new 27 [.int .i64 0, .int .i64 0], none, []⟩])
  (.seq (.dreg [⟨(some 11), .faddr 0 (.t 5), none, []⟩,
      ⟨(some 12), .load1 (.t 11), none, [0]⟩,
      ⟨(some 13), .mov (.t 3), none, []⟩,
      ⟨(some 14), .faddr 1 (.t 5), none, []⟩,
      ⟨(some 15), .load1 (.t 14), none, [3]⟩,
      ⟨(some 16), .call (.c (.fn 82 [] [])) [.t 13, .t 15], none, [3, 4, 2]⟩,
      ⟨(some 17), .bin .add (.t 12) (.t 16), none, [2, 4, 3, 0, 5, 1]⟩,
      ⟨(some 18), .faddr 4 (.t 4), none, []⟩,
      ⟨(some 19), .load1 (.t 18), none, [7]⟩,
      ⟨(some 20), .faddr 1 (.t 5), none, []⟩,
      ⟨(some 21), .load1 (.t 20), none, [9]⟩,
      ⟨(some 22), .mov (.t 2), none, []⟩,
      ⟨(some 23), .bin .sub (.t 21) (.t 22), none, [9, 11, 10]⟩,
      ⟨(some 24), .call (.c (.fn 82 [] [])) [.t 19, .t 23], none, [2, 4, 3, 10, 11, 9, 7, 5, 12, 8]⟩,
      ⟨(some 25), .bin .add (.t 17) (.t 24), none, [8, 12, 7, 9, 11, 10, 1, 5, 0, 3, 4, 2, 13, 6]⟩,
      ⟨(some 9), .mov (.t 25), none, [12, 11, 10, 9, 8, 7, 6, 5, 4, 3, 2, 1, 0, 13, 14]⟩])
  (.seq (.dreg [⟨(some 26), .faddr 1 (.t 5), none, []⟩,
      ⟨(some 27), .load1 (.t 26), none, [0]⟩,
      ⟨(some 28), .mov (.t 9), none, []⟩,
      ⟨(some 29), .faddr 0 (.t 4), none, []⟩,
      ⟨(some 30), .load1 (.t 29), none, [3]⟩,
      ⟨(some 31), .call (.c (.fn 83 [] [])) [.t 28, .t 30], none, [3, 4, 2]⟩,
      ⟨(some 32), .bin .sub (.t 27) (.t 31), none, [2, 4, 3, 0, 5, 1]⟩,
      ⟨(some 10), .mov (.t 32), none, [4, 3, 2, 1, 0, 5, 6]⟩])
  (.seq (.reg [⟨(some 33), .mov (.t 10), none, []⟩,
      ⟨(some 34), .ext false (.c (.int .i64 1000)) [.t 33], none, []⟩,
      ⟨(some 35), .ext true (.c (.int .i64 (-1000))) [.t 34], none, []⟩,
      ⟨(some 10), .mov (.t 35), none, []⟩])
  (.seq (.dreg [⟨(some 36), .faddr 0 (.t 5), none, []⟩,
      ⟨(some 37), .load1 (.t 36), none, [0]⟩,
      ⟨(some 38), .mov (.t 10), none, []⟩,
      ⟨(some 39), .mov (.t 2), none, []⟩,
      ⟨(some 40), .bin .sub (.t 38) (.t 39), none, [3, 2]⟩,
      ⟨(some 41), .faddr 1 (.t 4), none, []⟩,
      ⟨(some 42), .load1 (.t 41), none, [5]⟩,
      ⟨(some 43), .call (.c (.fn 83 [] [])) [.t 40, .t 42], none, [5, 2, 3, 6, 4]⟩,
      ⟨(some 44), .bin .add (.t 37) (.t 43), none, [4, 6, 3, 2, 5, 0, 7, 1]⟩,
      ⟨(some 45), .mov (.t 10), none, []⟩,
      ⟨(some 46), .build [.int .i64 0, .int .i64 0] [(0, 1, .t 44), (1, 1, .t 45)], none, [1, 7, 0, 5, 2, 3, 6, 4, 9, 8]⟩,
      ⟨none, .store 2 (.t 8) (.t 46), none, [9, 8, 6, 5, 4, 3, 2, 1, 0, 7, 10]⟩])
  (.ret))))), 47, [.cn 8 2]⟩
def xf73 : XFunc := ⟨.seq (.reg [⟨(some 1), .box 25 (.t 0), none, []⟩,
      ⟨(some 2), .new 135 [.int .i64 0, .int .i64 0, .int .i64 0, .int .i64 0, .int .i64 0, .int .i64 0, .int .i64 0], none, []⟩,
      ⟨(some 3), .mov (.c (.int .i64 0)), none, []⟩])
  (.seq (.seq (.reg [⟨(some 5), .loadn 5 (.t 1), none, []⟩,
      ⟨(some 6), .call (.c (.fn 17 [] [])) [.t 5], none, []⟩,
      ⟨(some 4), .mov (.t 6), none, []⟩])
  (.seq (.reg [⟨(some 7), .mov (.t 4), none, []⟩,
      ⟨(some 8), .bin .neq (.t 7) (.c (.int .i64 0)), none, []⟩])
  (.cond (.t 8) (.seq (.reg [⟨(some 9), .build [.int .i64 0, .int .i64 0, .int .i64 0, .int .i64 0, .int .i64 0, .int .i64 0, .int .i64 0] [], none, []⟩,
        ⟨(some 10), .mov (.t 4), none, []⟩,
        ⟨none, .store 7 (.t 2) (.t 9), none, []⟩,
        ⟨(some 3), .mov (.t 10), none, []⟩])
    (.ret)) .skip)))
  (.seq (.reg [⟨(some 11), .loadn 5 (.t 1), none, []⟩,
      ⟨(some 12), .faddr 2 (.t 1), none, []⟩,
      ⟨(some 13), .faddr 0 (.t 12), none, []⟩,
      ⟨(some 14), .load1 (.t 13), none, []⟩,
      ⟨(some 15), .faddr 2 (.t 1), none, []⟩,
      ⟨(some 16), .faddr 1 (.t 15), none, []⟩,
      ⟨(some 17), .load1 (.t 16), none, []⟩,
      ⟨(some 18), .build [.int .i64 0, .int .i64 0] [(0, 1, .t 14), (1, 1, .t 17)], none, []⟩,
      ⟨(some 19), .build [.int .i64 0, .int .i64 0, .int .i64 0, .int .i64 0, .int .i64 0, .int .i64 0, .int .i64 0] [(0, 5, .t 11), (5, 2, .t 18)], none, []⟩,
      ⟨none, .store 7 (.t 2) (.t 19), none, []⟩,
      ⟨(some 3), .mov (.c (.int .i64 0)), none, []⟩])
  (.ret))), 20, [.cn 2 7, .t 3]⟩
def xf74l0 : XCode := .seq (.reg [⟨(some 8), .bin .lss (.t 7) (.t 6), none, []⟩])
  (.seq (.cond (.t 8) .skip (.exit 0))
  (.seq (.block 1 (.seq (.reg [⟨(some 9), .iaddr 1 (.t 5) (.t 7), none, []⟩,
        ⟨(some 10), .load1 (.t 9), none, []⟩,
        ⟨(some 4), .mov (.t 10), none, []⟩])
    (.seq (.reg [⟨(some 11), .mov (.t 4), none, []⟩,
        ⟨(some 12), .bin .neq (.t 11) (.c (.int .i64 0)), none, []⟩])
    (.cond (.t 12) (.seq (.reg [⟨(some 13), .mov (.t 4), none, []⟩,
          ⟨(some 2), .mov (.t 13), none, []⟩])
      (.ret)) .skip))))
  (.reg [⟨(some 14), .bin .add (.t 7) (.c (.int .i64 1)), none, []⟩,
      ⟨(some 7), .mov (.t 14), none, []⟩])))
def xf74 : XFunc := ⟨.seq (.reg [⟨(some 2), .mov (.c (.int .i64 0)), none, []⟩])
  (.seq (.seq (.reg [⟨(some 5), .mov (.t 0), none, []⟩,
      ⟨(some 6), .len (.t 5), none, []⟩,
      ⟨(some 7), .mov (.c (.int .i64 0)), none, []⟩])
  (.block 0 (.loop xf74l0)))
  (.seq (.reg [⟨(some 2), .mov (.c (.int .i64 0)), none, []⟩])
  (.ret))), 15, [.t 2]⟩
def xf75 : XFunc := ⟨.seq (.reg [⟨(some 1), .box 27 (.t 0), none, []⟩,
      ⟨(some 2), .mov (.c (.int .i64 0)), none, []⟩])
  (.seq (.dreg [⟨(some 3), .faddr 0 (.t 1), none, []⟩,
      ⟨(some 4), .load1 (.t 3), none, [0]⟩,
      ⟨(some 5), .call (.c (.fn 116 [] [])) [.t 4], none, [0, 1]⟩,
      ⟨(some 6), .faddr 1 (.t 1), none, []⟩,
      ⟨(some 7), .load1 (.t 6), none, [3]⟩,
      ⟨(some 8), .call (.c (.fn 117 [] [])) [.t 7], none, [1, 0, 3, 2, 4]⟩,
      ⟨(some 9), .buildSlice 31 1 2 false [.int .i64 0, .int .i64 0] [(0, 1, .t 5), (1, 1, .t 8)], none, [4, 3, 1, 0, 5, 2]⟩,
      ⟨(some 10), .call (.c (.fn 74 [] [])) [.t 9], none, [2, 0, 1, 3, 4, 5, 6]⟩,
      ⟨(some 2), .mov (.t 10), none, [6, 5, 4, 3, 2, 1, 0, 7]⟩])
  (.ret)), 11, [.t 2]⟩
def xf76 : XFunc := ⟨.seq (.reg [⟨(some 2), .mov (.c (.int .i64 0)), none, []⟩])
  (.seq (.reg [⟨(some 3), .mov (.t 0), none, []⟩,
      ⟨(some 4), .call (.c (.fn 118 [] [])) [.t 3], none, []⟩,
      ⟨(some 5), .call (.c (.fn 81 [] [])) [.t 4, .c (.int .i64 2)], none, []⟩,
      ⟨(some 2), .mov (.t 5), none, []⟩])
  (.ret)), 6, [.t 2]⟩
def xf77 : XFunc := ⟨.seq (.reg [⟨(some 2), .box 135 (.t 0), none, []⟩,
      ⟨(some 4), .mov (.c (.int .i64 0)), none, []⟩])
  (.seq (.reg [⟨(some 5), .mov (.t 1), none, []⟩,
      ⟨(some 6), .faddr 0 (.t 2), none, []⟩,
      ⟨(some 7), .faddr 2 (.t 6), none, []⟩,
      ⟨(some 8), .faddr 0 (.t 7), none, []⟩,
      ⟨(some 9), .load1 (.t 8), none, []⟩,
      ⟨(some 10), .faddr 0 (.t 2), none, []⟩,
      ⟨(some 11), .faddr 2 (.t 10), none, []⟩,
      ⟨(some 12), .faddr 1 (.t 11), none, []⟩,
      ⟨(some 13), .load1 (.t 12), none, []⟩,
      ⟨(some 14), .call (.c (.fn 79 [] [])) [.t 5, .t 9, .t 13], none, []⟩,
      ⟨(some 4), .mov (.t 14), none, []⟩])
  (.ret)), 15, [.t 4]⟩
def xf78 : XFunc := ⟨.seq (.reg [⟨(some 4), .box 135 (.t 0), none, []⟩,
      ⟨(some 5), .box 27 (.t 1), none, []⟩,
      ⟨(some 8), .new 27 [.int .i64 0, .int .i64 0], none, []⟩])
  (.seq (.dreg [⟨(some 11), .faddr 0 (.t 5), none, []⟩,
      ⟨(some 12), .load1 (.t 11), none, [0]⟩,
      ⟨(some 13), .mov (.t 3), none, []⟩,
      ⟨(some 14), .faddr 1 (.t 5), none, []⟩,
      ⟨(some 15), .load1 (.t 14), none, [3]⟩,
      ⟨(some 16), .call (.c (.fn 119 [] [])) [.t 13, .t 15], none, [3, 4, 2]⟩,
      ⟨(some 17), .bin .add (.t 12) (.t 16), none, [2, 4, 3, 0, 5, 1]⟩,
      ⟨(some 18), .faddr 0 (.t 4), none, []⟩,
      ⟨(some 19), .faddr 4 (.t 18), none, [7]⟩,
      ⟨(some 20), .load1 (.t 19), none, [7, 8]⟩,
      ⟨(some 21), .faddr 1 (.t 5), none, []⟩,
      ⟨(some 22), .load1 (.t 21), none, [10]⟩,
      ⟨(some 23), .mov (.t 2), none, []⟩,
      ⟨(some 24), .bin .sub (.t 22) (.t 23), none, [10, 12, 11]⟩,
      ⟨(some 25), .call (.c (.fn 119 [] [])) [.t 20, .t 24], none, [2, 4, 3, 11, 12, 10, 8, 7, 5, 13, 9]⟩,
      ⟨(some 26), .bin .add (.t 17) (.t 25), none, [9, 13, 7, 8, 10, 12, 11, 1, 5, 0, 3, 4, 2, 14, 6]⟩,
      ⟨(some 9), .mov (.t 26), none, [13, 12, 11, 10, 9, 8, 7, 6, 5, 4, 3, 2, 1, 0, 14, 15]⟩])
  (.seq (.dreg [⟨(some 27), .faddr 1 (.t 5), none, []⟩,
      ⟨(some 28), .load1 (.t 27), none, [0]⟩,
      ⟨(some 29), .mov (.t 9), none, []⟩,
      ⟨(some 30), .faddr 0 (.t 4), none, []⟩,
      ⟨(some 31), .faddr 0 (.t 30), none, [3]⟩,
      ⟨(some 32), .load1 (.t 31), none, [3, 4]⟩,
      ⟨(some 33), .call (.c (.fn 120 [] [])) [.t 29, .t 32], none, [4, 3, 5, 2]⟩,
      ⟨(some 34), .bin .sub (.t 28) (.t 33), none, [2, 5, 3, 4, 0, 6, 1]⟩,
      ⟨(some 10), .mov (.t 34), none, [5, 4, 3, 2, 1, 0, 6, 7]⟩])
  (.seq (.reg [⟨(some 35), .mov (.t 10), none, []⟩,
      ⟨(some 36), .ext true (.t 35) [.c (.int .i64 (-1000))], none, []⟩,
      ⟨(some 37), .ext false (.t 36) [.c (.int .i64 1000)], none, []⟩,
      ⟨(some 10), .mov (.t 37), none, []⟩])
  (.seq (.dreg [⟨(some 38), .faddr 0 (.t 5), none, []⟩,
      ⟨(some 39), .load1 (.t 38), none, [0]⟩,
      ⟨(some 40), .mov (.t 10), none, []⟩,
      ⟨(some 41), .mov (.t 2), none, []⟩,
      ⟨(some 42), .bin .sub (.t 40) (.t 41), none, [3, 2]⟩,
      ⟨(some 43), .faddr 0 (.t 4), none, []⟩,
      ⟨(some 44), .faddr 1 (.t 43), none, [5]⟩,
      ⟨(some 45), .load1 (.t 44), none, [5, 6]⟩,
      ⟨(some 46), .call (.c (.fn 120 [] [])) [.t 42, .t 45], none, [6, 5, 2, 3, 7, 4]⟩,
      ⟨(some 47), .bin .add (.t 39) (.t 46), none, [4, 7, 3, 2, 5, 6, 0, 8, 1]⟩,
      ⟨(some 48), .mov (.t 10), none, []⟩,
      ⟨(some 49), .build [.int .i64 0, .int .i64 0] [(0, 1, .t 47), (1, 1, .t 48)], none, [1, 8, 0, 6, 5, 2, 3, 7, 4, 10, 9]⟩,
      ⟨none, .store 2 (.t 8) (.t 49), none, [10, 9, 7, 6, 5, 4, 3, 2, 1, 0, 8, 11]⟩])
  (.ret))))), 50, [.cn 8 2]⟩
def xf79 : XFunc := ⟨.seq (.reg [⟨(some 6), .mov (.c (.int .i64 0)), none, []⟩])
  (.seq (.reg [⟨(some 7), .mov (.t 0), none, []⟩,
      ⟨(some 8), .mov (.t 1), none, []⟩,
      ⟨(some 9), .mov (.t 2), none, []⟩,
      ⟨(some 10), .call (.c (.fn 121 [] [])) [.t 7, .t 8, .t 9], none, []⟩,
      ⟨(some 11), .call (.c (.fn 81 [] [])) [.t 10, .c (.int .i64 2)], none, []⟩,
      ⟨(some 6), .mov (.t 11), none, []⟩])
  (.ret)), 12, [.t 6]⟩
def xf80 : XFunc := ⟨.seq (.reg [⟨(some 2), .mov (.c (.int .i64 0)), none, []⟩])
  (.seq (.reg [⟨(some 3), .mov (.t 0), none, []⟩,
      ⟨(some 4), .call (.c (.fn 79 [] [])) [.t 3, .c (.int .i64 0), .c (.int .i64 100)], none, []⟩,
      ⟨(some 2), .mov (.t 4), none, []⟩])
  (.ret)), 5, [.t 2]⟩
def xf81 : XFunc := ⟨.seq (.reg [⟨(some 4), .mov (.c (.int .i64 0)), none, []⟩])
  (.seq (.seq (.reg [⟨(some 5), .mov (.t 0), none, []⟩])
  (.cond (.t 5) (.seq (.reg [⟨(some 4), .mov (.c (.int .i64 0)), none, []⟩])
    (.ret)) .skip))
  (.seq (.reg [⟨(some 6), .mov (.t 1), none, []⟩,
      ⟨(some 4), .mov (.t 6), none, []⟩])
  (.ret))), 7, [.t 4]⟩
def xf82 : XFunc := ⟨.seq (.reg [⟨(some 4), .mov (.c (.int .i64 0)), none, []⟩])
  (.seq (.reg [⟨(some 5), .mov (.t 0), none, []⟩,
      ⟨(some 6), .mov (.t 1), none, []⟩,
      ⟨(some 7), .bin .mul (.t 5) (.t 6), none, []⟩,
      ⟨(some 8), .mov (.t 1), none, []⟩,
      ⟨(some 9), .call (.c (.fn 122 [] [])) [.t 8], none, []⟩,
      ⟨(some 10), .bin .mul (.t 7) (.t 9), none, []⟩,
      ⟨(some 11), .bin .quo (.t 10) (.c (.int .i64 1000)), none, []⟩,
      ⟨(some 4), .mov (.t 11), none, []⟩])
  (.ret)), 12, [.t 4]⟩
def xf83 : XFunc := ⟨.seq (.reg [⟨(some 4), .mov (.c (.int .i64 0)), none, []⟩])
  (.seq (.reg [⟨(some 6), .mov (.t 0), none, []⟩,
      ⟨(some 7), .mov (.t 1), none, []⟩,
      ⟨(some 8), .bin .quo (.t 6) (.t 7), none, []⟩,
      ⟨(some 5), .mov (.t 8), none, []⟩])
  (.seq (.seq (.reg [⟨(some 9), .mov (.t 0), none, []⟩,
      ⟨(some 10), .mov (.t 1), none, []⟩,
      ⟨(some 11), .bin .rem (.t 9) (.t 10), none, []⟩,
      ⟨(some 12), .bin .lss (.t 11) (.c (.int .i64 0)), none, []⟩])
  (.cond (.t 12) (.reg [⟨(some 13), .mov (.t 5), none, []⟩,
        ⟨(some 14), .bin .sub (.t 13) (.c (.int .i64 1)), none, []⟩,
        ⟨(some 5), .mov (.t 14), none, []⟩]) .skip))
  (.seq (.reg [⟨(some 15), .mov (.t 5), none, []⟩,
      ⟨(some 4), .mov (.t 15), none, []⟩])
  (.ret)))), 16, [.t 4]⟩
def xf116 : XFunc := ⟨.seq (.reg [⟨(some 2), .mov (.c (.int .i64 0)), none, []⟩])
  (.seq (.reg [⟨(some 3), .mov (.t 0), none, []⟩,
      ⟨(some 4), .call (.c (.fn 79 [] [])) [.t 3, .c (.int .i64 (-100000)), .c (.int .i64 100000)], none, []⟩,
      ⟨(some 2), .mov (.t 4), none, []⟩])
  (.ret)), 5, [.t 2]⟩
def xf117 : XFunc := ⟨.seq (.reg [⟨(some 2), .mov (.c (.int .i64 0)), none, []⟩])
  (.seq (.reg [⟨(some 3), .mov (.t 0), none, []⟩,
      ⟨(some 4), .call (.c (.fn 79 [] [])) [.t 3, .c (.int .i64 (-1000)), .c (.int .i64 1000)], none, []⟩,
      ⟨(some 2), .mov (.t 4), none, []⟩])
  (.ret)), 5, [.t 2]⟩
def xf118 : XFunc := ⟨.seq (.reg [⟨(some 2), .mov (.c (.bool false)), none, []⟩])
  (.seq (.reg [⟨(some 3), .mov (.t 0), none, []⟩,
      ⟨(some 4), .call (.c (.fn 121 [] [])) [.t 3, .c (.int .i64 0), .c (.int .i64 1000)], none, []⟩,
      ⟨(some 2), .mov (.t 4), none, []⟩])
  (.ret)), 5, [.t 2]⟩
def xf119 : XFunc := ⟨.seq (.reg [⟨(some 4), .mov (.c (.int .i64 0)), none, []⟩])
  (.seq (.reg [⟨(some 5), .mov (.t 0), none, []⟩,
      ⟨(some 6), .mov (.t 1), none, []⟩,
      ⟨(some 7), .bin .mul (.t 5) (.t 6), none, []⟩,
      ⟨(some 8), .mov (.t 1), none, []⟩,
      ⟨(some 9), .mov (.t 1), none, []⟩,
      ⟨(some 10), .un .neg (.t 9), none, []⟩,
      ⟨(some 11), .ext true (.t 8) [.t 10], none, []⟩,
      ⟨(some 12), .bin .mul (.t 7) (.t 11), none, []⟩,
      ⟨(some 13), .bin .quo (.t 12) (.c (.int .i64 1000)), none, []⟩,
      ⟨(some 4), .mov (.t 13), none, []⟩])
  (.ret)), 14, [.t 4]⟩
def xf120 : XFunc := ⟨.seq (.reg [⟨(some 4), .mov (.c (.int .i64 0)), none, []⟩])
  (.seq (.reg [⟨(some 6), .mov (.t 0), none, []⟩,
      ⟨(some 7), .mov (.t 1), none, []⟩,
      ⟨(some 8), .bin .quo (.t 6) (.t 7), none, []⟩,
      ⟨(some 5), .mov (.t 8), none, []⟩])
  (.seq (.seq (.reg [⟨(some 9), .mov (.t 0), none, []⟩,
      ⟨(some 10), .mov (.t 1), none, []⟩,
      ⟨(some 11), .bin .rem (.t 9) (.t 10), none, []⟩,
      ⟨(some 12), .bin .lss (.t 11) (.c (.int .i64 0)), none, []⟩])
  (.cond (.t 12) (.reg [⟨(some 13), .mov (.t 5), none, []⟩,
        ⟨(some 14), .bin .sub (.t 13) (.c (.int .i64 1)), none, []⟩,
        ⟨(some 5), .mov (.t 14), none, []⟩]) .skip))
  (.seq (.reg [⟨(some 15), .mov (.t 5), none, []⟩,
      ⟨(some 4), .mov (.t 15), none, []⟩])
  (.ret)))), 16, [.t 4]⟩
def xf121 : XFunc := ⟨.seq (.reg [⟨(some 6), .mov (.c (.bool false)), none, []⟩])
  (.seq (.reg [⟨(some 7), .mov (.t 1), none, []⟩,
      ⟨(some 8), .mov (.t 0), none, []⟩,
      ⟨(some 9), .bin .leq (.t 7) (.t 8), none, []⟩,
      ⟨(some 10), .mov (.t 9), none, []⟩,
      ⟨(some 11), .mov (.t 0), (some (10, true)), []⟩,
      ⟨(some 12), .mov (.t 2), (some (10, true)), []⟩,
      ⟨(some 13), .bin .leq (.t 11) (.t 12), (some (10, true)), []⟩,
      ⟨(some 14), .pick (.t 10) (.t 13) (.c (.bool false)), none, []⟩,
      ⟨(some 6), .mov (.t 14), none, []⟩])
  (.ret)), 15, [.t 6]⟩
def xf122 : XFunc := ⟨.seq (.reg [⟨(some 2), .mov (.c (.int .i64 0)), none, []⟩])
  (.seq (.reg [⟨(some 3), .mov (.t 0), none, []⟩,
      ⟨(some 4), .mov (.t 0), none, []⟩,
      ⟨(some 5), .un .neg (.t 4), none, []⟩,
      ⟨(some 6), .ext true (.t 3) [.t 5], none, []⟩,
      ⟨(some 2), .mov (.t 6), none, []⟩])
  (.ret)), 7, [.t 2]⟩
def xf37 : XFunc := ⟨.seq (.reg [⟨(some 6), .mov (.c (.bool false)), none, []⟩])
  (.seq (.reg [⟨(some 7), .mov (.t 1), none, []⟩,
      ⟨(some 8), .mov (.t 0), none, []⟩,
      ⟨(some 9), .bin .leq (.t 7) (.t 8), none, []⟩,
      ⟨(some 10), .mov (.t 9), none, []⟩,
      ⟨(some 11), .mov (.t 0), (some (10, true)), []⟩,
      ⟨(some 12), .mov (.t 2), (some (10, true)), []⟩,
      ⟨(some 13), .bin .leq (.t 11) (.t 12), (some (10, true)), []⟩,
      ⟨(some 14), .pick (.t 10) (.t 13) (.c (.bool false)), none, []⟩,
      ⟨(some 6), .mov (.t 14), none, []⟩])
  (.ret)), 15, [.t 6]⟩
def xf5 : XFunc := ⟨.seq (.reg [⟨(some 3), .box 25 (.t 0), none, []⟩,
      ⟨(some 4), .box 66 (.t 1), none, []⟩,
      ⟨(some 5), .box 29 (.t 2), none, []⟩,
      ⟨(some 6), .mov (.c (.bool false)), none, []⟩])
  (.seq (.seq (.reg [⟨(some 17), .call (.c (.fn 14 [] [])) [], none, []⟩,
      ⟨(some 18), .un .not (.t 17), none, []⟩])
  (.cond (.t 18) (.seq (.reg [⟨(some 6), .mov (.c (.bool false)), none, []⟩])
    (.ret)) .skip))
  (.seq (.seq (.reg [⟨(some 19), .loadn 5 (.t 3), none, []⟩,
      ⟨(some 20), .call (.c (.fn 16 [] [])) [.t 19], none, []⟩,
      ⟨(some 21), .bin .neq (.t 20) (.c (.int .i64 0)), none, []⟩,
      ⟨(some 22), .mov (.t 21), none, []⟩,
      ⟨(some 23), .iaddrA 2 2 (.t 4) (.c (.int .i64 0)), (some (22, false)), []⟩,
      ⟨(some 24), .loadn 2 (.t 23), (some (22, false)), []⟩,
      ⟨(some 25), .call (.c (.fn 18 [] [])) [.t 24], (some (22, false)), []⟩,
      ⟨(some 26), .bin .neq (.t 25) (.c (.int .i64 0)), (some (22, false)), []⟩,
      ⟨(some 27), .pick (.t 22) (.c (.bool true)) (.t 26), none, []⟩,
      ⟨(some 28), .mov (.t 27), none, []⟩,
      ⟨(some 29), .iaddrA 2 2 (.t 4) (.c (.int .i64 1)), (some (28, false)), []⟩,
      ⟨(some 30), .loadn 2 (.t 29), (some (28, false)), []⟩,
      ⟨(some 31), .call (.c (.fn 18 [] [])) [.t 30], (some (28, false)), []⟩,
      ⟨(some 32), .bin .neq (.t 31) (.c (.int .i64 0)), (some (28, false)), []⟩,
      ⟨(some 33), .pick (.t 28) (.c (.bool true)) (.t 32), none, []⟩,
      ⟨(some 34), .mov (.t 33), none, []⟩,
      ⟨(some 35), .faddr 0 (.t 5), (some (34, false)), []⟩,
      ⟨(some 36), .load1 (.t 35), (some (34, false)), []⟩,
      ⟨(some 37), .call (.c (.fn 20 [] [])) [.t 36], (some (34, false)), []⟩,
      ⟨(some 38), .bin .neq (.t 37) (.c (.int .i64 0)), (some (34, false)), []⟩,
      ⟨(some 39), .pick (.t 34) (.c (.bool true)) (.t 38), none, []⟩,
      ⟨(some 40), .mov (.t 39), none, []⟩,
      ⟨(some 41), .loadn 5 (.t 3), (some (40, false)), []⟩,
      ⟨(some 42), .faddr 1 (.t 5), (some (40, false)), []⟩,
      ⟨(some 43), .load1 (.t 42), (some (40, false)), []⟩,
      ⟨(some 44), .call (.c (.fn 21 [] [])) [.t 41, .t 43], (some (40, false)), []⟩,
      ⟨(some 45), .bin .neq (.t 44) (.c (.int .i64 0)), (some (40, false)), []⟩,
      ⟨(some 46), .pick (.t 40) (.c (.bool true)) (.t 45), none, []⟩])
  (.cond (.t 46) (.seq (.reg [⟨(some 6), .mov (.c (.bool true)), none, []⟩])
    (.ret)) .skip))
  (.seq (.dreg [⟨(some 47), .iaddrA 2 2 (.t 4) (.c (.int .i64 0)), none, []⟩,
      ⟨(some 48), .faddr 0 (.t 47), none, [0]⟩,
      ⟨(some 49), .load1 (.t 48), none, [0, 1]⟩,
      ⟨(some 50), .iaddrA 2 2 (.t 4) (.c (.int .i64 1)), none, []⟩,
      ⟨(some 51), .faddr 0 (.t 50), none, [3]⟩,
      ⟨(some 52), .load1 (.t 51), none, [3, 4]⟩,
      ⟨(some 53), .ext false (.t 49) [.t 52], none, [4, 3, 1, 0, 5, 2]⟩,
      ⟨(some 54), .iaddrA 2 2 (.t 4) (.c (.int .i64 0)), none, []⟩,
      ⟨(some 55), .faddr 0 (.t 54), none, [7]⟩,
      ⟨(some 56), .load1 (.t 55), none, [7, 8]⟩,
      ⟨(some 57), .iaddrA 2 2 (.t 4) (.c (.int .i64 1)), none, []⟩,
      ⟨(some 58), .faddr 0 (.t 57), none, [10]⟩,
      ⟨(some 59), .load1 (.t 58), none, [10, 11]⟩,
      ⟨(some 60), .ext true (.t 56) [.t 59], none, [11, 10, 8, 7, 12, 9]⟩,
      ⟨(some 7), .mov (.t 53), none, [5, 4, 3, 2, 1, 0, 6]⟩,
      ⟨(some 8), .mov (.t 60), none, [12, 11, 10, 9, 8, 7, 6, 5, 4, 3, 2, 1, 0, 14, 13]⟩])
  (.seq (.dreg [⟨(some 61), .iaddrA 2 2 (.t 4) (.c (.int .i64 0)), none, []⟩,
      ⟨(some 62), .faddr 1 (.t 61), none, [0]⟩,
      ⟨(some 63), .load1 (.t 62), none, [0, 1]⟩,
      ⟨(some 64), .iaddrA 2 2 (.t 4) (.c (.int .i64 1)), none, []⟩,
      ⟨(some 65), .faddr 1 (.t 64), none, [3]⟩,
      ⟨(some 66), .load1 (.t 65), none, [3, 4]⟩,
      ⟨(some 67), .ext false (.t 63) [.t 66], none, [4, 3, 1, 0, 5, 2]⟩,
      ⟨(some 68), .iaddrA 2 2 (.t 4) (.c (.int .i64 0)), none, []⟩,
      ⟨(some 69), .faddr 1 (.t 68), none, [7]⟩,
      ⟨(some 70), .load1 (.t 69), none, [7, 8]⟩,
      ⟨(some 71), .iaddrA 2 2 (.t 4) (.c (.int .i64 1)), none, []⟩,
      ⟨(some 72), .faddr 1 (.t 71), none, [10]⟩,
      ⟨(some 73), .load1 (.t 72), none, [10, 11]⟩,
      ⟨(some 74), .ext true (.t 70) [.t 73], none, [11, 10, 8, 7, 12, 9]⟩,
      ⟨(some 9), .mov (.t 67), none, [5, 4, 3, 2, 1, 0, 6]⟩,
      ⟨(some 10), .mov (.t 74), none, [12, 11, 10, 9, 8, 7, 6, 5, 4, 3, 2, 1, 0, 14, 13]⟩])
  (.seq (.reg [⟨(some 76), .loadn 5 (.t 3), none, []⟩,
      ⟨(some 77), .mov (.t 7), none, []⟩,
      ⟨(some 78), .mov (.t 9), none, []⟩,
      ⟨(some 79), .build [.int .i64 0, .int .i64 0] [(0, 1, .t 77), (1, 1, .t 78)], none, []⟩,
      ⟨(some 80), .loadn 2 (.t 5), none, []⟩,
      ⟨(some 81), .call (.c (.fn 15 [] [])) [.t 76, .t 79, .t 80], none, []⟩,
      ⟨(some 75), .mov (.t 81), none, []⟩,
      ⟨(some 82), .extract (.t 75) 0, none, []⟩,
      ⟨(some 83), .extract (.t 75) 1, none, []⟩,
      ⟨(some 11), .new 27 [.int .i64 0, .int .i64 0], none, []⟩,
      ⟨none, .store 2 (.t 11) (.t 82), none, []⟩,
      ⟨(some 12), .mov (.t 83), none, []⟩])
  (.seq (.reg [⟨(some 85), .loadn 5 (.t 3), none, []⟩,
      ⟨(some 86), .mov (.t 8), none, []⟩,
      ⟨(some 87), .mov (.t 9), none, []⟩,
      ⟨(some 88), .build [.int .i64 0, .int .i64 0] [(0, 1, .t 86), (1, 1, .t 87)], none, []⟩,
      ⟨(some 89), .loadn 2 (.t 5), none, []⟩,
      ⟨(some 90), .call (.c (.fn 15 [] [])) [.t 85, .t 88, .t 89], none, []⟩,
      ⟨(some 84), .mov (.t 90), none, []⟩,
      ⟨(some 91), .extract (.t 84) 0, none, []⟩,
      ⟨(some 92), .extract (.t 84) 1, none, []⟩,
      ⟨(some 13), .new 27 [.int .i64 0, .int .i64 0], none, []⟩,
      ⟨none, .store 2 (.t 13) (.t 91), none, []⟩,
      ⟨(some 14), .mov (.t 92), none, []⟩])
  (.seq (.reg [⟨(some 94), .loadn 5 (.t 3), none, []⟩,
      ⟨(some 95), .mov (.t 7), none, []⟩,
      ⟨(some 96), .mov (.t 10), none, []⟩,
      ⟨(some 97), .build [.int .i64 0, .int .i64 0] [(0, 1, .t 95), (1, 1, .t 96)], none, []⟩,
      ⟨(some 98), .loadn 2 (.t 5), none, []⟩,
      ⟨(some 99), .call (.c (.fn 15 [] [])) [.t 94, .t 97, .t 98], none, []⟩,
      ⟨(some 93), .mov (.t 99), none, []⟩,
      ⟨(some 100), .extract (.t 93) 0, none, []⟩,
      ⟨(some 101), .extract (.t 93) 1, none, []⟩,
      ⟨(some 15), .new 27 [.int .i64 0, .int .i64 0], none, []⟩,
      ⟨none, .store 2 (.t 15) (.t 100), none, []⟩,
      ⟨(some 16), .mov (.t 101), none, []⟩])
  (.seq (.seq (.reg [⟨(some 102), .mov (.t 12), none, []⟩,
      ⟨(some 103), .bin .neq (.t 102) (.c (.int .i64 0)), none, []⟩,
      ⟨(some 104), .mov (.t 103), none, []⟩,
      ⟨(some 105), .mov (.t 14), (some (104, false)), []⟩,
      ⟨(some 106), .bin .neq (.t 105) (.c (.int .i64 0)), (some (104, false)), []⟩,
      ⟨(some 107), .pick (.t 104) (.c (.bool true)) (.t 106), none, []⟩,
      ⟨(some 108), .mov (.t 107), none, []⟩,
      ⟨(some 109), .mov (.t 16), (some (108, false)), []⟩,
      ⟨(some 110), .bin .neq (.t 109) (.c (.int .i64 0)), (some (108, false)), []⟩,
      ⟨(some 111), .pick (.t 108) (.c (.bool true)) (.t 110), none, []⟩])
  (.cond (.t 111) (.seq (.reg [⟨(some 6), .mov (.c (.bool false)), none, []⟩])
    (.ret)) .skip))
  (.seq (.reg [⟨(some 112), .faddr 0 (.t 13), none, []⟩,
      ⟨(some 113), .load1 (.t 112), none, []⟩,
      ⟨(some 114), .faddr 0 (.t 11), none, []⟩,
      ⟨(some 115), .load1 (.t 114), none, []⟩,
      ⟨(some 116), .bin .geq (.t 113) (.t 115), none, []⟩,
      ⟨(some 117), .mov (.t 116), none, []⟩,
      ⟨(some 118), .faddr 1 (.t 13), (some (117, true)), []⟩,
      ⟨(some 119), .load1 (.t 118), (some (117, true)), []⟩,
      ⟨(some 120), .faddr 1 (.t 11), (some (117, true)), []⟩,
      ⟨(some 121), .load1 (.t 120), (some (117, true)), []⟩,
      ⟨(some 122), .bin .leq (.t 119) (.t 121), (some (117, true)), []⟩,
      ⟨(some 123), .pick (.t 117) (.t 122) (.c (.bool false)), none, []⟩,
      ⟨(some 124), .mov (.t 123), none, []⟩,
      ⟨(some 125), .faddr 0 (.t 15), (some (124, true)), []⟩,
      ⟨(some 126), .load1 (.t 125), (some (124, true)), []⟩,
      ⟨(some 127), .faddr 0 (.t 11), (some (124, true)), []⟩,
      ⟨(some 128), .load1 (.t 127), (some (124, true)), []⟩,
      ⟨(some 129), .bin .geq (.t 126) (.t 128), (some (124, true)), []⟩,
      ⟨(some 130), .pick (.t 124) (.t 129) (.c (.bool false)), none, []⟩,
      ⟨(some 131), .mov (.t 130), none, []⟩,
      ⟨(some 132), .faddr 1 (.t 15), (some (131, true)), []⟩,
      ⟨(some 133), .load1 (.t 132), (some (131, true)), []⟩,
      ⟨(some 134), .faddr 1 (.t 11), (some (131, true)), []⟩,
      ⟨(some 135), .load1 (.t 134), (some (131, true)), []⟩,
      ⟨(some 136), .bin .geq (.t 133) (.t 135), (some (131, true)), []⟩,
      ⟨(some 137), .pick (.t 131) (.t 136) (.c (.bool false)), none, []⟩,
      ⟨(some 6), .mov (.t 137), none, []⟩])
  (.ret)))))))))), 138, [.t 6]⟩
structure SuACode (X : FuncId → Option XFunc) : Prop where
  h3 : X 3 = some xf3
  h15 : X 15 = some xf15
  h16 : X 16 = some xf16
  h17 : X 17 = some xf17
  h18 : X 18 = some xf18
  h19 : X 19 = some xf19
  h20 : X 20 = some xf20
  h21 : X 21 = some xf21
  h22 : X 22 = some xf22
  h73 : X 73 = some xf73
  h74 : X 74 = some xf74
  h75 : X 75 = some xf75
  h76 : X 76 = some xf76
  h77 : X 77 = some xf77
  h78 : X 78 = some xf78
  h79 : X 79 = some xf79
  h80 : X 80 = some xf80
  h81 : X 81 = some xf81
  h82 : X 82 = some xf82
  h83 : X 83 = some xf83
  h116 : X 116 = some xf116
  h117 : X 117 = some xf117
  h118 : X 118 = some xf118
  h119 : X 119 = some xf119
  h120 : X 120 = some xf120
  h121 : X 121 = some xf121
  h122 : X 122 = some xf122
  h37 : X 37 = some xf37
  h5 : X 5 = some xf5
end Go.Proofs.Ytlknncjnfgnlaaa.Eng

/-
  CODE of SuB.
-/
namespace Go.Proofs.Ytlknncjnfgnlaaa.Eng
set_option linter.unusedSimpArgs false
set_option linter.unusedVariables false
def xf6l0 : XCode := .seq (.seq (.reg [⟨(some 71), .mov (.t 10), none, []⟩,
      ⟨(some 72), .mov (.t 2), none, []⟩,
      ⟨(some 73), .len (.t 72), none, []⟩,
      ⟨(some 74), .bin .lss (.t 71) (.t 73), none, []⟩])
  (.cond (.t 74) .skip (.exit 0)))
  (.seq (.block 1 (.seq (.seq (.dreg [⟨(some 77), .mov (.t 2), none, []⟩,
        ⟨(some 78), .mov (.t 10), none, []⟩,
        ⟨(some 79), .iaddr 2 (.t 77) (.t 78), none, [1, 0]⟩,
        ⟨(some 80), .faddr 0 (.t 79), none, [0, 1, 2]⟩,
        ⟨(some 81), .load1 (.t 80), none, [2, 1, 0, 3]⟩,
        ⟨(some 82), .call (.c (.fn 20 [] [])) [.t 81], none, [3, 0, 1, 2, 4]⟩,
        ⟨(some 83), .bin .neq (.t 82) (.c (.int .i64 0)), none, [4, 2, 1, 0, 3, 5]⟩,
        ⟨(some 84), .mov (.t 83), none, [3, 0, 1, 2, 4, 5, 6]⟩,
        ⟨(some 85), .loadn 5 (.t 3), (some (84, false)), [6, 5, 4, 2, 1, 0, 3, 7]⟩,
        ⟨(some 86), .mov (.t 2), (some (84, false)), [6, 5, 4, 2, 1, 0, 3, 7]⟩,
        ⟨(some 87), .mov (.t 10), (some (84, false)), [6, 5, 4, 2, 1, 0, 3, 7]⟩,
        ⟨(some 88), .iaddr 2 (.t 86) (.t 87), (some (84, false)), [3, 0, 1, 2, 4, 5, 6, 7, 10, 9]⟩,
        ⟨(some 89), .faddr 1 (.t 88), (some (84, false)), [9, 10, 6, 5, 4, 2, 1, 0, 3, 7, 11]⟩,
        ⟨(some 90), .load1 (.t 89), (some (84, false)), [11, 3, 0, 1, 2, 4, 5, 6, 10, 9, 7, 12]⟩,
        ⟨(some 91), .call (.c (.fn 21 [] [])) [.t 85, .t 90], (some (84, false)), [12, 9, 10, 11, 3, 0, 1, 2, 4, 5, 6, 7, 13, 8]⟩,
        ⟨(some 92), .bin .neq (.t 91) (.c (.int .i64 0)), (some (84, false)), [8, 13, 6, 5, 4, 2, 1, 0, 3, 11, 10, 9, 12, 7, 14]⟩,
        ⟨(some 93), .pick (.t 84) (.c (.bool true)) (.t 92), none, [14, 12, 9, 10, 11, 13, 8, 6, 5, 4, 2, 1, 0, 3, 15, 7]⟩])
    (.cond (.t 93) (.seq (.reg [⟨(some 6), .mov (.c (.bool true)), none, []⟩])
      (.ret)) .skip))
    (.seq (.dreg [⟨(some 95), .loadn 5 (.t 3), none, []⟩,
        ⟨(some 96), .loadn 2 (.t 8), none, []⟩,
        ⟨(some 97), .mov (.t 2), none, []⟩,
        ⟨(some 98), .mov (.t 10), none, []⟩,
        ⟨(some 99), .iaddr 2 (.t 97) (.t 98), none, [3, 2]⟩,
        ⟨(some 100), .loadn 2 (.t 99), none, [2, 3, 4]⟩,
        ⟨(some 101), .call (.c (.fn 15 [] [])) [.t 95, .t 96, .t 100], none, [4, 3, 2, 5, 1, 0]⟩,
        ⟨(some 94), .mov (.t 101), none, [0, 1, 5, 2, 3, 4, 6]⟩,
        ⟨(some 102), .extract (.t 94) 0, none, [6, 4, 3, 2, 5, 1, 0, 7]⟩,
        ⟨(some 103), .extract (.t 94) 1, none, [6, 4, 3, 2, 5, 1, 0, 7]⟩,
        ⟨(some 11), .new 27 [.int .i64 0, .int .i64 0], none, []⟩,
        ⟨none, .store 2 (.t 11) (.t 102), none, [7, 5, 4, 3, 2, 1, 0, 6, 8, 10]⟩,
        ⟨(some 12), .mov (.t 103), none, [10, 8, 7, 6, 5, 4, 3, 2, 1, 0, 11, 9]⟩])
    (.seq (.dreg [⟨(some 105), .loadn 5 (.t 3), none, []⟩,
        ⟨(some 106), .loadn 4 (.t 7), none, []⟩,
        ⟨(some 107), .mov (.t 2), none, []⟩,
        ⟨(some 108), .mov (.t 10), none, []⟩,
        ⟨(some 109), .iaddr 2 (.t 107) (.t 108), none, [3, 2]⟩,
        ⟨(some 110), .faddr 0 (.t 109), none, [2, 3, 4]⟩,
        ⟨(some 111), .load1 (.t 110), none, [4, 3, 2, 5]⟩,
        ⟨(some 112), .call (.c (.fn 27 [] [])) [.t 105, .t 106, .t 111], none, [5, 2, 3, 4, 6, 1, 0]⟩,
        ⟨(some 104), .mov (.t 112), none, [0, 1, 6, 4, 3, 2, 5, 7]⟩,
        ⟨(some 113), .extract (.t 104) 0, none, [7, 5, 2, 3, 4, 6, 1, 0, 8]⟩,
        ⟨(some 114), .extract (.t 104) 1, none, [7, 5, 2, 3, 4, 6, 1, 0, 8]⟩,
        ⟨(some 13), .new 43 [.int .i64 0, .int .i64 0, .int .i64 0, .int .i64 0], none, []⟩,
        ⟨none, .store 4 (.t 13) (.t 113), none, [8, 6, 5, 4, 3, 2, 1, 0, 7, 9, 11]⟩,
        ⟨(some 14), .mov (.t 114), none, [11, 9, 8, 7, 6, 5, 4, 3, 2, 1, 0, 12, 10]⟩])
    (.seq (.dreg [⟨(some 116), .loadn 5 (.t 3), none, []⟩,
        ⟨(some 117), .loadn 4 (.t 9), none, []⟩,
        ⟨(some 118), .mov (.t 2), none, []⟩,
        ⟨(some 119), .mov (.t 10), none, []⟩,
        ⟨(some 120), .iaddr 2 (.t 118) (.t 119), none, [3, 2]⟩,
        ⟨(some 121), .faddr 0 (.t 120), none, [2, 3, 4]⟩,
        ⟨(some 122), .load1 (.t 121), none, [4, 3, 2, 5]⟩,
        ⟨(some 123), .call (.c (.fn 27 [] [])) [.t 116, .t 117, .t 122], none, [5, 2, 3, 4, 6, 1, 0]⟩,
        ⟨(some 115), .mov (.t 123), none, [0, 1, 6, 4, 3, 2, 5, 7]⟩,
        ⟨(some 124), .extract (.t 115) 0, none, [7, 5, 2, 3, 4, 6, 1, 0, 8]⟩,
        ⟨(some 125), .extract (.t 115) 1, none, [7, 5, 2, 3, 4, 6, 1, 0, 8]⟩,
        ⟨(some 15), .new 43 [.int .i64 0, .int .i64 0, .int .i64 0, .int .i64 0], none, []⟩,
        ⟨none, .store 4 (.t 15) (.t 124), none, [8, 6, 5, 4, 3, 2, 1, 0, 7, 9, 11]⟩,
        ⟨(some 16), .mov (.t 125), none, [11, 9, 8, 7, 6, 5, 4, 3, 2, 1, 0, 12, 10]⟩])
    (.seq (.seq (.reg [⟨(some 126), .mov (.t 12), none, []⟩,
        ⟨(some 127), .bin .neq (.t 126) (.c (.int .i64 0)), none, []⟩,
        ⟨(some 128), .mov (.t 127), none, []⟩,
        ⟨(some 129), .mov (.t 14), (some (128, false)), []⟩,
        ⟨(some 130), .bin .neq (.t 129) (.c (.int .i64 0)), (some (128, false)), []⟩,
        ⟨(some 131), .pick (.t 128) (.c (.bool true)) (.t 130), none, []⟩,
        ⟨(some 132), .mov (.t 131), none, []⟩,
        ⟨(some 133), .mov (.t 16), (some (132, false)), []⟩,
        ⟨(some 134), .bin .neq (.t 133) (.c (.int .i64 0)), (some (132, false)), []⟩,
        ⟨(some 135), .pick (.t 132) (.c (.bool true)) (.t 134), none, []⟩,
        ⟨(some 136), .mov (.t 135), none, []⟩,
        ⟨(some 137), .loadn 4 (.t 13), (some (136, false)), []⟩,
        ⟨(some 138), .loadn 2 (.t 11), (some (136, false)), []⟩,
        ⟨(some 139), .call (.c (.fn 36 [] [])) [.t 137, .t 138], (some (136, false)), []⟩,
        ⟨(some 140), .un .not (.t 139), (some (136, false)), []⟩,
        ⟨(some 141), .pick (.t 136) (.c (.bool true)) (.t 140), none, []⟩,
        ⟨(some 142), .mov (.t 141), none, []⟩,
        ⟨(some 143), .loadn 4 (.t 15), (some (142, false)), []⟩,
        ⟨(some 144), .loadn 2 (.t 11), (some (142, false)), []⟩,
        ⟨(some 145), .call (.c (.fn 36 [] [])) [.t 143, .t 144], (some (142, false)), []⟩,
        ⟨(some 146), .un .not (.t 145), (some (142, false)), []⟩,
        ⟨(some 147), .pick (.t 142) (.c (.bool true)) (.t 146), none, []⟩,
        ⟨(some 148), .mov (.t 147), none, []⟩,
        ⟨(some 149), .faddr 0 (.t 15), (some (148, false)), []⟩,
        ⟨(some 150), .faddr 0 (.t 149), (some (148, false)), []⟩,
        ⟨(some 151), .load1 (.t 150), (some (148, false)), []⟩,
        ⟨(some 152), .faddr 0 (.t 13), (some (148, false)), []⟩,
        ⟨(some 153), .faddr 0 (.t 152), (some (148, false)), []⟩,
        ⟨(some 154), .load1 (.t 153), (some (148, false)), []⟩,
        ⟨(some 155), .bin .lss (.t 151) (.t 154), (some (148, false)), []⟩,
        ⟨(some 156), .pick (.t 148) (.c (.bool true)) (.t 155), none, []⟩,
        ⟨(some 157), .mov (.t 156), none, []⟩,
        ⟨(some 158), .faddr 0 (.t 15), (some (157, false)), []⟩,
        ⟨(some 159), .faddr 1 (.t 158), (some (157, false)), []⟩,
        ⟨(some 160), .load1 (.t 159), (some (157, false)), []⟩,
        ⟨(some 161), .faddr 0 (.t 13), (some (157, false)), []⟩,
        ⟨(some 162), .faddr 1 (.t 161), (some (157, false)), []⟩,
        ⟨(some 163), .load1 (.t 162), (some (157, false)), []⟩,
        ⟨(some 164), .bin .gtr (.t 160) (.t 163), (some (157, false)), []⟩,
        ⟨(some 165), .pick (.t 157) (.c (.bool true)) (.t 164), none, []⟩,
        ⟨(some 166), .mov (.t 165), none, []⟩,
        ⟨(some 167), .faddr 2 (.t 15), (some (166, false)), []⟩,
        ⟨(some 168), .faddr 0 (.t 167), (some (166, false)), []⟩,
        ⟨(some 169), .load1 (.t 168), (some (166, false)), []⟩,
        ⟨(some 170), .faddr 2 (.t 13), (some (166, false)), []⟩,
        ⟨(some 171), .faddr 0 (.t 170), (some (166, false)), []⟩,
        ⟨(some 172), .load1 (.t 171), (some (166, false)), []⟩,
        ⟨(some 173), .bin .lss (.t 169) (.t 172), (some (166, false)), []⟩,
        ⟨(some 174), .pick (.t 166) (.c (.bool true)) (.t 173), none, []⟩,
        ⟨(some 175), .mov (.t 174), none, []⟩,
        ⟨(some 176), .faddr 2 (.t 15), (some (175, false)), []⟩,
        ⟨(some 177), .faddr 1 (.t 176), (some (175, false)), []⟩,
        ⟨(some 178), .load1 (.t 177), (some (175, false)), []⟩,
        ⟨(some 179), .faddr 2 (.t 13), (some (175, false)), []⟩,
        ⟨(some 180), .faddr 1 (.t 179), (some (175, false)), []⟩,
        ⟨(some 181), .load1 (.t 180), (some (175, false)), []⟩,
        ⟨(some 182), .bin .gtr (.t 178) (.t 181), (some (175, false)), []⟩,
        ⟨(some 183), .pick (.t 175) (.c (.bool true)) (.t 182), none, []⟩])
    (.cond (.t 183) (.seq (.reg [⟨(some 6), .mov (.c (.bool false)), none, []⟩])
      (.ret)) .skip))
    (.seq (.seq (.reg [⟨(some 184), .loadn 2 (.t 11), none, []⟩,
        ⟨(some 185), .call (.c (.fn 18 [] [])) [.t 184], none, []⟩,
        ⟨(some 186), .bin .neq (.t 185) (.c (.int .i64 0)), none, []⟩,
        ⟨(some 187), .mov (.t 186), none, []⟩,
        ⟨(some 188), .loadn 4 (.t 13), (some (187, false)), []⟩,
        ⟨(some 189), .call (.c (.fn 31 [] [])) [.t 188], (some (187, false)), []⟩,
        ⟨(some 190), .bin .neq (.t 189) (.c (.int .i64 0)), (some (187, false)), []⟩,
        ⟨(some 191), .pick (.t 187) (.c (.bool true)) (.t 190), none, []⟩,
        ⟨(some 192), .mov (.t 191), none, []⟩,
        ⟨(some 193), .loadn 4 (.t 15), (some (192, false)), []⟩,
        ⟨(some 194), .call (.c (.fn 31 [] [])) [.t 193], (some (192, false)), []⟩,
        ⟨(some 195), .bin .neq (.t 194) (.c (.int .i64 0)), (some (192, false)), []⟩,
        ⟨(some 196), .pick (.t 192) (.c (.bool true)) (.t 195), none, []⟩])
    (.cond (.t 196) (.seq (.reg [⟨(some 197), .faddr 0 (.t 13), none, []⟩,
          ⟨(some 198), .faddr 0 (.t 197), none, []⟩,
          ⟨(some 199), .load1 (.t 198), none, []⟩,
          ⟨(some 200), .call (.c (.fn 37 [] [])) [.t 199, .c (.int .i64 (-100000)), .c (.int .i64 100000)], none, []⟩,
          ⟨(some 201), .un .not (.t 200), none, []⟩,
          ⟨(some 202), .mov (.t 201), none, []⟩,
          ⟨(some 203), .faddr 0 (.t 13), (some (202, false)), []⟩,
          ⟨(some 204), .faddr 1 (.t 203), (some (202, false)), []⟩,
          ⟨(some 205), .load1 (.t 204), (some (202, false)), []⟩,
          ⟨(some 206), .call (.c (.fn 37 [] [])) [.t 205, .c (.int .i64 (-100000)), .c (.int .i64 100000)], (some (202, false)), []⟩,
          ⟨(some 207), .un .not (.t 206), (some (202, false)), []⟩,
          ⟨(some 208), .pick (.t 202) (.c (.bool true)) (.t 207), none, []⟩,
          ⟨(some 6), .mov (.t 208), none, []⟩])
      (.ret)) .skip))
    (.dreg [⟨(some 209), .loadn 2 (.t 11), none, []⟩,
        ⟨(some 210), .loadn 4 (.t 13), none, []⟩,
        ⟨(some 211), .loadn 4 (.t 15), none, []⟩,
        ⟨none, .store 2 (.t 8) (.t 209), none, [0]⟩,
        ⟨none, .store 4 (.t 7) (.t 210), none, [0, 3, 1]⟩,
        ⟨none, .store 4 (.t 9) (.t 211), none, [3, 1, 0, 4, 2]⟩]))))))))
  (.reg [⟨(some 75), .mov (.t 10), none, []⟩,
      ⟨(some 76), .bin .add (.t 75) (.c (.int .i64 1)), none, []⟩,
      ⟨(some 10), .mov (.t 76), none, []⟩]))
def xf6 : XFunc := ⟨.seq (.reg [⟨(some 3), .box 25 (.t 0), none, []⟩,
      ⟨(some 4), .box 69 (.t 1), none, []⟩,
      ⟨(some 6), .mov (.c (.bool false)), none, []⟩])
  (.seq (.seq (.reg [⟨(some 17), .call (.c (.fn 14 [] [])) [], none, []⟩,
      ⟨(some 18), .un .not (.t 17), none, []⟩])
  (.cond (.t 18) (.seq (.reg [⟨(some 6), .mov (.c (.bool false)), none, []⟩])
    (.ret)) .skip))
  (.seq (.dreg [⟨(some 19), .faddr 0 (.t 4), none, []⟩,
      ⟨(some 20), .loadn 4 (.t 19), none, [0]⟩,
      ⟨(some 21), .faddr 4 (.t 4), none, []⟩,
      ⟨(some 22), .loadn 2 (.t 21), none, [2]⟩,
      ⟨(some 7), .new 43 [.int .i64 0, .int .i64 0, .int .i64 0, .int .i64 0], none, []⟩,
      ⟨(some 8), .new 27 [.int .i64 0, .int .i64 0], none, []⟩,
      ⟨none, .store 4 (.t 7) (.t 20), none, [5, 0, 1, 4]⟩,
      ⟨none, .store 2 (.t 8) (.t 22), none, [4, 2, 1, 0, 6, 3, 5]⟩])
  (.seq (.seq (.reg [⟨(some 23), .loadn 5 (.t 3), none, []⟩,
      ⟨(some 24), .call (.c (.fn 16 [] [])) [.t 23], none, []⟩,
      ⟨(some 25), .bin .neq (.t 24) (.c (.int .i64 0)), none, []⟩,
      ⟨(some 26), .mov (.t 25), none, []⟩,
      ⟨(some 27), .loadn 4 (.t 7), (some (26, false)), []⟩,
      ⟨(some 28), .call (.c (.fn 31 [] [])) [.t 27], (some (26, false)), []⟩,
      ⟨(some 29), .bin .neq (.t 28) (.c (.int .i64 0)), (some (26, false)), []⟩,
      ⟨(some 30), .pick (.t 26) (.c (.bool true)) (.t 29), none, []⟩,
      ⟨(some 31), .mov (.t 30), none, []⟩,
      ⟨(some 32), .mov (.t 2), (some (31, false)), []⟩,
      ⟨(some 33), .len (.t 32), (some (31, false)), []⟩,
      ⟨(some 34), .bin .gtr (.t 33) (.c (.int .i64 20)), (some (31, false)), []⟩,
      ⟨(some 35), .pick (.t 31) (.c (.bool true)) (.t 34), none, []⟩])
  (.cond (.t 35) (.seq (.reg [⟨(some 6), .mov (.c (.bool true)), none, []⟩])
    (.ret)) .skip))
  (.seq (.dreg [⟨(some 36), .faddr 0 (.t 7), none, []⟩,
      ⟨(some 37), .faddr 1 (.t 36), none, [0]⟩,
      ⟨(some 38), .load1 (.t 37), none, [0, 1]⟩,
      ⟨(some 39), .faddr 0 (.t 7), none, []⟩,
      ⟨(some 40), .faddr 0 (.t 39), none, [3]⟩,
      ⟨(some 41), .load1 (.t 40), none, [3, 4]⟩,
      ⟨(some 42), .faddr 0 (.t 8), none, []⟩,
      ⟨(some 43), .load1 (.t 42), none, [6]⟩,
      ⟨(some 44), .ext true (.t 41) [.t 43], none, [6, 4, 3, 7, 5]⟩,
      ⟨(some 45), .ext false (.t 38) [.t 44], none, [5, 7, 3, 4, 6, 1, 0, 8, 2]⟩,
      ⟨(some 46), .faddr 2 (.t 7), none, []⟩,
      ⟨(some 47), .faddr 1 (.t 46), none, [10]⟩,
      ⟨(some 48), .load1 (.t 47), none, [10, 11]⟩,
      ⟨(some 49), .faddr 2 (.t 7), none, []⟩,
      ⟨(some 50), .faddr 0 (.t 49), none, [13]⟩,
      ⟨(some 51), .load1 (.t 50), none, [13, 14]⟩,
      ⟨(some 52), .faddr 1 (.t 8), none, []⟩,
      ⟨(some 53), .load1 (.t 52), none, [16]⟩,
      ⟨(some 54), .ext true (.t 51) [.t 53], none, [16, 14, 13, 17, 15]⟩,
      ⟨(some 55), .ext false (.t 48) [.t 54], none, [15, 17, 13, 14, 16, 11, 10, 18, 12]⟩,
      ⟨(some 56), .faddr 0 (.t 8), none, [17, 16, 9, 8, 7, 6, 5, 4, 3, 2, 1, 0]⟩,
      ⟨none, .store 1 (.t 56) (.t 45), none, [17, 16, 8, 7, 6, 5, 4, 3, 2, 1, 0, 9, 20]⟩,
      ⟨(some 57), .faddr 1 (.t 8), none, [21, 20, 19, 18, 17, 16, 15, 14, 13, 12, 11, 10, 9, 8, 7, 6, 5, 4, 3, 2, 1, 0]⟩,
      ⟨none, .store 1 (.t 57) (.t 55), none, [20, 18, 17, 16, 15, 14, 13, 12, 11, 10, 9, 8, 7, 6, 5, 4, 3, 2, 1, 0, 21, 19, 22]⟩])
  (.seq (.reg [⟨(some 58), .faddr 0 (.t 7), none, []⟩,
      ⟨(some 59), .faddr 0 (.t 58), none, []⟩,
      ⟨(some 60), .load1 (.t 59), none, []⟩,
      ⟨(some 61), .faddr 0 (.t 8), none, []⟩,
      ⟨(some 62), .load1 (.t 61), none, []⟩,
      ⟨(some 63), .build [.int .i64 0, .int .i64 0] [(0, 1, .t 60), (1, 1, .t 62)], none, []⟩,
      ⟨(some 64), .faddr 1 (.t 8), none, []⟩,
      ⟨(some 65), .load1 (.t 64), none, []⟩,
      ⟨(some 66), .faddr 2 (.t 7), none, []⟩,
      ⟨(some 67), .faddr 1 (.t 66), none, []⟩,
      ⟨(some 68), .load1 (.t 67), none, []⟩,
      ⟨(some 69), .build [.int .i64 0, .int .i64 0] [(0, 1, .t 65), (1, 1, .t 68)], none, []⟩,
      ⟨(some 70), .build [.int .i64 0, .int .i64 0, .int .i64 0, .int .i64 0] [(0, 2, .t 63), (2, 2, .t 69)], none, []⟩,
      ⟨(some 9), .new 43 [.int .i64 0, .int .i64 0, .int .i64 0, .int .i64 0], none, []⟩,
      ⟨none, .store 4 (.t 9) (.t 70), none, []⟩])
  (.seq (.seq (.reg [⟨(some 10), .mov (.c (.int .i64 0)), none, []⟩])
  (.block 0 (.loop xf6l0)))
  (.seq (.reg [⟨(some 6), .mov (.c (.bool true)), none, []⟩])
  (.ret)))))))), 212, [.t 6]⟩
def xf27 : XFunc := ⟨.seq (.reg [⟨(some 3), .box 25 (.t 0), none, []⟩,
      ⟨(some 4), .box 43 (.t 1), none, []⟩,
      ⟨(some 6), .new 43 [.int .i64 0, .int .i64 0, .int .i64 0, .int .i64 0], none, []⟩,
      ⟨(some 7), .mov (.c (.int .i64 0)), none, []⟩])
  (.seq (.reg [⟨(some 12), .loadn 5 (.t 3), none, []⟩,
      ⟨(some 13), .call (.c (.fn 73 [] [])) [.t 12], none, []⟩,
      ⟨(some 11), .mov (.t 13), none, []⟩,
      ⟨(some 14), .extract (.t 11) 0, none, []⟩,
      ⟨(some 15), .extract (.t 11) 1, none, []⟩,
      ⟨(some 8), .new 135 [.int .i64 0, .int .i64 0, .int .i64 0, .int .i64 0, .int .i64 0, .int .i64 0, .int .i64 0], none, []⟩,
      ⟨none, .store 7 (.t 8) (.t 14), none, []⟩,
      ⟨(some 9), .mov (.t 15), none, []⟩])
  (.seq (.seq (.reg [⟨(some 16), .mov (.t 9), none, []⟩,
      ⟨(some 17), .loadn 4 (.t 4), none, []⟩,
      ⟨(some 18), .call (.c (.fn 87 [] [])) [.t 17], none, []⟩,
      ⟨(some 19), .mov (.t 2), none, []⟩,
      ⟨(some 20), .call (.c (.fn 76 [] [])) [.t 19], none, []⟩,
      ⟨(some 21), .buildSlice 31 1 3 false [.int .i64 0, .int .i64 0, .int .i64 0] [(0, 1, .t 16), (1, 1, .t 18), (2, 1, .t 20)], none, []⟩,
      ⟨(some 22), .call (.c (.fn 74 [] [])) [.t 21], none, []⟩,
      ⟨(some 10), .mov (.t 22), none, []⟩])
  (.seq (.reg [⟨(some 23), .mov (.t 10), none, []⟩,
      ⟨(some 24), .bin .neq (.t 23) (.c (.int .i64 0)), none, []⟩])
  (.cond (.t 24) (.seq (.reg [⟨(some 25), .build [.int .i64 0, .int .i64 0, .int .i64 0, .int .i64 0] [], none, []⟩,
        ⟨(some 26), .mov (.t 10), none, []⟩,
        ⟨none, .store 4 (.t 6) (.t 25), none, []⟩,
        ⟨(some 7), .mov (.t 26), none, []⟩])
    (.ret)) .skip)))
  (.seq (.reg [⟨(some 27), .loadn 7 (.t 8), none, []⟩,
      ⟨(some 28), .loadn 4 (.t 4), none, []⟩,
      ⟨(some 29), .mov (.t 2), none, []⟩,
      ⟨(some 30), .call (.c (.fn 90 [] [])) [.t 27, .t 28, .t 29], none, []⟩,
      ⟨none, .store 4 (.t 6) (.t 30), none, []⟩,
      ⟨(some 7), .mov (.c (.int .i64 0)), none, []⟩])
  (.ret)))), 31, [.cn 6 4, .t 7]⟩
def xf31 : XFunc := ⟨.seq (.reg [⟨(some 1), .box 43 (.t 0), none, []⟩,
      ⟨(some 2), .mov (.c (.int .i64 0)), none, []⟩])
  (.seq (.seq (.reg [⟨(some 4), .faddr 0 (.t 1), none, []⟩,
      ⟨(some 5), .loadn 2 (.t 4), none, []⟩,
      ⟨(some 6), .call (.c (.fn 91 [] [])) [.t 5, .c (.int .i64 100000)], none, []⟩,
      ⟨(some 3), .mov (.t 6), none, []⟩])
  (.seq (.reg [⟨(some 7), .mov (.t 3), none, []⟩,
      ⟨(some 8), .bin .neq (.t 7) (.c (.int .i64 0)), none, []⟩])
  (.cond (.t 8) (.seq (.reg [⟨(some 9), .mov (.t 3), none, []⟩,
        ⟨(some 2), .mov (.t 9), none, []⟩])
    (.ret)) .skip)))
  (.seq (.reg [⟨(some 10), .faddr 2 (.t 1), none, []⟩,
      ⟨(some 11), .loadn 2 (.t 10), none, []⟩,
      ⟨(some 12), .call (.c (.fn 91 [] [])) [.t 11, .c (.int .i64 1000)], none, []⟩,
      ⟨(some 2), .mov (.t 12), none, []⟩])
  (.ret))), 13, [.t 2]⟩
def xf32 : XFunc := ⟨.seq (.reg [⟨(some 2), .box 25 (.t 0), none, []⟩,
      ⟨(some 3), .box 43 (.t 1), none, []⟩,
      ⟨(some 4), .mov (.c (.int .i64 0)), none, []⟩])
  (.seq (.dreg [⟨(some 5), .loadn 5 (.t 2), none, []⟩,
      ⟨(some 6), .call (.c (.fn 17 [] [])) [.t 5], none, [0]⟩,
      ⟨(some 7), .loadn 4 (.t 3), none, []⟩,
      ⟨(some 8), .call (.c (.fn 87 [] [])) [.t 7], none, [0, 1, 2]⟩,
      ⟨(some 9), .buildSlice 31 1 2 false [.int .i64 0, .int .i64 0] [(0, 1, .t 6), (1, 1, .t 8)], none, [2, 0, 3, 1]⟩,
      ⟨(some 10), .call (.c (.fn 74 [] [])) [.t 9], none, [1, 0, 2, 3, 4]⟩,
      ⟨(some 4), .mov (.t 10), none, [4, 3, 2, 1, 0, 5]⟩])
  (.ret)), 11, [.t 4]⟩
def xf33l0 : XCode := .seq (.seq (.reg [⟨(some 21), .mov (.t 9), none, []⟩,
      ⟨(some 22), .bin .lss (.t 21) (.c (.int .i64 2)), none, []⟩])
  (.cond (.t 22) .skip (.exit 0)))
  (.seq (.block 1 (.seq (.dreg [⟨(some 25), .loadn 5 (.t 3), none, []⟩,
        ⟨(some 26), .faddr 0 (.t 4), none, []⟩,
        ⟨(some 27), .faddr 0 (.t 26), none, [1]⟩,
        ⟨(some 28), .load1 (.t 27), none, [1, 2]⟩,
        ⟨(some 29), .faddr 2 (.t 4), none, []⟩,
        ⟨(some 30), .faddr 0 (.t 29), none, [4]⟩,
        ⟨(some 31), .load1 (.t 30), none, [4, 5]⟩,
        ⟨(some 32), .build [.int .i64 0, .int .i64 0] [(0, 1, .t 28), (1, 1, .t 31)], none, [5, 4, 2, 1, 6, 3]⟩,
        ⟨(some 33), .mov (.t 2), none, []⟩,
        ⟨(some 34), .mov (.t 8), none, []⟩,
        ⟨(some 35), .mov (.t 9), none, []⟩,
        ⟨(some 36), .iaddr 1 (.t 34) (.t 35), none, [10, 9]⟩,
        ⟨(some 37), .load1 (.t 36), none, [9, 10, 11]⟩,
        ⟨(some 38), .call (.c (.fn 22 [] [])) [.t 25, .t 32, .t 33, .t 37], none, [11, 10, 9, 3, 6, 1, 2, 4, 5, 12, 8, 7, 0]⟩,
        ⟨(some 39), .field 0 1 false (.t 38), none, [0, 7, 8, 12, 5, 4, 2, 1, 6, 3, 9, 10, 11, 13]⟩,
        ⟨(some 10), .mov (.t 39), none, [12, 11, 10, 9, 8, 7, 6, 5, 4, 3, 2, 1, 0, 13, 14]⟩])
    (.seq (.dreg [⟨(some 40), .loadn 5 (.t 3), none, []⟩,
        ⟨(some 41), .faddr 0 (.t 4), none, []⟩,
        ⟨(some 42), .faddr 1 (.t 41), none, [1]⟩,
        ⟨(some 43), .load1 (.t 42), none, [1, 2]⟩,
        ⟨(some 44), .faddr 2 (.t 4), none, []⟩,
        ⟨(some 45), .faddr 1 (.t 44), none, [4]⟩,
        ⟨(some 46), .load1 (.t 45), none, [4, 5]⟩,
        ⟨(some 47), .build [.int .i64 0, .int .i64 0] [(0, 1, .t 43), (1, 1, .t 46)], none, [5, 4, 2, 1, 6, 3]⟩,
        ⟨(some 48), .mov (.t 2), none, []⟩,
        ⟨(some 49), .mov (.t 8), none, []⟩,
        ⟨(some 50), .mov (.t 9), none, []⟩,
        ⟨(some 51), .iaddr 1 (.t 49) (.t 50), none, [10, 9]⟩,
        ⟨(some 52), .load1 (.t 51), none, [9, 10, 11]⟩,
        ⟨(some 53), .call (.c (.fn 22 [] [])) [.t 40, .t 47, .t 48, .t 52], none, [11, 10, 9, 3, 6, 1, 2, 4, 5, 12, 8, 7, 0]⟩,
        ⟨(some 54), .field 0 1 false (.t 53), none, [0, 7, 8, 12, 5, 4, 2, 1, 6, 3, 9, 10, 11, 13]⟩,
        ⟨(some 11), .mov (.t 54), none, [12, 11, 10, 9, 8, 7, 6, 5, 4, 3, 2, 1, 0, 13, 14]⟩])
    (.seq (.dreg [⟨(some 55), .loadn 5 (.t 3), none, []⟩,
        ⟨(some 56), .faddr 0 (.t 4), none, []⟩,
        ⟨(some 57), .faddr 1 (.t 56), none, [1]⟩,
        ⟨(some 58), .load1 (.t 57), none, [1, 2]⟩,
        ⟨(some 59), .faddr 2 (.t 4), none, []⟩,
        ⟨(some 60), .faddr 0 (.t 59), none, [4]⟩,
        ⟨(some 61), .load1 (.t 60), none, [4, 5]⟩,
        ⟨(some 62), .build [.int .i64 0, .int .i64 0] [(0, 1, .t 58), (1, 1, .t 61)], none, [5, 4, 2, 1, 6, 3]⟩,
        ⟨(some 63), .mov (.t 2), none, []⟩,
        ⟨(some 64), .mov (.t 8), none, []⟩,
        ⟨(some 65), .mov (.t 9), none, []⟩,
        ⟨(some 66), .iaddr 1 (.t 64) (.t 65), none, [10, 9]⟩,
        ⟨(some 67), .load1 (.t 66), none, [9, 10, 11]⟩,
        ⟨(some 68), .call (.c (.fn 22 [] [])) [.t 55, .t 62, .t 63, .t 67], none, [11, 10, 9, 3, 6, 1, 2, 4, 5, 12, 8, 7, 0]⟩,
        ⟨(some 69), .field 1 1 false (.t 68), none, [0, 7, 8, 12, 5, 4, 2, 1, 6, 3, 9, 10, 11, 13]⟩,
        ⟨(some 12), .mov (.t 69), none, [12, 11, 10, 9, 8, 7, 6, 5, 4, 3, 2, 1, 0, 13, 14]⟩])
    (.seq (.dreg [⟨(some 70), .loadn 5 (.t 3), none, []⟩,
        ⟨(some 71), .faddr 0 (.t 4), none, []⟩,
        ⟨(some 72), .faddr 0 (.t 71), none, [1]⟩,
        ⟨(some 73), .load1 (.t 72), none, [1, 2]⟩,
        ⟨(some 74), .faddr 2 (.t 4), none, []⟩,
        ⟨(some 75), .faddr 1 (.t 74), none, [4]⟩,
        ⟨(some 76), .load1 (.t 75), none, [4, 5]⟩,
        ⟨(some 77), .build [.int .i64 0, .int .i64 0] [(0, 1, .t 73), (1, 1, .t 76)], none, [5, 4, 2, 1, 6, 3]⟩,
        ⟨(some 78), .mov (.t 2), none, []⟩,
        ⟨(some 79), .mov (.t 8), none, []⟩,
        ⟨(some 80), .mov (.t 9), none, []⟩,
        ⟨(some 81), .iaddr 1 (.t 79) (.t 80), none, [10, 9]⟩,
        ⟨(some 82), .load1 (.t 81), none, [9, 10, 11]⟩,
        ⟨(some 83), .call (.c (.fn 22 [] [])) [.t 70, .t 77, .t 78, .t 82], none, [11, 10, 9, 3, 6, 1, 2, 4, 5, 12, 8, 7, 0]⟩,
        ⟨(some 84), .field 1 1 false (.t 83), none, [0, 7, 8, 12, 5, 4, 2, 1, 6, 3, 9, 10, 11, 13]⟩,
        ⟨(some 13), .mov (.t 84), none, [12, 11, 10, 9, 8, 7, 6, 5, 4, 3, 2, 1, 0, 13, 14]⟩])
    (.seq (.seq (.reg [⟨(some 85), .mov (.t 9), none, []⟩,
        ⟨(some 86), .bin .eql (.t 85) (.c (.int .i64 0)), none, []⟩])
    (.cond (.t 86) (.reg [⟨(some 87), .mov (.t 10), none, []⟩,
          ⟨(some 88), .mov (.t 11), none, []⟩,
          ⟨(some 89), .build [.int .i64 0, .int .i64 0] [(0, 1, .t 87), (1, 1, .t 88)], none, []⟩,
          ⟨(some 90), .mov (.t 12), none, []⟩,
          ⟨(some 91), .mov (.t 13), none, []⟩,
          ⟨(some 92), .build [.int .i64 0, .int .i64 0] [(0, 1, .t 90), (1, 1, .t 91)], none, []⟩,
          ⟨(some 93), .build [.int .i64 0, .int .i64 0, .int .i64 0, .int .i64 0] [(0, 2, .t 89), (2, 2, .t 92)], none, []⟩,
          ⟨none, .store 4 (.t 7) (.t 93), none, []⟩]) .skip))
    (.seq (.reg [⟨(some 94), .faddr 0 (.t 7), none, []⟩,
        ⟨(some 95), .faddr 0 (.t 94), none, []⟩,
        ⟨(some 96), .load1 (.t 95), none, []⟩,
        ⟨(some 97), .mov (.t 10), none, []⟩,
        ⟨(some 98), .ext false (.t 96) [.t 97], none, []⟩,
        ⟨(some 99), .faddr 0 (.t 7), none, []⟩,
        ⟨(some 100), .faddr 1 (.t 99), none, []⟩,
        ⟨(some 101), .load1 (.t 100), none, []⟩,
        ⟨(some 102), .mov (.t 11), none, []⟩,
        ⟨(some 103), .ext true (.t 101) [.t 102], none, []⟩,
        ⟨(some 104), .build [.int .i64 0, .int .i64 0] [(0, 1, .t 98), (1, 1, .t 103)], none, []⟩,
        ⟨(some 105), .faddr 0 (.t 7), none, []⟩,
        ⟨none, .store 2 (.t 105) (.t 104), none, []⟩])
    (.reg [⟨(some 106), .faddr 2 (.t 7), none, []⟩,
        ⟨(some 107), .faddr 0 (.t 106), none, []⟩,
        ⟨(some 108), .load1 (.t 107), none, []⟩,
        ⟨(some 109), .mov (.t 12), none, []⟩,
        ⟨(some 110), .ext false (.t 108) [.t 109], none, []⟩,
        ⟨(some 111), .faddr 2 (.t 7), none, []⟩,
        ⟨(some 112), .faddr 1 (.t 111), none, []⟩,
        ⟨(some 113), .load1 (.t 112), none, []⟩,
        ⟨(some 114), .mov (.t 13), none, []⟩,
        ⟨(some 115), .ext true (.t 113) [.t 114], none, []⟩,
        ⟨(some 116), .build [.int .i64 0, .int .i64 0] [(0, 1, .t 110), (1, 1, .t 115)], none, []⟩,
        ⟨(some 117), .faddr 2 (.t 7), none, []⟩,
        ⟨none, .store 2 (.t 117) (.t 116), none, []⟩]))))))))
  (.reg [⟨(some 23), .mov (.t 9), none, []⟩,
      ⟨(some 24), .bin .add (.t 23) (.c (.int .i64 1)), none, []⟩,
      ⟨(some 9), .mov (.t 24), none, []⟩]))
def xf33 : XFunc := ⟨.seq (.reg [⟨(some 3), .box 25 (.t 0), none, []⟩,
      ⟨(some 4), .box 43 (.t 1), none, []⟩,
      ⟨(some 6), .new 43 [.int .i64 0, .int .i64 0, .int .i64 0, .int .i64 0], none, []⟩])
  (.seq (.reg [⟨(some 7), .new 43 [.int .i64 0, .int .i64 0, .int .i64 0, .int .i64 0], none, []⟩])
  (.seq (.reg [⟨(some 14), .faddr 2 (.t 3), none, []⟩,
      ⟨(some 15), .faddr 0 (.t 14), none, []⟩,
      ⟨(some 16), .load1 (.t 15), none, []⟩,
      ⟨(some 17), .faddr 2 (.t 3), none, []⟩,
      ⟨(some 18), .faddr 1 (.t 17), none, []⟩,
      ⟨(some 19), .load1 (.t 18), none, []⟩,
      ⟨(some 20), .buildSlice 3 1 2 false [.int .i64 0, .int .i64 0] [(0, 1, .t 16), (1, 1, .t 19)], none, []⟩,
      ⟨(some 8), .mov (.t 20), none, []⟩])
  (.seq (.seq (.reg [⟨(some 9), .mov (.c (.int .i64 0)), none, []⟩])
  (.block 0 (.loop xf33l0)))
  (.seq (.reg [⟨(some 118), .loadn 4 (.t 7), none, []⟩,
      ⟨none, .store 4 (.t 6) (.t 118), none, []⟩])
  (.ret))))), 119, [.cn 6 4]⟩
def xf36 : XFunc := ⟨.seq (.reg [⟨(some 2), .box 43 (.t 0), none, []⟩,
      ⟨(some 3), .box 27 (.t 1), none, []⟩,
      ⟨(some 4), .mov (.c (.bool false)), none, []⟩])
  (.seq (.reg [⟨(some 5), .faddr 0 (.t 3), none, []⟩,
      ⟨(some 6), .load1 (.t 5), none, []⟩,
      ⟨(some 7), .faddr 0 (.t 2), none, []⟩,
      ⟨(some 8), .faddr 0 (.t 7), none, []⟩,
      ⟨(some 9), .load1 (.t 8), none, []⟩,
      ⟨(some 10), .faddr 0 (.t 2), none, []⟩,
      ⟨(some 11), .faddr 1 (.t 10), none, []⟩,
      ⟨(some 12), .load1 (.t 11), none, []⟩,
      ⟨(some 13), .call (.c (.fn 37 [] [])) [.t 6, .t 9, .t 12], none, []⟩,
      ⟨(some 14), .mov (.t 13), none, []⟩,
      ⟨(some 15), .faddr 1 (.t 3), (some (14, true)), []⟩,
      ⟨(some 16), .load1 (.t 15), (some (14, true)), []⟩,
      ⟨(some 17), .faddr 2 (.t 2), (some (14, true)), []⟩,
      ⟨(some 18), .faddr 0 (.t 17), (some (14, true)), []⟩,
      ⟨(some 19), .load1 (.t 18), (some (14, true)), []⟩,
      ⟨(some 20), .faddr 2 (.t 2), (some (14, true)), []⟩,
      ⟨(some 21), .faddr 1 (.t 20), (some (14, true)), []⟩,
      ⟨(some 22), .load1 (.t 21), (some (14, true)), []⟩,
      ⟨(some 23), .call (.c (.fn 37 [] [])) [.t 16, .t 19, .t 22], (some (14, true)), []⟩,
      ⟨(some 24), .pick (.t 14) (.t 23) (.c (.bool false)), none, []⟩,
      ⟨(some 4), .mov (.t 24), none, []⟩])
  (.ret)), 25, [.t 4]⟩
def xf87 : XFunc := ⟨.seq (.reg [⟨(some 1), .box 43 (.t 0), none, []⟩,
      ⟨(some 2), .mov (.c (.int .i64 0)), none, []⟩])
  (.seq (.dreg [⟨(some 3), .faddr 0 (.t 1), none, []⟩,
      ⟨(some 4), .loadn 2 (.t 3), none, [0]⟩,
      ⟨(some 5), .call (.c (.fn 127 [] [])) [.t 4, .c (.fn 116 [] [])], none, [0, 1]⟩,
      ⟨(some 6), .faddr 2 (.t 1), none, []⟩,
      ⟨(some 7), .loadn 2 (.t 6), none, [3]⟩,
      ⟨(some 8), .call (.c (.fn 127 [] [])) [.t 7, .c (.fn 117 [] [])], none, [1, 0, 3, 2, 4]⟩,
      ⟨(some 9), .buildSlice 31 1 2 false [.int .i64 0, .int .i64 0] [(0, 1, .t 5), (1, 1, .t 8)], none, [4, 3, 1, 0, 5, 2]⟩,
      ⟨(some 10), .call (.c (.fn 74 [] [])) [.t 9], none, [2, 0, 1, 3, 4, 5, 6]⟩,
      ⟨(some 2), .mov (.t 10), none, [6, 5, 4, 3, 2, 1, 0, 7]⟩])
  (.ret)), 11, [.t 2]⟩
def xf90 : XFunc := ⟨.seq (.reg [⟨(some 3), .box 135 (.t 0), none, []⟩,
      ⟨(some 4), .box 43 (.t 1), none, []⟩,
      ⟨(some 6), .new 43 [.int .i64 0, .int .i64 0, .int .i64 0, .int .i64 0], none, []⟩])
  (.seq (.reg [⟨(some 11), .loadn 7 (.t 3), none, []⟩,
      ⟨(some 12), .faddr 0 (.t 4), none, []⟩,
      ⟨(some 13), .faddr 0 (.t 12), none, []⟩,
      ⟨(some 14), .load1 (.t 13), none, []⟩,
      ⟨(some 15), .faddr 2 (.t 4), none, []⟩,
      ⟨(some 16), .faddr 0 (.t 15), none, []⟩,
      ⟨(some 17), .load1 (.t 16), none, []⟩,
      ⟨(some 18), .mov (.t 2), none, []⟩,
      ⟨(some 19), .call (.c (.fn 130 [] [])) [.t 11, .t 14, .t 17, .t 18], none, []⟩,
      ⟨(some 7), .new 66 [.int .i64 0, .int .i64 0, .int .i64 0, .int .i64 0], none, []⟩,
      ⟨none, .store 4 (.t 7) (.t 19), none, []⟩])
  (.seq (.reg [⟨(some 20), .loadn 7 (.t 3), none, []⟩,
      ⟨(some 21), .faddr 0 (.t 4), none, []⟩,
      ⟨(some 22), .faddr 1 (.t 21), none, []⟩,
      ⟨(some 23), .load1 (.t 22), none, []⟩,
      ⟨(some 24), .faddr 2 (.t 4), none, []⟩,
      ⟨(some 25), .faddr 1 (.t 24), none, []⟩,
      ⟨(some 26), .load1 (.t 25), none, []⟩,
      ⟨(some 27), .mov (.t 2), none, []⟩,
      ⟨(some 28), .call (.c (.fn 130 [] [])) [.t 20, .t 23, .t 26, .t 27], none, []⟩,
      ⟨(some 8), .new 66 [.int .i64 0, .int .i64 0, .int .i64 0, .int .i64 0], none, []⟩,
      ⟨none, .store 4 (.t 8) (.t 28), none, []⟩])
  (.seq (.reg [⟨(some 29), .loadn 7 (.t 3), none, []⟩,
      ⟨(some 30), .faddr 0 (.t 4), none, []⟩,
      ⟨(some 31), .faddr 1 (.t 30), none, []⟩,
      ⟨(some 32), .load1 (.t 31), none, []⟩,
      ⟨(some 33), .faddr 2 (.t 4), none, []⟩,
      ⟨(some 34), .faddr 0 (.t 33), none, []⟩,
      ⟨(some 35), .load1 (.t 34), none, []⟩,
      ⟨(some 36), .mov (.t 2), none, []⟩,
      ⟨(some 37), .call (.c (.fn 130 [] [])) [.t 29, .t 32, .t 35, .t 36], none, []⟩,
      ⟨(some 9), .new 66 [.int .i64 0, .int .i64 0, .int .i64 0, .int .i64 0], none, []⟩,
      ⟨none, .store 4 (.t 9) (.t 37), none, []⟩])
  (.seq (.reg [⟨(some 38), .loadn 7 (.t 3), none, []⟩,
      ⟨(some 39), .faddr 0 (.t 4), none, []⟩,
      ⟨(some 40), .faddr 0 (.t 39), none, []⟩,
      ⟨(some 41), .load1 (.t 40), none, []⟩,
      ⟨(some 42), .faddr 2 (.t 4), none, []⟩,
      ⟨(some 43), .faddr 1 (.t 42), none, []⟩,
      ⟨(some 44), .load1 (.t 43), none, []⟩,
      ⟨(some 45), .mov (.t 2), none, []⟩,
      ⟨(some 46), .call (.c (.fn 130 [] [])) [.t 38, .t 41, .t 44, .t 45], none, []⟩,
      ⟨(some 10), .new 66 [.int .i64 0, .int .i64 0, .int .i64 0, .int .i64 0], none, []⟩,
      ⟨none, .store 4 (.t 10) (.t 46), none, []⟩])
  (.seq (.reg [⟨(some 47), .iaddrA 2 2 (.t 7) (.c (.int .i64 0)), none, []⟩,
      ⟨(some 48), .faddr 0 (.t 47), none, []⟩,
      ⟨(some 49), .load1 (.t 48), none, []⟩,
      ⟨(some 50), .iaddrA 2 2 (.t 7) (.c (.int .i64 1)), none, []⟩,
      ⟨(some 51), .faddr 0 (.t 50), none, []⟩,
      ⟨(some 52), .load1 (.t 51), none, []⟩,
      ⟨(some 53), .ext false (.t 49) [.t 52], none, []⟩,
      ⟨(some 54), .iaddrA 2 2 (.t 8) (.c (.int .i64 0)), none, []⟩,
      ⟨(some 55), .faddr 0 (.t 54), none, []⟩,
      ⟨(some 56), .load1 (.t 55), none, []⟩,
      ⟨(some 57), .iaddrA 2 2 (.t 8) (.c (.int .i64 1)), none, []⟩,
      ⟨(some 58), .faddr 0 (.t 57), none, []⟩,
      ⟨(some 59), .load1 (.t 58), none, []⟩,
      ⟨(some 60), .ext true (.t 56) [.t 59], none, []⟩,
      ⟨(some 61), .build [.int .i64 0, .int .i64 0] [(0, 1, .t 53), (1, 1, .t 60)], none, []⟩,
      ⟨(some 62), .iaddrA 2 2 (.t 9) (.c (.int .i64 0)), none, []⟩,
      ⟨(some 63), .faddr 1 (.t 62), none, []⟩,
      ⟨(some 64), .load1 (.t 63), none, []⟩,
      ⟨(some 65), .iaddrA 2 2 (.t 9) (.c (.int .i64 1)), none, []⟩,
      ⟨(some 66), .faddr 1 (.t 65), none, []⟩,
      ⟨(some 67), .load1 (.t 66), none, []⟩,
      ⟨(some 68), .ext false (.t 64) [.t 67], none, []⟩,
      ⟨(some 69), .iaddrA 2 2 (.t 10) (.c (.int .i64 0)), none, []⟩,
      ⟨(some 70), .faddr 1 (.t 69), none, []⟩,
      ⟨(some 71), .load1 (.t 70), none, []⟩,
      ⟨(some 72), .iaddrA 2 2 (.t 10) (.c (.int .i64 1)), none, []⟩,
      ⟨(some 73), .faddr 1 (.t 72), none, []⟩,
      ⟨(some 74), .load1 (.t 73), none, []⟩,
      ⟨(some 75), .ext true (.t 71) [.t 74], none, []⟩,
      ⟨(some 76), .build [.int .i64 0, .int .i64 0] [(0, 1, .t 68), (1, 1, .t 75)], none, []⟩,
      ⟨(some 77), .build [.int .i64 0, .int .i64 0, .int .i64 0, .int .i64 0] [(0, 2, .t 61), (2, 2, .t 76)], none, []⟩,
      ⟨none, .store 4 (.t 6) (.t 77), none, []⟩])
  (.ret)))))), 78, [.cn 6 4]⟩
def xf91 : XFunc := ⟨.seq (.reg [⟨(some 2), .box 23 (.t 0), none, []⟩,
      ⟨(some 4), .mov (.c (.int .i64 0)), none, []⟩])
  (.seq (.seq (.reg [⟨(some 5), .faddr 0 (.t 2), none, []⟩,
      ⟨(some 6), .load1 (.t 5), none, []⟩,
      ⟨(some 7), .mov (.t 1), none, []⟩,
      ⟨(some 8), .un .neg (.t 7), none, []⟩,
      ⟨(some 9), .mov (.t 1), none, []⟩,
      ⟨(some 10), .call (.c (.fn 37 [] [])) [.t 6, .t 8, .t 9], none, []⟩,
      ⟨(some 11), .un .not (.t 10), none, []⟩,
      ⟨(some 12), .mov (.t 11), none, []⟩,
      ⟨(some 13), .faddr 1 (.t 2), (some (12, false)), []⟩,
      ⟨(some 14), .load1 (.t 13), (some (12, false)), []⟩,
      ⟨(some 15), .mov (.t 1), (some (12, false)), []⟩,
      ⟨(some 16), .un .neg (.t 15), (some (12, false)), []⟩,
      ⟨(some 17), .mov (.t 1), (some (12, false)), []⟩,
      ⟨(some 18), .call (.c (.fn 37 [] [])) [.t 14, .t 16, .t 17], (some (12, false)), []⟩,
      ⟨(some 19), .un .not (.t 18), (some (12, false)), []⟩,
      ⟨(some 20), .pick (.t 12) (.c (.bool true)) (.t 19), none, []⟩])
  (.cond (.t 20) (.seq (.reg [⟨(some 4), .mov (.c (.int .i64 2)), none, []⟩])
    (.ret)) .skip))
  (.seq (.seq (.reg [⟨(some 21), .faddr 0 (.t 2), none, []⟩,
      ⟨(some 22), .load1 (.t 21), none, []⟩,
      ⟨(some 23), .faddr 1 (.t 2), none, []⟩,
      ⟨(some 24), .load1 (.t 23), none, []⟩,
      ⟨(some 25), .bin .gtr (.t 22) (.t 24), none, []⟩])
  (.cond (.t 25) (.seq (.reg [⟨(some 4), .mov (.c (.int .i64 9)), none, []⟩])
    (.ret)) .skip))
  (.seq (.reg [⟨(some 4), .mov (.c (.int .i64 0)), none, []⟩])
  (.ret)))), 26, [.t 4]⟩
def xf127 : XFunc := ⟨.seq (.reg [⟨(some 2), .box 23 (.t 0), none, []⟩,
      ⟨(some 4), .mov (.c (.int .i64 0)), none, []⟩])
  (.seq (.dreg [⟨(some 5), .mov (.t 1), none, []⟩,
      ⟨(some 6), .faddr 0 (.t 2), none, []⟩,
      ⟨(some 7), .load1 (.t 6), none, [1]⟩,
      ⟨(some 8), .call (.t 5) [.t 7], none, [1, 2, 0]⟩,
      ⟨(some 9), .mov (.t 1), none, []⟩,
      ⟨(some 10), .faddr 1 (.t 2), none, []⟩,
      ⟨(some 11), .load1 (.t 10), none, [5]⟩,
      ⟨(some 12), .call (.t 9) [.t 11], none, [0, 2, 1, 5, 3, 6, 4]⟩,
      ⟨(some 13), .faddr 0 (.t 2), none, []⟩,
      ⟨(some 14), .load1 (.t 13), none, [8]⟩,
      ⟨(some 15), .faddr 1 (.t 2), none, []⟩,
      ⟨(some 16), .load1 (.t 15), none, [10]⟩,
      ⟨(some 17), .bin .leq (.t 14) (.t 16), none, [10, 8, 11, 9]⟩,
      ⟨(some 18), .call (.c (.fn 81 [] [])) [.t 17, .c (.int .i64 9)], none, [4, 6, 3, 5, 1, 2, 0, 9, 11, 8, 10, 7, 12]⟩,
      ⟨(some 19), .buildSlice 31 1 3 false [.int .i64 0, .int .i64 0, .int .i64 0] [(0, 1, .t 8), (1, 1, .t 12), (2, 1, .t 18)], none, [12, 10, 8, 11, 9, 4, 6, 5, 0, 2, 1, 13, 7, 3]⟩,
      ⟨(some 20), .call (.c (.fn 74 [] [])) [.t 19], none, [3, 7, 1, 2, 0, 5, 6, 4, 9, 11, 8, 10, 12, 13, 14]⟩,
      ⟨(some 4), .mov (.t 20), none, [14, 13, 12, 11, 10, 9, 8, 7, 6, 5, 4, 3, 2, 1, 0, 15]⟩])
  (.ret)), 21, [.t 4]⟩
def xf130l0 : XCode := .seq (.reg [⟨(some 15), .bin .lss (.t 14) (.c (.int .i64 2)), none, []⟩])
  (.seq (.cond (.t 15) .skip (.exit 0))
  (.seq (.block 1 (.seq (.reg [⟨(some 16), .mov (.t 14), none, []⟩,
        ⟨(some 17), .index 1 2 false (.t 13) (.t 14), none, []⟩,
        ⟨(some 10), .mov (.t 16), none, []⟩,
        ⟨(some 11), .mov (.t 17), none, []⟩])
    (.reg [⟨(some 18), .mov (.t 10), none, []⟩,
        ⟨(some 19), .loadn 7 (.t 4), none, []⟩,
        ⟨(some 20), .mov (.t 1), none, []⟩,
        ⟨(some 21), .mov (.t 2), none, []⟩,
        ⟨(some 22), .build [.int .i64 0, .int .i64 0] [(0, 1, .t 20), (1, 1, .t 21)], none, []⟩,
        ⟨(some 23), .mov (.t 3), none, []⟩,
        ⟨(some 24), .mov (.t 11), none, []⟩,
        ⟨(some 25), .call (.c (.fn 78 [] [])) [.t 19, .t 22, .t 23, .t 24], none, []⟩,
        ⟨(some 26), .iaddrA 2 2 (.t 9) (.t 18), none, []⟩,
        ⟨none, .store 2 (.t 26) (.t 25), none, []⟩])))
  (.reg [⟨(some 27), .bin .add (.t 14) (.c (.int .i64 1)), none, []⟩,
      ⟨(some 14), .mov (.t 27), none, []⟩])))
def xf130 : XFunc := ⟨.seq (.reg [⟨(some 4), .box 135 (.t 0), none, []⟩,
      ⟨(some 8), .new 66 [.int .i64 0, .int .i64 0, .int .i64 0, .int .i64 0], none, []⟩])
  (.seq (.reg [⟨(some 9), .new 66 [.int .i64 0, .int .i64 0, .int .i64 0, .int .i64 0], none, []⟩])
  (.seq (.seq (.reg [⟨(some 12), .faddr 5 (.t 4), none, []⟩,
      ⟨(some 13), .loadn 2 (.t 12), none, []⟩,
      ⟨(some 14), .mov (.c (.int .i64 0)), none, []⟩])
  (.block 0 (.loop xf130l0)))
  (.seq (.reg [⟨(some 28), .loadn 4 (.t 9), none, []⟩,
      ⟨none, .store 4 (.t 8) (.t 28), none, []⟩])
  (.ret)))), 29, [.cn 8 4]⟩
structure SuBCode (X : FuncId → Option XFunc) : Prop where
  suA : SuACode X
  h6 : X 6 = some xf6
  h27 : X 27 = some xf27
  h31 : X 31 = some xf31
  h32 : X 32 = some xf32
  h33 : X 33 = some xf33
  h36 : X 36 = some xf36
  h87 : X 87 = some xf87
  h90 : X 90 = some xf90
  h91 : X 91 = some xf91
  h127 : X 127 = some xf127
  h130 : X 130 = some xf130
end Go.Proofs.Ytlknncjnfgnlaaa.Eng

/-
  CODE of SuC.
-/
namespace Go.Proofs.Ytlknncjnfgnlaaa.Eng
set_option linter.unusedSimpArgs false
set_option linter.unusedVariables false
def xf4 : XFunc := ⟨.seq (.reg [⟨(some 3), .box 25 (.t 0), none, []⟩,
      ⟨(some 4), .box 43 (.t 1), none, []⟩,
      ⟨(some 5), .box 46 (.t 2), none, []⟩,
      ⟨(some 6), .mov (.c (.bool false)), none, []⟩])
  (.seq (.seq (.reg [⟨(some 17), .call (.c (.fn 14 [] [])) [], none, []⟩,
      ⟨(some 18), .un .not (.t 17), none, []⟩])
  (.cond (.t 18) (.seq (.reg [⟨(some 6), .mov (.c (.bool false)), none, []⟩])
    (.ret)) .skip))
  (.seq (.seq (.reg [⟨(some 19), .faddr 0 (.t 5), none, []⟩,
      ⟨(some 20), .load1 (.t 19), none, []⟩,
      ⟨(some 21), .call (.c (.fn 23 [] [])) [.t 20], none, []⟩,
      ⟨(some 22), .un .not (.t 21), none, []⟩])
  (.cond (.t 22) (.seq (.reg [⟨(some 6), .mov (.c (.bool true)), none, []⟩])
    (.ret)) .skip))
  (.seq (.reg [⟨(some 23), .faddr 0 (.t 4), none, []⟩,
      ⟨(some 24), .faddr 0 (.t 23), none, []⟩,
      ⟨(some 25), .load1 (.t 24), none, []⟩,
      ⟨(some 26), .faddr 2 (.t 4), none, []⟩,
      ⟨(some 27), .faddr 1 (.t 26), none, []⟩,
      ⟨(some 28), .load1 (.t 27), none, []⟩,
      ⟨(some 29), .build [.int .i64 0, .int .i64 0] [(0, 1, .t 25), (1, 1, .t 28)], none, []⟩,
      ⟨(some 7), .new 27 [.int .i64 0, .int .i64 0], none, []⟩,
      ⟨none, .store 2 (.t 7) (.t 29), none, []⟩])
  (.seq (.dreg [⟨(some 31), .loadn 5 (.t 3), none, []⟩,
      ⟨(some 32), .loadn 2 (.t 7), none, []⟩,
      ⟨(some 33), .faddr 0 (.t 5), none, []⟩,
      ⟨(some 34), .load1 (.t 33), none, [2]⟩,
      ⟨(some 35), .call (.c (.fn 25 [] [])) [.t 34], none, [2, 3]⟩,
      ⟨(some 36), .faddr 1 (.t 5), none, []⟩,
      ⟨(some 37), .load1 (.t 36), none, [5]⟩,
      ⟨(some 38), .build [.nils, .int .i64 0] [(0, 1, .t 35), (1, 1, .t 37)], none, [5, 3, 2, 6, 4]⟩,
      ⟨(some 39), .call (.c (.fn 24 [] [])) [.t 31, .t 32, .t 38], none, [6, 2, 3, 5, 4, 7, 1, 0]⟩,
      ⟨(some 30), .mov (.t 39), none, [0, 1, 7, 4, 5, 3, 2, 6, 8]⟩,
      ⟨(some 40), .extract (.t 30) 0, none, [8, 6, 2, 3, 5, 4, 7, 1, 0, 9]⟩,
      ⟨(some 41), .extract (.t 30) 1, none, [8, 6, 2, 3, 5, 4, 7, 1, 0, 9]⟩,
      ⟨(some 8), .mov (.t 40), none, [9, 7, 6, 5, 4, 3, 2, 1, 0, 8, 10]⟩,
      ⟨(some 9), .mov (.t 41), none, [10, 9, 8, 7, 6, 5, 4, 3, 2, 1, 0, 12, 11]⟩])
  (.seq (.dreg [⟨(some 43), .loadn 5 (.t 3), none, []⟩,
      ⟨(some 44), .loadn 4 (.t 4), none, []⟩,
      ⟨(some 45), .faddr 0 (.t 5), none, []⟩,
      ⟨(some 46), .load1 (.t 45), none, [2]⟩,
      ⟨(some 47), .call (.c (.fn 25 [] [])) [.t 46], none, [2, 3]⟩,
      ⟨(some 48), .call (.c (.fn 26 [] [])) [.t 43, .t 44, .t 47], none, [3, 2, 4, 1, 0]⟩,
      ⟨(some 42), .mov (.t 48), none, [0, 1, 4, 2, 3, 5]⟩,
      ⟨(some 49), .extract (.t 42) 0, none, [5, 3, 2, 4, 1, 0, 6]⟩,
      ⟨(some 50), .extract (.t 42) 1, none, [5, 3, 2, 4, 1, 0, 6]⟩,
      ⟨(some 10), .mov (.t 49), none, [6, 4, 3, 2, 1, 0, 5, 7]⟩,
      ⟨(some 11), .mov (.t 50), none, [7, 6, 5, 4, 3, 2, 1, 0, 9, 8]⟩])
  (.seq (.reg [⟨(some 12), .mov (.c (.int .i64 0)), none, []⟩])
  (.seq (.seq (.reg [⟨(some 51), .faddr 0 (.t 5), none, []⟩,
      ⟨(some 52), .load1 (.t 51), none, []⟩,
      ⟨(some 53), .len (.t 52), none, []⟩,
      ⟨(some 54), .bin .gtr (.t 53) (.c (.int .i64 0)), none, []⟩])
  (.cond (.t 54) (.reg [⟨(some 55), .faddr 0 (.t 5), none, []⟩,
        ⟨(some 56), .load1 (.t 55), none, []⟩,
        ⟨(some 57), .iaddr 1 (.t 56) (.c (.int .i64 0)), none, []⟩,
        ⟨(some 58), .load1 (.t 57), none, []⟩,
        ⟨(some 12), .mov (.t 58), none, []⟩]) .skip))
  (.seq (.reg [⟨(some 60), .loadn 5 (.t 3), none, []⟩,
      ⟨(some 61), .loadn 4 (.t 4), none, []⟩,
      ⟨(some 62), .mov (.t 12), none, []⟩,
      ⟨(some 63), .call (.c (.fn 27 [] [])) [.t 60, .t 61, .t 62], none, []⟩,
      ⟨(some 59), .mov (.t 63), none, []⟩,
      ⟨(some 64), .extract (.t 59) 0, none, []⟩,
      ⟨(some 65), .extract (.t 59) 1, none, []⟩,
      ⟨(some 13), .new 43 [.int .i64 0, .int .i64 0, .int .i64 0, .int .i64 0], none, []⟩,
      ⟨none, .store 4 (.t 13) (.t 64), none, []⟩,
      ⟨(some 14), .mov (.t 65), none, []⟩])
  (.seq (.reg [⟨(some 66), .loadn 5 (.t 3), none, []⟩,
      ⟨(some 67), .call (.c (.fn 16 [] [])) [.t 66], none, []⟩,
      ⟨(some 15), .mov (.t 67), none, []⟩])
  (.seq (.reg [⟨(some 68), .mov (.t 15), none, []⟩,
      ⟨(some 16), .mov (.t 68), none, []⟩])
  (.seq (.seq (.reg [⟨(some 69), .mov (.t 15), none, []⟩,
      ⟨(some 70), .bin .eql (.t 69) (.c (.int .i64 0)), none, []⟩])
  (.cond (.t 70) (.reg [⟨(some 71), .loadn 2 (.t 7), none, []⟩,
        ⟨(some 72), .call (.c (.fn 18 [] [])) [.t 71], none, []⟩,
        ⟨(some 15), .mov (.t 72), none, []⟩]) .skip))
  (.seq (.seq (.reg [⟨(some 73), .mov (.t 15), none, []⟩,
      ⟨(some 74), .bin .eql (.t 73) (.c (.int .i64 0)), none, []⟩])
  (.cond (.t 74) (.reg [⟨(some 75), .faddr 0 (.t 5), none, []⟩,
        ⟨(some 76), .load1 (.t 75), none, []⟩,
        ⟨(some 77), .call (.c (.fn 28 [] [])) [.t 76], none, []⟩,
        ⟨(some 15), .mov (.t 77), none, []⟩]) .skip))
  (.seq (.seq (.reg [⟨(some 78), .mov (.t 15), none, []⟩,
      ⟨(some 79), .bin .eql (.t 78) (.c (.int .i64 0)), none, []⟩])
  (.cond (.t 79) (.reg [⟨(some 80), .loadn 5 (.t 3), none, []⟩,
        ⟨(some 81), .faddr 1 (.t 5), none, []⟩,
        ⟨(some 82), .load1 (.t 81), none, []⟩,
        ⟨(some 83), .call (.c (.fn 21 [] [])) [.t 80, .t 82], none, []⟩,
        ⟨(some 15), .mov (.t 83), none, []⟩]) .skip))
  (.seq (.seq (.reg [⟨(some 84), .mov (.t 15), none, []⟩,
      ⟨(some 85), .bin .neq (.t 84) (.c (.int .i64 0)), none, []⟩,
      ⟨(some 86), .mov (.t 85), none, []⟩,
      ⟨(some 87), .mov (.t 9), (some (86, true)), []⟩,
      ⟨(some 88), .mov (.t 15), (some (86, true)), []⟩,
      ⟨(some 89), .bin .neq (.t 87) (.t 88), (some (86, true)), []⟩,
      ⟨(some 90), .mov (.t 89), (some (86, true)), []⟩,
      ⟨(some 91), .mov (.t 8), (some (90, false)), []⟩,
      ⟨(some 92), .len (.t 91), (some (90, false)), []⟩,
      ⟨(some 93), .bin .neq (.t 92) (.c (.int .i64 0)), (some (90, false)), []⟩,
      ⟨(some 94), .pick (.t 90) (.c (.bool true)) (.t 93), (some (86, true)), []⟩,
      ⟨(some 95), .pick (.t 86) (.t 94) (.c (.bool false)), none, []⟩,
      ⟨(some 96), .mov (.t 95), none, []⟩,
      ⟨(some 97), .mov (.t 15), (some (96, false)), []⟩,
      ⟨(some 98), .bin .eql (.t 97) (.c (.int .i64 0)), (some (96, false)), []⟩,
      ⟨(some 99), .mov (.t 98), (some (96, false)), []⟩,
      ⟨(some 100), .mov (.t 9), (some (99, true)), []⟩,
      ⟨(some 101), .bin .neq (.t 100) (.c (.int .i64 0)), (some (99, true)), []⟩,
      ⟨(some 102), .mov (.t 101), (some (99, true)), []⟩,
      ⟨(some 103), .mov (.t 8), (some (102, false)), []⟩,
      ⟨(some 104), .loadn 5 (.t 3), (some (102, false)), []⟩,
      ⟨(some 105), .loadn 2 (.t 7), (some (102, false)), []⟩,
      ⟨(some 106), .faddr 0 (.t 5), (some (102, false)), []⟩,
      ⟨(some 107), .load1 (.t 106), (some (102, false)), []⟩,
      ⟨(some 108), .faddr 1 (.t 5), (some (102, false)), []⟩,
      ⟨(some 109), .load1 (.t 108), (some (102, false)), []⟩,
      ⟨(some 110), .call (.c (.fn 30 [] [])) [.t 104, .t 105, .t 107, .t 109], (some (102, false)), []⟩,
      ⟨(some 111), .call (.c (.fn 29 [] [])) [.t 103, .t 110], (some (102, false)), []⟩,
      ⟨(some 112), .un .not (.t 111), (some (102, false)), []⟩,
      ⟨(some 113), .pick (.t 102) (.c (.bool true)) (.t 112), (some (99, true)), []⟩,
      ⟨(some 114), .pick (.t 99) (.t 113) (.c (.bool false)), (some (96, false)), []⟩,
      ⟨(some 115), .pick (.t 96) (.c (.bool true)) (.t 114), none, []⟩])
  (.cond (.t 115) (.seq (.reg [⟨(some 6), .mov (.c (.bool false)), none, []⟩])
    (.ret)) .skip))
  (.seq (.seq (.reg [⟨(some 116), .mov (.t 16), none, []⟩,
      ⟨(some 117), .bin .eql (.t 116) (.c (.int .i64 0)), none, []⟩])
  (.cond (.t 117) (.reg [⟨(some 118), .loadn 4 (.t 4), none, []⟩,
        ⟨(some 119), .call (.c (.fn 31 [] [])) [.t 118], none, []⟩,
        ⟨(some 16), .mov (.t 119), none, []⟩]) .skip))
  (.seq (.seq (.reg [⟨(some 120), .loadn 5 (.t 3), none, []⟩,
      ⟨(some 121), .loadn 4 (.t 4), none, []⟩,
      ⟨(some 122), .call (.c (.fn 32 [] [])) [.t 120, .t 121], none, []⟩,
      ⟨(some 123), .mov (.t 16), none, []⟩,
      ⟨(some 124), .bin .neq (.t 122) (.t 123), none, []⟩])
  (.cond (.t 124) (.seq (.reg [⟨(some 6), .mov (.c (.bool false)), none, []⟩])
    (.ret)) .skip))
  (.seq (.seq (.reg [⟨(some 125), .mov (.t 16), none, []⟩,
      ⟨(some 126), .bin .neq (.t 125) (.c (.int .i64 0)), none, []⟩])
  (.cond (.t 126) (.seq (.reg [⟨(some 127), .mov (.t 11), none, []⟩,
        ⟨(some 128), .mov (.t 16), none, []⟩,
        ⟨(some 129), .bin .eql (.t 127) (.t 128), none, []⟩,
        ⟨(some 130), .mov (.t 129), none, []⟩,
        ⟨(some 131), .mov (.t 14), (some (130, true)), []⟩,
        ⟨(some 132), .mov (.t 16), (some (130, true)), []⟩,
        ⟨(some 133), .bin .eql (.t 131) (.t 132), (some (130, true)), []⟩,
        ⟨(some 134), .pick (.t 130) (.t 133) (.c (.bool false)), none, []⟩,
        ⟨(some 135), .mov (.t 134), none, []⟩,
        ⟨(some 136), .mov (.t 10), (some (135, true)), []⟩,
        ⟨(some 137), .len (.t 136), (some (135, true)), []⟩,
        ⟨(some 138), .bin .eql (.t 137) (.c (.int .i64 0)), (some (135, true)), []⟩,
        ⟨(some 139), .pick (.t 135) (.t 138) (.c (.bool false)), none, []⟩,
        ⟨(some 140), .mov (.t 139), none, []⟩,
        ⟨(some 141), .loadn 4 (.t 13), (some (140, true)), []⟩,
        ⟨(some 142), .build [.int .i64 0, .int .i64 0, .int .i64 0, .int .i64 0] [], (some (140, true)), []⟩,
        ⟨(some 143), .eqA false (.s [(0, 2, true, .s [(0, 1, false, .c 0), (1, 1, false, .c 0)]), (2, 2, true, .s [(0, 1, false, .c 0), (1, 1, false, .c 0)])]) (.t 141) (.t 142), (some (140, true)), []⟩,
        ⟨(some 144), .pick (.t 140) (.t 143) (.c (.bool false)), none, []⟩,
        ⟨(some 6), .mov (.t 144), none, []⟩])
    (.ret)) .skip))
  (.seq (.seq (.reg [⟨(some 145), .mov (.t 12), none, []⟩,
      ⟨(some 146), .call (.c (.fn 20 [] [])) [.t 145], none, []⟩,
      ⟨(some 15), .mov (.t 146), none, []⟩])
  (.seq (.dreg [⟨(some 147), .mov (.t 15), none, []⟩,
      ⟨(some 148), .bin .neq (.t 147) (.c (.int .i64 0)), none, [0]⟩,
      ⟨(some 149), .mov (.t 148), none, [0, 1]⟩,
      ⟨(some 150), .mov (.t 14), (some (149, true)), [1, 0, 2]⟩,
      ⟨(some 151), .mov (.t 15), (some (149, true)), [1, 0, 2]⟩,
      ⟨(some 152), .bin .neq (.t 150) (.t 151), (some (149, true)), [0, 1, 2, 4, 3]⟩,
      ⟨(some 153), .mov (.t 152), (some (149, true)), [3, 4, 1, 0, 2, 5]⟩,
      ⟨(some 154), .loadn 4 (.t 13), (some (153, false)), [5, 2, 0, 1, 4, 3, 6]⟩,
      ⟨(some 155), .build [.int .i64 0, .int .i64 0, .int .i64 0, .int .i64 0] [], (some (153, false)), [5, 2, 0, 1, 4, 3, 6]⟩,
      ⟨(some 156), .eqA true (.s [(0, 2, true, .s [(0, 1, false, .c 0), (1, 1, false, .c 0)]), (2, 2, true, .s [(0, 1, false, .c 0), (1, 1, false, .c 0)])]) (.t 154) (.t 155), (some (153, false)), [3, 4, 1, 0, 2, 5, 6, 8, 7]⟩,
      ⟨(some 157), .pick (.t 153) (.c (.bool true)) (.t 156), (some (149, true)), [7, 8, 5, 0, 1, 4, 3, 2, 9, 6]⟩,
      ⟨(some 158), .pick (.t 149) (.t 157) (.c (.bool false)), none, [6, 9, 3, 4, 5, 8, 7, 1, 0, 10, 2]⟩,
      ⟨(some 159), .mov (.t 158), none, [2, 10, 0, 1, 7, 8, 5, 4, 3, 9, 6, 11]⟩,
      ⟨(some 160), .mov (.t 15), (some (159, false)), [11, 6, 9, 3, 4, 5, 8, 7, 1, 0, 10, 2, 12]⟩,
      ⟨(some 161), .bin .eql (.t 160) (.c (.int .i64 0)), (some (159, false)), [2, 10, 0, 1, 7, 8, 5, 4, 3, 9, 6, 11, 12, 13]⟩,
      ⟨(some 162), .mov (.t 161), (some (159, false)), [13, 11, 6, 9, 3, 4, 5, 8, 7, 1, 0, 10, 2, 12, 14]⟩,
      ⟨(some 163), .mov (.t 14), (some (162, true)), [14, 12, 2, 10, 0, 1, 7, 8, 5, 4, 3, 9, 6, 11, 13, 15]⟩,
      ⟨(some 164), .bin .neq (.t 163) (.c (.int .i64 0)), (some (162, true)), [13, 11, 6, 9, 3, 4, 5, 8, 7, 1, 0, 10, 2, 12, 14, 15, 16]⟩,
      ⟨(some 165), .mov (.t 164), (some (162, true)), [16, 14, 12, 2, 10, 0, 1, 7, 8, 5, 4, 3, 9, 6, 11, 13, 15, 17]⟩,
      ⟨(some 166), .loadn 4 (.t 13), (some (165, false)), [17, 15, 13, 11, 6, 9, 3, 4, 5, 8, 7, 1, 0, 10, 2, 12, 14, 16, 18]⟩,
      ⟨(some 167), .loadn 5 (.t 3), (some (165, false)), [17, 15, 13, 11, 6, 9, 3, 4, 5, 8, 7, 1, 0, 10, 2, 12, 14, 16, 18]⟩,
      ⟨(some 168), .loadn 4 (.t 4), (some (165, false)), [17, 15, 13, 11, 6, 9, 3, 4, 5, 8, 7, 1, 0, 10, 2, 12, 14, 16, 18]⟩,
      ⟨(some 169), .mov (.t 12), (some (165, false)), [17, 15, 13, 11, 6, 9, 3, 4, 5, 8, 7, 1, 0, 10, 2, 12, 14, 16, 18]⟩,
      ⟨(some 170), .call (.c (.fn 33 [] [])) [.t 167, .t 168, .t 169], (some (165, false)), [16, 14, 12, 2, 10, 0, 1, 7, 8, 5, 4, 3, 9, 6, 11, 13, 15, 17, 18, 22, 21, 20]⟩,
      ⟨(some 171), .eqA true (.s [(0, 2, true, .s [(0, 1, false, .c 0), (1, 1, false, .c 0)]), (2, 2, true, .s [(0, 1, false, .c 0), (1, 1, false, .c 0)])]) (.t 166) (.t 170), (some (165, false)), [20, 21, 22, 16, 14, 12, 2, 10, 0, 1, 7, 8, 5, 4, 3, 9, 6, 11, 13, 15, 17, 18, 23, 19]⟩,
      ⟨(some 172), .pick (.t 165) (.c (.bool true)) (.t 171), (some (162, true)), [19, 23, 22, 21, 20, 17, 13, 11, 6, 9, 3, 4, 5, 8, 7, 1, 0, 10, 2, 12, 14, 16, 15, 24, 18]⟩,
      ⟨(some 173), .pick (.t 162) (.t 172) (.c (.bool false)), (some (159, false)), [18, 24, 16, 17, 20, 21, 22, 23, 19, 14, 2, 10, 0, 1, 7, 8, 5, 4, 3, 9, 6, 11, 13, 12, 25, 15]⟩,
      ⟨(some 174), .pick (.t 159) (.c (.bool true)) (.t 173), none, [15, 25, 13, 14, 19, 23, 22, 21, 20, 17, 16, 24, 18, 11, 6, 9, 3, 4, 5, 8, 7, 1, 0, 10, 2, 26, 12]⟩])
  (.cond (.t 174) (.seq (.reg [⟨(some 6), .mov (.c (.bool false)), none, []⟩])
    (.ret)) .skip)))
  (.seq (.seq (.reg [⟨(some 175), .faddr 0 (.t 5), none, []⟩,
      ⟨(some 176), .load1 (.t 175), none, []⟩,
      ⟨(some 177), .call (.c (.fn 28 [] [])) [.t 176], none, []⟩,
      ⟨(some 15), .mov (.t 177), none, []⟩])
  (.seq (.reg [⟨(some 178), .mov (.t 15), none, []⟩,
      ⟨(some 179), .bin .neq (.t 178) (.c (.int .i64 0)), none, []⟩])
  (.cond (.t 179) (.seq (.reg [⟨(some 180), .mov (.t 11), none, []⟩,
        ⟨(some 181), .mov (.t 15), none, []⟩,
        ⟨(some 182), .bin .eql (.t 180) (.t 181), none, []⟩,
        ⟨(some 183), .mov (.t 182), none, []⟩,
        ⟨(some 184), .mov (.t 10), (some (183, true)), []⟩,
        ⟨(some 185), .len (.t 184), (some (183, true)), []⟩,
        ⟨(some 186), .bin .eql (.t 185) (.c (.int .i64 0)), (some (183, true)), []⟩,
        ⟨(some 187), .pick (.t 183) (.t 186) (.c (.bool false)), none, []⟩,
        ⟨(some 6), .mov (.t 187), none, []⟩])
    (.ret)) .skip)))
  (.seq (.reg [⟨(some 188), .mov (.t 11), none, []⟩,
      ⟨(some 189), .bin .eql (.t 188) (.c (.int .i64 0)), none, []⟩,
      ⟨(some 190), .mov (.t 189), none, []⟩,
      ⟨(some 191), .mov (.t 10), (some (190, true)), []⟩,
      ⟨(some 192), .loadn 5 (.t 3), (some (190, true)), []⟩,
      ⟨(some 193), .loadn 4 (.t 4), (some (190, true)), []⟩,
      ⟨(some 194), .faddr 0 (.t 5), (some (190, true)), []⟩,
      ⟨(some 195), .load1 (.t 194), (some (190, true)), []⟩,
      ⟨(some 196), .call (.c (.fn 35 [] [])) [.t 192, .t 193, .t 195], (some (190, true)), []⟩,
      ⟨(some 197), .call (.c (.fn 34 [] [])) [.t 191, .t 196], (some (190, true)), []⟩,
      ⟨(some 198), .pick (.t 190) (.t 197) (.c (.bool false)), none, []⟩,
      ⟨(some 6), .mov (.t 198), none, []⟩])
  (.ret))))))))))))))))))))), 199, [.t 6]⟩
def xf23 : XFunc := ⟨.seq (.reg [⟨(some 2), .mov (.c (.bool false)), none, []⟩])
  (.seq (.reg [⟨(some 3), .mov (.t 0), none, []⟩,
      ⟨(some 4), .len (.t 3), none, []⟩,
      ⟨(some 5), .bin .leq (.t 4) (.c (.int .i64 40)), none, []⟩,
      ⟨(some 6), .mov (.t 5), none, []⟩,
      ⟨(some 7), .mov (.t 0), (some (6, false)), []⟩,
      ⟨(some 8), .len (.t 7), (some (6, false)), []⟩,
      ⟨(some 9), .bin .gtr (.t 8) (.c (.int .i64 200)), (some (6, false)), []⟩,
      ⟨(some 10), .mov (.t 9), (some (6, false)), []⟩,
      ⟨(some 11), .mov (.t 0), (some (10, true)), []⟩,
      ⟨(some 12), .len (.t 11), (some (10, true)), []⟩,
      ⟨(some 13), .bin .leq (.t 12) (.c (.int .i64 202)), (some (10, true)), []⟩,
      ⟨(some 14), .pick (.t 10) (.t 13) (.c (.bool false)), (some (6, false)), []⟩,
      ⟨(some 15), .pick (.t 6) (.c (.bool true)) (.t 14), none, []⟩,
      ⟨(some 2), .mov (.t 15), none, []⟩])
  (.ret)), 16, [.t 2]⟩
def xf24 : XFunc := ⟨.seq (.reg [⟨(some 3), .box 25 (.t 0), none, []⟩,
      ⟨(some 4), .box 27 (.t 1), none, []⟩,
      ⟨(some 5), .box 46 (.t 2), none, []⟩,
      ⟨(some 6), .mov (.c .nils), none, []⟩,
      ⟨(some 7), .mov (.c (.int .i64 0)), none, []⟩])
  (.seq (.reg [⟨(some 12), .loadn 5 (.t 3), none, []⟩,
      ⟨(some 13), .call (.c (.fn 73 [] [])) [.t 12], none, []⟩,
      ⟨(some 11), .mov (.t 13), none, []⟩,
      ⟨(some 14), .extract (.t 11) 0, none, []⟩,
      ⟨(some 15), .extract (.t 11) 1, none, []⟩,
      ⟨(some 8), .new 135 [.int .i64 0, .int .i64 0, .int .i64 0, .int .i64 0, .int .i64 0, .int .i64 0, .int .i64 0], none, []⟩,
      ⟨none, .store 7 (.t 8) (.t 14), none, []⟩,
      ⟨(some 9), .mov (.t 15), none, []⟩])
  (.seq (.seq (.dreg [⟨(some 16), .mov (.t 9), none, []⟩,
      ⟨(some 17), .loadn 2 (.t 4), none, []⟩,
      ⟨(some 18), .call (.c (.fn 75 [] [])) [.t 17], none, [1]⟩,
      ⟨(some 19), .faddr 0 (.t 5), none, []⟩,
      ⟨(some 20), .load1 (.t 19), none, [3]⟩,
      ⟨(some 21), .call (.c (.fn 84 [] [])) [.t 20], none, [1, 3, 2, 4]⟩,
      ⟨(some 22), .loadn 7 (.t 8), none, []⟩,
      ⟨(some 23), .faddr 1 (.t 5), none, []⟩,
      ⟨(some 24), .load1 (.t 23), none, [7]⟩,
      ⟨(some 25), .call (.c (.fn 77 [] [])) [.t 22, .t 24], none, [4, 2, 3, 1, 7, 5, 8, 6]⟩,
      ⟨(some 26), .buildSlice 31 1 4 false [.int .i64 0, .int .i64 0, .int .i64 0, .int .i64 0] [(0, 1, .t 16), (1, 1, .t 18), (2, 1, .t 21), (3, 1, .t 25)], none, [6, 8, 7, 4, 3, 1, 9, 5, 2, 0]⟩,
      ⟨(some 27), .call (.c (.fn 74 [] [])) [.t 26], none, [0, 2, 5, 1, 3, 4, 7, 8, 6, 9, 10]⟩,
      ⟨(some 10), .mov (.t 27), none, [10, 9, 8, 7, 6, 5, 4, 3, 2, 1, 0, 11]⟩])
  (.seq (.reg [⟨(some 28), .mov (.t 10), none, []⟩,
      ⟨(some 29), .bin .neq (.t 28) (.c (.int .i64 0)), none, []⟩])
  (.cond (.t 29) (.seq (.reg [⟨(some 30), .mov (.t 10), none, []⟩,
        ⟨(some 6), .mov (.c .nils), none, []⟩,
        ⟨(some 7), .mov (.t 30), none, []⟩])
    (.ret)) .skip)))
  (.seq (.reg [⟨(some 31), .loadn 7 (.t 8), none, []⟩,
      ⟨(some 32), .loadn 2 (.t 4), none, []⟩,
      ⟨(some 33), .loadn 2 (.t 5), none, []⟩,
      ⟨(some 34), .call (.c (.fn 86 [] [])) [.t 31, .t 32, .t 33], none, []⟩,
      ⟨(some 35), .call (.c (.fn 85 [] [])) [.t 34], none, []⟩,
      ⟨(some 6), .mov (.t 35), none, []⟩,
      ⟨(some 7), .mov (.c (.int .i64 0)), none, []⟩])
  (.ret)))), 36, [.t 6, .t 7]⟩
def xf25 : XFunc := ⟨.seq (.reg [⟨(some 2), .mov (.c .nils), none, []⟩])
  (.seq (.reg [⟨(some 3), .buildSlice 3 1 0 false [] [], none, []⟩,
      ⟨(some 4), .mov (.t 0), none, []⟩,
      ⟨(some 5), .append 3 1 8 (.t 3) (.t 4), none, []⟩,
      ⟨(some 2), .mov (.t 5), none, []⟩])
  (.ret)), 6, [.t 2]⟩
def xf26 : XFunc := ⟨.seq (.reg [⟨(some 3), .box 25 (.t 0), none, []⟩,
      ⟨(some 4), .box 43 (.t 1), none, []⟩,
      ⟨(some 6), .mov (.c .nils), none, []⟩,
      ⟨(some 7), .mov (.c (.int .i64 0)), none, []⟩])
  (.seq (.reg [⟨(some 12), .loadn 5 (.t 3), none, []⟩,
      ⟨(some 13), .call (.c (.fn 73 [] [])) [.t 12], none, []⟩,
      ⟨(some 11), .mov (.t 13), none, []⟩,
      ⟨(some 14), .extract (.t 11) 0, none, []⟩,
      ⟨(some 15), .extract (.t 11) 1, none, []⟩,
      ⟨(some 8), .new 135 [.int .i64 0, .int .i64 0, .int .i64 0, .int .i64 0, .int .i64 0, .int .i64 0, .int .i64 0], none, []⟩,
      ⟨none, .store 7 (.t 8) (.t 14), none, []⟩,
      ⟨(some 9), .mov (.t 15), none, []⟩])
  (.seq (.seq (.reg [⟨(some 16), .mov (.t 9), none, []⟩,
      ⟨(some 17), .loadn 4 (.t 4), none, []⟩,
      ⟨(some 18), .call (.c (.fn 87 [] [])) [.t 17], none, []⟩,
      ⟨(some 19), .mov (.t 2), none, []⟩,
      ⟨(some 20), .call (.c (.fn 84 [] [])) [.t 19], none, []⟩,
      ⟨(some 21), .buildSlice 31 1 3 false [.int .i64 0, .int .i64 0, .int .i64 0] [(0, 1, .t 16), (1, 1, .t 18), (2, 1, .t 20)], none, []⟩,
      ⟨(some 22), .call (.c (.fn 74 [] [])) [.t 21], none, []⟩,
      ⟨(some 10), .mov (.t 22), none, []⟩])
  (.seq (.reg [⟨(some 23), .mov (.t 10), none, []⟩,
      ⟨(some 24), .bin .neq (.t 23) (.c (.int .i64 0)), none, []⟩])
  (.cond (.t 24) (.seq (.reg [⟨(some 25), .mov (.t 10), none, []⟩,
        ⟨(some 6), .mov (.c .nils), none, []⟩,
        ⟨(some 7), .mov (.t 25), none, []⟩])
    (.ret)) .skip)))
  (.seq (.reg [⟨(some 26), .loadn 7 (.t 8), none, []⟩,
      ⟨(some 27), .loadn 4 (.t 4), none, []⟩,
      ⟨(some 28), .mov (.t 2), none, []⟩,
      ⟨(some 29), .call (.c (.fn 89 [] [])) [.t 26, .t 27, .t 28], none, []⟩,
      ⟨(some 30), .call (.c (.fn 88 [] [])) [.t 29], none, []⟩,
      ⟨(some 6), .mov (.t 30), none, []⟩,
      ⟨(some 7), .mov (.c (.int .i64 0)), none, []⟩])
  (.ret)))), 31, [.t 6, .t 7]⟩
def xf28l0 : XCode := .seq (.seq (.reg [⟨(some 8), .mov (.t 3), none, []⟩,
      ⟨(some 9), .mov (.t 0), none, []⟩,
      ⟨(some 10), .len (.t 9), none, []⟩,
      ⟨(some 11), .bin .lss (.t 8) (.t 10), none, []⟩])
  (.cond (.t 11) .skip (.exit 0)))
  (.seq (.block 1 (.seq (.reg [⟨(some 14), .mov (.t 0), none, []⟩,
        ⟨(some 15), .mov (.t 3), none, []⟩,
        ⟨(some 16), .iaddr 1 (.t 14) (.t 15), none, []⟩,
        ⟨(some 17), .load1 (.t 16), none, []⟩,
        ⟨(some 18), .call (.c (.fn 20 [] [])) [.t 17], none, []⟩,
        ⟨(some 4), .mov (.t 18), none, []⟩])
    (.seq (.reg [⟨(some 19), .mov (.t 4), none, []⟩,
        ⟨(some 20), .bin .neq (.t 19) (.c (.int .i64 0)), none, []⟩])
    (.cond (.t 20) (.seq (.reg [⟨(some 21), .mov (.t 4), none, []⟩,
          ⟨(some 2), .mov (.t 21), none, []⟩])
      (.ret)) .skip))))
  (.reg [⟨(some 12), .mov (.t 3), none, []⟩,
      ⟨(some 13), .bin .add (.t 12) (.c (.int .i64 1)), none, []⟩,
      ⟨(some 3), .mov (.t 13), none, []⟩]))
def xf28 : XFunc := ⟨.seq (.reg [⟨(some 2), .mov (.c (.int .i64 0)), none, []⟩])
  (.seq (.seq (.reg [⟨(some 5), .mov (.t 0), none, []⟩,
      ⟨(some 6), .len (.t 5), none, []⟩,
      ⟨(some 7), .bin .gtr (.t 6) (.c (.int .i64 200)), none, []⟩])
  (.cond (.t 7) (.seq (.reg [⟨(some 2), .mov (.c (.int .i64 8)), none, []⟩])
    (.ret)) .skip))
  (.seq (.seq (.reg [⟨(some 3), .mov (.c (.int .i64 0)), none, []⟩])
  (.block 0 (.loop xf28l0)))
  (.seq (.reg [⟨(some 2), .mov (.c (.int .i64 0)), none, []⟩])
  (.ret)))), 22, [.t 2]⟩
def xf29l0 : XCode := .seq (.seq (.reg [⟨(some 11), .mov (.t 5), none, []⟩,
      ⟨(some 12), .mov (.t 0), none, []⟩,
      ⟨(some 13), .len (.t 12), none, []⟩,
      ⟨(some 14), .bin .lss (.t 11) (.t 13), none, []⟩])
  (.cond (.t 14) .skip (.exit 0)))
  (.seq (.block 1 (.seq (.dreg [⟨(some 17), .mov (.t 0), none, []⟩,
        ⟨(some 18), .mov (.t 5), none, []⟩,
        ⟨(some 19), .iaddr 2 (.t 17) (.t 18), none, [1, 0]⟩,
        ⟨(some 20), .loadn 2 (.t 19), none, [0, 1, 2]⟩,
        ⟨(some 21), .mov (.t 1), none, []⟩,
        ⟨(some 22), .mov (.t 5), none, []⟩,
        ⟨(some 23), .iaddr 2 (.t 21) (.t 22), none, [5, 4]⟩,
        ⟨(some 24), .loadn 2 (.t 23), none, [4, 5, 6]⟩,
        ⟨(some 25), .eqA true (.s [(0, 1, false, .c 0), (1, 1, false, .c 0)]) (.t 20) (.t 24), none, [6, 5, 4, 2, 1, 0, 7, 3]⟩])
    (.cond (.t 25) (.seq (.reg [⟨(some 4), .mov (.c (.bool false)), none, []⟩])
      (.ret)) .skip)))
  (.reg [⟨(some 15), .mov (.t 5), none, []⟩,
      ⟨(some 16), .bin .add (.t 15) (.c (.int .i64 1)), none, []⟩,
      ⟨(some 5), .mov (.t 16), none, []⟩]))
def xf29 : XFunc := ⟨.seq (.reg [⟨(some 4), .mov (.c (.bool false)), none, []⟩])
  (.seq (.seq (.reg [⟨(some 6), .mov (.t 0), none, []⟩,
      ⟨(some 7), .len (.t 6), none, []⟩,
      ⟨(some 8), .mov (.t 1), none, []⟩,
      ⟨(some 9), .len (.t 8), none, []⟩,
      ⟨(some 10), .bin .neq (.t 7) (.t 9), none, []⟩])
  (.cond (.t 10) (.seq (.reg [⟨(some 4), .mov (.c (.bool false)), none, []⟩])
    (.ret)) .skip))
  (.seq (.seq (.reg [⟨(some 5), .mov (.c (.int .i64 0)), none, []⟩])
  (.block 0 (.loop xf29l0)))
  (.seq (.reg [⟨(some 4), .mov (.c (.bool true)), none, []⟩])
  (.ret)))), 26, [.t 4]⟩
def xf30l0 : XCode := .seq (.seq (.reg [⟨(some 11), .mov (.t 10), none, []⟩,
      ⟨(some 12), .mov (.t 2), none, []⟩,
      ⟨(some 13), .len (.t 12), none, []⟩,
      ⟨(some 14), .bin .lss (.t 11) (.t 13), none, []⟩])
  (.cond (.t 14) .skip (.exit 0)))
  (.seq (.block 1 (.seq (.dreg [⟨(some 17), .loadn 5 (.t 4), none, []⟩,
        ⟨(some 18), .loadn 2 (.t 5), none, []⟩,
        ⟨(some 19), .mov (.t 2), none, []⟩,
        ⟨(some 20), .mov (.t 10), none, []⟩,
        ⟨(some 21), .iaddr 1 (.t 19) (.t 20), none, [3, 2]⟩,
        ⟨(some 22), .load1 (.t 21), none, [2, 3, 4]⟩,
        ⟨(some 23), .mov (.t 3), none, []⟩,
        ⟨(some 24), .call (.c (.fn 22 [] [])) [.t 17, .t 18, .t 22, .t 23], none, [4, 3, 2, 6, 5, 1, 0]⟩,
        ⟨none, .store 2 (.t 5) (.t 24), none, [6, 5, 4, 3, 2, 1, 0, 7]⟩])
    (.reg [⟨(some 25), .mov (.t 9), none, []⟩,
        ⟨(some 26), .loadn 2 (.t 5), none, []⟩,
        ⟨(some 27), .buildSlice 27 2 1 true [.int .i64 0, .int .i64 0] [(0, 2, .t 26)], none, []⟩,
        ⟨(some 28), .append 27 2 16 (.t 25) (.t 27), none, []⟩,
        ⟨(some 9), .mov (.t 28), none, []⟩])))
  (.reg [⟨(some 15), .mov (.t 10), none, []⟩,
      ⟨(some 16), .bin .add (.t 15) (.c (.int .i64 1)), none, []⟩,
      ⟨(some 10), .mov (.t 16), none, []⟩]))
def xf30 : XFunc := ⟨.seq (.reg [⟨(some 4), .box 25 (.t 0), none, []⟩,
      ⟨(some 5), .box 27 (.t 1), none, []⟩,
      ⟨(some 8), .mov (.c .nils), none, []⟩])
  (.seq (.reg [⟨(some 9), .mov (.c .nils), none, []⟩])
  (.seq (.seq (.reg [⟨(some 10), .mov (.c (.int .i64 0)), none, []⟩])
  (.block 0 (.loop xf30l0)))
  (.seq (.reg [⟨(some 29), .mov (.t 9), none, []⟩,
      ⟨(some 8), .mov (.t 29), none, []⟩])
  (.ret)))), 30, [.t 8]⟩
def xf34l0 : XCode := .seq (.seq (.reg [⟨(some 11), .mov (.t 5), none, []⟩,
      ⟨(some 12), .mov (.t 0), none, []⟩,
      ⟨(some 13), .len (.t 12), none, []⟩,
      ⟨(some 14), .bin .lss (.t 11) (.t 13), none, []⟩])
  (.cond (.t 14) .skip (.exit 0)))
  (.seq (.block 1 (.seq (.dreg [⟨(some 17), .mov (.t 0), none, []⟩,
        ⟨(some 18), .mov (.t 5), none, []⟩,
        ⟨(some 19), .iaddr 4 (.t 17) (.t 18), none, [1, 0]⟩,
        ⟨(some 20), .loadn 4 (.t 19), none, [0, 1, 2]⟩,
        ⟨(some 21), .mov (.t 1), none, []⟩,
        ⟨(some 22), .mov (.t 5), none, []⟩,
        ⟨(some 23), .iaddr 4 (.t 21) (.t 22), none, [5, 4]⟩,
        ⟨(some 24), .loadn 4 (.t 23), none, [4, 5, 6]⟩,
        ⟨(some 25), .eqA true (.s [(0, 2, true, .s [(0, 1, false, .c 0), (1, 1, false, .c 0)]), (2, 2, true, .s [(0, 1, false, .c 0), (1, 1, false, .c 0)])]) (.t 20) (.t 24), none, [6, 5, 4, 2, 1, 0, 7, 3]⟩])
    (.cond (.t 25) (.seq (.reg [⟨(some 4), .mov (.c (.bool false)), none, []⟩])
      (.ret)) .skip)))
  (.reg [⟨(some 15), .mov (.t 5), none, []⟩,
      ⟨(some 16), .bin .add (.t 15) (.c (.int .i64 1)), none, []⟩,
      ⟨(some 5), .mov (.t 16), none, []⟩]))
def xf34 : XFunc := ⟨.seq (.reg [⟨(some 4), .mov (.c (.bool false)), none, []⟩])
  (.seq (.seq (.reg [⟨(some 6), .mov (.t 0), none, []⟩,
      ⟨(some 7), .len (.t 6), none, []⟩,
      ⟨(some 8), .mov (.t 1), none, []⟩,
      ⟨(some 9), .len (.t 8), none, []⟩,
      ⟨(some 10), .bin .neq (.t 7) (.t 9), none, []⟩])
  (.cond (.t 10) (.seq (.reg [⟨(some 4), .mov (.c (.bool false)), none, []⟩])
    (.ret)) .skip))
  (.seq (.seq (.reg [⟨(some 5), .mov (.c (.int .i64 0)), none, []⟩])
  (.block 0 (.loop xf34l0)))
  (.seq (.reg [⟨(some 4), .mov (.c (.bool true)), none, []⟩])
  (.ret)))), 26, [.t 4]⟩
def xf35l0 : XCode := .seq (.seq (.reg [⟨(some 9), .mov (.t 8), none, []⟩,
      ⟨(some 10), .mov (.t 2), none, []⟩,
      ⟨(some 11), .len (.t 10), none, []⟩,
      ⟨(some 12), .bin .lss (.t 9) (.t 11), none, []⟩])
  (.cond (.t 12) .skip (.exit 0)))
  (.seq (.block 1 (.seq (.dreg [⟨(some 15), .loadn 5 (.t 3), none, []⟩,
        ⟨(some 16), .loadn 4 (.t 4), none, []⟩,
        ⟨(some 17), .mov (.t 2), none, []⟩,
        ⟨(some 18), .mov (.t 8), none, []⟩,
        ⟨(some 19), .iaddr 1 (.t 17) (.t 18), none, [3, 2]⟩,
        ⟨(some 20), .load1 (.t 19), none, [2, 3, 4]⟩,
        ⟨(some 21), .call (.c (.fn 33 [] [])) [.t 15, .t 16, .t 20], none, [4, 3, 2, 5, 1, 0]⟩,
        ⟨none, .store 4 (.t 4) (.t 21), none, [5, 4, 3, 2, 1, 0, 6]⟩])
    (.reg [⟨(some 22), .mov (.t 7), none, []⟩,
        ⟨(some 23), .loadn 4 (.t 4), none, []⟩,
        ⟨(some 24), .buildSlice 43 4 1 true [.int .i64 0, .int .i64 0, .int .i64 0, .int .i64 0] [(0, 4, .t 23)], none, []⟩,
        ⟨(some 25), .append 43 4 32 (.t 22) (.t 24), none, []⟩,
        ⟨(some 7), .mov (.t 25), none, []⟩])))
  (.reg [⟨(some 13), .mov (.t 8), none, []⟩,
      ⟨(some 14), .bin .add (.t 13) (.c (.int .i64 1)), none, []⟩,
      ⟨(some 8), .mov (.t 14), none, []⟩]))
def xf35 : XFunc := ⟨.seq (.reg [⟨(some 3), .box 25 (.t 0), none, []⟩,
      ⟨(some 4), .box 43 (.t 1), none, []⟩,
      ⟨(some 6), .mov (.c .nils), none, []⟩])
  (.seq (.reg [⟨(some 7), .mov (.c .nils), none, []⟩])
  (.seq (.seq (.reg [⟨(some 8), .mov (.c (.int .i64 0)), none, []⟩])
  (.block 0 (.loop xf35l0)))
  (.seq (.reg [⟨(some 26), .mov (.t 7), none, []⟩,
      ⟨(some 6), .mov (.t 26), none, []⟩])
  (.ret)))), 27, [.t 6]⟩
def xf84 : XFunc := ⟨.seq (.reg [⟨(some 2), .mov (.c (.int .i64 0)), none, []⟩])
  (.seq (.reg [⟨(some 3), .mov (.t 0), none, []⟩,
      ⟨(some 4), .call (.c (.fn 123 [] [])) [.t 3, .c (.int .i64 200), .c (.fn 76 [] [])], none, []⟩,
      ⟨(some 2), .mov (.t 4), none, []⟩])
  (.ret)), 5, [.t 2]⟩
def xf85 : XFunc := ⟨.seq (.reg [⟨(some 2), .mov (.c .nils), none, []⟩])
  (.seq (.reg [⟨(some 3), .mov (.t 0), none, []⟩,
      ⟨(some 4), .call (.c (.fn 124 [] [])) [.c .nils, .t 3], none, []⟩,
      ⟨(some 2), .mov (.t 4), none, []⟩])
  (.ret)), 5, [.t 2]⟩
def xf86 : XFunc := ⟨.seq (.reg [⟨(some 3), .box 135 (.t 0), none, []⟩,
      ⟨(some 4), .box 27 (.t 1), none, []⟩,
      ⟨(some 5), .box 46 (.t 2), none, []⟩,
      ⟨(some 6), .mov (.c .nilfn), none, []⟩])
  (.seq (.reg [⟨(some 7), .loadn 2 (.t 4), none, []⟩,
      ⟨(some 8), .faddr 0 (.t 5), none, []⟩,
      ⟨(some 9), .load1 (.t 8), none, []⟩,
      ⟨(some 10), .fn true 126 [] [.t 3, .t 5], none, []⟩,
      ⟨(some 11), .call (.c (.fn 125 [] [])) [.t 7, .t 9, .t 10], none, []⟩,
      ⟨(some 6), .mov (.t 11), none, []⟩])
  (.ret)), 12, [.t 6]⟩
def xf88 : XFunc := ⟨.seq (.reg [⟨(some 2), .mov (.c .nils), none, []⟩])
  (.seq (.reg [⟨(some 3), .mov (.t 0), none, []⟩,
      ⟨(some 4), .call (.c (.fn 128 [] [])) [.c .nils, .t 3], none, []⟩,
      ⟨(some 2), .mov (.t 4), none, []⟩])
  (.ret)), 5, [.t 2]⟩
def xf89 : XFunc := ⟨.seq (.reg [⟨(some 3), .box 135 (.t 0), none, []⟩,
      ⟨(some 4), .box 43 (.t 1), none, []⟩,
      ⟨(some 6), .mov (.c .nilfn), none, []⟩])
  (.seq (.reg [⟨(some 7), .loadn 4 (.t 4), none, []⟩,
      ⟨(some 8), .mov (.t 2), none, []⟩,
      ⟨(some 9), .loadn 7 (.t 3), none, []⟩,
      ⟨(some 10), .fn true 90 [.t 9] [], none, []⟩,
      ⟨(some 11), .call (.c (.fn 129 [] [])) [.t 7, .t 8, .t 10], none, []⟩,
      ⟨(some 6), .mov (.t 11), none, []⟩])
  (.ret)), 12, [.t 6]⟩
def xf123 : XFunc := ⟨.seq (.reg [⟨(some 6), .mov (.c (.int .i64 0)), none, []⟩])
  (.seq (.seq (.reg [⟨(some 9), .mov (.t 0), none, []⟩,
      ⟨(some 10), .len (.t 9), none, []⟩,
      ⟨(some 11), .mov (.t 1), none, []⟩,
      ⟨(some 12), .bin .gtr (.t 10) (.t 11), none, []⟩])
  (.cond (.t 12) (.seq (.reg [⟨(some 6), .mov (.c (.int .i64 8)), none, []⟩])
    (.ret)) .skip))
  (.seq (.reg [⟨(some 14), .mov (.t 0), none, []⟩,
      ⟨(some 15), .mov (.t 2), none, []⟩,
      ⟨(some 16), .call (.c (.fn 131 [] [])) [.t 14, .t 15], none, []⟩,
      ⟨(some 13), .mov (.t 16), none, []⟩,
      ⟨(some 17), .extract (.t 13) 0, none, []⟩,
      ⟨(some 18), .extract (.t 13) 1, none, []⟩,
      ⟨(some 7), .mov (.t 17), none, []⟩,
      ⟨(some 8), .mov (.t 18), none, []⟩])
  (.seq (.reg [⟨(some 19), .mov (.t 8), none, []⟩,
      ⟨(some 6), .mov (.t 19), none, []⟩])
  (.ret)))), 20, [.t 6]⟩
def xf124a0 : XCode := .reg [⟨(some 5), .new 27 [.int .i64 0, .int .i64 0], none, []⟩,
      ⟨none, .store 2 (.t 5) (.t 7), none, []⟩]
def xf124b0 : XCode := .block 1 (.reg [⟨(some 8), .load1 (.t 2), none, []⟩,
        ⟨(some 9), .loadn 2 (.t 5), none, []⟩,
        ⟨(some 10), .buildSlice 27 2 1 true [.int .i64 0, .int .i64 0] [(0, 2, .t 9)], none, []⟩,
        ⟨(some 11), .append 27 2 16 (.t 8) (.t 10), none, []⟩,
        ⟨none, .store 1 (.t 2) (.t 11), none, []⟩])
def xf124 : XFunc := ⟨.seq (.reg [⟨(some 2), .box 48 (.t 0), none, []⟩,
      ⟨(some 4), .mov (.c .nils), none, []⟩])
  (.seq (.seq (.reg [⟨(some 6), .mov (.t 1), none, []⟩])
  (.block 0 (.rangeF (.t 6) [7] xf124a0 xf124b0)))
  (.seq (.reg [⟨(some 12), .load1 (.t 2), none, []⟩,
      ⟨(some 4), .mov (.t 12), none, []⟩])
  (.ret))), 13, [.t 4]⟩
def xf125 : XFunc := ⟨.seq (.reg [⟨(some 3), .box 27 (.t 0), none, []⟩,
      ⟨(some 4), .box 44 (.t 1), none, []⟩,
      ⟨(some 5), .box 193 (.t 2), none, []⟩,
      ⟨(some 6), .mov (.c .nilfn), none, []⟩])
  (.seq (.reg [⟨(some 7), .fn true 146 [] [.t 3, .t 4, .t 5], none, []⟩,
      ⟨(some 6), .mov (.t 7), none, []⟩])
  (.ret)), 8, [.t 6]⟩
def xf126 : XFunc := ⟨.seq (.reg [⟨(some 4), .box 27 (.t 0), none, []⟩,
      ⟨(some 6), .new 27 [.int .i64 0, .int .i64 0], none, []⟩])
  (.seq (.reg [⟨(some 7), .loadn 7 (.t 2), none, []⟩,
      ⟨(some 8), .loadn 2 (.t 4), none, []⟩,
      ⟨(some 9), .mov (.t 1), none, []⟩,
      ⟨(some 10), .faddr 1 (.t 3), none, []⟩,
      ⟨(some 11), .load1 (.t 10), none, []⟩,
      ⟨(some 12), .call (.c (.fn 78 [] [])) [.t 7, .t 8, .t 9, .t 11], none, []⟩,
      ⟨none, .store 2 (.t 6) (.t 12), none, []⟩])
  (.ret)), 13, [.cn 6 2]⟩
def xf128a0 : XCode := .reg [⟨(some 5), .new 43 [.int .i64 0, .int .i64 0, .int .i64 0, .int .i64 0], none, []⟩,
      ⟨none, .store 4 (.t 5) (.t 7), none, []⟩]
def xf128b0 : XCode := .block 1 (.reg [⟨(some 8), .load1 (.t 2), none, []⟩,
        ⟨(some 9), .loadn 4 (.t 5), none, []⟩,
        ⟨(some 10), .buildSlice 43 4 1 true [.int .i64 0, .int .i64 0, .int .i64 0, .int .i64 0] [(0, 4, .t 9)], none, []⟩,
        ⟨(some 11), .append 43 4 32 (.t 8) (.t 10), none, []⟩,
        ⟨none, .store 1 (.t 2) (.t 11), none, []⟩])
def xf128 : XFunc := ⟨.seq (.reg [⟨(some 2), .box 52 (.t 0), none, []⟩,
      ⟨(some 4), .mov (.c .nils), none, []⟩])
  (.seq (.seq (.reg [⟨(some 6), .mov (.t 1), none, []⟩])
  (.block 0 (.rangeF (.t 6) [7] xf128a0 xf128b0)))
  (.seq (.reg [⟨(some 12), .load1 (.t 2), none, []⟩,
      ⟨(some 4), .mov (.t 12), none, []⟩])
  (.ret))), 13, [.t 4]⟩
def xf129 : XFunc := ⟨.seq (.reg [⟨(some 3), .box 43 (.t 0), none, []⟩,
      ⟨(some 4), .box 44 (.t 1), none, []⟩,
      ⟨(some 5), .box 155 (.t 2), none, []⟩,
      ⟨(some 6), .mov (.c .nilfn), none, []⟩])
  (.seq (.reg [⟨(some 7), .fn true 147 [] [.t 3, .t 4, .t 5], none, []⟩,
      ⟨(some 6), .mov (.t 7), none, []⟩])
  (.ret)), 8, [.t 6]⟩
def xf131l0 : XCode := .seq (.reg [⟨(some 12), .bin .lss (.t 11) (.t 10), none, []⟩])
  (.seq (.cond (.t 12) .skip (.exit 0))
  (.seq (.block 1 (.seq (.reg [⟨(some 13), .mov (.t 11), none, []⟩,
        ⟨(some 14), .iaddr 1 (.t 9) (.t 11), none, []⟩,
        ⟨(some 15), .load1 (.t 14), none, []⟩,
        ⟨(some 6), .mov (.t 13), none, []⟩,
        ⟨(some 7), .mov (.t 15), none, []⟩])
    (.seq (.reg [⟨(some 16), .mov (.t 1), none, []⟩,
        ⟨(some 17), .mov (.t 7), none, []⟩,
        ⟨(some 18), .call (.t 16) [.t 17], none, []⟩,
        ⟨(some 8), .mov (.t 18), none, []⟩])
    (.seq (.reg [⟨(some 19), .mov (.t 8), none, []⟩,
        ⟨(some 20), .bin .neq (.t 19) (.c (.int .i64 0)), none, []⟩])
    (.cond (.t 20) (.seq (.reg [⟨(some 21), .mov (.t 6), none, []⟩,
          ⟨(some 22), .mov (.t 8), none, []⟩,
          ⟨(some 4), .mov (.t 21), none, []⟩,
          ⟨(some 5), .mov (.t 22), none, []⟩])
      (.ret)) .skip)))))
  (.reg [⟨(some 23), .bin .add (.t 11) (.c (.int .i64 1)), none, []⟩,
      ⟨(some 11), .mov (.t 23), none, []⟩])))
def xf131 : XFunc := ⟨.seq (.reg [⟨(some 4), .mov (.c (.int .i64 0)), none, []⟩,
      ⟨(some 5), .mov (.c (.int .i64 0)), none, []⟩])
  (.seq (.seq (.reg [⟨(some 9), .mov (.t 0), none, []⟩,
      ⟨(some 10), .len (.t 9), none, []⟩,
      ⟨(some 11), .mov (.c (.int .i64 0)), none, []⟩])
  (.block 0 (.loop xf131l0)))
  (.seq (.reg [⟨(some 4), .mov (.c (.int .i64 0)), none, []⟩,
      ⟨(some 5), .mov (.c (.int .i64 0)), none, []⟩])
  (.ret))), 24, [.t 4, .t 5]⟩
def xf146l0 : XCode := .seq (.reg [⟨(some 12), .bin .lss (.t 11) (.t 10), none, []⟩])
  (.seq (.cond (.t 12) .skip (.exit 0))
  (.seq (.block 1 (.seq (.reg [⟨(some 13), .iaddr 1 (.t 9) (.t 11), none, []⟩,
        ⟨(some 14), .load1 (.t 13), none, []⟩,
        ⟨(some 7), .mov (.t 14), none, []⟩])
    (.seq (.reg [⟨(some 15), .load1 (.t 3), none, []⟩,
        ⟨(some 16), .loadn 2 (.t 5), none, []⟩,
        ⟨(some 17), .mov (.t 7), none, []⟩,
        ⟨(some 18), .call (.t 15) [.t 16, .t 17], none, []⟩,
        ⟨none, .store 2 (.t 5) (.t 18), none, []⟩])
    (.seq (.reg [⟨(some 19), .mov (.t 0), none, []⟩,
        ⟨(some 20), .loadn 2 (.t 5), none, []⟩,
        ⟨(some 21), .call (.t 19) [.t 20], none, []⟩,
        ⟨(some 22), .un .not (.t 21), none, []⟩])
    (.cond (.t 22) .ret .skip)))))
  (.reg [⟨(some 23), .bin .add (.t 11) (.c (.int .i64 1)), none, []⟩,
      ⟨(some 11), .mov (.t 23), none, []⟩])))
def xf146 : XFunc := ⟨.seq (.reg [⟨(some 8), .loadn 2 (.t 1), none, []⟩,
      ⟨(some 5), .new 27 [.int .i64 0, .int .i64 0], none, []⟩,
      ⟨none, .store 2 (.t 5) (.t 8), none, []⟩])
  (.seq (.reg [⟨(some 9), .load1 (.t 2), none, []⟩,
      ⟨(some 10), .len (.t 9), none, []⟩,
      ⟨(some 11), .mov (.c (.int .i64 0)), none, []⟩])
  (.block 0 (.loop xf146l0))), 24, []⟩
def xf147l0 : XCode := .seq (.reg [⟨(some 12), .bin .lss (.t 11) (.t 10), none, []⟩])
  (.seq (.cond (.t 12) .skip (.exit 0))
  (.seq (.block 1 (.seq (.reg [⟨(some 13), .iaddr 1 (.t 9) (.t 11), none, []⟩,
        ⟨(some 14), .load1 (.t 13), none, []⟩,
        ⟨(some 7), .mov (.t 14), none, []⟩])
    (.seq (.reg [⟨(some 15), .load1 (.t 3), none, []⟩,
        ⟨(some 16), .loadn 4 (.t 5), none, []⟩,
        ⟨(some 17), .mov (.t 7), none, []⟩,
        ⟨(some 18), .call (.t 15) [.t 16, .t 17], none, []⟩,
        ⟨none, .store 4 (.t 5) (.t 18), none, []⟩])
    (.seq (.reg [⟨(some 19), .mov (.t 0), none, []⟩,
        ⟨(some 20), .loadn 4 (.t 5), none, []⟩,
        ⟨(some 21), .call (.t 19) [.t 20], none, []⟩,
        ⟨(some 22), .un .not (.t 21), none, []⟩])
    (.cond (.t 22) .ret .skip)))))
  (.reg [⟨(some 23), .bin .add (.t 11) (.c (.int .i64 1)), none, []⟩,
      ⟨(some 11), .mov (.t 23), none, []⟩])))
def xf147 : XFunc := ⟨.seq (.reg [⟨(some 8), .loadn 4 (.t 1), none, []⟩,
      ⟨(some 5), .new 43 [.int .i64 0, .int .i64 0, .int .i64 0, .int .i64 0], none, []⟩,
      ⟨none, .store 4 (.t 5) (.t 8), none, []⟩])
  (.seq (.reg [⟨(some 9), .load1 (.t 2), none, []⟩,
      ⟨(some 10), .len (.t 9), none, []⟩,
      ⟨(some 11), .mov (.c (.int .i64 0)), none, []⟩])
  (.block 0 (.loop xf147l0))), 24, []⟩
structure SuCCode (X : FuncId → Option XFunc) : Prop where
  suB : SuBCode X
  h4 : X 4 = some xf4
  h23 : X 23 = some xf23
  h24 : X 24 = some xf24
  h25 : X 25 = some xf25
  h26 : X 26 = some xf26
  h28 : X 28 = some xf28
  h29 : X 29 = some xf29
  h30 : X 30 = some xf30
  h34 : X 34 = some xf34
  h35 : X 35 = some xf35
  h84 : X 84 = some xf84
  h85 : X 85 = some xf85
  h86 : X 86 = some xf86
  h88 : X 88 = some xf88
  h89 : X 89 = some xf89
  h123 : X 123 = some xf123
  h124 : X 124 = some xf124
  h125 : X 125 = some xf125
  h126 : X 126 = some xf126
  h128 : X 128 = some xf128
  h129 : X 129 = some xf129
  h131 : X 131 = some xf131
  h146 : X 146 = some xf146
  h147 : X 147 = some xf147
end Go.Proofs.Ytlknncjnfgnlaaa.Eng
