/-
  CODE of MtAwX.
-/
import Derived.Test.YtffacomibmgecaaGreatEngY
namespace Go.Proofs.YtffacomibmgecaaGreat.Eng
set_option linter.unusedSimpArgs false
set_option linter.unusedVariables false
def xf15 : XFunc := ⟨.seq (.reg [⟨(some 0), .mov (.c (.bool false)), none, []⟩])
  (.seq (.reg [⟨(some 10), .call (.c (.fn 76 [] [])) [], none, []⟩,
      ⟨(some 11), .call (.c (.fn 19 [] [])) [.t 10], none, []⟩,
      ⟨(some 9), .mov (.t 11), none, []⟩,
      ⟨(some 12), .extract (.t 9) 0, none, []⟩,
      ⟨(some 13), .extract (.t 9) 1, none, []⟩,
      ⟨(some 1), .mov (.t 12), none, []⟩,
      ⟨(some 2), .mov (.t 13), none, []⟩])
  (.seq (.reg [⟨(some 15), .call (.c (.fn 76 [] [])) [], none, []⟩,
      ⟨(some 16), .call (.c (.fn 77 [] [])) [.c (.int .i64 15)], none, []⟩,
      ⟨(some 17), .call (.c (.fn 32 [] [])) [.t 15, .t 16, .c (.int .i64 75)], none, []⟩,
      ⟨(some 14), .mov (.t 17), none, []⟩,
      ⟨(some 18), .extract (.t 14) 0, none, []⟩,
      ⟨(some 19), .extract (.t 14) 1, none, []⟩,
      ⟨(some 3), .mov (.t 18), none, []⟩,
      ⟨(some 4), .mov (.t 19), none, []⟩])
  (.seq (.reg [⟨(some 21), .call (.c (.fn 76 [] [])) [], none, []⟩,
      ⟨(some 22), .call (.c (.fn 77 [] [])) [.c (.int .i64 15)], none, []⟩,
      ⟨(some 23), .build [.int .i64 0, .int .i64 0, .int .i64 0] [(0, 1, .c (.int .i64 150)), (1, 1, .c (.int .i64 10)), (2, 1, .c (.int .i64 1))], none, []⟩,
      ⟨(some 24), .call (.c (.fn 39 [] [])) [.t 21, .t 22, .t 23], none, []⟩,
      ⟨(some 20), .mov (.t 24), none, []⟩,
      ⟨(some 25), .extract (.t 20) 0, none, []⟩,
      ⟨(some 26), .extract (.t 20) 1, none, []⟩,
      ⟨(some 5), .mov (.t 25), none, []⟩,
      ⟨(some 6), .mov (.t 26), none, []⟩])
  (.seq (.reg [⟨(some 28), .call (.c (.fn 76 [] [])) [], none, []⟩,
      ⟨(some 29), .call (.c (.fn 53 [] [])) [.t 28, .c (.int .i64 100)], none, []⟩,
      ⟨(some 27), .mov (.t 29), none, []⟩,
      ⟨(some 30), .extract (.t 27) 0, none, []⟩,
      ⟨(some 31), .extract (.t 27) 1, none, []⟩,
      ⟨(some 7), .new 41 [.int .i64 0, .int .i64 0], none, []⟩,
      ⟨none, .store 2 (.t 7) (.t 30), none, []⟩,
      ⟨(some 8), .mov (.t 31), none, []⟩])
  (.seq (.dreg [⟨(some 32), .mov (.t 2), none, []⟩,
      ⟨(some 33), .bin .eql (.t 32) (.c (.int .i64 0)), none, [0]⟩,
      ⟨(some 34), .mov (.t 33), none, [0, 1]⟩,
      ⟨(some 35), .mov (.t 1), (some (34, true)), [1, 0, 2]⟩,
      ⟨(some 36), .bin .eql (.t 35) (.c (.int .i64 7600)), (some (34, true)), [0, 1, 2, 3]⟩,
      ⟨(some 37), .pick (.t 34) (.t 36) (.c (.bool false)), none, [3, 1, 0, 4, 2]⟩,
      ⟨(some 38), .mov (.t 37), none, [4, 0, 1, 3, 2, 5]⟩,
      ⟨(some 39), .mov (.t 4), (some (38, true)), [5, 2, 3, 1, 0, 4, 6]⟩,
      ⟨(some 40), .bin .eql (.t 39) (.c (.int .i64 0)), (some (38, true)), [4, 0, 1, 3, 2, 5, 6, 7]⟩,
      ⟨(some 41), .pick (.t 38) (.t 40) (.c (.bool false)), none, [7, 5, 2, 3, 1, 0, 4, 8, 6]⟩,
      ⟨(some 42), .mov (.t 41), none, [8, 4, 0, 1, 3, 2, 5, 7, 6, 9]⟩,
      ⟨(some 43), .mov (.t 3), (some (42, true)), [9, 6, 7, 5, 2, 3, 1, 0, 4, 8, 10]⟩,
      ⟨(some 44), .build [.int .i64 0, .int .i64 0] [(0, 1, .c (.int .i64 15)), (1, 1, .c (.int .i64 1))], (some (42, true)), [9, 6, 7, 5, 2, 3, 1, 0, 4, 8, 10]⟩,
      ⟨(some 45), .buildSlice 41 2 1 true [.int .i64 0, .int .i64 0] [(0, 2, .t 44)], (some (42, true)), [8, 4, 0, 1, 3, 2, 5, 7, 6, 9, 10, 12]⟩,
      ⟨(some 46), .call (.c (.fn 38 [] [])) [.t 43, .t 45], (some (42, true)), [12, 8, 4, 0, 1, 3, 2, 5, 7, 6, 9, 10, 13, 11]⟩,
      ⟨(some 47), .pick (.t 42) (.t 46) (.c (.bool false)), none, [11, 13, 12, 9, 6, 7, 5, 2, 3, 1, 0, 4, 8, 14, 10]⟩,
      ⟨(some 48), .mov (.t 47), none, [10, 8, 4, 0, 1, 3, 2, 5, 7, 6, 9, 12, 13, 11, 14, 15]⟩,
      ⟨(some 49), .mov (.t 6), (some (48, true)), [15, 14, 11, 13, 12, 9, 6, 7, 5, 2, 3, 1, 0, 4, 8, 10, 16]⟩,
      ⟨(some 50), .bin .eql (.t 49) (.c (.int .i64 0)), (some (48, true)), [10, 8, 4, 0, 1, 3, 2, 5, 7, 6, 9, 12, 13, 11, 14, 15, 16, 17]⟩,
      ⟨(some 51), .pick (.t 48) (.t 50) (.c (.bool false)), none, [17, 15, 14, 11, 13, 12, 9, 6, 7, 5, 2, 3, 1, 0, 4, 8, 10, 18, 16]⟩,
      ⟨(some 52), .mov (.t 51), none, [18, 10, 8, 4, 0, 1, 3, 2, 5, 7, 6, 9, 12, 13, 11, 14, 15, 17, 16, 19]⟩,
      ⟨(some 53), .mov (.t 5), (some (52, true)), [19, 16, 17, 15, 14, 11, 13, 12, 9, 6, 7, 5, 2, 3, 1, 0, 4, 8, 10, 18, 20]⟩,
      ⟨(some 54), .len (.t 53), (some (52, true)), [18, 10, 8, 4, 0, 1, 3, 2, 5, 7, 6, 9, 12, 13, 11, 14, 15, 17, 16, 19, 20, 21]⟩,
      ⟨(some 55), .bin .eql (.t 54) (.c (.int .i64 1)), (some (52, true)), [21, 19, 16, 17, 15, 14, 11, 13, 12, 9, 6, 7, 5, 2, 3, 1, 0, 4, 8, 10, 18, 20, 22]⟩,
      ⟨(some 56), .pick (.t 52) (.t 55) (.c (.bool false)), none, [22, 21, 19, 16, 17, 15, 14, 11, 13, 12, 9, 6, 7, 5, 2, 3, 1, 0, 4, 8, 10, 18, 23, 20]⟩,
      ⟨(some 57), .mov (.t 56), none, [23, 18, 10, 8, 4, 0, 1, 3, 2, 5, 7, 6, 9, 12, 13, 11, 14, 15, 17, 16, 19, 21, 22, 20, 24]⟩,
      ⟨(some 58), .mov (.t 5), (some (57, true)), [24, 20, 22, 21, 19, 16, 17, 15, 14, 11, 13, 12, 9, 6, 7, 5, 2, 3, 1, 0, 4, 8, 10, 18, 23, 25]⟩,
      ⟨(some 59), .iaddr 6 (.t 58) (.c (.int .i64 0)), (some (57, true)), [23, 18, 10, 8, 4, 0, 1, 3, 2, 5, 7, 6, 9, 12, 13, 11, 14, 15, 17, 16, 19, 21, 22, 20, 24, 25, 26]⟩,
      ⟨(some 60), .faddr 2 (.t 59), (some (57, true)), [26, 24, 20, 22, 21, 19, 16, 17, 15, 14, 11, 13, 12, 9, 6, 7, 5, 2, 3, 1, 0, 4, 8, 10, 18, 23, 25, 27]⟩,
      ⟨(some 61), .loadn 2 (.t 60), (some (57, true)), [27, 23, 18, 10, 8, 4, 0, 1, 3, 2, 5, 7, 6, 9, 12, 13, 11, 14, 15, 17, 16, 19, 21, 22, 20, 24, 26, 25, 28]⟩,
      ⟨(some 62), .build [.int .i64 0, .int .i64 0] [(0, 1, .c (.int .i64 5500)), (1, 1, .c (.int .i64 251))], (some (57, true)), [24, 20, 22, 21, 19, 16, 17, 15, 14, 11, 13, 12, 9, 6, 7, 5, 2, 3, 1, 0, 4, 8, 10, 18, 23, 25]⟩,
      ⟨(some 63), .eqA false (.s [(0, 1, false, .c 0), (1, 1, false, .c 0)]) (.t 61) (.t 62), (some (57, true)), [28, 26, 24, 20, 22, 21, 19, 16, 17, 15, 14, 11, 13, 12, 9, 6, 7, 5, 2, 3, 1, 0, 4, 8, 10, 18, 23, 27, 25, 30, 29]⟩,
      ⟨(some 64), .pick (.t 57) (.t 63) (.c (.bool false)), none, [29, 30, 27, 26, 28, 24, 20, 22, 21, 19, 16, 17, 15, 14, 11, 13, 12, 9, 6, 7, 5, 2, 3, 1, 0, 4, 8, 10, 18, 23, 31, 25]⟩,
      ⟨(some 65), .mov (.t 64), none, [31, 23, 18, 10, 8, 4, 0, 1, 3, 2, 5, 7, 6, 9, 12, 13, 11, 14, 15, 17, 16, 19, 21, 22, 20, 24, 28, 26, 27, 30, 29, 25, 32]⟩,
      ⟨(some 66), .mov (.t 8), (some (65, true)), [32, 25, 29, 30, 27, 26, 28, 24, 20, 22, 21, 19, 16, 17, 15, 14, 11, 13, 12, 9, 6, 7, 5, 2, 3, 1, 0, 4, 8, 10, 18, 23, 31, 33]⟩,
      ⟨(some 67), .bin .eql (.t 66) (.c (.int .i64 0)), (some (65, true)), [31, 23, 18, 10, 8, 4, 0, 1, 3, 2, 5, 7, 6, 9, 12, 13, 11, 14, 15, 17, 16, 19, 21, 22, 20, 24, 28, 26, 27, 30, 29, 25, 32, 33, 34]⟩,
      ⟨(some 68), .pick (.t 65) (.t 67) (.c (.bool false)), none, [34, 32, 25, 29, 30, 27, 26, 28, 24, 20, 22, 21, 19, 16, 17, 15, 14, 11, 13, 12, 9, 6, 7, 5, 2, 3, 1, 0, 4, 8, 10, 18, 23, 31, 35, 33]⟩,
      ⟨(some 69), .mov (.t 68), none, [35, 31, 23, 18, 10, 8, 4, 0, 1, 3, 2, 5, 7, 6, 9, 12, 13, 11, 14, 15, 17, 16, 19, 21, 22, 20, 24, 28, 26, 27, 30, 29, 25, 32, 34, 33, 36]⟩,
      ⟨(some 70), .loadn 2 (.t 7), (some (69, true)), [36, 33, 34, 32, 25, 29, 30, 27, 26, 28, 24, 20, 22, 21, 19, 16, 17, 15, 14, 11, 13, 12, 9, 6, 7, 5, 2, 3, 1, 0, 4, 8, 10, 18, 23, 31, 35, 37]⟩,
      ⟨(some 71), .call (.c (.fn 77 [] [])) [.c (.int .i64 2000)], (some (69, true)), [36, 33, 34, 32, 25, 29, 30, 27, 26, 28, 24, 20, 22, 21, 19, 16, 17, 15, 14, 11, 13, 12, 9, 6, 7, 5, 2, 3, 1, 0, 4, 8, 10, 18, 23, 31, 35, 37]⟩,
      ⟨(some 72), .eqA false (.s [(0, 1, false, .c 0), (1, 1, false, .c 0)]) (.t 70) (.t 71), (some (69, true)), [35, 31, 23, 18, 10, 8, 4, 0, 1, 3, 2, 5, 7, 6, 9, 12, 13, 11, 14, 15, 17, 16, 19, 21, 22, 20, 24, 28, 26, 27, 30, 29, 25, 32, 34, 33, 36, 37, 39, 38]⟩,
      ⟨(some 73), .pick (.t 69) (.t 72) (.c (.bool false)), none, [38, 39, 36, 33, 34, 32, 25, 29, 30, 27, 26, 28, 24, 20, 22, 21, 19, 16, 17, 15, 14, 11, 13, 12, 9, 6, 7, 5, 2, 3, 1, 0, 4, 8, 10, 18, 23, 31, 35, 40, 37]⟩,
      ⟨(some 0), .mov (.t 73), none, [40, 38, 37, 36, 35, 34, 33, 32, 31, 30, 29, 28, 27, 26, 25, 24, 23, 22, 21, 20, 19, 18, 17, 16, 15, 14, 13, 12, 11, 10, 9, 8, 7, 6, 5, 4, 3, 2, 1, 0, 39, 41]⟩])
  (.ret)))))), 74, [.t 0]⟩
structure MtAwXCode (X : FuncId → Option XFunc) : Prop where
  h15 : X 15 = some xf15
end Go.Proofs.YtffacomibmgecaaGreat.Eng

/-
  CODE of MtA.
-/
namespace Go.Proofs.YtffacomibmgecaaGreat.Eng
set_option linter.unusedSimpArgs false
set_option linter.unusedVariables false
def xf3 : XFunc := ⟨.seq (.reg [⟨(some 1), .box 24 (.t 0), none, []⟩,
      ⟨(some 2), .mov (.c (.bool false)), none, []⟩])
  (.seq (.seq (.reg [⟨(some 11), .call (.c (.fn 15 [] [])) [], none, []⟩,
      ⟨(some 12), .un .not (.t 11), none, []⟩])
  (.cond (.t 12) (.seq (.reg [⟨(some 2), .mov (.c (.bool false)), none, []⟩])
    (.ret)) .skip))
  (.seq (.seq (.reg [⟨(some 13), .loadn 1 (.t 1), none, []⟩,
      ⟨(some 14), .call (.c (.fn 16 [] [])) [.t 13], none, []⟩,
      ⟨(some 15), .un .not (.t 14), none, []⟩])
  (.cond (.t 15) (.seq (.reg [⟨(some 2), .mov (.c (.bool true)), none, []⟩])
    (.ret)) .skip))
  (.seq (.reg [⟨(some 17), .loadn 1 (.t 1), none, []⟩,
      ⟨(some 18), .call (.c (.fn 18 [] [])) [.t 17], none, []⟩,
      ⟨(some 19), .call (.c (.fn 17 [] [])) [.t 18], none, []⟩,
      ⟨(some 16), .mov (.t 19), none, []⟩,
      ⟨(some 20), .extract (.t 16) 0, none, []⟩,
      ⟨(some 21), .extract (.t 16) 1, none, []⟩,
      ⟨(some 3), .mov (.t 20), none, []⟩,
      ⟨(some 4), .mov (.t 21), none, []⟩])
  (.seq (.reg [⟨(some 23), .loadn 1 (.t 1), none, []⟩,
      ⟨(some 24), .call (.c (.fn 18 [] [])) [.t 23], none, []⟩,
      ⟨(some 25), .call (.c (.fn 19 [] [])) [.t 24], none, []⟩,
      ⟨(some 22), .mov (.t 25), none, []⟩,
      ⟨(some 26), .extract (.t 22) 0, none, []⟩,
      ⟨(some 27), .extract (.t 22) 1, none, []⟩,
      ⟨(some 5), .mov (.t 26), none, []⟩,
      ⟨(some 6), .mov (.t 27), none, []⟩])
  (.seq (.reg [⟨(some 29), .loadn 1 (.t 1), none, []⟩,
      ⟨(some 30), .call (.c (.fn 18 [] [])) [.t 29], none, []⟩,
      ⟨(some 31), .call (.c (.fn 20 [] [])) [.t 30], none, []⟩,
      ⟨(some 28), .mov (.t 31), none, []⟩,
      ⟨(some 32), .extract (.t 28) 0, none, []⟩,
      ⟨(some 33), .extract (.t 28) 1, none, []⟩,
      ⟨(some 7), .new 33 [.int .i64 0, .int .i64 0, .int .i64 0, .int .i64 0, .int .i64 0, .int .i64 0], none, []⟩,
      ⟨none, .store 6 (.t 7) (.t 32), none, []⟩,
      ⟨(some 8), .mov (.t 33), none, []⟩])
  (.seq (.reg [⟨(some 35), .loadn 1 (.t 1), none, []⟩,
      ⟨(some 36), .call (.c (.fn 21 [] [])) [.t 35], none, []⟩,
      ⟨(some 34), .mov (.t 36), none, []⟩,
      ⟨(some 37), .extract (.t 34) 0, none, []⟩,
      ⟨(some 38), .extract (.t 34) 1, none, []⟩,
      ⟨(some 9), .mov (.t 37), none, []⟩,
      ⟨(some 10), .mov (.t 38), none, []⟩])
  (.seq (.seq (.reg [⟨(some 39), .mov (.t 4), none, []⟩,
      ⟨(some 40), .mov (.t 10), none, []⟩,
      ⟨(some 41), .bin .neq (.t 39) (.t 40), none, []⟩,
      ⟨(some 42), .mov (.t 41), none, []⟩,
      ⟨(some 43), .mov (.t 3), (some (42, false)), []⟩,
      ⟨(some 44), .mov (.t 9), (some (42, false)), []⟩,
      ⟨(some 45), .bin .neq (.t 43) (.t 44), (some (42, false)), []⟩,
      ⟨(some 46), .pick (.t 42) (.c (.bool true)) (.t 45), none, []⟩])
  (.cond (.t 46) (.seq (.reg [⟨(some 2), .mov (.c (.bool false)), none, []⟩])
    (.ret)) .skip))
  (.seq (.seq (.reg [⟨(some 47), .mov (.t 10), none, []⟩,
      ⟨(some 48), .bin .neq (.t 47) (.c (.int .i64 0)), none, []⟩])
  (.cond (.t 48) (.seq (.reg [⟨(some 49), .mov (.t 6), none, []⟩,
        ⟨(some 50), .mov (.t 10), none, []⟩,
        ⟨(some 51), .bin .eql (.t 49) (.t 50), none, []⟩,
        ⟨(some 52), .mov (.t 51), none, []⟩,
        ⟨(some 53), .mov (.t 5), (some (52, true)), []⟩,
        ⟨(some 54), .bin .eql (.t 53) (.c (.int .i64 0)), (some (52, true)), []⟩,
        ⟨(some 55), .pick (.t 52) (.t 54) (.c (.bool false)), none, []⟩,
        ⟨(some 56), .mov (.t 55), none, []⟩,
        ⟨(some 57), .mov (.t 8), (some (56, true)), []⟩,
        ⟨(some 58), .mov (.t 10), (some (56, true)), []⟩,
        ⟨(some 59), .bin .eql (.t 57) (.t 58), (some (56, true)), []⟩,
        ⟨(some 60), .pick (.t 56) (.t 59) (.c (.bool false)), none, []⟩,
        ⟨(some 61), .mov (.t 60), none, []⟩,
        ⟨(some 62), .loadn 6 (.t 7), (some (61, true)), []⟩,
        ⟨(some 63), .build [.int .i64 0, .int .i64 0, .int .i64 0, .int .i64 0, .int .i64 0, .int .i64 0] [], (some (61, true)), []⟩,
        ⟨(some 64), .eqA false (.s [(0, 2, true, .s [(0, 1, false, .c 0), (1, 1, false, .c 0)]), (2, 2, true, .s [(0, 1, false, .c 0), (1, 1, false, .c 0)]), (4, 2, true, .s [(0, 1, false, .c 0), (1, 1, false, .c 0)])]) (.t 62) (.t 63), (some (61, true)), []⟩,
        ⟨(some 65), .pick (.t 61) (.t 64) (.c (.bool false)), none, []⟩,
        ⟨(some 2), .mov (.t 65), none, []⟩])
    (.ret)) .skip))
  (.seq (.dreg [⟨(some 66), .mov (.t 6), none, []⟩,
      ⟨(some 67), .bin .eql (.t 66) (.c (.int .i64 0)), none, [0]⟩,
      ⟨(some 68), .mov (.t 67), none, [0, 1]⟩,
      ⟨(some 69), .mov (.t 5), (some (68, true)), [1, 0, 2]⟩,
      ⟨(some 70), .loadn 1 (.t 1), (some (68, true)), [1, 0, 2]⟩,
      ⟨(some 71), .call (.c (.fn 22 [] [])) [.t 70], (some (68, true)), [0, 1, 2, 4]⟩,
      ⟨(some 72), .bin .eql (.t 69) (.t 71), (some (68, true)), [4, 0, 1, 2, 5, 3]⟩,
      ⟨(some 73), .pick (.t 68) (.t 72) (.c (.bool false)), none, [3, 5, 4, 1, 0, 6, 2]⟩,
      ⟨(some 74), .mov (.t 73), none, [2, 6, 0, 1, 4, 3, 5, 7]⟩,
      ⟨(some 75), .mov (.t 8), (some (74, true)), [7, 5, 3, 4, 1, 0, 6, 2, 8]⟩,
      ⟨(some 76), .bin .eql (.t 75) (.c (.int .i64 0)), (some (74, true)), [2, 6, 0, 1, 4, 3, 5, 7, 8, 9]⟩,
      ⟨(some 77), .pick (.t 74) (.t 76) (.c (.bool false)), none, [9, 7, 5, 3, 4, 1, 0, 6, 2, 10, 8]⟩,
      ⟨(some 78), .mov (.t 77), none, [10, 2, 6, 0, 1, 4, 3, 5, 7, 9, 8, 11]⟩,
      ⟨(some 79), .loadn 6 (.t 7), (some (78, true)), [11, 8, 9, 7, 5, 3, 4, 1, 0, 6, 2, 10, 12]⟩,
      ⟨(some 80), .loadn 1 (.t 1), (some (78, true)), [11, 8, 9, 7, 5, 3, 4, 1, 0, 6, 2, 10, 12]⟩,
      ⟨(some 81), .call (.c (.fn 23 [] [])) [.t 80], (some (78, true)), [10, 2, 6, 0, 1, 4, 3, 5, 7, 9, 8, 11, 12, 14]⟩,
      ⟨(some 82), .eqA false (.s [(0, 2, true, .s [(0, 1, false, .c 0), (1, 1, false, .c 0)]), (2, 2, true, .s [(0, 1, false, .c 0), (1, 1, false, .c 0)]), (4, 2, true, .s [(0, 1, false, .c 0), (1, 1, false, .c 0)])]) (.t 79) (.t 81), (some (78, true)), [14, 10, 2, 6, 0, 1, 4, 3, 5, 7, 9, 8, 11, 12, 15, 13]⟩,
      ⟨(some 83), .pick (.t 78) (.t 82) (.c (.bool false)), none, [13, 15, 14, 11, 8, 9, 7, 5, 3, 4, 1, 0, 6, 2, 10, 16, 12]⟩,
      ⟨(some 2), .mov (.t 83), none, [16, 14, 13, 12, 11, 10, 9, 8, 7, 6, 5, 4, 3, 2, 1, 0, 15, 17]⟩])
  (.ret)))))))))), 84, [.t 2]⟩
def xf16l0 : XCode := .seq (.seq (.reg [⟨(some 8), .mov (.t 3), none, []⟩,
      ⟨(some 9), .faddr 0 (.t 1), none, []⟩,
      ⟨(some 10), .load1 (.t 9), none, []⟩,
      ⟨(some 11), .len (.t 10), none, []⟩,
      ⟨(some 12), .bin .lss (.t 8) (.t 11), none, []⟩])
  (.cond (.t 12) .skip (.exit 0)))
  (.seq (.block 1 (.seq (.reg [⟨(some 15), .faddr 0 (.t 1), none, []⟩,
        ⟨(some 16), .load1 (.t 15), none, []⟩,
        ⟨(some 17), .mov (.t 3), none, []⟩,
        ⟨(some 18), .iaddr 2 (.t 16) (.t 17), none, []⟩,
        ⟨(some 19), .faddr 1 (.t 18), none, []⟩,
        ⟨(some 20), .load1 (.t 19), none, []⟩,
        ⟨(some 21), .len (.t 20), none, []⟩,
        ⟨(some 22), .bin .gtr (.t 21) (.c (.int .i64 8)), none, []⟩])
    (.cond (.t 22) (.seq (.reg [⟨(some 2), .mov (.c (.bool false)), none, []⟩])
      (.ret)) .skip)))
  (.reg [⟨(some 13), .mov (.t 3), none, []⟩,
      ⟨(some 14), .bin .add (.t 13) (.c (.int .i64 1)), none, []⟩,
      ⟨(some 3), .mov (.t 14), none, []⟩]))
def xf16 : XFunc := ⟨.seq (.reg [⟨(some 1), .box 24 (.t 0), none, []⟩,
      ⟨(some 2), .mov (.c (.bool false)), none, []⟩])
  (.seq (.seq (.reg [⟨(some 4), .faddr 0 (.t 1), none, []⟩,
      ⟨(some 5), .load1 (.t 4), none, []⟩,
      ⟨(some 6), .len (.t 5), none, []⟩,
      ⟨(some 7), .bin .gtr (.t 6) (.c (.int .i64 8)), none, []⟩])
  (.cond (.t 7) (.seq (.reg [⟨(some 2), .mov (.c (.bool false)), none, []⟩])
    (.ret)) .skip))
  (.seq (.seq (.reg [⟨(some 3), .mov (.c (.int .i64 0)), none, []⟩])
  (.block 0 (.loop xf16l0)))
  (.seq (.reg [⟨(some 2), .mov (.c (.bool true)), none, []⟩])
  (.ret)))), 23, [.t 2]⟩
def xf17l0 : XCode := .seq (.reg [⟨(some 28), .bin .lss (.t 27) (.t 26), none, []⟩])
  (.seq (.cond (.t 28) .skip (.exit 0))
  (.seq (.block 1 (.seq (.reg [⟨(some 29), .mov (.t 27), none, []⟩,
        ⟨(some 5), .mov (.t 29), none, []⟩])
    (.seq (.reg [⟨(some 30), .faddr 0 (.t 1), none, []⟩,
        ⟨(some 31), .load1 (.t 30), none, []⟩,
        ⟨(some 32), .mov (.t 5), none, []⟩,
        ⟨(some 33), .call (.c (.fn 80 [] [])) [.t 31, .t 32], none, []⟩,
        ⟨(some 6), .mov (.t 33), none, []⟩])
    (.seq (.reg [⟨(some 34), .mov (.t 6), none, []⟩,
        ⟨(some 35), .bin .neq (.t 34) (.c (.int .i64 0)), none, []⟩])
    (.cond (.t 35) (.seq (.reg [⟨(some 36), .mov (.t 5), none, []⟩,
          ⟨(some 37), .mov (.t 6), none, []⟩,
          ⟨none, .store 1 (.t 2) (.t 36), none, []⟩,
          ⟨none, .store 1 (.t 3) (.t 37), none, []⟩])
      (.ret)) .skip)))))
  (.reg [⟨(some 38), .bin .add (.t 27) (.c (.int .i64 1)), none, []⟩,
      ⟨(some 27), .mov (.t 38), none, []⟩])))
def xf17a1 : XCode := .seq (.reg [⟨(some 7), .mov (.t 41), none, []⟩])
  (.reg [⟨(some 8), .new 152 [.int .i64 0, .int .i64 0, .int .i64 0, .int .i64 0, .int .i64 0, .int .i64 0, .int .i64 0, .int .i64 0, .int .i64 0, .int .i64 0, .int .i64 0, .int .i64 0], none, []⟩,
      ⟨none, .store 12 (.t 8) (.t 42), none, []⟩])
def xf17b1 : XCode := .block 3 (.seq (.reg [⟨(some 43), .loadn 12 (.t 8), none, []⟩,
        ⟨(some 44), .call (.c (.fn 82 [] [])) [.t 43], none, []⟩,
        ⟨(some 45), .bin .leq (.t 44) (.c (.int .i64 0)), none, []⟩])
    (.cond (.t 45) (.seq (.reg [⟨(some 46), .mov (.t 7), none, []⟩,
          ⟨none, .store 1 (.t 2) (.t 46), none, []⟩,
          ⟨none, .store 1 (.t 3) (.c (.int .i64 13)), none, []⟩])
      (.ret)) .skip))
def xf17 : XFunc := ⟨.seq (.reg [⟨(some 1), .box 24 (.t 0), none, []⟩,
      ⟨(some 2), .new 3 [.int .i64 0], none, []⟩,
      ⟨(some 3), .new 27 [.int .i64 0], none, []⟩])
  (.seq (.seq (.dreg [⟨(some 9), .faddr 0 (.t 1), none, []⟩,
      ⟨(some 10), .load1 (.t 9), none, [0]⟩,
      ⟨(some 11), .len (.t 10), none, [0, 1]⟩,
      ⟨(some 12), .bin .geq (.t 11) (.c (.int .i64 2)), none, [1, 0, 2]⟩,
      ⟨(some 13), .call (.c (.fn 79 [] [])) [.t 12, .c (.int .i64 10)], none, [2, 0, 1, 3]⟩,
      ⟨(some 14), .faddr 0 (.t 1), none, []⟩,
      ⟨(some 15), .load1 (.t 14), none, [5]⟩,
      ⟨(some 16), .len (.t 15), none, [5, 6]⟩,
      ⟨(some 17), .bin .leq (.t 16) (.c (.int .i64 6)), none, [6, 5, 7]⟩,
      ⟨(some 18), .call (.c (.fn 79 [] [])) [.t 17, .c (.int .i64 8)], none, [3, 1, 0, 2, 7, 5, 6, 4, 8]⟩,
      ⟨(some 19), .buildSlice 27 1 2 false [.int .i64 0, .int .i64 0] [(0, 1, .t 13), (1, 1, .t 18)], none, [8, 6, 5, 7, 3, 1, 0, 2, 9, 4]⟩,
      ⟨(some 20), .call (.c (.fn 78 [] [])) [.t 19], none, [4, 2, 0, 1, 3, 7, 5, 6, 8, 9, 10]⟩,
      ⟨(some 4), .mov (.t 20), none, [10, 9, 8, 7, 6, 5, 4, 3, 2, 1, 0, 11]⟩])
  (.seq (.reg [⟨(some 21), .mov (.t 4), none, []⟩,
      ⟨(some 22), .bin .neq (.t 21) (.c (.int .i64 0)), none, []⟩])
  (.cond (.t 22) (.seq (.reg [⟨(some 23), .mov (.t 4), none, []⟩,
        ⟨none, .store 1 (.t 2) (.c (.int .i64 0)), none, []⟩,
        ⟨none, .store 1 (.t 3) (.t 23), none, []⟩])
    (.ret)) .skip)))
  (.seq (.seq (.reg [⟨(some 24), .faddr 0 (.t 1), none, []⟩,
      ⟨(some 25), .load1 (.t 24), none, []⟩,
      ⟨(some 26), .len (.t 25), none, []⟩,
      ⟨(some 27), .mov (.c (.int .i64 0)), none, []⟩])
  (.block 0 (.loop xf17l0)))
  (.seq (.seq (.reg [⟨(some 39), .loadn 1 (.t 1), none, []⟩,
      ⟨(some 40), .call (.c (.fn 81 [] [])) [.t 39], none, []⟩])
  (.block 2 (.rangeF (.t 40) [41, 42] xf17a1 xf17b1)))
  (.seq (.reg [⟨none, .store 1 (.t 2) (.c (.int .i64 0)), none, []⟩,
      ⟨none, .store 1 (.t 3) (.c (.int .i64 0)), none, []⟩])
  (.ret))))), 47, [.c1 2, .c1 3]⟩
def xf18 : XFunc := ⟨.seq (.reg [⟨(some 1), .box 24 (.t 0), none, []⟩,
      ⟨(some 2), .new 24 [.nils], none, []⟩])
  (.seq (.reg [⟨(some 3), .faddr 0 (.t 1), none, []⟩,
      ⟨(some 4), .load1 (.t 3), none, []⟩,
      ⟨(some 5), .call (.c (.fn 75 [] [])) [.t 4], none, []⟩,
      ⟨(some 6), .build [.nils] [(0, 1, .t 5)], none, []⟩,
      ⟨none, .store 1 (.t 2) (.t 6), none, []⟩])
  (.ret)), 7, [.cn 2 1]⟩
def xf19a0 : XCode := .reg [⟨(some 7), .new 152 [.int .i64 0, .int .i64 0, .int .i64 0, .int .i64 0, .int .i64 0, .int .i64 0, .int .i64 0, .int .i64 0, .int .i64 0, .int .i64 0, .int .i64 0, .int .i64 0], none, []⟩,
      ⟨none, .store 12 (.t 7) (.t 16), none, []⟩]
def xf19b0 : XCode := .block 1 (.dreg [⟨(some 17), .load1 (.t 5), none, []⟩,
        ⟨(some 18), .loadn 12 (.t 7), none, []⟩,
        ⟨(some 19), .call (.c (.fn 82 [] [])) [.t 18], none, [1]⟩,
        ⟨(some 20), .bin .add (.t 17) (.t 19), none, [1, 2, 0]⟩,
        ⟨none, .store 1 (.t 5) (.t 20), none, [1, 0, 2, 3]⟩])
def xf19 : XFunc := ⟨.seq (.reg [⟨(some 1), .box 24 (.t 0), none, []⟩,
      ⟨(some 2), .mov (.c (.int .i64 0)), none, []⟩,
      ⟨(some 3), .mov (.c (.int .i64 0)), none, []⟩])
  (.seq (.seq (.reg [⟨(some 8), .loadn 1 (.t 1), none, []⟩,
      ⟨(some 9), .call (.c (.fn 83 [] [])) [.t 8], none, []⟩,
      ⟨(some 4), .mov (.t 9), none, []⟩])
  (.seq (.reg [⟨(some 10), .mov (.t 4), none, []⟩,
      ⟨(some 11), .bin .neq (.t 10) (.c (.int .i64 0)), none, []⟩])
  (.cond (.t 11) (.seq (.reg [⟨(some 12), .mov (.t 4), none, []⟩,
        ⟨(some 2), .mov (.c (.int .i64 0)), none, []⟩,
        ⟨(some 3), .mov (.t 12), none, []⟩])
    (.ret)) .skip)))
  (.seq (.reg [⟨(some 5), .new 3 [.int .i64 0], none, []⟩,
      ⟨none, .store 1 (.t 5) (.c (.int .i64 0)), none, []⟩])
  (.seq (.seq (.reg [⟨(some 13), .loadn 1 (.t 1), none, []⟩,
      ⟨(some 14), .call (.c (.fn 81 [] [])) [.t 13], none, []⟩])
  (.block 0 (.rangeF (.t 14) [15, 16] xf19a0 xf19b0)))
  (.seq (.reg [⟨(some 21), .load1 (.t 5), none, []⟩,
      ⟨(some 2), .mov (.t 21), none, []⟩,
      ⟨(some 3), .mov (.c (.int .i64 0)), none, []⟩])
  (.ret))))), 22, [.t 2, .t 3]⟩
def xf20l0 : XCode := .seq (.reg [⟨(some 29), .bin .lss (.t 28) (.c (.int .i64 3)), none, []⟩])
  (.seq (.cond (.t 29) .skip (.exit 0))
  (.seq (.block 1 (.seq (.reg [⟨(some 30), .mov (.t 28), none, []⟩,
        ⟨(some 31), .index 1 3 false (.t 27) (.t 28), none, []⟩,
        ⟨(some 6), .mov (.t 30), none, []⟩,
        ⟨(some 7), .mov (.t 31), none, []⟩])
    (.reg [⟨(some 32), .mov (.t 6), none, []⟩,
        ⟨(some 33), .mov (.t 7), none, []⟩,
        ⟨(some 34), .mov (.t 7), none, []⟩,
        ⟨(some 35), .build [.int .i64 0, .int .i64 0] [(0, 1, .t 33), (1, 1, .t 34)], none, []⟩,
        ⟨(some 36), .iaddrA 2 3 (.t 5) (.t 32), none, []⟩,
        ⟨none, .store 2 (.t 36) (.t 35), none, []⟩])))
  (.reg [⟨(some 37), .bin .add (.t 28) (.c (.int .i64 1)), none, []⟩,
      ⟨(some 28), .mov (.t 37), none, []⟩])))
def xf20l1 : XCode := .seq (.reg [⟨(some 55), .bin .lss (.t 54) (.c (.int .i64 3)), none, []⟩])
  (.seq (.cond (.t 55) .skip (.exit 6))
  (.seq (.block 7 (.seq (.reg [⟨(some 56), .mov (.t 54), none, []⟩,
        ⟨(some 57), .index 1 3 false (.t 53) (.t 54), none, []⟩,
        ⟨(some 12), .mov (.t 56), none, []⟩,
        ⟨(some 13), .mov (.t 57), none, []⟩])
    (.dreg [⟨(some 58), .mov (.t 12), none, []⟩,
        ⟨(some 59), .mov (.t 12), none, []⟩,
        ⟨(some 60), .iaddrA 2 3 (.t 5) (.t 59), none, [1]⟩,
        ⟨(some 61), .faddr 0 (.t 60), none, [1, 2]⟩,
        ⟨(some 62), .load1 (.t 61), none, [2, 1, 3]⟩,
        ⟨(some 63), .mov (.t 13), none, []⟩,
        ⟨(some 64), .ext false (.t 62) [.t 63], none, [3, 1, 2, 5, 4]⟩,
        ⟨(some 65), .mov (.t 12), none, []⟩,
        ⟨(some 66), .iaddrA 2 3 (.t 5) (.t 65), none, [7]⟩,
        ⟨(some 67), .faddr 1 (.t 66), none, [7, 8]⟩,
        ⟨(some 68), .load1 (.t 67), none, [8, 7, 9]⟩,
        ⟨(some 69), .mov (.t 13), none, []⟩,
        ⟨(some 70), .ext true (.t 68) [.t 69], none, [9, 7, 8, 11, 10]⟩,
        ⟨(some 71), .build [.int .i64 0, .int .i64 0] [(0, 1, .t 64), (1, 1, .t 70)], none, [10, 11, 8, 7, 9, 4, 5, 2, 1, 3, 12, 6]⟩,
        ⟨(some 72), .iaddrA 2 3 (.t 5) (.t 58), none, [13, 12, 11, 10, 9, 8, 7, 6, 5, 4, 3, 2, 1, 0]⟩,
        ⟨none, .store 2 (.t 72) (.t 71), none, [12, 11, 10, 9, 8, 7, 6, 5, 4, 3, 2, 1, 0, 13, 14]⟩])))
  (.reg [⟨(some 73), .bin .add (.t 54) (.c (.int .i64 1)), none, []⟩,
      ⟨(some 54), .mov (.t 73), none, []⟩])))
def xf20l2 : XCode := .seq (.reg [⟨(some 49), .bin .lss (.t 48) (.t 47), none, []⟩])
  (.seq (.cond (.t 49) .skip (.exit 4))
  (.seq (.block 5 (.seq (.reg [⟨(some 50), .iaddr 3 (.t 46) (.t 48), none, []⟩,
        ⟨(some 51), .loadn 3 (.t 50), none, []⟩,
        ⟨(some 11), .new 148 [.int .i64 0, .int .i64 0, .int .i64 0], none, []⟩,
        ⟨none, .store 3 (.t 11) (.t 51), none, []⟩])
    (.seq (.reg [⟨(some 52), .loadn 3 (.t 11), none, []⟩,
        ⟨(some 53), .call (.c (.fn 84 [] [])) [.t 52], none, []⟩,
        ⟨(some 54), .mov (.c (.int .i64 0)), none, []⟩])
    (.block 6 (.loop xf20l1)))))
  (.reg [⟨(some 74), .bin .add (.t 48) (.c (.int .i64 1)), none, []⟩,
      ⟨(some 48), .mov (.t 74), none, []⟩])))
def xf20l3 : XCode := .seq (.reg [⟨(some 42), .bin .lss (.t 41) (.t 40), none, []⟩])
  (.seq (.cond (.t 42) .skip (.exit 2))
  (.seq (.block 3 (.seq (.reg [⟨(some 43), .iaddr 2 (.t 39) (.t 41), none, []⟩,
        ⟨(some 44), .loadn 2 (.t 43), none, []⟩,
        ⟨(some 9), .new 136 [.int .i64 0, .nils], none, []⟩,
        ⟨none, .store 2 (.t 9) (.t 44), none, []⟩])
    (.seq (.reg [⟨(some 45), .faddr 1 (.t 9), none, []⟩,
        ⟨(some 46), .load1 (.t 45), none, []⟩,
        ⟨(some 47), .len (.t 46), none, []⟩,
        ⟨(some 48), .mov (.c (.int .i64 0)), none, []⟩])
    (.block 4 (.loop xf20l2)))))
  (.reg [⟨(some 75), .bin .add (.t 41) (.c (.int .i64 1)), none, []⟩,
      ⟨(some 41), .mov (.t 75), none, []⟩])))
def xf20 : XFunc := ⟨.seq (.reg [⟨(some 1), .box 24 (.t 0), none, []⟩,
      ⟨(some 2), .new 33 [.int .i64 0, .int .i64 0, .int .i64 0, .int .i64 0, .int .i64 0, .int .i64 0], none, []⟩,
      ⟨(some 3), .mov (.c (.int .i64 0)), none, []⟩])
  (.seq (.seq (.reg [⟨(some 14), .loadn 1 (.t 1), none, []⟩,
      ⟨(some 15), .call (.c (.fn 83 [] [])) [.t 14], none, []⟩,
      ⟨(some 4), .mov (.t 15), none, []⟩])
  (.seq (.reg [⟨(some 16), .mov (.t 4), none, []⟩,
      ⟨(some 17), .bin .neq (.t 16) (.c (.int .i64 0)), none, []⟩])
  (.cond (.t 17) (.seq (.reg [⟨(some 18), .build [.int .i64 0, .int .i64 0, .int .i64 0, .int .i64 0, .int .i64 0, .int .i64 0] [], none, []⟩,
        ⟨(some 19), .mov (.t 4), none, []⟩,
        ⟨none, .store 6 (.t 2) (.t 18), none, []⟩,
        ⟨(some 3), .mov (.t 19), none, []⟩])
    (.ret)) .skip)))
  (.seq (.reg [⟨(some 5), .new 33 [.int .i64 0, .int .i64 0, .int .i64 0, .int .i64 0, .int .i64 0, .int .i64 0], none, []⟩])
  (.seq (.seq (.reg [⟨(some 20), .faddr 0 (.t 1), none, []⟩,
      ⟨(some 21), .load1 (.t 20), none, []⟩,
      ⟨(some 22), .iaddr 2 (.t 21) (.c (.int .i64 0)), none, []⟩,
      ⟨(some 23), .faddr 1 (.t 22), none, []⟩,
      ⟨(some 24), .load1 (.t 23), none, []⟩,
      ⟨(some 25), .iaddr 3 (.t 24) (.c (.int .i64 0)), none, []⟩,
      ⟨(some 26), .loadn 3 (.t 25), none, []⟩,
      ⟨(some 27), .call (.c (.fn 84 [] [])) [.t 26], none, []⟩,
      ⟨(some 28), .mov (.c (.int .i64 0)), none, []⟩])
  (.block 0 (.loop xf20l0)))
  (.seq (.seq (.reg [⟨(some 38), .faddr 0 (.t 1), none, []⟩,
      ⟨(some 39), .load1 (.t 38), none, []⟩,
      ⟨(some 40), .len (.t 39), none, []⟩,
      ⟨(some 41), .mov (.c (.int .i64 0)), none, []⟩])
  (.block 2 (.loop xf20l3)))
  (.seq (.reg [⟨(some 76), .loadn 6 (.t 5), none, []⟩,
      ⟨none, .store 6 (.t 2) (.t 76), none, []⟩,
      ⟨(some 3), .mov (.c (.int .i64 0)), none, []⟩])
  (.ret)))))), 77, [.cn 2 6, .t 3]⟩
def xf21l0 : XCode := .seq (.seq (.reg [⟨(some 17), .mov (.t 4), none, []⟩,
      ⟨(some 18), .faddr 0 (.t 1), none, []⟩,
      ⟨(some 19), .load1 (.t 18), none, []⟩,
      ⟨(some 20), .len (.t 19), none, []⟩,
      ⟨(some 21), .bin .lss (.t 17) (.t 20), none, []⟩])
  (.cond (.t 21) .skip (.exit 0)))
  (.seq (.block 1 (.seq (.seq (.reg [⟨(some 24), .loadn 1 (.t 1), none, []⟩,
        ⟨(some 25), .mov (.t 4), none, []⟩,
        ⟨(some 26), .call (.c (.fn 85 [] [])) [.t 24, .t 25], none, []⟩,
        ⟨(some 5), .mov (.t 26), none, []⟩])
    (.seq (.reg [⟨(some 27), .mov (.t 5), none, []⟩,
        ⟨(some 28), .bin .neq (.t 27) (.c (.int .i64 0)), none, []⟩])
    (.cond (.t 28) (.seq (.reg [⟨(some 29), .mov (.t 4), none, []⟩,
          ⟨(some 30), .mov (.t 5), none, []⟩,
          ⟨(some 2), .mov (.t 29), none, []⟩,
          ⟨(some 3), .mov (.t 30), none, []⟩])
      (.ret)) .skip)))
    (.seq (.seq (.dreg [⟨(some 31), .mov (.t 4), none, []⟩,
        ⟨(some 32), .bin .gtr (.t 31) (.c (.int .i64 0)), none, [0]⟩,
        ⟨(some 33), .mov (.t 32), none, [0, 1]⟩,
        ⟨(some 34), .faddr 0 (.t 1), (some (33, true)), [1, 0, 2]⟩,
        ⟨(some 35), .load1 (.t 34), (some (33, true)), [0, 1, 2, 3]⟩,
        ⟨(some 36), .mov (.t 4), (some (33, true)), [1, 0, 2]⟩,
        ⟨(some 37), .iaddr 2 (.t 35) (.t 36), (some (33, true)), [3, 1, 0, 2, 5, 4]⟩,
        ⟨(some 38), .faddr 0 (.t 37), (some (33, true)), [4, 5, 0, 1, 3, 2, 6]⟩,
        ⟨(some 39), .load1 (.t 38), (some (33, true)), [6, 3, 1, 0, 5, 4, 2, 7]⟩,
        ⟨(some 40), .faddr 0 (.t 1), (some (33, true)), [1, 0, 2]⟩,
        ⟨(some 41), .load1 (.t 40), (some (33, true)), [0, 1, 2, 9]⟩,
        ⟨(some 42), .mov (.t 4), (some (33, true)), [1, 0, 2]⟩,
        ⟨(some 43), .bin .sub (.t 42) (.c (.int .i64 1)), (some (33, true)), [0, 1, 2, 11]⟩,
        ⟨(some 44), .iaddr 2 (.t 41) (.t 43), (some (33, true)), [11, 9, 1, 0, 2, 12, 10]⟩,
        ⟨(some 45), .faddr 0 (.t 44), (some (33, true)), [10, 12, 0, 1, 9, 11, 2, 13]⟩,
        ⟨(some 46), .load1 (.t 45), (some (33, true)), [13, 11, 9, 1, 0, 12, 10, 2, 14]⟩,
        ⟨(some 47), .bin .leq (.t 39) (.t 46), (some (33, true)), [14, 10, 12, 9, 11, 13, 7, 4, 5, 0, 1, 3, 6, 2, 15, 8]⟩,
        ⟨(some 48), .pick (.t 33) (.t 47) (.c (.bool false)), none, [8, 15, 6, 3, 5, 4, 7, 13, 11, 9, 12, 10, 14, 1, 0, 16, 2]⟩])
    (.cond (.t 48) (.seq (.reg [⟨(some 49), .mov (.t 4), none, []⟩,
          ⟨(some 2), .mov (.t 49), none, []⟩,
          ⟨(some 3), .mov (.c (.int .i64 9)), none, []⟩])
      (.ret)) .skip))
    (.seq (.dreg [⟨(some 50), .mov (.t 4), none, []⟩,
        ⟨(some 51), .bin .gtr (.t 50) (.c (.int .i64 0)), none, [0]⟩,
        ⟨(some 52), .mov (.t 51), none, [0, 1]⟩,
        ⟨(some 53), .faddr 0 (.t 1), (some (52, true)), [1, 0, 2]⟩,
        ⟨(some 54), .load1 (.t 53), (some (52, true)), [0, 1, 2, 3]⟩,
        ⟨(some 55), .mov (.t 4), (some (52, true)), [1, 0, 2]⟩,
        ⟨(some 56), .iaddr 2 (.t 54) (.t 55), (some (52, true)), [3, 1, 0, 2, 5, 4]⟩,
        ⟨(some 57), .faddr 0 (.t 56), (some (52, true)), [4, 5, 0, 1, 3, 2, 6]⟩,
        ⟨(some 58), .load1 (.t 57), (some (52, true)), [6, 3, 1, 0, 5, 4, 2, 7]⟩,
        ⟨(some 59), .faddr 0 (.t 1), (some (52, true)), [1, 0, 2]⟩,
        ⟨(some 60), .load1 (.t 59), (some (52, true)), [0, 1, 2, 9]⟩,
        ⟨(some 61), .mov (.t 4), (some (52, true)), [1, 0, 2]⟩,
        ⟨(some 62), .bin .sub (.t 61) (.c (.int .i64 1)), (some (52, true)), [0, 1, 2, 11]⟩,
        ⟨(some 63), .iaddr 2 (.t 60) (.t 62), (some (52, true)), [11, 9, 1, 0, 2, 12, 10]⟩,
        ⟨(some 64), .faddr 0 (.t 63), (some (52, true)), [10, 12, 0, 1, 9, 11, 2, 13]⟩,
        ⟨(some 65), .load1 (.t 64), (some (52, true)), [13, 11, 9, 1, 0, 12, 10, 2, 14]⟩,
        ⟨(some 66), .bin .sub (.t 58) (.t 65), (some (52, true)), [14, 10, 12, 9, 11, 13, 7, 4, 5, 0, 1, 3, 6, 2, 15, 8]⟩,
        ⟨(some 67), .bin .gtr (.t 66) (.c (.int .i64 20)), (some (52, true)), [8, 15, 6, 3, 1, 0, 5, 4, 7, 13, 11, 9, 12, 10, 14, 2, 16]⟩,
        ⟨(some 68), .pick (.t 52) (.t 67) (.c (.bool false)), none, [16, 14, 10, 12, 9, 11, 13, 7, 4, 5, 3, 6, 15, 8, 1, 0, 17, 2]⟩])
    (.cond (.t 68) (.seq (.reg [⟨(some 69), .mov (.t 4), none, []⟩,
          ⟨(some 2), .mov (.t 69), none, []⟩,
          ⟨(some 3), .mov (.c (.int .i64 22)), none, []⟩])
      (.ret)) .skip)))))
  (.reg [⟨(some 22), .mov (.t 4), none, []⟩,
      ⟨(some 23), .bin .add (.t 22) (.c (.int .i64 1)), none, []⟩,
      ⟨(some 4), .mov (.t 23), none, []⟩]))
def xf21l1 : XCode := .seq (.seq (.reg [⟨(some 81), .mov (.t 8), none, []⟩,
      ⟨(some 82), .mov (.t 7), none, []⟩,
      ⟨(some 83), .len (.t 82), none, []⟩,
      ⟨(some 84), .bin .lss (.t 81) (.t 83), none, []⟩])
  (.cond (.t 84) .skip (.exit 4)))
  (.seq (.block 5 (.seq (.dreg [⟨(some 87), .mov (.t 7), none, []⟩,
        ⟨(some 88), .mov (.t 8), none, []⟩,
        ⟨(some 89), .iaddr 12 (.t 87) (.t 88), none, [1, 0]⟩,
        ⟨(some 90), .faddr 0 (.t 89), none, [0, 1, 2]⟩,
        ⟨(some 91), .iaddrA 3 3 (.t 90) (.c (.int .i64 0)), none, [2, 1, 0, 3]⟩,
        ⟨(some 92), .loadn 3 (.t 91), none, [3, 0, 1, 2, 4]⟩,
        ⟨(some 93), .mov (.t 7), none, []⟩,
        ⟨(some 94), .mov (.t 8), none, []⟩,
        ⟨(some 95), .iaddr 12 (.t 93) (.t 94), none, [7, 6]⟩,
        ⟨(some 96), .faddr 0 (.t 95), none, [6, 7, 8]⟩,
        ⟨(some 97), .iaddrA 3 3 (.t 96) (.c (.int .i64 1)), none, [8, 7, 6, 9]⟩,
        ⟨(some 98), .loadn 3 (.t 97), none, [9, 6, 7, 8, 10]⟩,
        ⟨(some 99), .mov (.t 7), none, []⟩,
        ⟨(some 100), .mov (.t 8), none, []⟩,
        ⟨(some 101), .iaddr 12 (.t 99) (.t 100), none, [13, 12]⟩,
        ⟨(some 102), .faddr 0 (.t 101), none, [12, 13, 14]⟩,
        ⟨(some 103), .iaddrA 3 3 (.t 102) (.c (.int .i64 2)), none, [14, 13, 12, 15]⟩,
        ⟨(some 104), .loadn 3 (.t 103), none, [15, 12, 13, 14, 16]⟩,
        ⟨(some 105), .call (.c (.fn 87 [] [])) [.t 92, .t 98, .t 104], none, [16, 14, 13, 12, 15, 10, 8, 7, 6, 9, 4, 2, 1, 0, 3, 17, 11, 5]⟩,
        ⟨(some 106), .bin .leq (.t 105) (.c (.int .i64 0)), none, [5, 11, 17, 3, 0, 1, 2, 4, 9, 6, 7, 8, 10, 15, 12, 13, 14, 16, 18]⟩])
    (.cond (.t 106) (.seq (.reg [⟨(some 107), .mov (.t 6), none, []⟩,
          ⟨(some 2), .mov (.t 107), none, []⟩,
          ⟨(some 3), .mov (.c (.int .i64 13)), none, []⟩])
      (.ret)) .skip)))
  (.reg [⟨(some 85), .mov (.t 8), none, []⟩,
      ⟨(some 86), .bin .add (.t 85) (.c (.int .i64 1)), none, []⟩,
      ⟨(some 8), .mov (.t 86), none, []⟩]))
def xf21l2 : XCode := .seq (.seq (.reg [⟨(some 70), .mov (.t 6), none, []⟩,
      ⟨(some 71), .bin .add (.t 70) (.c (.int .i64 1)), none, []⟩,
      ⟨(some 72), .faddr 0 (.t 1), none, []⟩,
      ⟨(some 73), .load1 (.t 72), none, []⟩,
      ⟨(some 74), .len (.t 73), none, []⟩,
      ⟨(some 75), .bin .lss (.t 71) (.t 74), none, []⟩])
  (.cond (.t 75) .skip (.exit 2)))
  (.seq (.block 3 (.seq (.reg [⟨(some 78), .loadn 1 (.t 1), none, []⟩,
        ⟨(some 79), .mov (.t 6), none, []⟩,
        ⟨(some 80), .call (.c (.fn 86 [] [])) [.t 78, .t 79], none, []⟩,
        ⟨(some 7), .mov (.t 80), none, []⟩])
    (.seq (.reg [⟨(some 8), .mov (.c (.int .i64 0)), none, []⟩])
    (.block 4 (.loop xf21l1)))))
  (.reg [⟨(some 76), .mov (.t 6), none, []⟩,
      ⟨(some 77), .bin .add (.t 76) (.c (.int .i64 1)), none, []⟩,
      ⟨(some 6), .mov (.t 77), none, []⟩]))
def xf21 : XFunc := ⟨.seq (.reg [⟨(some 1), .box 24 (.t 0), none, []⟩,
      ⟨(some 2), .mov (.c (.int .i64 0)), none, []⟩,
      ⟨(some 3), .mov (.c (.int .i64 0)), none, []⟩])
  (.seq (.seq (.reg [⟨(some 9), .faddr 0 (.t 1), none, []⟩,
      ⟨(some 10), .load1 (.t 9), none, []⟩,
      ⟨(some 11), .len (.t 10), none, []⟩,
      ⟨(some 12), .bin .lss (.t 11) (.c (.int .i64 2)), none, []⟩])
  (.cond (.t 12) (.seq (.reg [⟨(some 2), .mov (.c (.int .i64 0)), none, []⟩,
        ⟨(some 3), .mov (.c (.int .i64 10)), none, []⟩])
    (.ret)) .skip))
  (.seq (.seq (.reg [⟨(some 13), .faddr 0 (.t 1), none, []⟩,
      ⟨(some 14), .load1 (.t 13), none, []⟩,
      ⟨(some 15), .len (.t 14), none, []⟩,
      ⟨(some 16), .bin .gtr (.t 15) (.c (.int .i64 6)), none, []⟩])
  (.cond (.t 16) (.seq (.reg [⟨(some 2), .mov (.c (.int .i64 0)), none, []⟩,
        ⟨(some 3), .mov (.c (.int .i64 8)), none, []⟩])
    (.ret)) .skip))
  (.seq (.seq (.reg [⟨(some 4), .mov (.c (.int .i64 0)), none, []⟩])
  (.block 0 (.loop xf21l0)))
  (.seq (.seq (.reg [⟨(some 6), .mov (.c (.int .i64 0)), none, []⟩])
  (.block 2 (.loop xf21l2)))
  (.seq (.reg [⟨(some 2), .mov (.c (.int .i64 0)), none, []⟩,
      ⟨(some 3), .mov (.c (.int .i64 0)), none, []⟩])
  (.ret)))))), 108, [.t 2, .t 3]⟩
def xf22l0 : XCode := .seq (.seq (.reg [⟨(some 8), .mov (.t 5), none, []⟩,
      ⟨(some 9), .mov (.t 4), none, []⟩,
      ⟨(some 10), .len (.t 9), none, []⟩,
      ⟨(some 11), .bin .lss (.t 8) (.t 10), none, []⟩])
  (.cond (.t 11) .skip (.exit 0)))
  (.seq (.block 1 (.dreg [⟨(some 14), .mov (.t 3), none, []⟩,
        ⟨(some 15), .mov (.t 4), none, []⟩,
        ⟨(some 16), .mov (.t 5), none, []⟩,
        ⟨(some 17), .iaddr 12 (.t 15) (.t 16), none, [2, 1]⟩,
        ⟨(some 18), .faddr 0 (.t 17), none, [1, 2, 3]⟩,
        ⟨(some 19), .iaddrA 3 3 (.t 18) (.c (.int .i64 0)), none, [3, 2, 1, 4]⟩,
        ⟨(some 20), .loadn 3 (.t 19), none, [4, 1, 2, 3, 5]⟩,
        ⟨(some 21), .mov (.t 4), none, []⟩,
        ⟨(some 22), .mov (.t 5), none, []⟩,
        ⟨(some 23), .iaddr 12 (.t 21) (.t 22), none, [8, 7]⟩,
        ⟨(some 24), .faddr 0 (.t 23), none, [7, 8, 9]⟩,
        ⟨(some 25), .iaddrA 3 3 (.t 24) (.c (.int .i64 1)), none, [9, 8, 7, 10]⟩,
        ⟨(some 26), .loadn 3 (.t 25), none, [10, 7, 8, 9, 11]⟩,
        ⟨(some 27), .mov (.t 4), none, []⟩,
        ⟨(some 28), .mov (.t 5), none, []⟩,
        ⟨(some 29), .iaddr 12 (.t 27) (.t 28), none, [14, 13]⟩,
        ⟨(some 30), .faddr 0 (.t 29), none, [13, 14, 15]⟩,
        ⟨(some 31), .iaddrA 3 3 (.t 30) (.c (.int .i64 2)), none, [15, 14, 13, 16]⟩,
        ⟨(some 32), .loadn 3 (.t 31), none, [16, 13, 14, 15, 17]⟩,
        ⟨(some 33), .call (.c (.fn 87 [] [])) [.t 20, .t 26, .t 32], none, [17, 15, 14, 13, 16, 11, 9, 8, 7, 10, 5, 3, 2, 1, 4, 18, 12, 6]⟩,
        ⟨(some 34), .bin .add (.t 14) (.t 33), none, [6, 12, 18, 4, 1, 2, 3, 5, 10, 7, 8, 9, 11, 16, 13, 14, 15, 17, 19, 0]⟩,
        ⟨(some 3), .mov (.t 34), none, [18, 17, 16, 15, 14, 13, 12, 11, 10, 9, 8, 7, 6, 5, 4, 3, 2, 1, 0, 19, 20]⟩]))
  (.reg [⟨(some 12), .mov (.t 5), none, []⟩,
      ⟨(some 13), .bin .add (.t 12) (.c (.int .i64 1)), none, []⟩,
      ⟨(some 5), .mov (.t 13), none, []⟩]))
def xf22 : XFunc := ⟨.seq (.reg [⟨(some 1), .box 24 (.t 0), none, []⟩,
      ⟨(some 2), .mov (.c (.int .i64 0)), none, []⟩])
  (.seq (.reg [⟨(some 3), .mov (.c (.int .i64 0)), none, []⟩])
  (.seq (.reg [⟨(some 6), .loadn 1 (.t 1), none, []⟩,
      ⟨(some 7), .call (.c (.fn 88 [] [])) [.t 6], none, []⟩,
      ⟨(some 4), .mov (.t 7), none, []⟩])
  (.seq (.seq (.reg [⟨(some 5), .mov (.c (.int .i64 0)), none, []⟩])
  (.block 0 (.loop xf22l0)))
  (.seq (.reg [⟨(some 35), .mov (.t 3), none, []⟩,
      ⟨(some 2), .mov (.t 35), none, []⟩])
  (.ret))))), 36, [.t 2]⟩
def xf23l0 : XCode := .seq (.seq (.reg [⟨(some 66), .mov (.t 8), none, []⟩,
      ⟨(some 67), .bin .lss (.t 66) (.c (.int .i64 3)), none, []⟩])
  (.cond (.t 67) .skip (.exit 4)))
  (.seq (.block 5 (.dreg [⟨(some 70), .mov (.t 8), none, []⟩,
        ⟨(some 71), .mov (.t 8), none, []⟩,
        ⟨(some 72), .iaddrA 2 3 (.t 4) (.t 71), none, [1]⟩,
        ⟨(some 73), .faddr 0 (.t 72), none, [1, 2]⟩,
        ⟨(some 74), .load1 (.t 73), none, [2, 1, 3]⟩,
        ⟨(some 75), .mov (.t 8), none, []⟩,
        ⟨(some 76), .iaddrA 1 3 (.t 7) (.t 75), none, [5]⟩,
        ⟨(some 77), .load1 (.t 76), none, [5, 6]⟩,
        ⟨(some 78), .ext false (.t 74) [.t 77], none, [6, 5, 3, 1, 2, 7, 4]⟩,
        ⟨(some 79), .mov (.t 8), none, []⟩,
        ⟨(some 80), .iaddrA 2 3 (.t 4) (.t 79), none, [9]⟩,
        ⟨(some 81), .faddr 1 (.t 80), none, [9, 10]⟩,
        ⟨(some 82), .load1 (.t 81), none, [10, 9, 11]⟩,
        ⟨(some 83), .mov (.t 8), none, []⟩,
        ⟨(some 84), .iaddrA 1 3 (.t 7) (.t 83), none, [13]⟩,
        ⟨(some 85), .load1 (.t 84), none, [13, 14]⟩,
        ⟨(some 86), .ext true (.t 82) [.t 85], none, [14, 13, 11, 9, 10, 15, 12]⟩,
        ⟨(some 87), .build [.int .i64 0, .int .i64 0] [(0, 1, .t 78), (1, 1, .t 86)], none, [12, 15, 10, 9, 11, 13, 14, 4, 7, 2, 1, 3, 5, 6, 16, 8]⟩,
        ⟨(some 88), .iaddrA 2 3 (.t 4) (.t 70), none, [17, 16, 15, 14, 13, 12, 11, 10, 9, 8, 7, 6, 5, 4, 3, 2, 1, 0]⟩,
        ⟨none, .store 2 (.t 88) (.t 87), none, [16, 15, 14, 13, 12, 11, 10, 9, 8, 7, 6, 5, 4, 3, 2, 1, 0, 17, 18]⟩]))
  (.reg [⟨(some 68), .mov (.t 8), none, []⟩,
      ⟨(some 69), .bin .add (.t 68) (.c (.int .i64 1)), none, []⟩,
      ⟨(some 8), .mov (.t 69), none, []⟩]))
def xf23l1 : XCode := .seq (.seq (.reg [⟨(some 39), .mov (.t 6), none, []⟩,
      ⟨(some 40), .faddr 0 (.t 1), none, []⟩,
      ⟨(some 41), .load1 (.t 40), none, []⟩,
      ⟨(some 42), .mov (.t 5), none, []⟩,
      ⟨(some 43), .iaddr 2 (.t 41) (.t 42), none, []⟩,
      ⟨(some 44), .faddr 1 (.t 43), none, []⟩,
      ⟨(some 45), .load1 (.t 44), none, []⟩,
      ⟨(some 46), .len (.t 45), none, []⟩,
      ⟨(some 47), .bin .lss (.t 39) (.t 46), none, []⟩])
  (.cond (.t 47) .skip (.exit 2)))
  (.seq (.block 3 (.seq (.reg [⟨(some 50), .faddr 0 (.t 1), none, []⟩,
        ⟨(some 51), .load1 (.t 50), none, []⟩,
        ⟨(some 52), .mov (.t 5), none, []⟩,
        ⟨(some 53), .iaddr 2 (.t 51) (.t 52), none, []⟩,
        ⟨(some 54), .faddr 1 (.t 53), none, []⟩,
        ⟨(some 55), .load1 (.t 54), none, []⟩,
        ⟨(some 56), .mov (.t 6), none, []⟩,
        ⟨(some 57), .iaddr 3 (.t 55) (.t 56), none, []⟩,
        ⟨(some 58), .loadn 3 (.t 57), none, []⟩,
        ⟨none, .store 3 (.t 3) (.t 58), none, []⟩])
    (.seq (.reg [⟨(some 59), .faddr 0 (.t 3), none, []⟩,
        ⟨(some 60), .load1 (.t 59), none, []⟩,
        ⟨(some 61), .faddr 1 (.t 3), none, []⟩,
        ⟨(some 62), .load1 (.t 61), none, []⟩,
        ⟨(some 63), .faddr 2 (.t 3), none, []⟩,
        ⟨(some 64), .load1 (.t 63), none, []⟩,
        ⟨(some 65), .build [.int .i64 0, .int .i64 0, .int .i64 0] [(0, 1, .t 60), (1, 1, .t 62), (2, 1, .t 64)], none, []⟩,
        ⟨(some 7), .new 155 [.int .i64 0, .int .i64 0, .int .i64 0], none, []⟩,
        ⟨none, .store 3 (.t 7) (.t 65), none, []⟩])
    (.seq (.reg [⟨(some 8), .mov (.c (.int .i64 0)), none, []⟩])
    (.block 4 (.loop xf23l0))))))
  (.reg [⟨(some 48), .mov (.t 6), none, []⟩,
      ⟨(some 49), .bin .add (.t 48) (.c (.int .i64 1)), none, []⟩,
      ⟨(some 6), .mov (.t 49), none, []⟩]))
def xf23l2 : XCode := .seq (.seq (.reg [⟨(some 32), .mov (.t 5), none, []⟩,
      ⟨(some 33), .faddr 0 (.t 1), none, []⟩,
      ⟨(some 34), .load1 (.t 33), none, []⟩,
      ⟨(some 35), .len (.t 34), none, []⟩,
      ⟨(some 36), .bin .lss (.t 32) (.t 35), none, []⟩])
  (.cond (.t 36) .skip (.exit 0)))
  (.seq (.block 1 (.seq (.reg [⟨(some 6), .mov (.c (.int .i64 0)), none, []⟩])
    (.block 2 (.loop xf23l1))))
  (.reg [⟨(some 37), .mov (.t 5), none, []⟩,
      ⟨(some 38), .bin .add (.t 37) (.c (.int .i64 1)), none, []⟩,
      ⟨(some 5), .mov (.t 38), none, []⟩]))
def xf23 : XFunc := ⟨.seq (.reg [⟨(some 1), .box 24 (.t 0), none, []⟩,
      ⟨(some 2), .new 33 [.int .i64 0, .int .i64 0, .int .i64 0, .int .i64 0, .int .i64 0, .int .i64 0], none, []⟩])
  (.seq (.reg [⟨(some 9), .faddr 0 (.t 1), none, []⟩,
      ⟨(some 10), .load1 (.t 9), none, []⟩,
      ⟨(some 11), .iaddr 2 (.t 10) (.c (.int .i64 0)), none, []⟩,
      ⟨(some 12), .faddr 1 (.t 11), none, []⟩,
      ⟨(some 13), .load1 (.t 12), none, []⟩,
      ⟨(some 14), .iaddr 3 (.t 13) (.c (.int .i64 0)), none, []⟩,
      ⟨(some 15), .loadn 3 (.t 14), none, []⟩,
      ⟨(some 3), .new 148 [.int .i64 0, .int .i64 0, .int .i64 0], none, []⟩,
      ⟨none, .store 3 (.t 3) (.t 15), none, []⟩])
  (.seq (.reg [⟨(some 16), .faddr 0 (.t 3), none, []⟩,
      ⟨(some 17), .load1 (.t 16), none, []⟩,
      ⟨(some 18), .faddr 0 (.t 3), none, []⟩,
      ⟨(some 19), .load1 (.t 18), none, []⟩,
      ⟨(some 20), .build [.int .i64 0, .int .i64 0] [(0, 1, .t 17), (1, 1, .t 19)], none, []⟩,
      ⟨(some 21), .faddr 1 (.t 3), none, []⟩,
      ⟨(some 22), .load1 (.t 21), none, []⟩,
      ⟨(some 23), .faddr 1 (.t 3), none, []⟩,
      ⟨(some 24), .load1 (.t 23), none, []⟩,
      ⟨(some 25), .build [.int .i64 0, .int .i64 0] [(0, 1, .t 22), (1, 1, .t 24)], none, []⟩,
      ⟨(some 26), .faddr 2 (.t 3), none, []⟩,
      ⟨(some 27), .load1 (.t 26), none, []⟩,
      ⟨(some 28), .faddr 2 (.t 3), none, []⟩,
      ⟨(some 29), .load1 (.t 28), none, []⟩,
      ⟨(some 30), .build [.int .i64 0, .int .i64 0] [(0, 1, .t 27), (1, 1, .t 29)], none, []⟩,
      ⟨(some 31), .build [.int .i64 0, .int .i64 0, .int .i64 0, .int .i64 0, .int .i64 0, .int .i64 0] [(0, 2, .t 20), (2, 2, .t 25), (4, 2, .t 30)], none, []⟩,
      ⟨(some 4), .new 33 [.int .i64 0, .int .i64 0, .int .i64 0, .int .i64 0, .int .i64 0, .int .i64 0], none, []⟩,
      ⟨none, .store 6 (.t 4) (.t 31), none, []⟩])
  (.seq (.seq (.reg [⟨(some 5), .mov (.c (.int .i64 0)), none, []⟩])
  (.block 0 (.loop xf23l2)))
  (.seq (.reg [⟨(some 89), .loadn 6 (.t 4), none, []⟩,
      ⟨none, .store 6 (.t 2) (.t 89), none, []⟩])
  (.ret))))), 90, [.cn 2 6]⟩
def xf75l0 : XCode := .seq (.seq (.reg [⟨(some 5), .mov (.t 4), none, []⟩,
      ⟨(some 6), .mov (.t 0), none, []⟩,
      ⟨(some 7), .len (.t 6), none, []⟩,
      ⟨(some 8), .bin .lss (.t 5) (.t 7), none, []⟩])
  (.cond (.t 8) .skip (.exit 0)))
  (.seq (.block 1 (.dreg [⟨(some 11), .mov (.t 3), none, []⟩,
        ⟨(some 12), .mov (.t 0), none, []⟩,
        ⟨(some 13), .mov (.t 4), none, []⟩,
        ⟨(some 14), .iaddr 2 (.t 12) (.t 13), none, [2, 1]⟩,
        ⟨(some 15), .faddr 0 (.t 14), none, [1, 2, 3]⟩,
        ⟨(some 16), .load1 (.t 15), none, [3, 2, 1, 4]⟩,
        ⟨(some 17), .buildSlice 148 3 0 true [] [], none, []⟩,
        ⟨(some 18), .mov (.t 0), none, []⟩,
        ⟨(some 19), .mov (.t 4), none, []⟩,
        ⟨(some 20), .iaddr 2 (.t 18) (.t 19), none, [8, 7]⟩,
        ⟨(some 21), .faddr 1 (.t 20), none, [7, 8, 9]⟩,
        ⟨(some 22), .load1 (.t 21), none, [9, 8, 7, 10]⟩,
        ⟨(some 23), .append 148 3 24 (.t 17) (.t 22), none, [10, 7, 8, 9, 11, 6]⟩,
        ⟨(some 24), .build [.int .i64 0, .nils] [(0, 1, .t 16), (1, 1, .t 23)], none, [6, 11, 9, 8, 7, 10, 4, 1, 2, 3, 12, 5]⟩,
        ⟨(some 25), .buildSlice 136 2 1 true [.int .i64 0, .nils] [(0, 2, .t 24)], none, [5, 12, 3, 2, 1, 4, 10, 7, 8, 9, 11, 6, 13]⟩,
        ⟨(some 26), .append 136 2 32 (.t 11) (.t 25), none, [13, 6, 11, 9, 8, 7, 10, 4, 1, 2, 3, 5, 12, 14, 0]⟩,
        ⟨(some 3), .mov (.t 26), none, [14, 13, 12, 11, 10, 9, 8, 7, 6, 5, 4, 3, 2, 1, 0, 15]⟩]))
  (.reg [⟨(some 9), .mov (.t 4), none, []⟩,
      ⟨(some 10), .bin .add (.t 9) (.c (.int .i64 1)), none, []⟩,
      ⟨(some 4), .mov (.t 10), none, []⟩]))
def xf75 : XFunc := ⟨.seq (.reg [⟨(some 2), .mov (.c .nils), none, []⟩])
  (.seq (.reg [⟨(some 3), .mov (.c .nils), none, []⟩])
  (.seq (.seq (.reg [⟨(some 4), .mov (.c (.int .i64 0)), none, []⟩])
  (.block 0 (.loop xf75l0)))
  (.seq (.reg [⟨(some 27), .mov (.t 3), none, []⟩,
      ⟨(some 2), .mov (.t 27), none, []⟩])
  (.ret)))), 28, [.t 2]⟩
def xf78l0 : XCode := .seq (.reg [⟨(some 8), .bin .lss (.t 7) (.t 6), none, []⟩])
  (.seq (.cond (.t 8) .skip (.exit 0))
  (.seq (.block 1 (.seq (.reg [⟨(some 9), .iaddr 1 (.t 5) (.t 7), none, []⟩,
        ⟨(some 10), .load1 (.t 9), none, []⟩,
        ⟨(some 4), .mov (.t 10), none, []⟩])
    (.seq (.reg [⟨(some 11), .mov (.t 4), none, []⟩,
        ⟨(some 12), .bin .neq (.t 11) (.c (.int .i64 0)), none, []⟩])
    (.cond (.t 12) (.seq (.reg [⟨(some 13), .mov (.t 4), none, []⟩,
          ⟨(some 2), .mov (.t 13), none, []⟩])
      (.ret)) .skip))))
  (.reg [⟨(some 14), .bin .add (.t 7) (.c (.int .i64 1)), none, []⟩,
      ⟨(some 7), .mov (.t 14), none, []⟩])))
def xf78 : XFunc := ⟨.seq (.reg [⟨(some 2), .mov (.c (.int .i64 0)), none, []⟩])
  (.seq (.seq (.reg [⟨(some 5), .mov (.t 0), none, []⟩,
      ⟨(some 6), .len (.t 5), none, []⟩,
      ⟨(some 7), .mov (.c (.int .i64 0)), none, []⟩])
  (.block 0 (.loop xf78l0)))
  (.seq (.reg [⟨(some 2), .mov (.c (.int .i64 0)), none, []⟩])
  (.ret))), 15, [.t 2]⟩
def xf79 : XFunc := ⟨.seq (.reg [⟨(some 4), .mov (.c (.int .i64 0)), none, []⟩])
  (.seq (.seq (.reg [⟨(some 5), .mov (.t 0), none, []⟩])
  (.cond (.t 5) (.seq (.reg [⟨(some 4), .mov (.c (.int .i64 0)), none, []⟩])
    (.ret)) .skip))
  (.seq (.reg [⟨(some 6), .mov (.t 1), none, []⟩,
      ⟨(some 4), .mov (.t 6), none, []⟩])
  (.ret))), 7, [.t 4]⟩
def xf80 : XFunc := ⟨.seq (.reg [⟨(some 4), .mov (.c (.int .i64 0)), none, []⟩])
  (.seq (.reg [⟨(some 9), .mov (.t 0), none, []⟩,
      ⟨(some 10), .mov (.t 1), none, []⟩,
      ⟨(some 11), .iaddr 2 (.t 9) (.t 10), none, []⟩,
      ⟨(some 12), .loadn 2 (.t 11), none, []⟩,
      ⟨(some 5), .new 136 [.int .i64 0, .nils], none, []⟩,
      ⟨none, .store 2 (.t 5) (.t 12), none, []⟩])
  (.seq (.reg [⟨(some 13), .faddr 1 (.t 5), none, []⟩,
      ⟨(some 14), .load1 (.t 13), none, []⟩,
      ⟨(some 15), .len (.t 14), none, []⟩,
      ⟨(some 6), .mov (.t 15), none, []⟩])
  (.seq (.dreg [⟨(some 16), .faddr 0 (.t 5), none, []⟩,
      ⟨(some 17), .load1 (.t 16), none, [0]⟩,
      ⟨(some 18), .call (.c (.fn 135 [] [])) [.t 17, .c (.int .i64 0), .c (.int .i64 100)], none, [0, 1]⟩,
      ⟨(some 19), .mov (.t 6), none, []⟩,
      ⟨(some 20), .bin .geq (.t 19) (.c (.int .i64 2)), none, [3]⟩,
      ⟨(some 21), .mov (.t 20), none, [1, 0, 3, 2, 4]⟩,
      ⟨(some 22), .mov (.t 6), (some (21, true)), [4, 2, 3, 0, 1, 5]⟩,
      ⟨(some 23), .mov (.t 0), (some (21, true)), [4, 2, 3, 0, 1, 5]⟩,
      ⟨(some 24), .iaddr 2 (.t 23) (.c (.int .i64 0)), (some (21, true)), [1, 0, 3, 2, 4, 5, 7]⟩,
      ⟨(some 25), .faddr 1 (.t 24), (some (21, true)), [7, 4, 2, 3, 0, 1, 5, 8]⟩,
      ⟨(some 26), .load1 (.t 25), (some (21, true)), [8, 1, 0, 3, 2, 4, 7, 5, 9]⟩,
      ⟨(some 27), .len (.t 26), (some (21, true)), [9, 7, 4, 2, 3, 0, 1, 8, 5, 10]⟩,
      ⟨(some 28), .bin .eql (.t 22) (.t 27), (some (21, true)), [10, 8, 7, 9, 1, 0, 3, 2, 4, 5, 11, 6]⟩,
      ⟨(some 29), .pick (.t 21) (.t 28) (.c (.bool false)), none, [6, 11, 9, 7, 8, 10, 4, 2, 3, 0, 1, 12, 5]⟩,
      ⟨(some 30), .call (.c (.fn 79 [] [])) [.t 29, .c (.int .i64 10)], none, [12, 1, 0, 3, 2, 4, 10, 8, 7, 9, 11, 6, 5, 13]⟩,
      ⟨(some 31), .mov (.t 6), none, []⟩,
      ⟨(some 32), .bin .leq (.t 31) (.c (.int .i64 6)), none, [15]⟩,
      ⟨(some 33), .call (.c (.fn 79 [] [])) [.t 32, .c (.int .i64 8)], none, [13, 5, 6, 11, 9, 7, 8, 10, 4, 2, 3, 0, 1, 12, 15, 14, 16]⟩,
      ⟨(some 34), .faddr 1 (.t 5), none, []⟩,
      ⟨(some 35), .load1 (.t 34), none, [18]⟩,
      ⟨(some 36), .call (.c (.fn 151 [] [])) [.t 35, .c (.fn 152 [] [])], none, [16, 14, 15, 12, 1, 0, 3, 2, 4, 10, 8, 7, 9, 11, 6, 5, 13, 18, 17, 19]⟩,
      ⟨(some 37), .buildSlice 27 1 4 false [.int .i64 0, .int .i64 0, .int .i64 0, .int .i64 0] [(0, 1, .t 18), (1, 1, .t 30), (2, 1, .t 33), (3, 1, .t 36)], none, [19, 18, 16, 15, 13, 5, 6, 11, 9, 7, 8, 10, 4, 3, 12, 1, 0, 20, 17, 14, 2]⟩,
      ⟨(some 38), .call (.c (.fn 78 [] [])) [.t 37], none, [2, 14, 17, 0, 1, 12, 3, 4, 10, 8, 7, 9, 11, 6, 5, 13, 15, 16, 18, 19, 20, 21]⟩,
      ⟨(some 7), .mov (.t 38), none, [21, 20, 19, 18, 17, 16, 15, 14, 13, 12, 11, 10, 9, 8, 7, 6, 5, 4, 3, 2, 1, 0, 22]⟩])
  (.seq (.seq (.reg [⟨(some 39), .mov (.t 1), none, []⟩,
      ⟨(some 40), .bin .eql (.t 39) (.c (.int .i64 0)), none, []⟩])
  (.cond (.t 40) (.seq (.reg [⟨(some 41), .mov (.t 7), none, []⟩,
        ⟨(some 4), .mov (.t 41), none, []⟩])
    (.ret)) .skip))
  (.seq (.reg [⟨(some 42), .mov (.t 0), none, []⟩,
      ⟨(some 43), .mov (.t 1), none, []⟩,
      ⟨(some 44), .bin .sub (.t 43) (.c (.int .i64 1)), none, []⟩,
      ⟨(some 45), .iaddr 2 (.t 42) (.t 44), none, []⟩,
      ⟨(some 46), .faddr 0 (.t 45), none, []⟩,
      ⟨(some 47), .load1 (.t 46), none, []⟩,
      ⟨(some 8), .mov (.t 47), none, []⟩])
  (.seq (.dreg [⟨(some 48), .mov (.t 7), none, []⟩,
      ⟨(some 49), .faddr 0 (.t 5), none, []⟩,
      ⟨(some 50), .load1 (.t 49), none, [1]⟩,
      ⟨(some 51), .mov (.t 8), none, []⟩,
      ⟨(some 52), .bin .gtr (.t 50) (.t 51), none, [1, 3, 2]⟩,
      ⟨(some 53), .call (.c (.fn 79 [] [])) [.t 52, .c (.int .i64 9)], none, [2, 3, 1, 4]⟩,
      ⟨(some 54), .faddr 0 (.t 5), none, []⟩,
      ⟨(some 55), .load1 (.t 54), none, [6]⟩,
      ⟨(some 56), .mov (.t 8), none, []⟩,
      ⟨(some 57), .bin .add (.t 56) (.c (.int .i64 20)), none, [8]⟩,
      ⟨(some 58), .bin .leq (.t 55) (.t 57), none, [8, 6, 9, 7]⟩,
      ⟨(some 59), .call (.c (.fn 79 [] [])) [.t 58, .c (.int .i64 22)], none, [4, 1, 3, 2, 7, 9, 6, 8, 5, 10]⟩,
      ⟨(some 60), .buildSlice 27 1 3 false [.int .i64 0, .int .i64 0, .int .i64 0] [(0, 1, .t 48), (1, 1, .t 53), (2, 1, .t 59)], none, [10, 8, 6, 9, 7, 4, 1, 3, 2, 11, 5, 0]⟩,
      ⟨(some 61), .call (.c (.fn 78 [] [])) [.t 60], none, [0, 5, 2, 3, 1, 4, 7, 9, 6, 8, 10, 11, 12]⟩,
      ⟨(some 4), .mov (.t 61), none, [12, 11, 10, 9, 8, 7, 6, 5, 4, 3, 2, 1, 0, 13]⟩])
  (.ret))))))), 62, [.t 4]⟩
def xf81 : XFunc := ⟨.seq (.reg [⟨(some 1), .box 24 (.t 0), none, []⟩,
      ⟨(some 2), .mov (.c .nilfn), none, []⟩])
  (.seq (.reg [⟨(some 3), .fn true 153 [] [.t 1], none, []⟩,
      ⟨(some 2), .mov (.t 3), none, []⟩])
  (.ret)), 4, [.t 2]⟩
def xf82 : XFunc := ⟨.seq (.reg [⟨(some 1), .box 152 (.t 0), none, []⟩,
      ⟨(some 2), .mov (.c (.int .i64 0)), none, []⟩])
  (.seq (.reg [⟨(some 3), .iaddrA 4 3 (.t 1) (.c (.int .i64 0)), none, []⟩,
      ⟨(some 4), .faddr 0 (.t 3), none, []⟩,
      ⟨(some 5), .loadn 3 (.t 4), none, []⟩,
      ⟨(some 6), .iaddrA 4 3 (.t 1) (.c (.int .i64 1)), none, []⟩,
      ⟨(some 7), .faddr 0 (.t 6), none, []⟩,
      ⟨(some 8), .loadn 3 (.t 7), none, []⟩,
      ⟨(some 9), .iaddrA 4 3 (.t 1) (.c (.int .i64 2)), none, []⟩,
      ⟨(some 10), .faddr 0 (.t 9), none, []⟩,
      ⟨(some 11), .loadn 3 (.t 10), none, []⟩,
      ⟨(some 12), .call (.c (.fn 155 [] [])) [.t 5, .t 8, .t 11], none, []⟩,
      ⟨(some 2), .mov (.t 12), none, []⟩])
  (.ret)), 13, [.t 2]⟩
def xf83 : XFunc := ⟨.seq (.reg [⟨(some 1), .box 24 (.t 0), none, []⟩,
      ⟨(some 2), .mov (.c (.int .i64 0)), none, []⟩])
  (.seq (.reg [⟨(some 6), .loadn 1 (.t 1), none, []⟩,
      ⟨(some 7), .call (.c (.fn 17 [] [])) [.t 6], none, []⟩,
      ⟨(some 5), .mov (.t 7), none, []⟩,
      ⟨(some 8), .extract (.t 5) 0, none, []⟩,
      ⟨(some 9), .extract (.t 5) 1, none, []⟩,
      ⟨(some 3), .mov (.t 8), none, []⟩,
      ⟨(some 4), .mov (.t 9), none, []⟩])
  (.seq (.reg [⟨(some 10), .mov (.t 4), none, []⟩,
      ⟨(some 2), .mov (.t 10), none, []⟩])
  (.ret))), 11, [.t 2]⟩
def xf84 : XFunc := ⟨.seq (.reg [⟨(some 1), .box 148 (.t 0), none, []⟩,
      ⟨(some 2), .new 156 [.int .i64 0, .int .i64 0, .int .i64 0], none, []⟩])
  (.seq (.reg [⟨(some 3), .faddr 0 (.t 1), none, []⟩,
      ⟨(some 4), .load1 (.t 3), none, []⟩,
      ⟨(some 5), .faddr 1 (.t 1), none, []⟩,
      ⟨(some 6), .load1 (.t 5), none, []⟩,
      ⟨(some 7), .faddr 2 (.t 1), none, []⟩,
      ⟨(some 8), .load1 (.t 7), none, []⟩,
      ⟨(some 9), .build [.int .i64 0, .int .i64 0, .int .i64 0] [(0, 1, .t 4), (1, 1, .t 6), (2, 1, .t 8)], none, []⟩,
      ⟨none, .store 3 (.t 2) (.t 9), none, []⟩])
  (.ret)), 10, [.cn 2 3]⟩
def xf85l0 : XCode := .seq (.seq (.reg [⟨(some 37), .mov (.t 6), none, []⟩,
      ⟨(some 38), .faddr 1 (.t 5), none, []⟩,
      ⟨(some 39), .load1 (.t 38), none, []⟩,
      ⟨(some 40), .len (.t 39), none, []⟩,
      ⟨(some 41), .bin .lss (.t 37) (.t 40), none, []⟩])
  (.cond (.t 41) .skip (.exit 0)))
  (.seq (.block 1 (.seq (.reg [⟨(some 44), .faddr 1 (.t 5), none, []⟩,
        ⟨(some 45), .load1 (.t 44), none, []⟩,
        ⟨(some 46), .mov (.t 6), none, []⟩,
        ⟨(some 47), .iaddr 3 (.t 45) (.t 46), none, []⟩,
        ⟨(some 48), .loadn 3 (.t 47), none, []⟩,
        ⟨(some 7), .new 148 [.int .i64 0, .int .i64 0, .int .i64 0], none, []⟩,
        ⟨none, .store 3 (.t 7) (.t 48), none, []⟩])
    (.seq (.reg [⟨(some 49), .faddr 0 (.t 7), none, []⟩,
        ⟨(some 50), .load1 (.t 49), none, []⟩,
        ⟨(some 51), .call (.c (.fn 35 [] [])) [.t 50], none, []⟩,
        ⟨(some 52), .bin .neq (.t 51) (.c (.int .i64 0)), none, []⟩,
        ⟨(some 53), .mov (.t 52), none, []⟩,
        ⟨(some 54), .faddr 1 (.t 7), (some (53, false)), []⟩,
        ⟨(some 55), .load1 (.t 54), (some (53, false)), []⟩,
        ⟨(some 56), .call (.c (.fn 35 [] [])) [.t 55], (some (53, false)), []⟩,
        ⟨(some 57), .bin .neq (.t 56) (.c (.int .i64 0)), (some (53, false)), []⟩,
        ⟨(some 58), .pick (.t 53) (.c (.bool true)) (.t 57), none, []⟩,
        ⟨(some 59), .mov (.t 58), none, []⟩,
        ⟨(some 60), .faddr 2 (.t 7), (some (59, false)), []⟩,
        ⟨(some 61), .load1 (.t 60), (some (59, false)), []⟩,
        ⟨(some 62), .call (.c (.fn 156 [] [])) [.t 61], (some (59, false)), []⟩,
        ⟨(some 63), .bin .neq (.t 62) (.c (.int .i64 0)), (some (59, false)), []⟩,
        ⟨(some 64), .pick (.t 59) (.c (.bool true)) (.t 63), none, []⟩])
    (.cond (.t 64) (.seq (.reg [⟨(some 4), .mov (.c (.int .i64 2)), none, []⟩])
      (.ret)) .skip))))
  (.reg [⟨(some 42), .mov (.t 6), none, []⟩,
      ⟨(some 43), .bin .add (.t 42) (.c (.int .i64 1)), none, []⟩,
      ⟨(some 6), .mov (.t 43), none, []⟩]))
def xf85 : XFunc := ⟨.seq (.reg [⟨(some 2), .box 24 (.t 0), none, []⟩,
      ⟨(some 4), .mov (.c (.int .i64 0)), none, []⟩])
  (.seq (.reg [⟨(some 8), .faddr 0 (.t 2), none, []⟩,
      ⟨(some 9), .load1 (.t 8), none, []⟩,
      ⟨(some 10), .mov (.t 1), none, []⟩,
      ⟨(some 11), .iaddr 2 (.t 9) (.t 10), none, []⟩,
      ⟨(some 12), .loadn 2 (.t 11), none, []⟩,
      ⟨(some 5), .new 136 [.int .i64 0, .nils], none, []⟩,
      ⟨none, .store 2 (.t 5) (.t 12), none, []⟩])
  (.seq (.seq (.reg [⟨(some 13), .faddr 0 (.t 5), none, []⟩,
      ⟨(some 14), .load1 (.t 13), none, []⟩,
      ⟨(some 15), .call (.c (.fn 58 [] [])) [.t 14, .c (.int .i64 0), .c (.int .i64 100)], none, []⟩,
      ⟨(some 16), .un .not (.t 15), none, []⟩])
  (.cond (.t 16) (.seq (.reg [⟨(some 4), .mov (.c (.int .i64 2)), none, []⟩])
    (.ret)) .skip))
  (.seq (.seq (.dreg [⟨(some 17), .faddr 1 (.t 5), none, []⟩,
      ⟨(some 18), .load1 (.t 17), none, [0]⟩,
      ⟨(some 19), .len (.t 18), none, [0, 1]⟩,
      ⟨(some 20), .bin .lss (.t 19) (.c (.int .i64 2)), none, [1, 0, 2]⟩,
      ⟨(some 21), .mov (.t 20), none, [2, 0, 1, 3]⟩,
      ⟨(some 22), .faddr 1 (.t 5), (some (21, false)), [3, 1, 0, 2, 4]⟩,
      ⟨(some 23), .load1 (.t 22), (some (21, false)), [2, 0, 1, 3, 4, 5]⟩,
      ⟨(some 24), .len (.t 23), (some (21, false)), [5, 3, 1, 0, 2, 4, 6]⟩,
      ⟨(some 25), .faddr 0 (.t 2), (some (21, false)), [3, 1, 0, 2, 4]⟩,
      ⟨(some 26), .load1 (.t 25), (some (21, false)), [2, 0, 1, 3, 4, 8]⟩,
      ⟨(some 27), .iaddr 2 (.t 26) (.c (.int .i64 0)), (some (21, false)), [8, 3, 1, 0, 2, 4, 9]⟩,
      ⟨(some 28), .faddr 1 (.t 27), (some (21, false)), [9, 2, 0, 1, 3, 8, 4, 10]⟩,
      ⟨(some 29), .load1 (.t 28), (some (21, false)), [10, 8, 3, 1, 0, 2, 9, 4, 11]⟩,
      ⟨(some 30), .len (.t 29), (some (21, false)), [11, 9, 2, 0, 1, 3, 8, 10, 4, 12]⟩,
      ⟨(some 31), .bin .neq (.t 24) (.t 30), (some (21, false)), [12, 10, 8, 9, 11, 6, 2, 0, 1, 3, 5, 4, 13, 7]⟩,
      ⟨(some 32), .pick (.t 21) (.c (.bool true)) (.t 31), none, [7, 13, 5, 6, 11, 9, 8, 10, 12, 3, 1, 0, 2, 14, 4]⟩])
  (.cond (.t 32) (.seq (.reg [⟨(some 4), .mov (.c (.int .i64 10)), none, []⟩])
    (.ret)) .skip))
  (.seq (.seq (.reg [⟨(some 33), .faddr 1 (.t 5), none, []⟩,
      ⟨(some 34), .load1 (.t 33), none, []⟩,
      ⟨(some 35), .len (.t 34), none, []⟩,
      ⟨(some 36), .bin .gtr (.t 35) (.c (.int .i64 6)), none, []⟩])
  (.cond (.t 36) (.seq (.reg [⟨(some 4), .mov (.c (.int .i64 8)), none, []⟩])
    (.ret)) .skip))
  (.seq (.seq (.reg [⟨(some 6), .mov (.c (.int .i64 0)), none, []⟩])
  (.block 0 (.loop xf85l0)))
  (.seq (.reg [⟨(some 4), .mov (.c (.int .i64 0)), none, []⟩])
  (.ret))))))), 65, [.t 4]⟩
def xf86l0 : XCode := .seq (.seq (.reg [⟨(some 20), .mov (.t 8), none, []⟩,
      ⟨(some 21), .bin .add (.t 20) (.c (.int .i64 1)), none, []⟩,
      ⟨(some 22), .faddr 1 (.t 5), none, []⟩,
      ⟨(some 23), .load1 (.t 22), none, []⟩,
      ⟨(some 24), .len (.t 23), none, []⟩,
      ⟨(some 25), .bin .lss (.t 21) (.t 24), none, []⟩])
  (.cond (.t 25) .skip (.exit 0)))
  (.seq (.block 1 (.seq (.dreg [⟨(some 28), .mov (.t 7), none, []⟩,
        ⟨(some 29), .faddr 1 (.t 5), none, []⟩,
        ⟨(some 30), .load1 (.t 29), none, [1]⟩,
        ⟨(some 31), .mov (.t 8), none, []⟩,
        ⟨(some 32), .iaddr 3 (.t 30) (.t 31), none, [1, 3, 2]⟩,
        ⟨(some 33), .loadn 3 (.t 32), none, [2, 3, 1, 4]⟩,
        ⟨(some 34), .faddr 1 (.t 5), none, []⟩,
        ⟨(some 35), .load1 (.t 34), none, [6]⟩,
        ⟨(some 36), .mov (.t 8), none, []⟩,
        ⟨(some 37), .bin .add (.t 36) (.c (.int .i64 1)), none, [8]⟩,
        ⟨(some 38), .iaddr 3 (.t 35) (.t 37), none, [8, 6, 9, 7]⟩,
        ⟨(some 39), .loadn 3 (.t 38), none, [7, 9, 6, 8, 10]⟩,
        ⟨(some 40), .faddr 1 (.t 6), none, []⟩,
        ⟨(some 41), .load1 (.t 40), none, [12]⟩,
        ⟨(some 42), .mov (.t 8), none, []⟩,
        ⟨(some 43), .iaddr 3 (.t 41) (.t 42), none, [12, 14, 13]⟩,
        ⟨(some 44), .loadn 3 (.t 43), none, [13, 14, 12, 15]⟩,
        ⟨(some 45), .build [.int .i64 0, .int .i64 0, .int .i64 0, .int .i64 0, .int .i64 0, .int .i64 0, .int .i64 0, .int .i64 0, .int .i64 0] [(0, 3, .t 33), (3, 3, .t 39), (6, 3, .t 44)], none, [15, 12, 14, 13, 10, 8, 6, 9, 7, 4, 1, 3, 2, 16, 11, 5]⟩,
        ⟨(some 46), .faddr 0 (.t 5), none, []⟩,
        ⟨(some 47), .load1 (.t 46), none, [18]⟩,
        ⟨(some 48), .faddr 0 (.t 5), none, []⟩,
        ⟨(some 49), .load1 (.t 48), none, [20]⟩,
        ⟨(some 50), .faddr 0 (.t 6), none, []⟩,
        ⟨(some 51), .load1 (.t 50), none, [22]⟩,
        ⟨(some 52), .build [.int .i64 0, .int .i64 0, .int .i64 0] [(0, 1, .t 47), (1, 1, .t 49), (2, 1, .t 51)], none, [22, 20, 18, 23, 21, 19]⟩,
        ⟨(some 53), .build [.int .i64 0, .int .i64 0, .int .i64 0, .int .i64 0, .int .i64 0, .int .i64 0, .int .i64 0, .int .i64 0, .int .i64 0, .int .i64 0, .int .i64 0, .int .i64 0] [(0, 9, .t 45), (9, 3, .t 52)], none, [19, 21, 23, 18, 20, 22, 5, 11, 16, 2, 3, 1, 4, 7, 9, 6, 8, 10, 13, 14, 12, 15, 24, 17]⟩,
        ⟨(some 54), .buildSlice 164 12 1 true [.int .i64 0, .int .i64 0, .int .i64 0, .int .i64 0, .int .i64 0, .int .i64 0, .int .i64 0, .int .i64 0, .int .i64 0, .int .i64 0, .int .i64 0, .int .i64 0] [(0, 12, .t 53)], none, [17, 24, 15, 12, 14, 13, 10, 8, 6, 9, 7, 4, 1, 3, 2, 16, 11, 5, 22, 20, 18, 23, 21, 19, 25]⟩,
        ⟨(some 55), .append 164 12 96 (.t 28) (.t 54), none, [25, 19, 21, 23, 18, 20, 22, 5, 11, 16, 2, 3, 1, 4, 7, 9, 6, 8, 10, 13, 14, 12, 15, 24, 17, 26, 0]⟩,
        ⟨(some 7), .mov (.t 55), none, [26, 25, 24, 23, 22, 21, 20, 19, 18, 17, 16, 15, 14, 13, 12, 11, 10, 9, 8, 7, 6, 5, 4, 3, 2, 1, 0, 27]⟩])
    (.dreg [⟨(some 56), .mov (.t 7), none, []⟩,
        ⟨(some 57), .faddr 1 (.t 5), none, []⟩,
        ⟨(some 58), .load1 (.t 57), none, [1]⟩,
        ⟨(some 59), .mov (.t 8), none, []⟩,
        ⟨(some 60), .bin .add (.t 59) (.c (.int .i64 1)), none, [3]⟩,
        ⟨(some 61), .iaddr 3 (.t 58) (.t 60), none, [3, 1, 4, 2]⟩,
        ⟨(some 62), .loadn 3 (.t 61), none, [2, 4, 1, 3, 5]⟩,
        ⟨(some 63), .faddr 1 (.t 6), none, []⟩,
        ⟨(some 64), .load1 (.t 63), none, [7]⟩,
        ⟨(some 65), .mov (.t 8), none, []⟩,
        ⟨(some 66), .bin .add (.t 65) (.c (.int .i64 1)), none, [9]⟩,
        ⟨(some 67), .iaddr 3 (.t 64) (.t 66), none, [9, 7, 10, 8]⟩,
        ⟨(some 68), .loadn 3 (.t 67), none, [8, 10, 7, 9, 11]⟩,
        ⟨(some 69), .faddr 1 (.t 6), none, []⟩,
        ⟨(some 70), .load1 (.t 69), none, [13]⟩,
        ⟨(some 71), .mov (.t 8), none, []⟩,
        ⟨(some 72), .iaddr 3 (.t 70) (.t 71), none, [13, 15, 14]⟩,
        ⟨(some 73), .loadn 3 (.t 72), none, [14, 15, 13, 16]⟩,
        ⟨(some 74), .build [.int .i64 0, .int .i64 0, .int .i64 0, .int .i64 0, .int .i64 0, .int .i64 0, .int .i64 0, .int .i64 0, .int .i64 0] [(0, 3, .t 62), (3, 3, .t 68), (6, 3, .t 73)], none, [16, 13, 15, 14, 11, 9, 7, 10, 8, 5, 3, 1, 4, 2, 17, 12, 6]⟩,
        ⟨(some 75), .faddr 0 (.t 5), none, []⟩,
        ⟨(some 76), .load1 (.t 75), none, [19]⟩,
        ⟨(some 77), .faddr 0 (.t 6), none, []⟩,
        ⟨(some 78), .load1 (.t 77), none, [21]⟩,
        ⟨(some 79), .faddr 0 (.t 6), none, []⟩,
        ⟨(some 80), .load1 (.t 79), none, [23]⟩,
        ⟨(some 81), .build [.int .i64 0, .int .i64 0, .int .i64 0] [(0, 1, .t 76), (1, 1, .t 78), (2, 1, .t 80)], none, [23, 21, 19, 24, 22, 20]⟩,
        ⟨(some 82), .build [.int .i64 0, .int .i64 0, .int .i64 0, .int .i64 0, .int .i64 0, .int .i64 0, .int .i64 0, .int .i64 0, .int .i64 0, .int .i64 0, .int .i64 0, .int .i64 0] [(0, 9, .t 74), (9, 3, .t 81)], none, [20, 22, 24, 19, 21, 23, 6, 12, 17, 2, 4, 1, 3, 5, 8, 10, 7, 9, 11, 14, 15, 13, 16, 25, 18]⟩,
        ⟨(some 83), .buildSlice 164 12 1 true [.int .i64 0, .int .i64 0, .int .i64 0, .int .i64 0, .int .i64 0, .int .i64 0, .int .i64 0, .int .i64 0, .int .i64 0, .int .i64 0, .int .i64 0, .int .i64 0] [(0, 12, .t 82)], none, [18, 25, 16, 13, 15, 14, 11, 9, 7, 10, 8, 5, 3, 1, 4, 2, 17, 12, 6, 23, 21, 19, 24, 22, 20, 26]⟩,
        ⟨(some 84), .append 164 12 96 (.t 56) (.t 83), none, [26, 20, 22, 24, 19, 21, 23, 6, 12, 17, 2, 4, 1, 3, 5, 8, 10, 7, 9, 11, 14, 15, 13, 16, 25, 18, 27, 0]⟩,
        ⟨(some 7), .mov (.t 84), none, [27, 26, 25, 24, 23, 22, 21, 20, 19, 18, 17, 16, 15, 14, 13, 12, 11, 10, 9, 8, 7, 6, 5, 4, 3, 2, 1, 0, 28]⟩])))
  (.reg [⟨(some 26), .mov (.t 8), none, []⟩,
      ⟨(some 27), .bin .add (.t 26) (.c (.int .i64 1)), none, []⟩,
      ⟨(some 8), .mov (.t 27), none, []⟩]))
def xf86 : XFunc := ⟨.seq (.reg [⟨(some 2), .box 24 (.t 0), none, []⟩,
      ⟨(some 4), .mov (.c .nils), none, []⟩])
  (.seq (.dreg [⟨(some 9), .faddr 0 (.t 2), none, []⟩,
      ⟨(some 10), .load1 (.t 9), none, [0]⟩,
      ⟨(some 11), .mov (.t 1), none, []⟩,
      ⟨(some 12), .iaddr 2 (.t 10) (.t 11), none, [0, 2, 1]⟩,
      ⟨(some 13), .loadn 2 (.t 12), none, [1, 2, 0, 3]⟩,
      ⟨(some 14), .faddr 0 (.t 2), none, []⟩,
      ⟨(some 15), .load1 (.t 14), none, [5]⟩,
      ⟨(some 16), .mov (.t 1), none, []⟩,
      ⟨(some 17), .bin .add (.t 16) (.c (.int .i64 1)), none, [7]⟩,
      ⟨(some 18), .iaddr 2 (.t 15) (.t 17), none, [7, 5, 8, 6]⟩,
      ⟨(some 19), .loadn 2 (.t 18), none, [6, 8, 5, 7, 9]⟩,
      ⟨(some 5), .new 136 [.int .i64 0, .nils], none, []⟩,
      ⟨(some 6), .new 136 [.int .i64 0, .nils], none, []⟩,
      ⟨none, .store 2 (.t 5) (.t 13), none, [12, 3, 2, 1, 0, 4, 11]⟩,
      ⟨none, .store 2 (.t 6) (.t 19), none, [11, 9, 8, 7, 6, 5, 4, 3, 2, 1, 0, 13, 10, 12]⟩])
  (.seq (.reg [⟨(some 7), .mov (.c .nils), none, []⟩])
  (.seq (.seq (.reg [⟨(some 8), .mov (.c (.int .i64 0)), none, []⟩])
  (.block 0 (.loop xf86l0)))
  (.seq (.reg [⟨(some 85), .mov (.t 7), none, []⟩,
      ⟨(some 4), .mov (.t 85), none, []⟩])
  (.ret))))), 86, [.t 4]⟩
def xf87 : XFunc := ⟨.seq (.reg [⟨(some 3), .box 148 (.t 0), none, []⟩,
      ⟨(some 4), .box 148 (.t 1), none, []⟩,
      ⟨(some 5), .box 148 (.t 2), none, []⟩,
      ⟨(some 6), .mov (.c (.int .i64 0)), none, []⟩])
  (.seq (.reg [⟨(some 7), .faddr 0 (.t 4), none, []⟩,
      ⟨(some 8), .load1 (.t 7), none, []⟩,
      ⟨(some 9), .faddr 0 (.t 3), none, []⟩,
      ⟨(some 10), .load1 (.t 9), none, []⟩,
      ⟨(some 11), .bin .sub (.t 8) (.t 10), none, []⟩,
      ⟨(some 12), .faddr 1 (.t 5), none, []⟩,
      ⟨(some 13), .load1 (.t 12), none, []⟩,
      ⟨(some 14), .faddr 1 (.t 3), none, []⟩,
      ⟨(some 15), .load1 (.t 14), none, []⟩,
      ⟨(some 16), .bin .sub (.t 13) (.t 15), none, []⟩,
      ⟨(some 17), .bin .mul (.t 11) (.t 16), none, []⟩,
      ⟨(some 18), .faddr 0 (.t 5), none, []⟩,
      ⟨(some 19), .load1 (.t 18), none, []⟩,
      ⟨(some 20), .faddr 0 (.t 3), none, []⟩,
      ⟨(some 21), .load1 (.t 20), none, []⟩,
      ⟨(some 22), .bin .sub (.t 19) (.t 21), none, []⟩,
      ⟨(some 23), .faddr 1 (.t 4), none, []⟩,
      ⟨(some 24), .load1 (.t 23), none, []⟩,
      ⟨(some 25), .faddr 1 (.t 3), none, []⟩,
      ⟨(some 26), .load1 (.t 25), none, []⟩,
      ⟨(some 27), .bin .sub (.t 24) (.t 26), none, []⟩,
      ⟨(some 28), .bin .mul (.t 22) (.t 27), none, []⟩,
      ⟨(some 29), .bin .sub (.t 17) (.t 28), none, []⟩,
      ⟨(some 6), .mov (.t 29), none, []⟩])
  (.ret)), 30, [.t 6]⟩
def xf88l0 : XCode := .seq (.seq (.reg [⟨(some 5), .mov (.t 4), none, []⟩,
      ⟨(some 6), .bin .add (.t 5) (.c (.int .i64 1)), none, []⟩,
      ⟨(some 7), .faddr 0 (.t 1), none, []⟩,
      ⟨(some 8), .load1 (.t 7), none, []⟩,
      ⟨(some 9), .len (.t 8), none, []⟩,
      ⟨(some 10), .bin .lss (.t 6) (.t 9), none, []⟩])
  (.cond (.t 10) .skip (.exit 0)))
  (.seq (.block 1 (.reg [⟨(some 13), .mov (.t 3), none, []⟩,
        ⟨(some 14), .loadn 1 (.t 1), none, []⟩,
        ⟨(some 15), .mov (.t 4), none, []⟩,
        ⟨(some 16), .call (.c (.fn 86 [] [])) [.t 14, .t 15], none, []⟩,
        ⟨(some 17), .append 164 12 96 (.t 13) (.t 16), none, []⟩,
        ⟨(some 3), .mov (.t 17), none, []⟩]))
  (.reg [⟨(some 11), .mov (.t 4), none, []⟩,
      ⟨(some 12), .bin .add (.t 11) (.c (.int .i64 1)), none, []⟩,
      ⟨(some 4), .mov (.t 12), none, []⟩]))
def xf88 : XFunc := ⟨.seq (.reg [⟨(some 1), .box 24 (.t 0), none, []⟩,
      ⟨(some 2), .mov (.c .nils), none, []⟩])
  (.seq (.reg [⟨(some 3), .mov (.c .nils), none, []⟩])
  (.seq (.seq (.reg [⟨(some 4), .mov (.c (.int .i64 0)), none, []⟩])
  (.block 0 (.loop xf88l0)))
  (.seq (.reg [⟨(some 18), .mov (.t 3), none, []⟩,
      ⟨(some 2), .mov (.t 18), none, []⟩])
  (.ret)))), 19, [.t 2]⟩
def xf103 : XFunc := ⟨.seq (.reg [⟨(some 2), .mov (.c (.int .i64 0)), none, []⟩])
  (.seq (.reg [⟨(some 3), .mov (.t 0), none, []⟩,
      ⟨(some 4), .call (.c (.fn 163 [] [])) [.t 3, .c (.int .i64 1000)], none, []⟩,
      ⟨(some 2), .mov (.t 4), none, []⟩])
  (.ret)), 5, [.t 2]⟩
def xf135 : XFunc := ⟨.seq (.reg [⟨(some 6), .mov (.c (.int .i64 0)), none, []⟩])
  (.seq (.reg [⟨(some 7), .mov (.t 0), none, []⟩,
      ⟨(some 8), .mov (.t 1), none, []⟩,
      ⟨(some 9), .mov (.t 2), none, []⟩,
      ⟨(some 10), .call (.c (.fn 147 [] [])) [.t 7, .t 8, .t 9], none, []⟩,
      ⟨(some 11), .call (.c (.fn 79 [] [])) [.t 10, .c (.int .i64 2)], none, []⟩,
      ⟨(some 6), .mov (.t 11), none, []⟩])
  (.ret)), 12, [.t 6]⟩
def xf147 : XFunc := ⟨.seq (.reg [⟨(some 6), .mov (.c (.bool false)), none, []⟩])
  (.seq (.reg [⟨(some 7), .mov (.t 1), none, []⟩,
      ⟨(some 8), .mov (.t 0), none, []⟩,
      ⟨(some 9), .bin .leq (.t 7) (.t 8), none, []⟩,
      ⟨(some 10), .mov (.t 9), none, []⟩,
      ⟨(some 11), .mov (.t 0), (some (10, true)), []⟩,
      ⟨(some 12), .mov (.t 2), (some (10, true)), []⟩,
      ⟨(some 13), .bin .leq (.t 11) (.t 12), (some (10, true)), []⟩,
      ⟨(some 14), .pick (.t 10) (.t 13) (.c (.bool false)), none, []⟩,
      ⟨(some 6), .mov (.t 14), none, []⟩])
  (.ret)), 15, [.t 6]⟩
def xf151l0 : XCode := .seq (.reg [⟨(some 11), .bin .lss (.t 10) (.t 9), none, []⟩])
  (.seq (.cond (.t 11) .skip (.exit 0))
  (.seq (.block 1 (.seq (.reg [⟨(some 12), .iaddr 3 (.t 8) (.t 10), none, []⟩,
        ⟨(some 13), .loadn 3 (.t 12), none, []⟩,
        ⟨(some 6), .new 148 [.int .i64 0, .int .i64 0, .int .i64 0], none, []⟩,
        ⟨none, .store 3 (.t 6) (.t 13), none, []⟩])
    (.seq (.reg [⟨(some 14), .mov (.t 1), none, []⟩,
        ⟨(some 15), .loadn 3 (.t 6), none, []⟩,
        ⟨(some 16), .call (.t 14) [.t 15], none, []⟩,
        ⟨(some 7), .mov (.t 16), none, []⟩])
    (.seq (.reg [⟨(some 17), .mov (.t 7), none, []⟩,
        ⟨(some 18), .bin .neq (.t 17) (.c (.int .i64 0)), none, []⟩])
    (.cond (.t 18) (.seq (.reg [⟨(some 19), .mov (.t 7), none, []⟩,
          ⟨(some 4), .mov (.t 19), none, []⟩])
      (.ret)) .skip)))))
  (.reg [⟨(some 20), .bin .add (.t 10) (.c (.int .i64 1)), none, []⟩,
      ⟨(some 10), .mov (.t 20), none, []⟩])))
def xf151 : XFunc := ⟨.seq (.reg [⟨(some 4), .mov (.c (.int .i64 0)), none, []⟩])
  (.seq (.seq (.reg [⟨(some 8), .mov (.t 0), none, []⟩,
      ⟨(some 9), .len (.t 8), none, []⟩,
      ⟨(some 10), .mov (.c (.int .i64 0)), none, []⟩])
  (.block 0 (.loop xf151l0)))
  (.seq (.reg [⟨(some 4), .mov (.c (.int .i64 0)), none, []⟩])
  (.ret))), 21, [.t 4]⟩
def xf152 : XFunc := ⟨.seq (.reg [⟨(some 1), .box 148 (.t 0), none, []⟩,
      ⟨(some 2), .mov (.c (.int .i64 0)), none, []⟩])
  (.seq (.dreg [⟨(some 3), .faddr 0 (.t 1), none, []⟩,
      ⟨(some 4), .load1 (.t 3), none, [0]⟩,
      ⟨(some 5), .call (.c (.fn 103 [] [])) [.t 4], none, [0, 1]⟩,
      ⟨(some 6), .faddr 1 (.t 1), none, []⟩,
      ⟨(some 7), .load1 (.t 6), none, [3]⟩,
      ⟨(some 8), .call (.c (.fn 103 [] [])) [.t 7], none, [1, 0, 3, 2, 4]⟩,
      ⟨(some 9), .faddr 2 (.t 1), none, []⟩,
      ⟨(some 10), .load1 (.t 9), none, [6]⟩,
      ⟨(some 11), .call (.c (.fn 186 [] [])) [.t 10], none, [4, 2, 3, 0, 1, 6, 5, 7]⟩,
      ⟨(some 12), .buildSlice 27 1 3 false [.int .i64 0, .int .i64 0, .int .i64 0] [(0, 1, .t 5), (1, 1, .t 8), (2, 1, .t 11)], none, [7, 6, 4, 3, 1, 0, 8, 5, 2]⟩,
      ⟨(some 13), .call (.c (.fn 78 [] [])) [.t 12], none, [2, 5, 0, 1, 3, 4, 6, 7, 8, 9]⟩,
      ⟨(some 2), .mov (.t 13), none, [9, 8, 7, 6, 5, 4, 3, 2, 1, 0, 10]⟩])
  (.ret)), 14, [.t 2]⟩
def xf153l0 : XCode := .seq (.reg [⟨(some 23), .bin .lss (.t 22) (.t 21), none, []⟩])
  (.seq (.cond (.t 23) .skip (.exit 2))
  (.seq (.block 3 (.seq (.reg [⟨(some 24), .mov (.t 22), none, []⟩,
        ⟨(some 5), .mov (.t 24), none, []⟩])
    (.seq (.reg [⟨(some 25), .mov (.t 0), none, []⟩,
        ⟨(some 26), .mov (.t 4), none, []⟩,
        ⟨(some 27), .mov (.t 3), none, []⟩,
        ⟨(some 28), .mov (.t 4), none, []⟩,
        ⟨(some 29), .mov (.t 5), none, []⟩,
        ⟨(some 30), .call (.t 27) [.t 28, .t 29], none, []⟩,
        ⟨(some 31), .mov (.t 3), none, []⟩,
        ⟨(some 32), .mov (.t 4), none, []⟩,
        ⟨(some 33), .mov (.t 5), none, []⟩,
        ⟨(some 34), .bin .add (.t 33) (.c (.int .i64 1)), none, []⟩,
        ⟨(some 35), .call (.t 31) [.t 32, .t 34], none, []⟩,
        ⟨(some 36), .mov (.t 3), none, []⟩,
        ⟨(some 37), .mov (.t 4), none, []⟩,
        ⟨(some 38), .bin .add (.t 37) (.c (.int .i64 1)), none, []⟩,
        ⟨(some 39), .mov (.t 5), none, []⟩,
        ⟨(some 40), .call (.t 36) [.t 38, .t 39], none, []⟩,
        ⟨(some 41), .build [.int .i64 0, .int .i64 0, .int .i64 0, .int .i64 0, .int .i64 0, .int .i64 0, .int .i64 0, .int .i64 0, .int .i64 0, .int .i64 0, .int .i64 0, .int .i64 0] [(0, 4, .t 30), (4, 4, .t 35), (8, 4, .t 40)], none, []⟩,
        ⟨(some 42), .call (.t 25) [.t 26, .t 41], none, []⟩,
        ⟨(some 43), .un .not (.t 42), none, []⟩,
        ⟨(some 44), .mov (.t 43), none, []⟩,
        ⟨(some 45), .mov (.t 0), (some (44, false)), []⟩,
        ⟨(some 46), .mov (.t 4), (some (44, false)), []⟩,
        ⟨(some 47), .mov (.t 3), (some (44, false)), []⟩,
        ⟨(some 48), .mov (.t 4), (some (44, false)), []⟩,
        ⟨(some 49), .mov (.t 5), (some (44, false)), []⟩,
        ⟨(some 50), .bin .add (.t 49) (.c (.int .i64 1)), (some (44, false)), []⟩,
        ⟨(some 51), .call (.t 47) [.t 48, .t 50], (some (44, false)), []⟩,
        ⟨(some 52), .mov (.t 3), (some (44, false)), []⟩,
        ⟨(some 53), .mov (.t 4), (some (44, false)), []⟩,
        ⟨(some 54), .bin .add (.t 53) (.c (.int .i64 1)), (some (44, false)), []⟩,
        ⟨(some 55), .mov (.t 5), (some (44, false)), []⟩,
        ⟨(some 56), .bin .add (.t 55) (.c (.int .i64 1)), (some (44, false)), []⟩,
        ⟨(some 57), .call (.t 52) [.t 54, .t 56], (some (44, false)), []⟩,
        ⟨(some 58), .mov (.t 3), (some (44, false)), []⟩,
        ⟨(some 59), .mov (.t 4), (some (44, false)), []⟩,
        ⟨(some 60), .bin .add (.t 59) (.c (.int .i64 1)), (some (44, false)), []⟩,
        ⟨(some 61), .mov (.t 5), (some (44, false)), []⟩,
        ⟨(some 62), .call (.t 58) [.t 60, .t 61], (some (44, false)), []⟩,
        ⟨(some 63), .build [.int .i64 0, .int .i64 0, .int .i64 0, .int .i64 0, .int .i64 0, .int .i64 0, .int .i64 0, .int .i64 0, .int .i64 0, .int .i64 0, .int .i64 0, .int .i64 0] [(0, 4, .t 51), (4, 4, .t 57), (8, 4, .t 62)], (some (44, false)), []⟩,
        ⟨(some 64), .call (.t 45) [.t 46, .t 63], (some (44, false)), []⟩,
        ⟨(some 65), .un .not (.t 64), (some (44, false)), []⟩,
        ⟨(some 66), .pick (.t 44) (.c (.bool true)) (.t 65), none, []⟩])
    (.cond (.t 66) .ret .skip))))
  (.reg [⟨(some 67), .bin .add (.t 22) (.c (.int .i64 1)), none, []⟩,
      ⟨(some 22), .mov (.t 67), none, []⟩])))
def xf153l1 : XCode := .seq (.reg [⟨(some 12), .bin .lss (.t 11) (.t 10), none, []⟩])
  (.seq (.cond (.t 12) .skip (.exit 0))
  (.seq (.block 1 (.seq (.reg [⟨(some 13), .mov (.t 11), none, []⟩,
        ⟨(some 4), .mov (.t 13), none, []⟩])
    (.seq (.reg [⟨(some 14), .faddr 0 (.t 1), none, []⟩,
        ⟨(some 15), .load1 (.t 14), none, []⟩,
        ⟨(some 16), .mov (.t 4), none, []⟩,
        ⟨(some 17), .iaddr 2 (.t 15) (.t 16), none, []⟩,
        ⟨(some 18), .faddr 1 (.t 17), none, []⟩,
        ⟨(some 19), .load1 (.t 18), none, []⟩,
        ⟨(some 20), .len (.t 19), none, []⟩,
        ⟨(some 21), .bin .sub (.t 20) (.c (.int .i64 1)), none, []⟩,
        ⟨(some 22), .mov (.c (.int .i64 0)), none, []⟩])
    (.block 2 (.loop xf153l0)))))
  (.reg [⟨(some 68), .bin .add (.t 11) (.c (.int .i64 1)), none, []⟩,
      ⟨(some 11), .mov (.t 68), none, []⟩])))
def xf153 : XFunc := ⟨.seq (.reg [⟨(some 6), .fn true 154 [] [.t 1], none, []⟩,
      ⟨(some 3), .mov (.t 6), none, []⟩])
  (.seq (.reg [⟨(some 7), .faddr 0 (.t 1), none, []⟩,
      ⟨(some 8), .load1 (.t 7), none, []⟩,
      ⟨(some 9), .len (.t 8), none, []⟩,
      ⟨(some 10), .bin .sub (.t 9) (.c (.int .i64 1)), none, []⟩,
      ⟨(some 11), .mov (.c (.int .i64 0)), none, []⟩])
  (.block 0 (.loop xf153l1))), 69, []⟩
def xf154 : XFunc := ⟨.seq (.reg [⟨(some 5), .new 150 [.int .i64 0, .int .i64 0, .int .i64 0, .int .i64 0], none, []⟩])
  (.seq (.dreg [⟨(some 6), .faddr 0 (.t 2), none, []⟩,
      ⟨(some 7), .load1 (.t 6), none, [0]⟩,
      ⟨(some 8), .mov (.t 0), none, []⟩,
      ⟨(some 9), .iaddr 2 (.t 7) (.t 8), none, [0, 2, 1]⟩,
      ⟨(some 10), .faddr 1 (.t 9), none, [1, 2, 0, 3]⟩,
      ⟨(some 11), .load1 (.t 10), none, [3, 0, 2, 1, 4]⟩,
      ⟨(some 12), .mov (.t 1), none, []⟩,
      ⟨(some 13), .iaddr 3 (.t 11) (.t 12), none, [4, 1, 2, 0, 3, 6, 5]⟩,
      ⟨(some 14), .loadn 3 (.t 13), none, [5, 6, 3, 0, 2, 1, 4, 7]⟩,
      ⟨(some 15), .faddr 0 (.t 2), none, []⟩,
      ⟨(some 16), .load1 (.t 15), none, [9]⟩,
      ⟨(some 17), .mov (.t 0), none, []⟩,
      ⟨(some 18), .iaddr 2 (.t 16) (.t 17), none, [9, 11, 10]⟩,
      ⟨(some 19), .faddr 0 (.t 18), none, [10, 11, 9, 12]⟩,
      ⟨(some 20), .load1 (.t 19), none, [12, 9, 11, 10, 13]⟩,
      ⟨(some 21), .build [.int .i64 0, .int .i64 0, .int .i64 0, .int .i64 0] [(0, 3, .t 14), (3, 1, .t 20)], none, [13, 10, 11, 9, 12, 7, 4, 1, 2, 0, 3, 6, 5, 14, 8]⟩,
      ⟨none, .store 4 (.t 5) (.t 21), none, [14, 13, 12, 11, 10, 9, 8, 7, 6, 5, 4, 3, 2, 1, 0, 15]⟩])
  (.ret)), 22, [.cn 5 4]⟩
def xf155 : XFunc := ⟨.seq (.reg [⟨(some 3), .box 148 (.t 0), none, []⟩,
      ⟨(some 4), .box 148 (.t 1), none, []⟩,
      ⟨(some 5), .box 148 (.t 2), none, []⟩,
      ⟨(some 6), .mov (.c (.int .i64 0)), none, []⟩])
  (.seq (.reg [⟨(some 7), .faddr 0 (.t 4), none, []⟩,
      ⟨(some 8), .load1 (.t 7), none, []⟩,
      ⟨(some 9), .faddr 0 (.t 3), none, []⟩,
      ⟨(some 10), .load1 (.t 9), none, []⟩,
      ⟨(some 11), .bin .sub (.t 8) (.t 10), none, []⟩,
      ⟨(some 12), .faddr 1 (.t 5), none, []⟩,
      ⟨(some 13), .load1 (.t 12), none, []⟩,
      ⟨(some 14), .faddr 1 (.t 3), none, []⟩,
      ⟨(some 15), .load1 (.t 14), none, []⟩,
      ⟨(some 16), .bin .sub (.t 13) (.t 15), none, []⟩,
      ⟨(some 17), .bin .mul (.t 11) (.t 16), none, []⟩,
      ⟨(some 18), .faddr 0 (.t 5), none, []⟩,
      ⟨(some 19), .load1 (.t 18), none, []⟩,
      ⟨(some 20), .faddr 0 (.t 3), none, []⟩,
      ⟨(some 21), .load1 (.t 20), none, []⟩,
      ⟨(some 22), .bin .sub (.t 19) (.t 21), none, []⟩,
      ⟨(some 23), .faddr 1 (.t 4), none, []⟩,
      ⟨(some 24), .load1 (.t 23), none, []⟩,
      ⟨(some 25), .faddr 1 (.t 3), none, []⟩,
      ⟨(some 26), .load1 (.t 25), none, []⟩,
      ⟨(some 27), .bin .sub (.t 24) (.t 26), none, []⟩,
      ⟨(some 28), .bin .mul (.t 22) (.t 27), none, []⟩,
      ⟨(some 29), .bin .sub (.t 17) (.t 28), none, []⟩,
      ⟨(some 6), .mov (.t 29), none, []⟩])
  (.ret)), 30, [.t 6]⟩
def xf156 : XFunc := ⟨.seq (.reg [⟨(some 2), .mov (.c (.int .i64 0)), none, []⟩])
  (.seq (.seq (.reg [⟨(some 3), .mov (.t 0), none, []⟩,
      ⟨(some 4), .call (.c (.fn 58 [] [])) [.t 3, .c (.int .i64 (-10000)), .c (.int .i64 10000)], none, []⟩,
      ⟨(some 5), .un .not (.t 4), none, []⟩])
  (.cond (.t 5) (.seq (.reg [⟨(some 2), .mov (.c (.int .i64 2)), none, []⟩])
    (.ret)) .skip))
  (.seq (.reg [⟨(some 2), .mov (.c (.int .i64 0)), none, []⟩])
  (.ret))), 6, [.t 2]⟩
def xf163 : XFunc := ⟨.seq (.reg [⟨(some 4), .mov (.c (.int .i64 0)), none, []⟩])
  (.seq (.reg [⟨(some 5), .mov (.t 0), none, []⟩,
      ⟨(some 6), .mov (.t 1), none, []⟩,
      ⟨(some 7), .un .neg (.t 6), none, []⟩,
      ⟨(some 8), .mov (.t 1), none, []⟩,
      ⟨(some 9), .call (.c (.fn 135 [] [])) [.t 5, .t 7, .t 8], none, []⟩,
      ⟨(some 4), .mov (.t 9), none, []⟩])
  (.ret)), 10, [.t 4]⟩
def xf186 : XFunc := ⟨.seq (.reg [⟨(some 2), .mov (.c (.int .i64 0)), none, []⟩])
  (.seq (.reg [⟨(some 3), .mov (.t 0), none, []⟩,
      ⟨(some 4), .call (.c (.fn 163 [] [])) [.t 3, .c (.int .i64 10000)], none, []⟩,
      ⟨(some 2), .mov (.t 4), none, []⟩])
  (.ret)), 5, [.t 2]⟩
def xf35 : XFunc := ⟨.seq (.reg [⟨(some 2), .mov (.c (.int .i64 0)), none, []⟩])
  (.seq (.seq (.reg [⟨(some 3), .mov (.t 0), none, []⟩,
      ⟨(some 4), .call (.c (.fn 58 [] [])) [.t 3, .c (.int .i64 (-1000)), .c (.int .i64 1000)], none, []⟩,
      ⟨(some 5), .un .not (.t 4), none, []⟩])
  (.cond (.t 5) (.seq (.reg [⟨(some 2), .mov (.c (.int .i64 2)), none, []⟩])
    (.ret)) .skip))
  (.seq (.reg [⟨(some 2), .mov (.c (.int .i64 0)), none, []⟩])
  (.ret))), 6, [.t 2]⟩
def xf58 : XFunc := ⟨.seq (.reg [⟨(some 6), .mov (.c (.bool false)), none, []⟩])
  (.seq (.reg [⟨(some 7), .mov (.t 1), none, []⟩,
      ⟨(some 8), .mov (.t 0), none, []⟩,
      ⟨(some 9), .bin .leq (.t 7) (.t 8), none, []⟩,
      ⟨(some 10), .mov (.t 9), none, []⟩,
      ⟨(some 11), .mov (.t 0), (some (10, true)), []⟩,
      ⟨(some 12), .mov (.t 2), (some (10, true)), []⟩,
      ⟨(some 13), .bin .leq (.t 11) (.t 12), (some (10, true)), []⟩,
      ⟨(some 14), .pick (.t 10) (.t 13) (.c (.bool false)), none, []⟩,
      ⟨(some 6), .mov (.t 14), none, []⟩])
  (.ret)), 15, [.t 6]⟩
structure MtACode (X : FuncId → Option XFunc) : Prop where
  h3 : X 3 = some xf3
  h16 : X 16 = some xf16
  h17 : X 17 = some xf17
  h18 : X 18 = some xf18
  h19 : X 19 = some xf19
  h20 : X 20 = some xf20
  h21 : X 21 = some xf21
  h22 : X 22 = some xf22
  h23 : X 23 = some xf23
  h75 : X 75 = some xf75
  h78 : X 78 = some xf78
  h79 : X 79 = some xf79
  h80 : X 80 = some xf80
  h81 : X 81 = some xf81
  h82 : X 82 = some xf82
  h83 : X 83 = some xf83
  h84 : X 84 = some xf84
  h85 : X 85 = some xf85
  h86 : X 86 = some xf86
  h87 : X 87 = some xf87
  h88 : X 88 = some xf88
  h103 : X 103 = some xf103
  h135 : X 135 = some xf135
  h147 : X 147 = some xf147
  h151 : X 151 = some xf151
  h152 : X 152 = some xf152
  h153 : X 153 = some xf153
  h154 : X 154 = some xf154
  h155 : X 155 = some xf155
  h156 : X 156 = some xf156
  h163 : X 163 = some xf163
  h186 : X 186 = some xf186
  h35 : X 35 = some xf35
  h58 : X 58 = some xf58
end Go.Proofs.YtffacomibmgecaaGreat.Eng
