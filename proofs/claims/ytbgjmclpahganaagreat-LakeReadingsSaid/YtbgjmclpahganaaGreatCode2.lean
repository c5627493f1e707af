/-
  CODE of VRds.
-/
import Derived.Test.YtbgjmclpahganaaGreatEngY
import Derived.Test.YtbgjmclpahganaaGreatCode1
namespace Go.Proofs.YtbgjmclpahganaaGreat.Eng
set_option linter.unusedSimpArgs false
set_option linter.unusedVariables false
def xf7 : XFunc := ⟨.seq (.reg [⟨(some 3), .box 24 (.t 0), none, []⟩,
      ⟨(some 6), .mov (.c (.bool false)), none, []⟩])
  (.seq (.seq (.reg [⟨(some 16), .call (.c (.fn 8 [] [])) [], none, []⟩,
      ⟨(some 17), .un .not (.t 16), none, []⟩])
  (.cond (.t 17) (.seq (.reg [⟨(some 6), .mov (.c (.bool false)), none, []⟩])
    (.ret)) .skip))
  (.seq (.seq (.reg [⟨(some 18), .loadn 1 (.t 3), none, []⟩,
      ⟨(some 19), .call (.c (.fn 29 [] [])) [.t 18], none, []⟩,
      ⟨(some 20), .un .not (.t 19), none, []⟩,
      ⟨(some 21), .mov (.t 20), none, []⟩,
      ⟨(some 22), .mov (.t 1), (some (21, false)), []⟩,
      ⟨(some 23), .len (.t 22), (some (21, false)), []⟩,
      ⟨(some 24), .call (.c (.fn 10 [] [])) [.t 23], (some (21, false)), []⟩,
      ⟨(some 25), .un .not (.t 24), (some (21, false)), []⟩,
      ⟨(some 26), .pick (.t 21) (.c (.bool true)) (.t 25), none, []⟩,
      ⟨(some 27), .mov (.t 26), none, []⟩,
      ⟨(some 28), .mov (.t 2), (some (27, false)), []⟩,
      ⟨(some 29), .len (.t 28), (some (27, false)), []⟩,
      ⟨(some 30), .bin .gtr (.t 29) (.c (.int .i64 12)), (some (27, false)), []⟩,
      ⟨(some 31), .pick (.t 27) (.c (.bool true)) (.t 30), none, []⟩])
  (.cond (.t 31) (.seq (.reg [⟨(some 6), .mov (.c (.bool true)), none, []⟩])
    (.ret)) .skip))
  (.seq (.reg [⟨(some 33), .loadn 1 (.t 3), none, []⟩,
      ⟨(some 34), .call (.c (.fn 31 [] [])) [.t 33], none, []⟩,
      ⟨(some 35), .mov (.t 1), none, []⟩,
      ⟨(some 36), .call (.c (.fn 32 [] [])) [.t 35], none, []⟩,
      ⟨(some 37), .mov (.t 2), none, []⟩,
      ⟨(some 38), .call (.c (.fn 33 [] [])) [.t 37], none, []⟩,
      ⟨(some 39), .call (.c (.fn 30 [] [])) [.t 34, .t 36, .t 38], none, []⟩,
      ⟨(some 32), .mov (.t 39), none, []⟩,
      ⟨(some 40), .extract (.t 32) 0, none, []⟩,
      ⟨(some 41), .extract (.t 32) 1, none, []⟩,
      ⟨(some 7), .new 48 [.int .i64 0, .int .i64 0], none, []⟩,
      ⟨none, .store 2 (.t 7) (.t 40), none, []⟩,
      ⟨(some 8), .mov (.t 41), none, []⟩])
  (.seq (.reg [⟨(some 43), .loadn 1 (.t 3), none, []⟩,
      ⟨(some 44), .call (.c (.fn 31 [] [])) [.t 43], none, []⟩,
      ⟨(some 45), .mov (.t 1), none, []⟩,
      ⟨(some 46), .call (.c (.fn 32 [] [])) [.t 45], none, []⟩,
      ⟨(some 47), .mov (.t 2), none, []⟩,
      ⟨(some 48), .call (.c (.fn 33 [] [])) [.t 47], none, []⟩,
      ⟨(some 49), .call (.c (.fn 34 [] [])) [.t 44, .t 46, .t 48], none, []⟩,
      ⟨(some 42), .mov (.t 49), none, []⟩,
      ⟨(some 50), .extract (.t 42) 0, none, []⟩,
      ⟨(some 51), .extract (.t 42) 1, none, []⟩,
      ⟨(some 9), .mov (.t 50), none, []⟩,
      ⟨(some 10), .mov (.t 51), none, []⟩])
  (.seq (.seq (.reg [⟨(some 52), .loadn 1 (.t 3), none, []⟩,
      ⟨(some 53), .mov (.t 1), none, []⟩,
      ⟨(some 54), .mov (.t 2), none, []⟩,
      ⟨(some 55), .call (.c (.fn 35 [] [])) [.t 52, .t 53, .t 54], none, []⟩,
      ⟨(some 11), .mov (.t 55), none, []⟩])
  (.seq (.reg [⟨(some 56), .mov (.t 11), none, []⟩,
      ⟨(some 57), .bin .neq (.t 56) (.c (.int .i64 0)), none, []⟩])
  (.cond (.t 57) (.seq (.reg [⟨(some 58), .mov (.t 8), none, []⟩,
        ⟨(some 59), .mov (.t 11), none, []⟩,
        ⟨(some 60), .bin .eql (.t 58) (.t 59), none, []⟩,
        ⟨(some 61), .mov (.t 60), none, []⟩,
        ⟨(some 62), .mov (.t 10), (some (61, true)), []⟩,
        ⟨(some 63), .mov (.t 11), (some (61, true)), []⟩,
        ⟨(some 64), .bin .eql (.t 62) (.t 63), (some (61, true)), []⟩,
        ⟨(some 65), .pick (.t 61) (.t 64) (.c (.bool false)), none, []⟩,
        ⟨(some 66), .mov (.t 65), none, []⟩,
        ⟨(some 67), .loadn 2 (.t 7), (some (66, true)), []⟩,
        ⟨(some 68), .build [.int .i64 0, .int .i64 0] [], (some (66, true)), []⟩,
        ⟨(some 69), .eqA false (.s [(0, 1, false, .c 0), (1, 1, false, .c 0)]) (.t 67) (.t 68), (some (66, true)), []⟩,
        ⟨(some 70), .pick (.t 66) (.t 69) (.c (.bool false)), none, []⟩,
        ⟨(some 71), .mov (.t 70), none, []⟩,
        ⟨(some 72), .mov (.t 9), (some (71, true)), []⟩,
        ⟨(some 73), .len (.t 72), (some (71, true)), []⟩,
        ⟨(some 74), .bin .eql (.t 73) (.c (.int .i64 0)), (some (71, true)), []⟩,
        ⟨(some 75), .pick (.t 71) (.t 74) (.c (.bool false)), none, []⟩,
        ⟨(some 6), .mov (.t 75), none, []⟩])
    (.ret)) .skip)))
  (.seq (.reg [⟨(some 77), .loadn 1 (.t 3), none, []⟩,
      ⟨(some 78), .mov (.t 1), none, []⟩,
      ⟨(some 79), .mov (.t 2), none, []⟩,
      ⟨(some 80), .call (.c (.fn 36 [] [])) [.t 77, .t 78, .t 79], none, []⟩,
      ⟨(some 76), .mov (.t 80), none, []⟩,
      ⟨(some 81), .extract (.t 76) 0, none, []⟩,
      ⟨(some 82), .extract (.t 76) 1, none, []⟩,
      ⟨(some 12), .new 48 [.int .i64 0, .int .i64 0], none, []⟩,
      ⟨none, .store 2 (.t 12) (.t 81), none, []⟩,
      ⟨(some 13), .mov (.t 82), none, []⟩])
  (.seq (.seq (.reg [⟨(some 83), .mov (.t 13), none, []⟩])
  (.cond (.t 83) (.seq (.reg [⟨(some 84), .mov (.t 8), none, []⟩,
        ⟨(some 85), .bin .eql (.t 84) (.c (.int .i64 0)), none, []⟩,
        ⟨(some 86), .mov (.t 85), none, []⟩,
        ⟨(some 87), .loadn 2 (.t 7), (some (86, true)), []⟩,
        ⟨(some 88), .loadn 2 (.t 12), (some (86, true)), []⟩,
        ⟨(some 89), .eqA false (.s [(0, 1, false, .c 0), (1, 1, false, .c 0)]) (.t 87) (.t 88), (some (86, true)), []⟩,
        ⟨(some 90), .pick (.t 86) (.t 89) (.c (.bool false)), none, []⟩,
        ⟨(some 91), .mov (.t 90), none, []⟩,
        ⟨(some 92), .mov (.t 10), (some (91, true)), []⟩,
        ⟨(some 93), .bin .eql (.t 92) (.c (.int .i64 12)), (some (91, true)), []⟩,
        ⟨(some 94), .pick (.t 91) (.t 93) (.c (.bool false)), none, []⟩,
        ⟨(some 95), .mov (.t 94), none, []⟩,
        ⟨(some 96), .mov (.t 9), (some (95, true)), []⟩,
        ⟨(some 97), .len (.t 96), (some (95, true)), []⟩,
        ⟨(some 98), .bin .eql (.t 97) (.c (.int .i64 0)), (some (95, true)), []⟩,
        ⟨(some 99), .pick (.t 95) (.t 98) (.c (.bool false)), none, []⟩,
        ⟨(some 6), .mov (.t 99), none, []⟩])
    (.ret)) .skip))
  (.seq (.reg [⟨(some 101), .loadn 1 (.t 3), none, []⟩,
      ⟨(some 102), .mov (.t 1), none, []⟩,
      ⟨(some 103), .mov (.t 2), none, []⟩,
      ⟨(some 104), .call (.c (.fn 37 [] [])) [.t 101, .t 102, .t 103], none, []⟩,
      ⟨(some 100), .mov (.t 104), none, []⟩,
      ⟨(some 105), .extract (.t 100) 0, none, []⟩,
      ⟨(some 106), .extract (.t 100) 1, none, []⟩,
      ⟨(some 14), .mov (.t 105), none, []⟩,
      ⟨(some 15), .mov (.t 106), none, []⟩])
  (.seq (.reg [⟨(some 107), .mov (.t 8), none, []⟩,
      ⟨(some 108), .bin .eql (.t 107) (.c (.int .i64 13)), none, []⟩,
      ⟨(some 109), .mov (.t 108), none, []⟩,
      ⟨(some 110), .loadn 2 (.t 7), (some (109, true)), []⟩,
      ⟨(some 111), .build [.int .i64 0, .int .i64 0] [], (some (109, true)), []⟩,
      ⟨(some 112), .eqA false (.s [(0, 1, false, .c 0), (1, 1, false, .c 0)]) (.t 110) (.t 111), (some (109, true)), []⟩,
      ⟨(some 113), .pick (.t 109) (.t 112) (.c (.bool false)), none, []⟩,
      ⟨(some 114), .mov (.t 113), none, []⟩,
      ⟨(some 115), .mov (.t 10), (some (114, true)), []⟩,
      ⟨(some 116), .bin .eql (.t 115) (.c (.int .i64 0)), (some (114, true)), []⟩,
      ⟨(some 117), .pick (.t 114) (.t 116) (.c (.bool false)), none, []⟩,
      ⟨(some 118), .mov (.t 117), none, []⟩,
      ⟨(some 119), .mov (.t 9), (some (118, true)), []⟩,
      ⟨(some 120), .mov (.t 14), (some (118, true)), []⟩,
      ⟨(some 121), .call (.c (.fn 38 [] [])) [.t 119, .t 120], (some (118, true)), []⟩,
      ⟨(some 122), .pick (.t 118) (.t 121) (.c (.bool false)), none, []⟩,
      ⟨(some 6), .mov (.t 122), none, []⟩])
  (.ret)))))))))), 123, [.t 6]⟩
def xf10 : XFunc := ⟨.seq (.reg [⟨(some 2), .mov (.c (.bool false)), none, []⟩])
  (.seq (.reg [⟨(some 3), .mov (.t 0), none, []⟩,
      ⟨(some 4), .bin .leq (.t 3) (.c (.int .i64 24)), none, []⟩,
      ⟨(some 5), .mov (.t 4), none, []⟩,
      ⟨(some 6), .mov (.t 0), (some (5, false)), []⟩,
      ⟨(some 7), .bin .gtr (.t 6) (.c (.int .i64 200)), (some (5, false)), []⟩,
      ⟨(some 8), .mov (.t 7), (some (5, false)), []⟩,
      ⟨(some 9), .mov (.t 0), (some (8, true)), []⟩,
      ⟨(some 10), .bin .leq (.t 9) (.c (.int .i64 202)), (some (8, true)), []⟩,
      ⟨(some 11), .pick (.t 8) (.t 10) (.c (.bool false)), (some (5, false)), []⟩,
      ⟨(some 12), .pick (.t 5) (.c (.bool true)) (.t 11), none, []⟩,
      ⟨(some 2), .mov (.t 12), none, []⟩])
  (.ret)), 13, [.t 2]⟩
def xf36l0 : XCode := .seq (.seq (.reg [⟨(some 17), .mov (.t 9), none, []⟩,
      ⟨(some 18), .mov (.t 2), none, []⟩,
      ⟨(some 19), .len (.t 18), none, []⟩,
      ⟨(some 20), .bin .lss (.t 17) (.t 19), none, []⟩])
  (.cond (.t 20) .skip (.exit 0)))
  (.seq (.block 1 (.seq (.dreg [⟨(some 23), .loadn 1 (.t 3), none, []⟩,
        ⟨(some 24), .mov (.t 1), none, []⟩,
        ⟨(some 25), .mov (.t 2), none, []⟩,
        ⟨(some 26), .mov (.t 9), none, []⟩,
        ⟨(some 27), .iaddr 3 (.t 25) (.t 26), none, [3, 2]⟩,
        ⟨(some 28), .loadn 3 (.t 27), none, [2, 3, 4]⟩,
        ⟨(some 29), .call (.c (.fn 66 [] [])) [.t 23, .t 24, .t 28], none, [4, 3, 2, 5, 1, 0]⟩,
        ⟨(some 10), .new 48 [.int .i64 0, .int .i64 0], none, []⟩,
        ⟨none, .store 2 (.t 10) (.t 29), none, [5, 4, 3, 2, 1, 0, 6, 7]⟩])
    (.reg [⟨(some 30), .faddr 0 (.t 8), none, []⟩,
        ⟨(some 31), .load1 (.t 30), none, []⟩,
        ⟨(some 32), .faddr 0 (.t 10), none, []⟩,
        ⟨(some 33), .load1 (.t 32), none, []⟩,
        ⟨(some 34), .ext true (.t 31) [.t 33], none, []⟩,
        ⟨(some 35), .faddr 1 (.t 8), none, []⟩,
        ⟨(some 36), .load1 (.t 35), none, []⟩,
        ⟨(some 37), .faddr 1 (.t 10), none, []⟩,
        ⟨(some 38), .load1 (.t 37), none, []⟩,
        ⟨(some 39), .ext false (.t 36) [.t 38], none, []⟩,
        ⟨(some 40), .build [.int .i64 0, .int .i64 0] [(0, 1, .t 34), (1, 1, .t 39)], none, []⟩,
        ⟨none, .store 2 (.t 8) (.t 40), none, []⟩])))
  (.reg [⟨(some 21), .mov (.t 9), none, []⟩,
      ⟨(some 22), .bin .add (.t 21) (.c (.int .i64 1)), none, []⟩,
      ⟨(some 9), .mov (.t 22), none, []⟩]))
def xf36 : XFunc := ⟨.seq (.reg [⟨(some 3), .box 24 (.t 0), none, []⟩,
      ⟨(some 6), .new 48 [.int .i64 0, .int .i64 0], none, []⟩,
      ⟨(some 7), .mov (.c (.bool false)), none, []⟩])
  (.seq (.dreg [⟨(some 11), .loadn 1 (.t 3), none, []⟩,
      ⟨(some 12), .mov (.t 1), none, []⟩,
      ⟨(some 13), .mov (.t 2), none, []⟩,
      ⟨(some 14), .iaddr 3 (.t 13) (.c (.int .i64 0)), none, [2]⟩,
      ⟨(some 15), .loadn 3 (.t 14), none, [2, 3]⟩,
      ⟨(some 16), .call (.c (.fn 66 [] [])) [.t 11, .t 12, .t 15], none, [3, 2, 4, 1, 0]⟩,
      ⟨(some 8), .new 48 [.int .i64 0, .int .i64 0], none, []⟩,
      ⟨none, .store 2 (.t 8) (.t 16), none, [4, 3, 2, 1, 0, 5, 6]⟩])
  (.seq (.seq (.reg [⟨(some 9), .mov (.c (.int .i64 1)), none, []⟩])
  (.block 0 (.loop xf36l0)))
  (.seq (.seq (.reg [⟨(some 41), .faddr 0 (.t 8), none, []⟩,
      ⟨(some 42), .load1 (.t 41), none, []⟩,
      ⟨(some 43), .faddr 1 (.t 8), none, []⟩,
      ⟨(some 44), .load1 (.t 43), none, []⟩,
      ⟨(some 45), .bin .gtr (.t 42) (.t 44), none, []⟩])
  (.cond (.t 45) (.seq (.reg [⟨(some 46), .build [.int .i64 0, .int .i64 0] [], none, []⟩,
        ⟨none, .store 2 (.t 6) (.t 46), none, []⟩,
        ⟨(some 7), .mov (.c (.bool false)), none, []⟩])
    (.ret)) .skip))
  (.seq (.reg [⟨(some 47), .loadn 2 (.t 8), none, []⟩,
      ⟨none, .store 2 (.t 6) (.t 47), none, []⟩,
      ⟨(some 7), .mov (.c (.bool true)), none, []⟩])
  (.ret))))), 48, [.cn 6 2, .t 7]⟩
def xf37l0 : XCode := .seq (.seq (.reg [⟨(some 15), .mov (.t 8), none, []⟩,
      ⟨(some 16), .mov (.t 2), none, []⟩,
      ⟨(some 17), .len (.t 16), none, []⟩,
      ⟨(some 18), .bin .lss (.t 15) (.t 17), none, []⟩])
  (.cond (.t 18) .skip (.exit 0)))
  (.seq (.block 1 (.seq (.dreg [⟨(some 22), .loadn 1 (.t 3), none, []⟩,
        ⟨(some 23), .mov (.t 1), none, []⟩,
        ⟨(some 24), .mov (.t 2), none, []⟩,
        ⟨(some 25), .mov (.t 8), none, []⟩,
        ⟨(some 26), .iaddr 3 (.t 24) (.t 25), none, [3, 2]⟩,
        ⟨(some 27), .loadn 3 (.t 26), none, [2, 3, 4]⟩,
        ⟨(some 28), .buildSlice 99 3 1 true [.int .i64 0, .int .i64 0, .int .i64 0] [(0, 3, .t 27)], none, [4, 3, 2, 5]⟩,
        ⟨(some 29), .call (.c (.fn 36 [] [])) [.t 22, .t 23, .t 28], none, [5, 2, 3, 4, 6, 1, 0]⟩,
        ⟨(some 21), .mov (.t 29), none, [0, 1, 6, 4, 3, 2, 5, 7]⟩,
        ⟨(some 30), .extract (.t 21) 0, none, [7, 5, 2, 3, 4, 6, 1, 0, 8]⟩,
        ⟨(some 31), .extract (.t 21) 1, none, [7, 5, 2, 3, 4, 6, 1, 0, 8]⟩,
        ⟨(some 9), .new 48 [.int .i64 0, .int .i64 0], none, []⟩,
        ⟨none, .store 2 (.t 9) (.t 30), none, [8, 6, 5, 4, 3, 2, 1, 0, 7, 9, 11]⟩,
        ⟨(some 10), .mov (.t 31), none, [11, 9, 8, 7, 6, 5, 4, 3, 2, 1, 0, 12, 10]⟩])
    (.seq (.reg [⟨(some 32), .mov (.t 10), none, []⟩,
        ⟨(some 33), .un .not (.t 32), none, []⟩])
    (.cond (.t 33) (.seq (.reg [⟨(some 34), .mov (.t 8), none, []⟩,
          ⟨(some 35), .buildSlice 3 1 1 false [.int .i64 0] [(0, 1, .t 34)], none, []⟩,
          ⟨(some 6), .mov (.t 35), none, []⟩,
          ⟨(some 7), .mov (.c (.bool true)), none, []⟩])
      (.ret)) .skip))))
  (.reg [⟨(some 19), .mov (.t 8), none, []⟩,
      ⟨(some 20), .bin .add (.t 19) (.c (.int .i64 1)), none, []⟩,
      ⟨(some 8), .mov (.t 20), none, []⟩]))
def xf37l1 : XCode := .seq (.seq (.reg [⟨(some 44), .mov (.t 12), none, []⟩,
      ⟨(some 45), .mov (.t 2), none, []⟩,
      ⟨(some 46), .len (.t 45), none, []⟩,
      ⟨(some 47), .bin .lss (.t 44) (.t 46), none, []⟩])
  (.cond (.t 47) .skip (.exit 4)))
  (.seq (.block 5 (.seq (.dreg [⟨(some 51), .loadn 1 (.t 3), none, []⟩,
        ⟨(some 52), .mov (.t 1), none, []⟩,
        ⟨(some 53), .mov (.t 2), none, []⟩,
        ⟨(some 54), .mov (.t 11), none, []⟩,
        ⟨(some 55), .iaddr 3 (.t 53) (.t 54), none, [3, 2]⟩,
        ⟨(some 56), .loadn 3 (.t 55), none, [2, 3, 4]⟩,
        ⟨(some 57), .mov (.t 2), none, []⟩,
        ⟨(some 58), .mov (.t 12), none, []⟩,
        ⟨(some 59), .iaddr 3 (.t 57) (.t 58), none, [7, 6]⟩,
        ⟨(some 60), .loadn 3 (.t 59), none, [6, 7, 8]⟩,
        ⟨(some 61), .buildSlice 99 3 2 true [.int .i64 0, .int .i64 0, .int .i64 0, .int .i64 0, .int .i64 0, .int .i64 0] [(0, 3, .t 56), (3, 3, .t 60)], none, [8, 7, 6, 4, 3, 2, 9, 5]⟩,
        ⟨(some 62), .call (.c (.fn 36 [] [])) [.t 51, .t 52, .t 61], none, [5, 9, 2, 3, 4, 6, 7, 8, 10, 1, 0]⟩,
        ⟨(some 50), .mov (.t 62), none, [0, 1, 10, 8, 7, 6, 4, 3, 2, 9, 5, 11]⟩,
        ⟨(some 63), .extract (.t 50) 0, none, [11, 5, 9, 2, 3, 4, 6, 7, 8, 10, 1, 0, 12]⟩,
        ⟨(some 64), .extract (.t 50) 1, none, [11, 5, 9, 2, 3, 4, 6, 7, 8, 10, 1, 0, 12]⟩,
        ⟨(some 13), .new 48 [.int .i64 0, .int .i64 0], none, []⟩,
        ⟨none, .store 2 (.t 13) (.t 63), none, [12, 10, 9, 8, 7, 6, 5, 4, 3, 2, 1, 0, 11, 13, 15]⟩,
        ⟨(some 14), .mov (.t 64), none, [15, 13, 12, 11, 10, 9, 8, 7, 6, 5, 4, 3, 2, 1, 0, 16, 14]⟩])
    (.seq (.reg [⟨(some 65), .mov (.t 14), none, []⟩,
        ⟨(some 66), .un .not (.t 65), none, []⟩])
    (.cond (.t 66) (.seq (.reg [⟨(some 67), .mov (.t 11), none, []⟩,
          ⟨(some 68), .mov (.t 12), none, []⟩,
          ⟨(some 69), .buildSlice 3 1 2 false [.int .i64 0, .int .i64 0] [(0, 1, .t 67), (1, 1, .t 68)], none, []⟩,
          ⟨(some 6), .mov (.t 69), none, []⟩,
          ⟨(some 7), .mov (.c (.bool true)), none, []⟩])
      (.ret)) .skip))))
  (.reg [⟨(some 48), .mov (.t 12), none, []⟩,
      ⟨(some 49), .bin .add (.t 48) (.c (.int .i64 1)), none, []⟩,
      ⟨(some 12), .mov (.t 49), none, []⟩]))
def xf37l2 : XCode := .seq (.seq (.reg [⟨(some 36), .mov (.t 11), none, []⟩,
      ⟨(some 37), .mov (.t 2), none, []⟩,
      ⟨(some 38), .len (.t 37), none, []⟩,
      ⟨(some 39), .bin .lss (.t 36) (.t 38), none, []⟩])
  (.cond (.t 39) .skip (.exit 2)))
  (.seq (.block 3 (.seq (.reg [⟨(some 42), .mov (.t 11), none, []⟩,
        ⟨(some 43), .bin .add (.t 42) (.c (.int .i64 1)), none, []⟩,
        ⟨(some 12), .mov (.t 43), none, []⟩])
    (.block 4 (.loop xf37l1))))
  (.reg [⟨(some 40), .mov (.t 11), none, []⟩,
      ⟨(some 41), .bin .add (.t 40) (.c (.int .i64 1)), none, []⟩,
      ⟨(some 11), .mov (.t 41), none, []⟩]))
def xf37 : XFunc := ⟨.seq (.reg [⟨(some 3), .box 24 (.t 0), none, []⟩,
      ⟨(some 6), .mov (.c .nils), none, []⟩,
      ⟨(some 7), .mov (.c (.bool false)), none, []⟩])
  (.seq (.seq (.reg [⟨(some 8), .mov (.c (.int .i64 0)), none, []⟩])
  (.block 0 (.loop xf37l0)))
  (.seq (.seq (.reg [⟨(some 11), .mov (.c (.int .i64 0)), none, []⟩])
  (.block 2 (.loop xf37l2)))
  (.seq (.reg [⟨(some 6), .mov (.c .nils), none, []⟩,
      ⟨(some 7), .mov (.c (.bool false)), none, []⟩])
  (.ret)))), 70, [.t 6, .t 7]⟩
def xf66l0 : XCode := .seq (.seq (.reg [⟨(some 9), .mov (.t 8), none, []⟩,
      ⟨(some 10), .faddr 0 (.t 5), none, []⟩,
      ⟨(some 11), .load1 (.t 10), none, []⟩,
      ⟨(some 12), .bin .lss (.t 9) (.t 11), none, []⟩])
  (.cond (.t 12) .skip (.exit 0)))
  (.seq (.block 1 (.reg [⟨(some 15), .mov (.t 7), none, []⟩,
        ⟨(some 16), .mov (.t 1), none, []⟩,
        ⟨(some 17), .mov (.t 8), none, []⟩,
        ⟨(some 18), .iaddr 1 (.t 16) (.t 17), none, []⟩,
        ⟨(some 19), .load1 (.t 18), none, []⟩,
        ⟨(some 20), .bin .add (.t 15) (.t 19), none, []⟩,
        ⟨(some 7), .mov (.t 20), none, []⟩]))
  (.reg [⟨(some 13), .mov (.t 8), none, []⟩,
      ⟨(some 14), .bin .add (.t 13) (.c (.int .i64 1)), none, []⟩,
      ⟨(some 8), .mov (.t 14), none, []⟩]))
def xf66 : XFunc := ⟨.seq (.reg [⟨(some 3), .box 24 (.t 0), none, []⟩,
      ⟨(some 5), .box 99 (.t 2), none, []⟩,
      ⟨(some 6), .new 48 [.int .i64 0, .int .i64 0], none, []⟩])
  (.seq (.reg [⟨(some 7), .mov (.c (.int .i64 0)), none, []⟩])
  (.seq (.seq (.reg [⟨(some 8), .mov (.c (.int .i64 0)), none, []⟩])
  (.block 0 (.loop xf66l0)))
  (.seq (.dreg [⟨(some 21), .loadn 1 (.t 3), none, []⟩,
      ⟨(some 22), .faddr 1 (.t 5), none, []⟩,
      ⟨(some 23), .faddr 0 (.t 22), none, [1]⟩,
      ⟨(some 24), .load1 (.t 23), none, [1, 2]⟩,
      ⟨(some 25), .call (.c (.fn 108 [] [])) [.t 21, .t 24], none, [2, 1, 3, 0]⟩,
      ⟨(some 26), .field 1 1 false (.t 25), none, [0, 3, 1, 2, 4]⟩,
      ⟨(some 27), .mov (.t 7), none, []⟩,
      ⟨(some 28), .bin .sub (.t 26) (.t 27), none, [4, 2, 1, 3, 0, 6, 5]⟩,
      ⟨(some 29), .loadn 1 (.t 3), none, []⟩,
      ⟨(some 30), .faddr 1 (.t 5), none, []⟩,
      ⟨(some 31), .faddr 1 (.t 30), none, [9]⟩,
      ⟨(some 32), .load1 (.t 31), none, [9, 10]⟩,
      ⟨(some 33), .call (.c (.fn 108 [] [])) [.t 29, .t 32], none, [0, 3, 1, 2, 10, 9, 4, 11, 8]⟩,
      ⟨(some 34), .field 0 1 false (.t 33), none, [8, 11, 4, 9, 10, 2, 1, 3, 0, 12]⟩,
      ⟨(some 35), .mov (.t 7), none, []⟩,
      ⟨(some 36), .bin .sub (.t 34) (.t 35), none, [12, 0, 3, 1, 2, 10, 9, 4, 11, 8, 14, 13]⟩,
      ⟨(some 37), .build [.int .i64 0, .int .i64 0] [(0, 1, .t 28), (1, 1, .t 36)], none, [13, 14, 8, 11, 9, 10, 12, 5, 6, 0, 3, 1, 2, 4, 15, 7]⟩,
      ⟨none, .store 2 (.t 6) (.t 37), none, [15, 14, 13, 11, 10, 9, 8, 7, 6, 5, 4, 3, 2, 1, 0, 12, 16]⟩])
  (.ret)))), 38, [.cn 6 2]⟩
def xf38l0 : XCode := .seq (.seq (.reg [⟨(some 11), .mov (.t 5), none, []⟩,
      ⟨(some 12), .mov (.t 0), none, []⟩,
      ⟨(some 13), .len (.t 12), none, []⟩,
      ⟨(some 14), .bin .lss (.t 11) (.t 13), none, []⟩])
  (.cond (.t 14) .skip (.exit 0)))
  (.seq (.block 1 (.seq (.dreg [⟨(some 17), .mov (.t 0), none, []⟩,
        ⟨(some 18), .mov (.t 5), none, []⟩,
        ⟨(some 19), .iaddr 1 (.t 17) (.t 18), none, [1, 0]⟩,
        ⟨(some 20), .load1 (.t 19), none, [0, 1, 2]⟩,
        ⟨(some 21), .mov (.t 1), none, []⟩,
        ⟨(some 22), .mov (.t 5), none, []⟩,
        ⟨(some 23), .iaddr 1 (.t 21) (.t 22), none, [5, 4]⟩,
        ⟨(some 24), .load1 (.t 23), none, [4, 5, 6]⟩,
        ⟨(some 25), .bin .neq (.t 20) (.t 24), none, [6, 5, 4, 2, 1, 0, 7, 3]⟩])
    (.cond (.t 25) (.seq (.reg [⟨(some 4), .mov (.c (.bool false)), none, []⟩])
      (.ret)) .skip)))
  (.reg [⟨(some 15), .mov (.t 5), none, []⟩,
      ⟨(some 16), .bin .add (.t 15) (.c (.int .i64 1)), none, []⟩,
      ⟨(some 5), .mov (.t 16), none, []⟩]))
def xf38 : XFunc := ⟨.seq (.reg [⟨(some 4), .mov (.c (.bool false)), none, []⟩])
  (.seq (.seq (.reg [⟨(some 6), .mov (.t 0), none, []⟩,
      ⟨(some 7), .len (.t 6), none, []⟩,
      ⟨(some 8), .mov (.t 1), none, []⟩,
      ⟨(some 9), .len (.t 8), none, []⟩,
      ⟨(some 10), .bin .neq (.t 7) (.t 9), none, []⟩])
  (.cond (.t 10) (.seq (.reg [⟨(some 4), .mov (.c (.bool false)), none, []⟩])
    (.ret)) .skip))
  (.seq (.seq (.reg [⟨(some 5), .mov (.c (.int .i64 0)), none, []⟩])
  (.block 0 (.loop xf38l0)))
  (.seq (.reg [⟨(some 4), .mov (.c (.bool true)), none, []⟩])
  (.ret)))), 26, [.t 4]⟩
structure VRdsCode (X : FuncId → Option XFunc) : Prop where
  read : ReadCode X
  h7 : X 7 = some xf7
  h10 : X 10 = some xf10
  h36 : X 36 = some xf36
  h37 : X 37 = some xf37
  h66 : X 66 = some xf66
  h38 : X 38 = some xf38
  h32 : X 32 = some xf32
  h33 : X 33 = some xf33
  h29 : X 29 = some xf29
  h30 : X 30 = some xf30
  h34 : X 34 = some xf34
  h35 : X 35 = some xf35
  h31 : X 31 = some xf31
end Go.Proofs.YtbgjmclpahganaaGreat.Eng
