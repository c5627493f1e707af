/-
  CODE of Sea.
-/
import Derived.Test.YtbgjmclpahganaaGreatEngY
namespace Go.Proofs.YtbgjmclpahganaaGreat.Eng
set_option linter.unusedSimpArgs false
set_option linter.unusedVariables false
def xf8 : XFunc := ⟨.seq (.reg [⟨(some 0), .mov (.c (.bool false)), none, []⟩])
  (.seq (.reg [⟨(some 11), .call (.c (.fn 40 [] [])) [], none, []⟩,
      ⟨(some 12), .call (.c (.fn 39 [] [])) [.t 11, .c (.int .i64 1501)], none, []⟩,
      ⟨(some 10), .mov (.t 12), none, []⟩,
      ⟨(some 13), .extract (.t 10) 0, none, []⟩,
      ⟨(some 14), .extract (.t 10) 1, none, []⟩,
      ⟨(some 1), .new 48 [.int .i64 0, .int .i64 0], none, []⟩,
      ⟨none, .store 2 (.t 1) (.t 13), none, []⟩,
      ⟨(some 2), .mov (.t 14), none, []⟩])
  (.seq (.reg [⟨(some 16), .call (.c (.fn 42 [] [])) [], none, []⟩,
      ⟨(some 17), .build [.int .i64 0, .int .i64 0] [(0, 1, .c (.int .i64 2950)), (1, 1, .c (.int .i64 500))], none, []⟩,
      ⟨(some 18), .build [.int .i64 0, .int .i64 0, .int .i64 0] [(2, 1, .c (.int .i64 200))], none, []⟩,
      ⟨(some 19), .call (.c (.fn 41 [] [])) [.t 16, .t 17, .t 18], none, []⟩,
      ⟨(some 15), .mov (.t 19), none, []⟩,
      ⟨(some 20), .extract (.t 15) 0, none, []⟩,
      ⟨(some 21), .extract (.t 15) 1, none, []⟩,
      ⟨(some 22), .extract (.t 15) 2, none, []⟩,
      ⟨(some 3), .new 28 [.int .i64 0, .int .i64 0], none, []⟩,
      ⟨(some 4), .new 35 [.int .i64 0, .int .i64 0], none, []⟩,
      ⟨none, .store 2 (.t 3) (.t 20), none, []⟩,
      ⟨none, .store 2 (.t 4) (.t 21), none, []⟩,
      ⟨(some 5), .mov (.t 22), none, []⟩])
  (.seq (.reg [⟨(some 24), .call (.c (.fn 42 [] [])) [], none, []⟩,
      ⟨(some 25), .build [.int .i64 0, .int .i64 0] [(0, 1, .c (.int .i64 2950)), (1, 1, .c (.int .i64 500))], none, []⟩,
      ⟨(some 26), .call (.c (.fn 43 [] [])) [.t 24, .t 25], none, []⟩,
      ⟨(some 23), .mov (.t 26), none, []⟩,
      ⟨(some 27), .extract (.t 23) 0, none, []⟩,
      ⟨(some 28), .extract (.t 23) 1, none, []⟩,
      ⟨(some 6), .new 28 [.int .i64 0, .int .i64 0], none, []⟩,
      ⟨none, .store 2 (.t 6) (.t 27), none, []⟩,
      ⟨(some 7), .mov (.t 28), none, []⟩])
  (.seq (.reg [⟨(some 30), .call (.c (.fn 40 [] [])) [], none, []⟩,
      ⟨(some 31), .buildSlice 3 1 2 false [.int .i64 0, .int .i64 0] [(0, 1, .c (.int .i64 10)), (1, 1, .c (.int .i64 20))], none, []⟩,
      ⟨(some 32), .build [.int .i64 0, .int .i64 0] [(0, 1, .c (.int .i64 50)), (1, 1, .c (.int .i64 52))], none, []⟩,
      ⟨(some 33), .build [.int .i64 0, .int .i64 0, .int .i64 0] [(1, 2, .t 32)], none, []⟩,
      ⟨(some 34), .build [.int .i64 0, .int .i64 0] [(0, 1, .c (.int .i64 54)), (1, 1, .c (.int .i64 55))], none, []⟩,
      ⟨(some 35), .build [.int .i64 0, .int .i64 0, .int .i64 0] [(0, 1, .c (.int .i64 2)), (1, 2, .t 34)], none, []⟩,
      ⟨(some 36), .buildSlice 99 3 2 true [.int .i64 0, .int .i64 0, .int .i64 0, .int .i64 0, .int .i64 0, .int .i64 0] [(0, 3, .t 33), (3, 3, .t 35)], none, []⟩,
      ⟨(some 37), .call (.c (.fn 30 [] [])) [.t 30, .t 31, .t 36], none, []⟩,
      ⟨(some 29), .mov (.t 37), none, []⟩,
      ⟨(some 38), .extract (.t 29) 0, none, []⟩,
      ⟨(some 39), .extract (.t 29) 1, none, []⟩,
      ⟨(some 8), .new 48 [.int .i64 0, .int .i64 0], none, []⟩,
      ⟨none, .store 2 (.t 8) (.t 38), none, []⟩,
      ⟨(some 9), .mov (.t 39), none, []⟩])
  (.seq (.reg [⟨(some 40), .mov (.t 2), none, []⟩,
      ⟨(some 41), .bin .eql (.t 40) (.c (.int .i64 0)), none, []⟩,
      ⟨(some 42), .mov (.t 41), none, []⟩,
      ⟨(some 43), .loadn 2 (.t 1), (some (42, true)), []⟩,
      ⟨(some 44), .build [.int .i64 0, .int .i64 0] [(0, 1, .c (.int .i64 125)), (1, 1, .c (.int .i64 126))], (some (42, true)), []⟩,
      ⟨(some 45), .eqA false (.s [(0, 1, false, .c 0), (1, 1, false, .c 0)]) (.t 43) (.t 44), (some (42, true)), []⟩,
      ⟨(some 46), .pick (.t 42) (.t 45) (.c (.bool false)), none, []⟩,
      ⟨(some 47), .mov (.t 46), none, []⟩,
      ⟨(some 48), .mov (.t 5), (some (47, true)), []⟩,
      ⟨(some 49), .bin .eql (.t 48) (.c (.int .i64 0)), (some (47, true)), []⟩,
      ⟨(some 50), .pick (.t 47) (.t 49) (.c (.bool false)), none, []⟩,
      ⟨(some 51), .mov (.t 50), none, []⟩,
      ⟨(some 52), .loadn 2 (.t 3), (some (51, true)), []⟩,
      ⟨(some 53), .build [.int .i64 0, .int .i64 0] [(0, 1, .c (.int .i64 3000)), (1, 1, .c (.int .i64 295))], (some (51, true)), []⟩,
      ⟨(some 54), .eqA false (.s [(0, 1, false, .c 0), (1, 1, false, .c 0)]) (.t 52) (.t 53), (some (51, true)), []⟩,
      ⟨(some 55), .pick (.t 51) (.t 54) (.c (.bool false)), none, []⟩,
      ⟨(some 56), .mov (.t 55), none, []⟩,
      ⟨(some 57), .loadn 2 (.t 4), (some (56, true)), []⟩,
      ⟨(some 58), .build [.int .i64 0, .int .i64 0] [(0, 1, .c (.int .i64 15)), (1, 1, .c (.int .i64 140))], (some (56, true)), []⟩,
      ⟨(some 59), .eqA false (.s [(0, 1, false, .c 0), (1, 1, false, .c 0)]) (.t 57) (.t 58), (some (56, true)), []⟩,
      ⟨(some 60), .pick (.t 56) (.t 59) (.c (.bool false)), none, []⟩,
      ⟨(some 61), .mov (.t 60), none, []⟩,
      ⟨(some 62), .mov (.t 7), (some (61, true)), []⟩,
      ⟨(some 63), .bin .eql (.t 62) (.c (.int .i64 0)), (some (61, true)), []⟩,
      ⟨(some 64), .pick (.t 61) (.t 63) (.c (.bool false)), none, []⟩,
      ⟨(some 65), .mov (.t 64), none, []⟩,
      ⟨(some 66), .loadn 2 (.t 6), (some (65, true)), []⟩,
      ⟨(some 67), .build [.int .i64 0, .int .i64 0] [(0, 1, .c (.int .i64 2500)), (1, 1, .c (.int .i64 50))], (some (65, true)), []⟩,
      ⟨(some 68), .eqA false (.s [(0, 1, false, .c 0), (1, 1, false, .c 0)]) (.t 66) (.t 67), (some (65, true)), []⟩,
      ⟨(some 69), .pick (.t 65) (.t 68) (.c (.bool false)), none, []⟩,
      ⟨(some 70), .mov (.t 69), none, []⟩,
      ⟨(some 71), .mov (.t 9), (some (70, true)), []⟩,
      ⟨(some 72), .bin .eql (.t 71) (.c (.int .i64 0)), (some (70, true)), []⟩,
      ⟨(some 73), .pick (.t 70) (.t 72) (.c (.bool false)), none, []⟩,
      ⟨(some 74), .mov (.t 73), none, []⟩,
      ⟨(some 75), .loadn 2 (.t 8), (some (74, true)), []⟩,
      ⟨(some 76), .build [.int .i64 0, .int .i64 0] [(0, 1, .c (.int .i64 510)), (1, 1, .c (.int .i64 520))], (some (74, true)), []⟩,
      ⟨(some 77), .eqA false (.s [(0, 1, false, .c 0), (1, 1, false, .c 0)]) (.t 75) (.t 76), (some (74, true)), []⟩,
      ⟨(some 78), .pick (.t 74) (.t 77) (.c (.bool false)), none, []⟩,
      ⟨(some 0), .mov (.t 78), none, []⟩])
  (.ret)))))), 79, [.t 0]⟩
def xf27 : XFunc := ⟨.seq (.reg [⟨(some 6), .mov (.c (.bool false)), none, []⟩])
  (.seq (.reg [⟨(some 7), .mov (.t 1), none, []⟩,
      ⟨(some 8), .mov (.t 0), none, []⟩,
      ⟨(some 9), .bin .leq (.t 7) (.t 8), none, []⟩,
      ⟨(some 10), .mov (.t 9), none, []⟩,
      ⟨(some 11), .mov (.t 0), (some (10, true)), []⟩,
      ⟨(some 12), .mov (.t 2), (some (10, true)), []⟩,
      ⟨(some 13), .bin .leq (.t 11) (.t 12), (some (10, true)), []⟩,
      ⟨(some 14), .pick (.t 10) (.t 13) (.c (.bool false)), none, []⟩,
      ⟨(some 6), .mov (.t 14), none, []⟩])
  (.ret)), 15, [.t 6]⟩
def xf77l0 : XCode := .seq (.reg [⟨(some 9), .bin .lss (.t 8) (.t 7), none, []⟩])
  (.seq (.cond (.t 9) .skip (.exit 0))
  (.seq (.block 1 (.seq (.reg [⟨(some 10), .iaddr 1 (.t 6) (.t 8), none, []⟩,
        ⟨(some 11), .load1 (.t 10), none, []⟩,
        ⟨(some 4), .mov (.t 11), none, []⟩])
    (.seq (.reg [⟨(some 12), .mov (.t 4), none, []⟩,
        ⟨(some 13), .call (.t 12) [], none, []⟩,
        ⟨(some 5), .mov (.t 13), none, []⟩])
    (.seq (.reg [⟨(some 14), .mov (.t 5), none, []⟩,
        ⟨(some 15), .bin .neq (.t 14) (.c (.int .i64 0)), none, []⟩])
    (.cond (.t 15) (.seq (.reg [⟨(some 16), .mov (.t 5), none, []⟩,
          ⟨(some 2), .mov (.t 16), none, []⟩])
      (.ret)) .skip)))))
  (.reg [⟨(some 17), .bin .add (.t 8) (.c (.int .i64 1)), none, []⟩,
      ⟨(some 8), .mov (.t 17), none, []⟩])))
def xf77 : XFunc := ⟨.seq (.reg [⟨(some 2), .mov (.c (.int .i64 0)), none, []⟩])
  (.seq (.seq (.reg [⟨(some 6), .mov (.t 0), none, []⟩,
      ⟨(some 7), .len (.t 6), none, []⟩,
      ⟨(some 8), .mov (.c (.int .i64 0)), none, []⟩])
  (.block 0 (.loop xf77l0)))
  (.seq (.reg [⟨(some 2), .mov (.c (.int .i64 0)), none, []⟩])
  (.ret))), 18, [.t 2]⟩
def xf78 : XFunc := ⟨.seq (.reg [⟨(some 2), .box 4 (.t 0), none, []⟩,
      ⟨(some 3), .box 36 (.t 1), none, []⟩,
      ⟨(some 4), .mov (.c .nilfn), none, []⟩])
  (.seq (.reg [⟨(some 5), .fn true 113 [] [.t 2, .t 3], none, []⟩,
      ⟨(some 4), .mov (.t 5), none, []⟩])
  (.ret)), 6, [.t 4]⟩
def xf74l0 : XCode := .seq (.reg [⟨(some 10), .bin .lss (.t 9) (.t 8), none, []⟩])
  (.seq (.cond (.t 10) .skip (.exit 0))
  (.seq (.block 1 (.seq (.reg [⟨(some 11), .mov (.t 9), none, []⟩,
        ⟨(some 6), .mov (.t 11), none, []⟩])
    (.seq (.reg [⟨(some 12), .mov (.t 1), none, []⟩,
        ⟨(some 13), .mov (.t 6), none, []⟩,
        ⟨(some 14), .call (.t 12) [.t 13], none, []⟩,
        ⟨(some 7), .mov (.t 14), none, []⟩])
    (.seq (.reg [⟨(some 15), .mov (.t 7), none, []⟩,
        ⟨(some 16), .bin .neq (.t 15) (.c (.int .i64 0)), none, []⟩])
    (.cond (.t 16) (.seq (.reg [⟨(some 17), .mov (.t 6), none, []⟩,
          ⟨(some 18), .mov (.t 7), none, []⟩,
          ⟨(some 4), .mov (.t 17), none, []⟩,
          ⟨(some 5), .mov (.t 18), none, []⟩])
      (.ret)) .skip)))))
  (.reg [⟨(some 19), .bin .add (.t 9) (.c (.int .i64 1)), none, []⟩,
      ⟨(some 9), .mov (.t 19), none, []⟩])))
def xf74 : XFunc := ⟨.seq (.reg [⟨(some 4), .mov (.c (.int .i64 0)), none, []⟩,
      ⟨(some 5), .mov (.c (.int .i64 0)), none, []⟩])
  (.seq (.seq (.reg [⟨(some 8), .mov (.t 0), none, []⟩,
      ⟨(some 9), .mov (.c (.int .i64 0)), none, []⟩])
  (.block 0 (.loop xf74l0)))
  (.seq (.reg [⟨(some 4), .mov (.c (.int .i64 0)), none, []⟩,
      ⟨(some 5), .mov (.c (.int .i64 0)), none, []⟩])
  (.ret))), 20, [.t 4, .t 5]⟩
def xf79 : XFunc := ⟨.seq (.reg [⟨(some 2), .box 3 (.t 0), none, []⟩,
      ⟨(some 3), .box 157 (.t 1), none, []⟩,
      ⟨(some 4), .mov (.c .nilfn), none, []⟩])
  (.seq (.reg [⟨(some 5), .fn true 114 [] [.t 2, .t 3], none, []⟩,
      ⟨(some 4), .mov (.t 5), none, []⟩])
  (.ret)), 6, [.t 4]⟩
def xf92 : XFunc := ⟨.seq (.reg [⟨(some 6), .mov (.c (.bool false)), none, []⟩])
  (.seq (.reg [⟨(some 7), .mov (.t 1), none, []⟩,
      ⟨(some 8), .mov (.t 0), none, []⟩,
      ⟨(some 9), .bin .leq (.t 7) (.t 8), none, []⟩,
      ⟨(some 10), .mov (.t 9), none, []⟩,
      ⟨(some 11), .mov (.t 0), (some (10, true)), []⟩,
      ⟨(some 12), .mov (.t 2), (some (10, true)), []⟩,
      ⟨(some 13), .bin .leq (.t 11) (.t 12), (some (10, true)), []⟩,
      ⟨(some 14), .pick (.t 10) (.t 13) (.c (.bool false)), none, []⟩,
      ⟨(some 6), .mov (.t 14), none, []⟩])
  (.ret)), 15, [.t 6]⟩
def xf113 : XFunc := ⟨.seq (.reg [⟨(some 2), .mov (.c (.int .i64 0)), none, []⟩])
  (.seq (.seq (.reg [⟨(some 3), .load1 (.t 0), none, []⟩])
  (.cond (.t 3) (.seq (.reg [⟨(some 4), .load1 (.t 1), none, []⟩,
        ⟨(some 2), .mov (.t 4), none, []⟩])
    (.ret)) .skip))
  (.seq (.reg [⟨(some 2), .mov (.c (.int .i64 0)), none, []⟩])
  (.ret))), 5, [.t 2]⟩
def xf114 : XFunc := ⟨.seq (.reg [⟨(some 2), .mov (.c (.int .i64 0)), none, []⟩])
  (.seq (.reg [⟨(some 6), .load1 (.t 0), none, []⟩,
      ⟨(some 7), .load1 (.t 1), none, []⟩,
      ⟨(some 8), .call (.c (.fn 74 [] [])) [.t 6, .t 7], none, []⟩,
      ⟨(some 5), .mov (.t 8), none, []⟩,
      ⟨(some 9), .extract (.t 5) 0, none, []⟩,
      ⟨(some 10), .extract (.t 5) 1, none, []⟩,
      ⟨(some 3), .mov (.t 9), none, []⟩,
      ⟨(some 4), .mov (.t 10), none, []⟩])
  (.seq (.reg [⟨(some 11), .mov (.t 4), none, []⟩,
      ⟨(some 2), .mov (.t 11), none, []⟩])
  (.ret))), 12, [.t 2]⟩
structure SeaCode (X : FuncId → Option XFunc) : Prop where
  h8 : X 8 = some xf8
  h27 : X 27 = some xf27
  h77 : X 77 = some xf77
  h78 : X 78 = some xf78
  h74 : X 74 = some xf74
  h79 : X 79 = some xf79
  h92 : X 92 = some xf92
  h113 : X 113 = some xf113
  h114 : X 114 = some xf114
end Go.Proofs.YtbgjmclpahganaaGreat.Eng

/-
  CODE of Wide.
-/
namespace Go.Proofs.YtbgjmclpahganaaGreat.Eng
set_option linter.unusedSimpArgs false
set_option linter.unusedVariables false
def xf158l0 : XCode := .seq (.seq (.reg [⟨(some 6), .mov (.t 3), none, []⟩,
      ⟨(some 7), .bin .gtr (.t 6) (.c (.int .i64 0)), none, []⟩,
      ⟨(some 8), .mov (.t 7), none, []⟩,
      ⟨(some 9), .mov (.t 0), (some (8, true)), []⟩,
      ⟨(some 10), .mov (.t 3), (some (8, true)), []⟩,
      ⟨(some 11), .bin .sub (.t 10) (.c (.int .i64 1)), (some (8, true)), []⟩,
      ⟨(some 12), .iaddr 1 (.t 9) (.t 11), (some (8, true)), []⟩,
      ⟨(some 13), .load1 (.t 12), (some (8, true)), []⟩,
      ⟨(some 14), .bin .eql (.t 13) (.c (.int .i64 0)), (some (8, true)), []⟩,
      ⟨(some 15), .pick (.t 8) (.t 14) (.c (.bool false)), none, []⟩])
  (.cond (.t 15) .skip (.exit 0)))
  (.block 1 (.reg [⟨(some 16), .mov (.t 3), none, []⟩,
        ⟨(some 17), .bin .sub (.t 16) (.c (.int .i64 1)), none, []⟩,
        ⟨(some 3), .mov (.t 17), none, []⟩]))
def xf158 : XFunc := ⟨.seq (.reg [⟨(some 2), .mov (.c .nils), none, []⟩])
  (.seq (.reg [⟨(some 4), .mov (.t 0), none, []⟩,
      ⟨(some 5), .len (.t 4), none, []⟩,
      ⟨(some 3), .mov (.t 5), none, []⟩])
  (.seq (.block 0 (.loop xf158l0))
  (.seq (.reg [⟨(some 18), .mov (.t 0), none, []⟩,
      ⟨(some 19), .mov (.t 3), none, []⟩,
      ⟨(some 20), .slice 1 (.t 18) none (some (.t 19)), none, []⟩,
      ⟨(some 2), .mov (.t 20), none, []⟩])
  (.ret)))), 21, [.t 2]⟩
def xf147 : XFunc := ⟨.seq (.reg [⟨(some 4), .new 179 [.int .i64 0, .nils], none, []⟩])
  (.seq (.reg [⟨(some 5), .mov (.t 1), none, []⟩,
      ⟨(some 6), .call (.c (.fn 158 [] [])) [.t 5], none, []⟩,
      ⟨(some 1), .mov (.t 6), none, []⟩])
  (.seq (.seq (.reg [⟨(some 7), .mov (.t 1), none, []⟩,
      ⟨(some 8), .len (.t 7), none, []⟩,
      ⟨(some 9), .bin .eql (.t 8) (.c (.int .i64 0)), none, []⟩])
  (.cond (.t 9) (.reg [⟨(some 0), .mov (.c (.int .i64 0)), none, []⟩]) .skip))
  (.seq (.reg [⟨(some 10), .mov (.t 0), none, []⟩,
      ⟨(some 11), .mov (.t 1), none, []⟩,
      ⟨(some 12), .build [.int .i64 0, .nils] [(0, 1, .t 10), (1, 1, .t 11)], none, []⟩,
      ⟨none, .store 2 (.t 4) (.t 12), none, []⟩])
  (.ret)))), 13, [.cn 4 2]⟩
def xf126l0 : XCode := .seq (.seq (.reg [⟨(some 7), .mov (.t 0), none, []⟩,
      ⟨(some 8), .bin .neq (.t 7) (.c (.int .i64 0)), none, []⟩])
  (.cond (.t 8) .skip (.exit 0)))
  (.block 1 (.seq (.reg [⟨(some 9), .mov (.t 4), none, []⟩,
        ⟨(some 10), .mov (.t 0), none, []⟩,
        ⟨(some 11), .bin .rem (.t 10) (.c (.int .i64 1000000000)), none, []⟩,
        ⟨(some 12), .call (.c (.fn 148 [] [])) [.t 11], none, []⟩,
        ⟨(some 13), .buildSlice 3 1 1 false [.int .i64 0] [(0, 1, .t 12)], none, []⟩,
        ⟨(some 14), .append 3 1 8 (.t 9) (.t 13), none, []⟩,
        ⟨(some 4), .mov (.t 14), none, []⟩])
    (.reg [⟨(some 15), .mov (.t 0), none, []⟩,
        ⟨(some 16), .bin .quo (.t 15) (.c (.int .i64 1000000000)), none, []⟩,
        ⟨(some 0), .mov (.t 16), none, []⟩])))
def xf126 : XFunc := ⟨.seq (.reg [⟨(some 2), .new 179 [.int .i64 0, .nils], none, []⟩])
  (.seq (.reg [⟨(some 3), .mov (.c (.int .i64 1)), none, []⟩])
  (.seq (.seq (.reg [⟨(some 5), .mov (.t 0), none, []⟩,
      ⟨(some 6), .bin .lss (.t 5) (.c (.int .i64 0)), none, []⟩])
  (.cond (.t 6) (.reg [⟨(some 3), .mov (.c (.int .i64 (-1))), none, []⟩]) .skip))
  (.seq (.reg [⟨(some 4), .mov (.c .nils), none, []⟩])
  (.seq (.block 0 (.loop xf126l0))
  (.seq (.reg [⟨(some 17), .movf (.t 3), none, []⟩,
      ⟨(some 18), .movf (.t 4), none, []⟩,
      ⟨(some 19), .call (.c (.fn 147 [] [])) [.t 17, .t 18], none, []⟩,
      ⟨none, .store 2 (.t 2) (.t 19), none, []⟩])
  (.ret)))))), 20, [.cn 2 2]⟩
def xf148 : XFunc := ⟨.seq (.reg [⟨(some 2), .mov (.c (.int .i64 0)), none, []⟩])
  (.seq (.reg [⟨(some 3), .mov (.t 0), none, []⟩,
      ⟨(some 4), .mov (.t 0), none, []⟩,
      ⟨(some 5), .un .neg (.t 4), none, []⟩,
      ⟨(some 6), .ext true (.t 3) [.t 5], none, []⟩,
      ⟨(some 2), .mov (.t 6), none, []⟩])
  (.ret)), 7, [.t 2]⟩
def xf156l0 : XCode := .seq (.seq (.reg [⟨(some 19), .mov (.t 5), none, []⟩,
      ⟨(some 20), .bin .geq (.t 19) (.c (.int .i64 0)), none, []⟩])
  (.cond (.t 20) .skip (.exit 0)))
  (.seq (.block 1 (.seq (.seq (.dreg [⟨(some 23), .mov (.t 0), none, []⟩,
        ⟨(some 24), .mov (.t 5), none, []⟩,
        ⟨(some 25), .iaddr 1 (.t 23) (.t 24), none, [1, 0]⟩,
        ⟨(some 26), .load1 (.t 25), none, [0, 1, 2]⟩,
        ⟨(some 27), .mov (.t 1), none, []⟩,
        ⟨(some 28), .mov (.t 5), none, []⟩,
        ⟨(some 29), .iaddr 1 (.t 27) (.t 28), none, [5, 4]⟩,
        ⟨(some 30), .load1 (.t 29), none, [4, 5, 6]⟩,
        ⟨(some 31), .bin .lss (.t 26) (.t 30), none, [6, 5, 4, 2, 1, 0, 7, 3]⟩])
    (.cond (.t 31) (.seq (.reg [⟨(some 4), .mov (.c (.int .i64 (-1))), none, []⟩])
      (.ret)) .skip))
    (.seq (.dreg [⟨(some 32), .mov (.t 0), none, []⟩,
        ⟨(some 33), .mov (.t 5), none, []⟩,
        ⟨(some 34), .iaddr 1 (.t 32) (.t 33), none, [1, 0]⟩,
        ⟨(some 35), .load1 (.t 34), none, [0, 1, 2]⟩,
        ⟨(some 36), .mov (.t 1), none, []⟩,
        ⟨(some 37), .mov (.t 5), none, []⟩,
        ⟨(some 38), .iaddr 1 (.t 36) (.t 37), none, [5, 4]⟩,
        ⟨(some 39), .load1 (.t 38), none, [4, 5, 6]⟩,
        ⟨(some 40), .bin .gtr (.t 35) (.t 39), none, [6, 5, 4, 2, 1, 0, 7, 3]⟩])
    (.cond (.t 40) (.seq (.reg [⟨(some 4), .mov (.c (.int .i64 1)), none, []⟩])
      (.ret)) .skip))))
  (.reg [⟨(some 21), .mov (.t 5), none, []⟩,
      ⟨(some 22), .bin .sub (.t 21) (.c (.int .i64 1)), none, []⟩,
      ⟨(some 5), .mov (.t 22), none, []⟩]))
def xf156 : XFunc := ⟨.seq (.reg [⟨(some 4), .mov (.c (.int .i64 0)), none, []⟩])
  (.seq (.seq (.reg [⟨(some 6), .mov (.t 0), none, []⟩,
      ⟨(some 7), .len (.t 6), none, []⟩,
      ⟨(some 8), .mov (.t 1), none, []⟩,
      ⟨(some 9), .len (.t 8), none, []⟩,
      ⟨(some 10), .bin .neq (.t 7) (.t 9), none, []⟩])
  (.cond (.t 10) (.seq (.seq (.reg [⟨(some 11), .mov (.t 0), none, []⟩,
        ⟨(some 12), .len (.t 11), none, []⟩,
        ⟨(some 13), .mov (.t 1), none, []⟩,
        ⟨(some 14), .len (.t 13), none, []⟩,
        ⟨(some 15), .bin .lss (.t 12) (.t 14), none, []⟩])
    (.cond (.t 15) (.seq (.reg [⟨(some 4), .mov (.c (.int .i64 (-1))), none, []⟩])
      (.ret)) .skip))
    (.seq (.reg [⟨(some 4), .mov (.c (.int .i64 1)), none, []⟩])
    (.ret))) .skip))
  (.seq (.seq (.reg [⟨(some 16), .mov (.t 0), none, []⟩,
      ⟨(some 17), .len (.t 16), none, []⟩,
      ⟨(some 18), .bin .sub (.t 17) (.c (.int .i64 1)), none, []⟩,
      ⟨(some 5), .mov (.t 18), none, []⟩])
  (.block 0 (.loop xf156l0)))
  (.seq (.reg [⟨(some 4), .mov (.c (.int .i64 0)), none, []⟩])
  (.ret)))), 41, [.t 4]⟩
def xf160 : XFunc := ⟨.seq (.reg [⟨(some 4), .mov (.c (.int .i64 0)), none, []⟩])
  (.seq (.seq (.reg [⟨(some 5), .mov (.t 1), none, []⟩,
      ⟨(some 6), .mov (.t 0), none, []⟩,
      ⟨(some 7), .len (.t 6), none, []⟩,
      ⟨(some 8), .bin .lss (.t 5) (.t 7), none, []⟩])
  (.cond (.t 8) (.seq (.reg [⟨(some 9), .mov (.t 0), none, []⟩,
        ⟨(some 10), .mov (.t 1), none, []⟩,
        ⟨(some 11), .iaddr 1 (.t 9) (.t 10), none, []⟩,
        ⟨(some 12), .load1 (.t 11), none, []⟩,
        ⟨(some 4), .mov (.t 12), none, []⟩])
    (.ret)) .skip))
  (.seq (.reg [⟨(some 4), .mov (.c (.int .i64 0)), none, []⟩])
  (.ret))), 13, [.t 4]⟩
def xf155l0 : XCode := .seq (.seq (.reg [⟨(some 9), .mov (.t 7), none, []⟩,
      ⟨(some 10), .mov (.t 0), none, []⟩,
      ⟨(some 11), .len (.t 10), none, []⟩,
      ⟨(some 12), .bin .lss (.t 9) (.t 11), none, []⟩,
      ⟨(some 13), .mov (.t 12), none, []⟩,
      ⟨(some 14), .mov (.t 7), (some (13, false)), []⟩,
      ⟨(some 15), .mov (.t 1), (some (13, false)), []⟩,
      ⟨(some 16), .len (.t 15), (some (13, false)), []⟩,
      ⟨(some 17), .bin .lss (.t 14) (.t 16), (some (13, false)), []⟩,
      ⟨(some 18), .pick (.t 13) (.c (.bool true)) (.t 17), none, []⟩,
      ⟨(some 19), .mov (.t 18), none, []⟩,
      ⟨(some 20), .mov (.t 6), (some (19, false)), []⟩,
      ⟨(some 21), .bin .gtr (.t 20) (.c (.int .i64 0)), (some (19, false)), []⟩,
      ⟨(some 22), .pick (.t 19) (.c (.bool true)) (.t 21), none, []⟩])
  (.cond (.t 22) .skip (.exit 0)))
  (.seq (.block 1 (.seq (.reg [⟨(some 25), .mov (.t 0), none, []⟩,
        ⟨(some 26), .mov (.t 7), none, []⟩,
        ⟨(some 27), .call (.c (.fn 160 [] [])) [.t 25, .t 26], none, []⟩,
        ⟨(some 28), .mov (.t 1), none, []⟩,
        ⟨(some 29), .mov (.t 7), none, []⟩,
        ⟨(some 30), .call (.c (.fn 160 [] [])) [.t 28, .t 29], none, []⟩,
        ⟨(some 31), .bin .add (.t 27) (.t 30), none, []⟩,
        ⟨(some 32), .mov (.t 6), none, []⟩,
        ⟨(some 33), .bin .add (.t 31) (.t 32), none, []⟩,
        ⟨(some 8), .mov (.t 33), none, []⟩])
    (.reg [⟨(some 34), .mov (.t 5), none, []⟩,
        ⟨(some 35), .mov (.t 8), none, []⟩,
        ⟨(some 36), .bin .rem (.t 35) (.c (.int .i64 1000000000)), none, []⟩,
        ⟨(some 37), .buildSlice 3 1 1 false [.int .i64 0] [(0, 1, .t 36)], none, []⟩,
        ⟨(some 38), .append 3 1 8 (.t 34) (.t 37), none, []⟩,
        ⟨(some 39), .mov (.t 8), none, []⟩,
        ⟨(some 40), .bin .quo (.t 39) (.c (.int .i64 1000000000)), none, []⟩,
        ⟨(some 5), .mov (.t 38), none, []⟩,
        ⟨(some 6), .mov (.t 40), none, []⟩])))
  (.reg [⟨(some 23), .mov (.t 7), none, []⟩,
      ⟨(some 24), .bin .add (.t 23) (.c (.int .i64 1)), none, []⟩,
      ⟨(some 7), .mov (.t 24), none, []⟩]))
def xf155 : XFunc := ⟨.seq (.reg [⟨(some 4), .mov (.c .nils), none, []⟩])
  (.seq (.reg [⟨(some 5), .mov (.c .nils), none, []⟩])
  (.seq (.reg [⟨(some 6), .mov (.c (.int .i64 0)), none, []⟩])
  (.seq (.seq (.reg [⟨(some 7), .mov (.c (.int .i64 0)), none, []⟩])
  (.block 0 (.loop xf155l0)))
  (.seq (.reg [⟨(some 41), .mov (.t 5), none, []⟩,
      ⟨(some 4), .mov (.t 41), none, []⟩])
  (.ret))))), 42, [.t 4]⟩
def xf157l0 : XCode := .seq (.seq (.reg [⟨(some 9), .mov (.t 7), none, []⟩,
      ⟨(some 10), .mov (.t 0), none, []⟩,
      ⟨(some 11), .len (.t 10), none, []⟩,
      ⟨(some 12), .bin .lss (.t 9) (.t 11), none, []⟩])
  (.cond (.t 12) .skip (.exit 0)))
  (.seq (.block 1 (.seq (.dreg [⟨(some 15), .mov (.t 0), none, []⟩,
        ⟨(some 16), .mov (.t 7), none, []⟩,
        ⟨(some 17), .iaddr 1 (.t 15) (.t 16), none, [1, 0]⟩,
        ⟨(some 18), .load1 (.t 17), none, [0, 1, 2]⟩,
        ⟨(some 19), .mov (.t 1), none, []⟩,
        ⟨(some 20), .mov (.t 7), none, []⟩,
        ⟨(some 21), .call (.c (.fn 160 [] [])) [.t 19, .t 20], none, [5, 4]⟩,
        ⟨(some 22), .bin .sub (.t 18) (.t 21), none, [4, 5, 2, 1, 0, 6, 3]⟩,
        ⟨(some 23), .mov (.t 6), none, []⟩,
        ⟨(some 24), .bin .sub (.t 22) (.t 23), none, [3, 6, 0, 1, 2, 5, 4, 8, 7]⟩,
        ⟨(some 8), .mov (.t 24), none, [8, 7, 5, 4, 3, 2, 1, 0, 6, 9]⟩])
    (.seq (.reg [⟨(some 6), .mov (.c (.int .i64 0)), none, []⟩])
    (.seq (.seq (.reg [⟨(some 25), .mov (.t 8), none, []⟩,
        ⟨(some 26), .bin .lss (.t 25) (.c (.int .i64 0)), none, []⟩])
    (.cond (.t 26) (.reg [⟨(some 27), .mov (.t 8), none, []⟩,
          ⟨(some 28), .bin .add (.t 27) (.c (.int .i64 1000000000)), none, []⟩,
          ⟨(some 8), .mov (.t 28), none, []⟩,
          ⟨(some 6), .mov (.c (.int .i64 1)), none, []⟩]) .skip))
    (.reg [⟨(some 29), .mov (.t 5), none, []⟩,
        ⟨(some 30), .mov (.t 8), none, []⟩,
        ⟨(some 31), .buildSlice 3 1 1 false [.int .i64 0] [(0, 1, .t 30)], none, []⟩,
        ⟨(some 32), .append 3 1 8 (.t 29) (.t 31), none, []⟩,
        ⟨(some 5), .mov (.t 32), none, []⟩])))))
  (.reg [⟨(some 13), .mov (.t 7), none, []⟩,
      ⟨(some 14), .bin .add (.t 13) (.c (.int .i64 1)), none, []⟩,
      ⟨(some 7), .mov (.t 14), none, []⟩]))
def xf157 : XFunc := ⟨.seq (.reg [⟨(some 4), .mov (.c .nils), none, []⟩])
  (.seq (.reg [⟨(some 5), .mov (.c .nils), none, []⟩])
  (.seq (.reg [⟨(some 6), .mov (.c (.int .i64 0)), none, []⟩])
  (.seq (.seq (.reg [⟨(some 7), .mov (.c (.int .i64 0)), none, []⟩])
  (.block 0 (.loop xf157l0)))
  (.seq (.reg [⟨(some 33), .mov (.t 5), none, []⟩,
      ⟨(some 34), .call (.c (.fn 158 [] [])) [.t 33], none, []⟩,
      ⟨(some 4), .mov (.t 34), none, []⟩])
  (.ret))))), 35, [.t 4]⟩
def xf149 : XFunc := ⟨.seq (.reg [⟨(some 1), .box 179 (.t 0), none, []⟩,
      ⟨(some 2), .new 179 [.int .i64 0, .nils], none, []⟩])
  (.seq (.reg [⟨(some 3), .faddr 0 (.t 1), none, []⟩,
      ⟨(some 4), .load1 (.t 3), none, []⟩,
      ⟨(some 5), .un .neg (.t 4), none, []⟩,
      ⟨(some 6), .faddr 1 (.t 1), none, []⟩,
      ⟨(some 7), .load1 (.t 6), none, []⟩,
      ⟨(some 8), .build [.int .i64 0, .nils] [(0, 1, .t 5), (1, 1, .t 7)], none, []⟩,
      ⟨none, .store 2 (.t 2) (.t 8), none, []⟩])
  (.ret)), 9, [.cn 2 2]⟩
def xf145 : XFunc := ⟨.seq (.reg [⟨(some 2), .box 179 (.t 0), none, []⟩,
      ⟨(some 3), .box 179 (.t 1), none, []⟩,
      ⟨(some 4), .new 179 [.int .i64 0, .nils], none, []⟩])
  (.seq (.seq (.reg [⟨(some 6), .faddr 0 (.t 2), none, []⟩,
      ⟨(some 7), .load1 (.t 6), none, []⟩,
      ⟨(some 8), .bin .eql (.t 7) (.c (.int .i64 0)), none, []⟩])
  (.cond (.t 8) (.seq (.reg [⟨(some 9), .loadn 2 (.t 3), none, []⟩,
        ⟨none, .store 2 (.t 4) (.t 9), none, []⟩])
    (.ret)) .skip))
  (.seq (.seq (.reg [⟨(some 10), .faddr 0 (.t 3), none, []⟩,
      ⟨(some 11), .load1 (.t 10), none, []⟩,
      ⟨(some 12), .bin .eql (.t 11) (.c (.int .i64 0)), none, []⟩])
  (.cond (.t 12) (.seq (.reg [⟨(some 13), .loadn 2 (.t 2), none, []⟩,
        ⟨none, .store 2 (.t 4) (.t 13), none, []⟩])
    (.ret)) .skip))
  (.seq (.seq (.reg [⟨(some 14), .faddr 0 (.t 2), none, []⟩,
      ⟨(some 15), .load1 (.t 14), none, []⟩,
      ⟨(some 16), .faddr 0 (.t 3), none, []⟩,
      ⟨(some 17), .load1 (.t 16), none, []⟩,
      ⟨(some 18), .bin .eql (.t 15) (.t 17), none, []⟩])
  (.cond (.t 18) (.seq (.dreg [⟨(some 19), .faddr 0 (.t 2), none, []⟩,
        ⟨(some 20), .load1 (.t 19), none, [0]⟩,
        ⟨(some 21), .faddr 1 (.t 2), none, []⟩,
        ⟨(some 22), .load1 (.t 21), none, [2]⟩,
        ⟨(some 23), .faddr 1 (.t 3), none, []⟩,
        ⟨(some 24), .load1 (.t 23), none, [4]⟩,
        ⟨(some 25), .call (.c (.fn 155 [] [])) [.t 22, .t 24], none, [4, 2, 5, 3]⟩,
        ⟨(some 26), .call (.c (.fn 147 [] [])) [.t 20, .t 25], none, [3, 5, 2, 4, 0, 6, 1]⟩,
        ⟨none, .store 2 (.t 4) (.t 26), none, [6, 5, 4, 3, 2, 1, 0, 7]⟩])
    (.ret)) .skip))
  (.seq (.reg [⟨(some 27), .faddr 1 (.t 2), none, []⟩,
      ⟨(some 28), .load1 (.t 27), none, []⟩,
      ⟨(some 29), .faddr 1 (.t 3), none, []⟩,
      ⟨(some 30), .load1 (.t 29), none, []⟩,
      ⟨(some 31), .call (.c (.fn 156 [] [])) [.t 28, .t 30], none, []⟩,
      ⟨(some 5), .mov (.t 31), none, []⟩])
  (.seq (.seq (.reg [⟨(some 32), .mov (.t 5), none, []⟩,
      ⟨(some 33), .bin .eql (.t 32) (.c (.int .i64 0)), none, []⟩])
  (.cond (.t 33) (.seq (.reg [⟨(some 34), .build [.int .i64 0, .nils] [], none, []⟩,
        ⟨none, .store 2 (.t 4) (.t 34), none, []⟩])
    (.ret)) .skip))
  (.seq (.seq (.reg [⟨(some 35), .mov (.t 5), none, []⟩,
      ⟨(some 36), .bin .gtr (.t 35) (.c (.int .i64 0)), none, []⟩])
  (.cond (.t 36) (.seq (.dreg [⟨(some 37), .faddr 0 (.t 2), none, []⟩,
        ⟨(some 38), .load1 (.t 37), none, [0]⟩,
        ⟨(some 39), .faddr 1 (.t 2), none, []⟩,
        ⟨(some 40), .load1 (.t 39), none, [2]⟩,
        ⟨(some 41), .faddr 1 (.t 3), none, []⟩,
        ⟨(some 42), .load1 (.t 41), none, [4]⟩,
        ⟨(some 43), .call (.c (.fn 157 [] [])) [.t 40, .t 42], none, [4, 2, 5, 3]⟩,
        ⟨(some 44), .call (.c (.fn 147 [] [])) [.t 38, .t 43], none, [3, 5, 2, 4, 0, 6, 1]⟩,
        ⟨none, .store 2 (.t 4) (.t 44), none, [6, 5, 4, 3, 2, 1, 0, 7]⟩])
    (.ret)) .skip))
  (.seq (.dreg [⟨(some 45), .faddr 0 (.t 3), none, []⟩,
      ⟨(some 46), .load1 (.t 45), none, [0]⟩,
      ⟨(some 47), .faddr 1 (.t 3), none, []⟩,
      ⟨(some 48), .load1 (.t 47), none, [2]⟩,
      ⟨(some 49), .faddr 1 (.t 2), none, []⟩,
      ⟨(some 50), .load1 (.t 49), none, [4]⟩,
      ⟨(some 51), .call (.c (.fn 157 [] [])) [.t 48, .t 50], none, [4, 2, 5, 3]⟩,
      ⟨(some 52), .call (.c (.fn 147 [] [])) [.t 46, .t 51], none, [3, 5, 2, 4, 0, 6, 1]⟩,
      ⟨none, .store 2 (.t 4) (.t 52), none, [6, 5, 4, 3, 2, 1, 0, 7]⟩])
  (.ret)))))))), 53, [.cn 4 2]⟩
def xf146 : XFunc := ⟨.seq (.reg [⟨(some 2), .box 179 (.t 0), none, []⟩,
      ⟨(some 3), .box 179 (.t 1), none, []⟩,
      ⟨(some 4), .new 179 [.int .i64 0, .nils], none, []⟩])
  (.seq (.dreg [⟨(some 5), .loadn 2 (.t 2), none, []⟩,
      ⟨(some 6), .loadn 2 (.t 3), none, []⟩,
      ⟨(some 7), .call (.c (.fn 149 [] [])) [.t 6], none, [1]⟩,
      ⟨(some 8), .call (.c (.fn 145 [] [])) [.t 5, .t 7], none, [1, 2, 0]⟩,
      ⟨none, .store 2 (.t 4) (.t 8), none, [2, 1, 0, 3]⟩])
  (.ret)), 9, [.cn 4 2]⟩
def xf124 : XFunc := ⟨.seq (.reg [⟨(some 2), .box 179 (.t 0), none, []⟩,
      ⟨(some 3), .box 179 (.t 1), none, []⟩,
      ⟨(some 4), .mov (.c (.int .i64 0)), none, []⟩])
  (.seq (.reg [⟨(some 5), .loadn 2 (.t 2), none, []⟩,
      ⟨(some 6), .loadn 2 (.t 3), none, []⟩,
      ⟨(some 7), .call (.c (.fn 146 [] [])) [.t 5, .t 6], none, []⟩,
      ⟨(some 8), .field 0 1 false (.t 7), none, []⟩,
      ⟨(some 4), .mov (.t 8), none, []⟩])
  (.ret)), 9, [.t 4]⟩
def xf125l0 : XCode := .seq (.seq (.reg [⟨(some 26), .mov (.t 8), none, []⟩,
      ⟨(some 27), .faddr 1 (.t 3), none, []⟩,
      ⟨(some 28), .load1 (.t 27), none, []⟩,
      ⟨(some 29), .len (.t 28), none, []⟩,
      ⟨(some 30), .bin .lss (.t 26) (.t 29), none, []⟩])
  (.cond (.t 30) .skip (.exit 2)))
  (.seq (.block 3 (.seq (.dreg [⟨(some 33), .mov (.t 5), none, []⟩,
        ⟨(some 34), .mov (.t 6), none, []⟩,
        ⟨(some 35), .mov (.t 8), none, []⟩,
        ⟨(some 36), .bin .add (.t 34) (.t 35), none, [2, 1]⟩,
        ⟨(some 37), .iaddr 1 (.t 33) (.t 36), none, [1, 2, 3, 0]⟩,
        ⟨(some 38), .load1 (.t 37), none, [0, 3, 2, 1, 4]⟩,
        ⟨(some 39), .faddr 1 (.t 2), none, []⟩,
        ⟨(some 40), .load1 (.t 39), none, [6]⟩,
        ⟨(some 41), .mov (.t 6), none, []⟩,
        ⟨(some 42), .iaddr 1 (.t 40) (.t 41), none, [6, 8, 7]⟩,
        ⟨(some 43), .load1 (.t 42), none, [7, 8, 6, 9]⟩,
        ⟨(some 44), .faddr 1 (.t 3), none, []⟩,
        ⟨(some 45), .load1 (.t 44), none, [11]⟩,
        ⟨(some 46), .mov (.t 8), none, []⟩,
        ⟨(some 47), .iaddr 1 (.t 45) (.t 46), none, [11, 13, 12]⟩,
        ⟨(some 48), .load1 (.t 47), none, [12, 13, 11, 14]⟩,
        ⟨(some 49), .bin .mul (.t 43) (.t 48), none, [14, 11, 13, 12, 9, 6, 8, 7, 15, 10]⟩,
        ⟨(some 50), .bin .add (.t 38) (.t 49), none, [10, 15, 7, 8, 6, 9, 12, 13, 11, 14, 4, 1, 2, 3, 0, 16, 5]⟩,
        ⟨(some 51), .mov (.t 7), none, []⟩,
        ⟨(some 52), .bin .add (.t 50) (.t 51), none, [5, 16, 0, 3, 2, 1, 4, 14, 11, 13, 12, 9, 6, 8, 7, 15, 10, 18, 17]⟩,
        ⟨(some 9), .mov (.t 52), none, [18, 17, 16, 15, 14, 13, 12, 11, 10, 9, 8, 7, 6, 5, 4, 3, 2, 1, 0, 19]⟩])
    (.reg [⟨(some 53), .mov (.t 5), none, []⟩,
        ⟨(some 54), .mov (.t 6), none, []⟩,
        ⟨(some 55), .mov (.t 8), none, []⟩,
        ⟨(some 56), .bin .add (.t 54) (.t 55), none, []⟩,
        ⟨(some 57), .mov (.t 9), none, []⟩,
        ⟨(some 58), .bin .rem (.t 57) (.c (.int .i64 1000000000)), none, []⟩,
        ⟨(some 59), .mov (.t 9), none, []⟩,
        ⟨(some 60), .bin .quo (.t 59) (.c (.int .i64 1000000000)), none, []⟩,
        ⟨(some 61), .iaddr 1 (.t 53) (.t 56), none, []⟩,
        ⟨none, .store 1 (.t 61) (.t 58), none, []⟩,
        ⟨(some 7), .mov (.t 60), none, []⟩])))
  (.reg [⟨(some 31), .mov (.t 8), none, []⟩,
      ⟨(some 32), .bin .add (.t 31) (.c (.int .i64 1)), none, []⟩,
      ⟨(some 8), .mov (.t 32), none, []⟩]))
def xf125l1 : XCode := .seq (.seq (.reg [⟨(some 19), .mov (.t 6), none, []⟩,
      ⟨(some 20), .faddr 1 (.t 2), none, []⟩,
      ⟨(some 21), .load1 (.t 20), none, []⟩,
      ⟨(some 22), .len (.t 21), none, []⟩,
      ⟨(some 23), .bin .lss (.t 19) (.t 22), none, []⟩])
  (.cond (.t 23) .skip (.exit 0)))
  (.seq (.block 1 (.seq (.reg [⟨(some 7), .mov (.c (.int .i64 0)), none, []⟩])
    (.seq (.seq (.reg [⟨(some 8), .mov (.c (.int .i64 0)), none, []⟩])
    (.block 2 (.loop xf125l0)))
    (.dreg [⟨(some 62), .mov (.t 5), none, []⟩,
        ⟨(some 63), .mov (.t 6), none, []⟩,
        ⟨(some 64), .faddr 1 (.t 3), none, []⟩,
        ⟨(some 65), .load1 (.t 64), none, [2]⟩,
        ⟨(some 66), .len (.t 65), none, [2, 3]⟩,
        ⟨(some 67), .bin .add (.t 63) (.t 66), none, [3, 2, 4, 1]⟩,
        ⟨(some 68), .mov (.t 5), none, []⟩,
        ⟨(some 69), .mov (.t 6), none, []⟩,
        ⟨(some 70), .faddr 1 (.t 3), none, []⟩,
        ⟨(some 71), .load1 (.t 70), none, [8]⟩,
        ⟨(some 72), .len (.t 71), none, [8, 9]⟩,
        ⟨(some 73), .bin .add (.t 69) (.t 72), none, [9, 8, 10, 7]⟩,
        ⟨(some 74), .iaddr 1 (.t 68) (.t 73), none, [7, 10, 8, 9, 11, 6]⟩,
        ⟨(some 75), .load1 (.t 74), none, [6, 11, 9, 8, 10, 7, 12]⟩,
        ⟨(some 76), .mov (.t 7), none, []⟩,
        ⟨(some 77), .bin .add (.t 75) (.t 76), none, [12, 7, 10, 8, 9, 11, 6, 14, 13]⟩,
        ⟨(some 78), .iaddr 1 (.t 62) (.t 67), none, [15, 14, 13, 12, 11, 10, 9, 8, 7, 6, 4, 3, 2, 1, 5, 0]⟩,
        ⟨none, .store 1 (.t 78) (.t 77), none, [14, 13, 12, 11, 10, 9, 8, 7, 6, 5, 4, 3, 2, 1, 0, 15, 16]⟩]))))
  (.reg [⟨(some 24), .mov (.t 6), none, []⟩,
      ⟨(some 25), .bin .add (.t 24) (.c (.int .i64 1)), none, []⟩,
      ⟨(some 6), .mov (.t 25), none, []⟩]))
def xf125 : XFunc := ⟨.seq (.reg [⟨(some 2), .box 179 (.t 0), none, []⟩,
      ⟨(some 3), .box 179 (.t 1), none, []⟩,
      ⟨(some 4), .new 179 [.int .i64 0, .nils], none, []⟩])
  (.seq (.reg [⟨(some 10), .faddr 1 (.t 2), none, []⟩,
      ⟨(some 11), .load1 (.t 10), none, []⟩,
      ⟨(some 12), .len (.t 11), none, []⟩,
      ⟨(some 13), .faddr 1 (.t 3), none, []⟩,
      ⟨(some 14), .load1 (.t 13), none, []⟩,
      ⟨(some 15), .len (.t 14), none, []⟩,
      ⟨(some 16), .bin .add (.t 12) (.t 15), none, []⟩,
      ⟨(some 17), .bin .add (.t 16) (.c (.int .i64 1)), none, []⟩,
      ⟨(some 18), .makeS 3 1 8 [.int .i64 0] (.t 17) (.t 17), none, []⟩,
      ⟨(some 5), .mov (.t 18), none, []⟩])
  (.seq (.seq (.reg [⟨(some 6), .mov (.c (.int .i64 0)), none, []⟩])
  (.block 0 (.loop xf125l1)))
  (.seq (.reg [⟨(some 79), .faddr 0 (.t 2), none, []⟩,
      ⟨(some 80), .load1 (.t 79), none, []⟩,
      ⟨(some 81), .faddr 0 (.t 3), none, []⟩,
      ⟨(some 82), .load1 (.t 81), none, []⟩,
      ⟨(some 83), .bin .mul (.t 80) (.t 82), none, []⟩,
      ⟨(some 84), .movf (.t 5), none, []⟩,
      ⟨(some 85), .call (.c (.fn 147 [] [])) [.t 83, .t 84], none, []⟩,
      ⟨none, .store 2 (.t 4) (.t 85), none, []⟩])
  (.ret)))), 86, [.cn 4 2]⟩
def xf151l0 : XCode := .seq (.seq (.reg [⟨(some 38), .mov (.t 8), none, []⟩,
      ⟨(some 39), .mov (.t 9), none, []⟩,
      ⟨(some 40), .bin .lss (.t 38) (.t 39), none, []⟩])
  (.cond (.t 40) .skip (.exit 2)))
  (.block 3 (.seq (.reg [⟨(some 41), .mov (.t 8), none, []⟩,
        ⟨(some 42), .mov (.t 9), none, []⟩,
        ⟨(some 43), .bin .add (.t 41) (.t 42), none, []⟩,
        ⟨(some 44), .bin .add (.t 43) (.c (.int .i64 1)), none, []⟩,
        ⟨(some 45), .bin .quo (.t 44) (.c (.int .i64 2)), none, []⟩,
        ⟨(some 10), .mov (.t 45), none, []⟩])
    (.seq (.reg [⟨(some 46), .faddr 1 (.t 3), none, []⟩,
        ⟨(some 47), .load1 (.t 46), none, []⟩,
        ⟨(some 48), .call (.c (.fn 147 [] [])) [.c (.int .i64 1), .t 47], none, []⟩,
        ⟨(some 49), .mov (.t 10), none, []⟩,
        ⟨(some 50), .call (.c (.fn 126 [] [])) [.t 49], none, []⟩,
        ⟨(some 51), .call (.c (.fn 125 [] [])) [.t 48, .t 50], none, []⟩,
        ⟨(some 52), .field 1 1 false (.t 51), none, []⟩,
        ⟨(some 53), .mov (.t 6), none, []⟩,
        ⟨(some 54), .call (.c (.fn 156 [] [])) [.t 52, .t 53], none, []⟩,
        ⟨(some 55), .bin .leq (.t 54) (.c (.int .i64 0)), none, []⟩])
    (.cond (.t 55) (.reg [⟨(some 56), .mov (.t 10), none, []⟩,
          ⟨(some 8), .mov (.t 56), none, []⟩]) (.reg [⟨(some 57), .mov (.t 10), none, []⟩,
          ⟨(some 58), .bin .sub (.t 57) (.c (.int .i64 1)), none, []⟩,
          ⟨(some 9), .mov (.t 58), none, []⟩])))))
def xf151l1 : XCode := .seq (.seq (.reg [⟨(some 25), .mov (.t 7), none, []⟩,
      ⟨(some 26), .bin .geq (.t 25) (.c (.int .i64 0)), none, []⟩])
  (.cond (.t 26) .skip (.exit 0)))
  (.seq (.block 1 (.seq (.reg [⟨(some 29), .faddr 1 (.t 2), none, []⟩,
        ⟨(some 30), .load1 (.t 29), none, []⟩,
        ⟨(some 31), .mov (.t 7), none, []⟩,
        ⟨(some 32), .iaddr 1 (.t 30) (.t 31), none, []⟩,
        ⟨(some 33), .load1 (.t 32), none, []⟩,
        ⟨(some 34), .buildSlice 3 1 1 false [.int .i64 0] [(0, 1, .t 33)], none, []⟩,
        ⟨(some 35), .mov (.t 6), none, []⟩,
        ⟨(some 36), .append 3 1 8 (.t 34) (.t 35), none, []⟩,
        ⟨(some 37), .call (.c (.fn 158 [] [])) [.t 36], none, []⟩,
        ⟨(some 6), .mov (.t 37), none, []⟩])
    (.seq (.reg [⟨(some 8), .mov (.c (.int .i64 0)), none, []⟩,
        ⟨(some 9), .mov (.c (.int .i64 999999999)), none, []⟩])
    (.seq (.block 2 (.loop xf151l0))
    (.seq (.reg [⟨(some 59), .mov (.t 5), none, []⟩,
        ⟨(some 60), .mov (.t 7), none, []⟩,
        ⟨(some 61), .mov (.t 8), none, []⟩,
        ⟨(some 62), .iaddr 1 (.t 59) (.t 60), none, []⟩,
        ⟨none, .store 1 (.t 62) (.t 61), none, []⟩])
    (.reg [⟨(some 63), .mov (.t 6), none, []⟩,
        ⟨(some 64), .faddr 1 (.t 3), none, []⟩,
        ⟨(some 65), .load1 (.t 64), none, []⟩,
        ⟨(some 66), .call (.c (.fn 147 [] [])) [.c (.int .i64 1), .t 65], none, []⟩,
        ⟨(some 67), .mov (.t 8), none, []⟩,
        ⟨(some 68), .call (.c (.fn 126 [] [])) [.t 67], none, []⟩,
        ⟨(some 69), .call (.c (.fn 125 [] [])) [.t 66, .t 68], none, []⟩,
        ⟨(some 70), .field 1 1 false (.t 69), none, []⟩,
        ⟨(some 71), .call (.c (.fn 157 [] [])) [.t 63, .t 70], none, []⟩,
        ⟨(some 6), .mov (.t 71), none, []⟩]))))))
  (.reg [⟨(some 27), .mov (.t 7), none, []⟩,
      ⟨(some 28), .bin .sub (.t 27) (.c (.int .i64 1)), none, []⟩,
      ⟨(some 7), .mov (.t 28), none, []⟩]))
def xf151 : XFunc := ⟨.seq (.reg [⟨(some 2), .box 179 (.t 0), none, []⟩,
      ⟨(some 3), .box 179 (.t 1), none, []⟩,
      ⟨(some 4), .new 179 [.int .i64 0, .nils], none, []⟩])
  (.seq (.seq (.reg [⟨(some 12), .faddr 0 (.t 2), none, []⟩,
      ⟨(some 13), .load1 (.t 12), none, []⟩,
      ⟨(some 14), .bin .eql (.t 13) (.c (.int .i64 0)), none, []⟩])
  (.cond (.t 14) (.seq (.reg [⟨(some 15), .build [.int .i64 0, .nils] [], none, []⟩,
        ⟨none, .store 2 (.t 4) (.t 15), none, []⟩])
    (.ret)) .skip))
  (.seq (.reg [⟨(some 16), .faddr 1 (.t 2), none, []⟩,
      ⟨(some 17), .load1 (.t 16), none, []⟩,
      ⟨(some 18), .len (.t 17), none, []⟩,
      ⟨(some 19), .makeS 3 1 8 [.int .i64 0] (.t 18) (.t 18), none, []⟩,
      ⟨(some 20), .buildSlice 3 1 0 false [] [], none, []⟩,
      ⟨(some 5), .mov (.t 19), none, []⟩,
      ⟨(some 6), .mov (.t 20), none, []⟩])
  (.seq (.seq (.reg [⟨(some 21), .faddr 1 (.t 2), none, []⟩,
      ⟨(some 22), .load1 (.t 21), none, []⟩,
      ⟨(some 23), .len (.t 22), none, []⟩,
      ⟨(some 24), .bin .sub (.t 23) (.c (.int .i64 1)), none, []⟩,
      ⟨(some 7), .mov (.t 24), none, []⟩])
  (.block 0 (.loop xf151l1)))
  (.seq (.reg [⟨(some 72), .faddr 0 (.t 2), none, []⟩,
      ⟨(some 73), .load1 (.t 72), none, []⟩,
      ⟨(some 74), .movf (.t 5), none, []⟩,
      ⟨(some 75), .call (.c (.fn 147 [] [])) [.t 73, .t 74], none, []⟩,
      ⟨(some 11), .new 179 [.int .i64 0, .nils], none, []⟩,
      ⟨none, .store 2 (.t 11) (.t 75), none, []⟩])
  (.seq (.seq (.reg [⟨(some 76), .faddr 0 (.t 2), none, []⟩,
      ⟨(some 77), .load1 (.t 76), none, []⟩,
      ⟨(some 78), .bin .lss (.t 77) (.c (.int .i64 0)), none, []⟩,
      ⟨(some 79), .mov (.t 78), none, []⟩,
      ⟨(some 80), .mov (.t 6), (some (79, true)), []⟩,
      ⟨(some 81), .len (.t 80), (some (79, true)), []⟩,
      ⟨(some 82), .bin .gtr (.t 81) (.c (.int .i64 0)), (some (79, true)), []⟩,
      ⟨(some 83), .pick (.t 79) (.t 82) (.c (.bool false)), none, []⟩])
  (.cond (.t 83) (.dreg [⟨(some 84), .loadn 2 (.t 11), none, []⟩,
        ⟨(some 85), .call (.c (.fn 126 [] [])) [.c (.int .i64 1)], none, []⟩,
        ⟨(some 86), .call (.c (.fn 146 [] [])) [.t 84, .t 85], none, [1, 0]⟩,
        ⟨none, .store 2 (.t 11) (.t 86), none, [1, 0, 2]⟩]) .skip))
  (.seq (.reg [⟨(some 87), .loadn 2 (.t 11), none, []⟩,
      ⟨none, .store 2 (.t 4) (.t 87), none, []⟩])
  (.ret))))))), 88, [.cn 4 2]⟩
def xf136l0 : XCode := .seq (.seq (.reg [⟨(some 14), .mov (.t 5), none, []⟩,
      ⟨(some 15), .bin .geq (.t 14) (.c (.int .i64 0)), none, []⟩])
  (.cond (.t 15) .skip (.exit 0)))
  (.seq (.block 1 (.reg [⟨(some 18), .mov (.t 4), none, []⟩,
        ⟨(some 19), .bin .mul (.t 18) (.c (.int .i64 1000000000)), none, []⟩,
        ⟨(some 20), .faddr 1 (.t 1), none, []⟩,
        ⟨(some 21), .load1 (.t 20), none, []⟩,
        ⟨(some 22), .mov (.t 5), none, []⟩,
        ⟨(some 23), .iaddr 1 (.t 21) (.t 22), none, []⟩,
        ⟨(some 24), .load1 (.t 23), none, []⟩,
        ⟨(some 25), .bin .add (.t 19) (.t 24), none, []⟩,
        ⟨(some 4), .mov (.t 25), none, []⟩]))
  (.reg [⟨(some 16), .mov (.t 5), none, []⟩,
      ⟨(some 17), .bin .sub (.t 16) (.c (.int .i64 1)), none, []⟩,
      ⟨(some 5), .mov (.t 17), none, []⟩]))
def xf136 : XFunc := ⟨.seq (.reg [⟨(some 1), .box 179 (.t 0), none, []⟩,
      ⟨(some 2), .mov (.c (.int .i64 0)), none, []⟩,
      ⟨(some 3), .mov (.c (.bool false)), none, []⟩])
  (.seq (.seq (.reg [⟨(some 6), .faddr 1 (.t 1), none, []⟩,
      ⟨(some 7), .load1 (.t 6), none, []⟩,
      ⟨(some 8), .len (.t 7), none, []⟩,
      ⟨(some 9), .bin .gtr (.t 8) (.c (.int .i64 2)), none, []⟩])
  (.cond (.t 9) (.seq (.reg [⟨(some 2), .mov (.c (.int .i64 0)), none, []⟩,
        ⟨(some 3), .mov (.c (.bool false)), none, []⟩])
    (.ret)) .skip))
  (.seq (.reg [⟨(some 4), .mov (.c (.int .i64 0)), none, []⟩])
  (.seq (.seq (.reg [⟨(some 10), .faddr 1 (.t 1), none, []⟩,
      ⟨(some 11), .load1 (.t 10), none, []⟩,
      ⟨(some 12), .len (.t 11), none, []⟩,
      ⟨(some 13), .bin .sub (.t 12) (.c (.int .i64 1)), none, []⟩,
      ⟨(some 5), .mov (.t 13), none, []⟩])
  (.block 0 (.loop xf136l0)))
  (.seq (.reg [⟨(some 26), .faddr 0 (.t 1), none, []⟩,
      ⟨(some 27), .load1 (.t 26), none, []⟩,
      ⟨(some 28), .mov (.t 4), none, []⟩,
      ⟨(some 29), .bin .mul (.t 27) (.t 28), none, []⟩,
      ⟨(some 2), .mov (.t 29), none, []⟩,
      ⟨(some 3), .mov (.c (.bool true)), none, []⟩])
  (.ret))))), 30, [.t 2, .t 3]⟩
def xf152 : XFunc := ⟨.seq (.reg [⟨(some 1), .box 179 (.t 0), none, []⟩,
      ⟨(some 2), .mov (.c (.int .i64 0)), none, []⟩])
  (.seq (.reg [⟨(some 3), .faddr 0 (.t 1), none, []⟩,
      ⟨(some 4), .load1 (.t 3), none, []⟩,
      ⟨(some 2), .mov (.t 4), none, []⟩])
  (.ret)), 5, [.t 2]⟩
def xf159 : XFunc := ⟨.seq (.reg [⟨(some 1), .box 179 (.t 0), none, []⟩,
      ⟨(some 2), .new 179 [.int .i64 0, .nils], none, []⟩])
  (.seq (.seq (.reg [⟨(some 3), .faddr 0 (.t 1), none, []⟩,
      ⟨(some 4), .load1 (.t 3), none, []⟩,
      ⟨(some 5), .bin .lss (.t 4) (.c (.int .i64 0)), none, []⟩])
  (.cond (.t 5) (.seq (.reg [⟨(some 6), .loadn 2 (.t 1), none, []⟩,
        ⟨(some 7), .call (.c (.fn 149 [] [])) [.t 6], none, []⟩,
        ⟨none, .store 2 (.t 2) (.t 7), none, []⟩])
    (.ret)) .skip))
  (.seq (.reg [⟨(some 8), .loadn 2 (.t 1), none, []⟩,
      ⟨none, .store 2 (.t 2) (.t 8), none, []⟩])
  (.ret))), 9, [.cn 2 2]⟩
def xf153l0 : XCode := .seq (.seq (.reg [⟨(some 10), .loadn 2 (.t 3), none, []⟩,
      ⟨(some 11), .call (.c (.fn 152 [] [])) [.t 10], none, []⟩,
      ⟨(some 12), .bin .neq (.t 11) (.c (.int .i64 0)), none, []⟩])
  (.cond (.t 12) .skip (.exit 0)))
  (.block 1 (.seq (.dreg [⟨(some 13), .loadn 2 (.t 2), none, []⟩,
        ⟨(some 14), .loadn 2 (.t 2), none, []⟩,
        ⟨(some 15), .loadn 2 (.t 3), none, []⟩,
        ⟨(some 16), .call (.c (.fn 151 [] [])) [.t 14, .t 15], none, [2, 1]⟩,
        ⟨(some 17), .loadn 2 (.t 3), none, []⟩,
        ⟨(some 18), .call (.c (.fn 125 [] [])) [.t 16, .t 17], none, [1, 2, 4, 3]⟩,
        ⟨(some 19), .call (.c (.fn 146 [] [])) [.t 13, .t 18], none, [3, 4, 2, 1, 5, 0]⟩,
        ⟨(some 5), .new 179 [.int .i64 0, .nils], none, []⟩,
        ⟨none, .store 2 (.t 5) (.t 19), none, [5, 4, 3, 2, 1, 0, 6, 7]⟩])
    (.dreg [⟨(some 20), .loadn 2 (.t 3), none, []⟩,
        ⟨(some 21), .loadn 2 (.t 5), none, []⟩,
        ⟨none, .store 2 (.t 2) (.t 20), none, [0]⟩,
        ⟨none, .store 2 (.t 3) (.t 21), none, [0, 2, 1]⟩])))
def xf153 : XFunc := ⟨.seq (.reg [⟨(some 2), .box 179 (.t 0), none, []⟩,
      ⟨(some 3), .box 179 (.t 1), none, []⟩,
      ⟨(some 4), .new 179 [.int .i64 0, .nils], none, []⟩])
  (.seq (.dreg [⟨(some 6), .loadn 2 (.t 2), none, []⟩,
      ⟨(some 7), .call (.c (.fn 159 [] [])) [.t 6], none, [0]⟩,
      ⟨(some 8), .loadn 2 (.t 3), none, []⟩,
      ⟨(some 9), .call (.c (.fn 159 [] [])) [.t 8], none, [0, 1, 2]⟩,
      ⟨none, .store 2 (.t 2) (.t 7), none, [2, 0, 3, 1]⟩,
      ⟨none, .store 2 (.t 3) (.t 9), none, [2, 1, 0, 4, 3]⟩])
  (.seq (.block 0 (.loop xf153l0))
  (.seq (.reg [⟨(some 22), .loadn 2 (.t 2), none, []⟩,
      ⟨none, .store 2 (.t 4) (.t 22), none, []⟩])
  (.ret)))), 23, [.cn 4 2]⟩
def xf139 : XFunc := ⟨.seq (.reg [⟨(some 2), .box 179 (.t 0), none, []⟩,
      ⟨(some 3), .box 179 (.t 1), none, []⟩,
      ⟨(some 4), .new 181 [.int .i64 0, .nils, .int .i64 0, .nils], none, []⟩])
  (.seq (.seq (.reg [⟨(some 6), .loadn 2 (.t 3), none, []⟩,
      ⟨(some 7), .call (.c (.fn 152 [] [])) [.t 6], none, []⟩,
      ⟨(some 8), .bin .lss (.t 7) (.c (.int .i64 0)), none, []⟩])
  (.cond (.t 8) (.dreg [⟨(some 9), .loadn 2 (.t 2), none, []⟩,
        ⟨(some 10), .call (.c (.fn 149 [] [])) [.t 9], none, [0]⟩,
        ⟨(some 11), .loadn 2 (.t 3), none, []⟩,
        ⟨(some 12), .call (.c (.fn 149 [] [])) [.t 11], none, [0, 1, 2]⟩,
        ⟨none, .store 2 (.t 2) (.t 10), none, [2, 0, 3, 1]⟩,
        ⟨none, .store 2 (.t 3) (.t 12), none, [2, 1, 0, 4, 3]⟩]) .skip))
  (.seq (.reg [⟨(some 13), .loadn 2 (.t 2), none, []⟩,
      ⟨(some 14), .loadn 2 (.t 3), none, []⟩,
      ⟨(some 15), .call (.c (.fn 153 [] [])) [.t 13, .t 14], none, []⟩,
      ⟨(some 5), .new 179 [.int .i64 0, .nils], none, []⟩,
      ⟨none, .store 2 (.t 5) (.t 15), none, []⟩])
  (.seq (.seq (.dreg [⟨(some 16), .loadn 2 (.t 5), none, []⟩,
      ⟨(some 17), .call (.c (.fn 126 [] [])) [.c (.int .i64 1)], none, []⟩,
      ⟨(some 18), .call (.c (.fn 124 [] [])) [.t 16, .t 17], none, [1, 0]⟩,
      ⟨(some 19), .bin .eql (.t 18) (.c (.int .i64 0)), none, [0, 1, 2]⟩])
  (.cond (.t 19) (.seq (.reg [⟨(some 20), .loadn 2 (.t 2), none, []⟩,
        ⟨(some 21), .loadn 2 (.t 3), none, []⟩,
        ⟨(some 22), .build [.int .i64 0, .nils, .int .i64 0, .nils] [(0, 2, .t 20), (2, 2, .t 21)], none, []⟩,
        ⟨none, .store 4 (.t 4) (.t 22), none, []⟩])
    (.ret)) .skip))
  (.seq (.dreg [⟨(some 23), .loadn 2 (.t 2), none, []⟩,
      ⟨(some 24), .loadn 2 (.t 5), none, []⟩,
      ⟨(some 25), .call (.c (.fn 151 [] [])) [.t 23, .t 24], none, [1, 0]⟩,
      ⟨(some 26), .loadn 2 (.t 3), none, []⟩,
      ⟨(some 27), .loadn 2 (.t 5), none, []⟩,
      ⟨(some 28), .call (.c (.fn 151 [] [])) [.t 26, .t 27], none, [0, 1, 2, 4, 3]⟩,
      ⟨(some 29), .build [.int .i64 0, .nils, .int .i64 0, .nils] [(0, 2, .t 25), (2, 2, .t 28)], none, [3, 4, 0, 1, 5, 2]⟩,
      ⟨none, .store 4 (.t 4) (.t 29), none, [4, 3, 2, 1, 0, 5, 6]⟩])
  (.ret))))), 30, [.cn 4 4]⟩
def xf140 : XFunc := ⟨.seq (.reg [⟨(some 4), .new 181 [.int .i64 0, .nils, .int .i64 0, .nils], none, []⟩])
  (.seq (.reg [⟨(some 5), .mov (.t 0), none, []⟩,
      ⟨(some 6), .call (.c (.fn 126 [] [])) [.t 5], none, []⟩,
      ⟨(some 7), .mov (.t 1), none, []⟩,
      ⟨(some 8), .call (.c (.fn 126 [] [])) [.t 7], none, []⟩,
      ⟨(some 9), .call (.c (.fn 139 [] [])) [.t 6, .t 8], none, []⟩,
      ⟨none, .store 4 (.t 4) (.t 9), none, []⟩])
  (.ret)), 10, [.cn 4 4]⟩
def xf100 : XFunc := ⟨.seq (.reg [⟨(some 2), .new 181 [.int .i64 0, .nils, .int .i64 0, .nils], none, []⟩])
  (.seq (.reg [⟨(some 3), .mov (.t 0), none, []⟩,
      ⟨(some 4), .call (.c (.fn 126 [] [])) [.t 3], none, []⟩,
      ⟨(some 5), .call (.c (.fn 126 [] [])) [.c (.int .i64 1)], none, []⟩,
      ⟨(some 6), .build [.int .i64 0, .nils, .int .i64 0, .nils] [(0, 2, .t 4), (2, 2, .t 5)], none, []⟩,
      ⟨none, .store 4 (.t 2) (.t 6), none, []⟩])
  (.ret)), 7, [.cn 2 4]⟩
def xf99 : XFunc := ⟨.seq (.reg [⟨(some 2), .box 181 (.t 0), none, []⟩,
      ⟨(some 3), .box 181 (.t 1), none, []⟩,
      ⟨(some 4), .mov (.c (.int .i64 0)), none, []⟩])
  (.seq (.dreg [⟨(some 5), .faddr 0 (.t 2), none, []⟩,
      ⟨(some 6), .loadn 2 (.t 5), none, [0]⟩,
      ⟨(some 7), .faddr 2 (.t 3), none, []⟩,
      ⟨(some 8), .loadn 2 (.t 7), none, [2]⟩,
      ⟨(some 9), .call (.c (.fn 125 [] [])) [.t 6, .t 8], none, [2, 0, 3, 1]⟩,
      ⟨(some 10), .faddr 0 (.t 3), none, []⟩,
      ⟨(some 11), .loadn 2 (.t 10), none, [5]⟩,
      ⟨(some 12), .faddr 2 (.t 2), none, []⟩,
      ⟨(some 13), .loadn 2 (.t 12), none, [7]⟩,
      ⟨(some 14), .call (.c (.fn 125 [] [])) [.t 11, .t 13], none, [1, 3, 0, 2, 7, 5, 4, 8, 6]⟩,
      ⟨(some 15), .call (.c (.fn 124 [] [])) [.t 9, .t 14], none, [6, 8, 5, 7, 1, 3, 0, 2, 9, 4]⟩,
      ⟨(some 4), .mov (.t 15), none, [9, 8, 7, 6, 5, 4, 3, 2, 1, 0, 10]⟩])
  (.ret)), 16, [.t 4]⟩
def xf137 : XFunc := ⟨.seq (.reg [⟨(some 1), .box 181 (.t 0), none, []⟩,
      ⟨(some 2), .new 179 [.int .i64 0, .nils], none, []⟩])
  (.seq (.reg [⟨(some 3), .faddr 0 (.t 1), none, []⟩,
      ⟨(some 4), .loadn 2 (.t 3), none, []⟩,
      ⟨(some 5), .faddr 2 (.t 1), none, []⟩,
      ⟨(some 6), .loadn 2 (.t 5), none, []⟩,
      ⟨(some 7), .call (.c (.fn 151 [] [])) [.t 4, .t 6], none, []⟩,
      ⟨none, .store 2 (.t 2) (.t 7), none, []⟩])
  (.ret)), 8, [.cn 2 2]⟩
def xf138 : XFunc := ⟨.seq (.reg [⟨(some 1), .box 181 (.t 0), none, []⟩,
      ⟨(some 2), .new 179 [.int .i64 0, .nils], none, []⟩])
  (.seq (.dreg [⟨(some 3), .faddr 0 (.t 1), none, []⟩,
      ⟨(some 4), .loadn 2 (.t 3), none, [0]⟩,
      ⟨(some 5), .call (.c (.fn 149 [] [])) [.t 4], none, [0, 1]⟩,
      ⟨(some 6), .faddr 2 (.t 1), none, []⟩,
      ⟨(some 7), .loadn 2 (.t 6), none, [3]⟩,
      ⟨(some 8), .call (.c (.fn 151 [] [])) [.t 5, .t 7], none, [3, 1, 0, 4, 2]⟩,
      ⟨(some 9), .call (.c (.fn 149 [] [])) [.t 8], none, [2, 4, 0, 1, 3, 5]⟩,
      ⟨none, .store 2 (.t 2) (.t 9), none, [5, 4, 3, 2, 1, 0, 6]⟩])
  (.ret)), 10, [.cn 2 2]⟩
def xf123 : XFunc := ⟨.seq (.reg [⟨(some 2), .box 181 (.t 0), none, []⟩,
      ⟨(some 3), .box 181 (.t 1), none, []⟩,
      ⟨(some 4), .new 181 [.int .i64 0, .nils, .int .i64 0, .nils], none, []⟩])
  (.seq (.dreg [⟨(some 5), .faddr 0 (.t 2), none, []⟩,
      ⟨(some 6), .loadn 2 (.t 5), none, [0]⟩,
      ⟨(some 7), .faddr 2 (.t 3), none, []⟩,
      ⟨(some 8), .loadn 2 (.t 7), none, [2]⟩,
      ⟨(some 9), .call (.c (.fn 125 [] [])) [.t 6, .t 8], none, [2, 0, 3, 1]⟩,
      ⟨(some 10), .faddr 0 (.t 3), none, []⟩,
      ⟨(some 11), .loadn 2 (.t 10), none, [5]⟩,
      ⟨(some 12), .faddr 2 (.t 2), none, []⟩,
      ⟨(some 13), .loadn 2 (.t 12), none, [7]⟩,
      ⟨(some 14), .call (.c (.fn 125 [] [])) [.t 11, .t 13], none, [1, 3, 0, 2, 7, 5, 4, 8, 6]⟩,
      ⟨(some 15), .call (.c (.fn 145 [] [])) [.t 9, .t 14], none, [6, 8, 5, 7, 1, 3, 0, 2, 9, 4]⟩,
      ⟨(some 16), .faddr 2 (.t 2), none, []⟩,
      ⟨(some 17), .loadn 2 (.t 16), none, [11]⟩,
      ⟨(some 18), .faddr 2 (.t 3), none, []⟩,
      ⟨(some 19), .loadn 2 (.t 18), none, [13]⟩,
      ⟨(some 20), .call (.c (.fn 125 [] [])) [.t 17, .t 19], none, [4, 9, 2, 0, 3, 1, 7, 5, 8, 6, 13, 11, 10, 14, 12]⟩,
      ⟨(some 21), .call (.c (.fn 139 [] [])) [.t 15, .t 20], none, [12, 14, 11, 13, 4, 9, 2, 0, 3, 1, 7, 5, 8, 6, 15, 10]⟩,
      ⟨none, .store 4 (.t 4) (.t 21), none, [15, 14, 13, 12, 11, 10, 9, 8, 7, 6, 5, 4, 3, 2, 1, 0, 16]⟩])
  (.ret)), 22, [.cn 4 4]⟩
def xf118 : XFunc := ⟨.seq (.reg [⟨(some 2), .box 181 (.t 0), none, []⟩,
      ⟨(some 3), .box 181 (.t 1), none, []⟩,
      ⟨(some 4), .new 181 [.int .i64 0, .nils, .int .i64 0, .nils], none, []⟩])
  (.seq (.dreg [⟨(some 5), .faddr 0 (.t 2), none, []⟩,
      ⟨(some 6), .loadn 2 (.t 5), none, [0]⟩,
      ⟨(some 7), .faddr 0 (.t 3), none, []⟩,
      ⟨(some 8), .loadn 2 (.t 7), none, [2]⟩,
      ⟨(some 9), .call (.c (.fn 125 [] [])) [.t 6, .t 8], none, [2, 0, 3, 1]⟩,
      ⟨(some 10), .faddr 2 (.t 2), none, []⟩,
      ⟨(some 11), .loadn 2 (.t 10), none, [5]⟩,
      ⟨(some 12), .faddr 2 (.t 3), none, []⟩,
      ⟨(some 13), .loadn 2 (.t 12), none, [7]⟩,
      ⟨(some 14), .call (.c (.fn 125 [] [])) [.t 11, .t 13], none, [1, 3, 0, 2, 7, 5, 4, 8, 6]⟩,
      ⟨(some 15), .call (.c (.fn 139 [] [])) [.t 9, .t 14], none, [6, 8, 5, 7, 1, 3, 0, 2, 9, 4]⟩,
      ⟨none, .store 4 (.t 4) (.t 15), none, [9, 8, 7, 6, 5, 4, 3, 2, 1, 0, 10]⟩])
  (.ret)), 16, [.cn 4 4]⟩
def xf117 : XFunc := ⟨.seq (.reg [⟨(some 2), .box 181 (.t 0), none, []⟩,
      ⟨(some 3), .box 181 (.t 1), none, []⟩,
      ⟨(some 4), .new 181 [.int .i64 0, .nils, .int .i64 0, .nils], none, []⟩])
  (.seq (.dreg [⟨(some 5), .faddr 0 (.t 2), none, []⟩,
      ⟨(some 6), .loadn 2 (.t 5), none, [0]⟩,
      ⟨(some 7), .faddr 2 (.t 3), none, []⟩,
      ⟨(some 8), .loadn 2 (.t 7), none, [2]⟩,
      ⟨(some 9), .call (.c (.fn 125 [] [])) [.t 6, .t 8], none, [2, 0, 3, 1]⟩,
      ⟨(some 10), .faddr 2 (.t 2), none, []⟩,
      ⟨(some 11), .loadn 2 (.t 10), none, [5]⟩,
      ⟨(some 12), .faddr 0 (.t 3), none, []⟩,
      ⟨(some 13), .loadn 2 (.t 12), none, [7]⟩,
      ⟨(some 14), .call (.c (.fn 125 [] [])) [.t 11, .t 13], none, [1, 3, 0, 2, 7, 5, 4, 8, 6]⟩,
      ⟨(some 15), .call (.c (.fn 139 [] [])) [.t 9, .t 14], none, [6, 8, 5, 7, 1, 3, 0, 2, 9, 4]⟩,
      ⟨none, .store 4 (.t 4) (.t 15), none, [9, 8, 7, 6, 5, 4, 3, 2, 1, 0, 10]⟩])
  (.ret)), 16, [.cn 4 4]⟩
structure WideCode (X : FuncId → Option XFunc) : Prop where
  h158 : X 158 = some xf158
  h147 : X 147 = some xf147
  h126 : X 126 = some xf126
  h148 : X 148 = some xf148
  h156 : X 156 = some xf156
  h160 : X 160 = some xf160
  h155 : X 155 = some xf155
  h157 : X 157 = some xf157
  h149 : X 149 = some xf149
  h145 : X 145 = some xf145
  h146 : X 146 = some xf146
  h124 : X 124 = some xf124
  h125 : X 125 = some xf125
  h151 : X 151 = some xf151
  h136 : X 136 = some xf136
  h152 : X 152 = some xf152
  h159 : X 159 = some xf159
  h153 : X 153 = some xf153
  h139 : X 139 = some xf139
  h140 : X 140 = some xf140
  h100 : X 100 = some xf100
  h99 : X 99 = some xf99
  h137 : X 137 = some xf137
  h138 : X 138 = some xf138
  h123 : X 123 = some xf123
  h118 : X 118 = some xf118
  h117 : X 117 = some xf117
end Go.Proofs.YtbgjmclpahganaaGreat.Eng

/-
  CODE of Tab.
-/
namespace Go.Proofs.YtbgjmclpahganaaGreat.Eng
set_option linter.unusedSimpArgs false
set_option linter.unusedVariables false
def xf29 : XFunc := ⟨.seq (.reg [⟨(some 1), .box 24 (.t 0), none, []⟩,
      ⟨(some 2), .mov (.c (.bool false)), none, []⟩])
  (.seq (.reg [⟨(some 3), .faddr 0 (.t 1), none, []⟩,
      ⟨(some 4), .load1 (.t 3), none, []⟩,
      ⟨(some 5), .len (.t 4), none, []⟩,
      ⟨(some 6), .bin .leq (.t 5) (.c (.int .i64 12)), none, []⟩,
      ⟨(some 2), .mov (.t 6), none, []⟩])
  (.ret)), 7, [.t 2]⟩
def xf121 : XFunc := ⟨.seq (.reg [⟨(some 1), .box 24 (.t 0), none, []⟩,
      ⟨(some 2), .mov (.c (.int .i64 0)), none, []⟩,
      ⟨(some 3), .mov (.c (.int .i64 0)), none, []⟩])
  (.seq (.dreg [⟨(some 5), .faddr 0 (.t 1), none, []⟩,
      ⟨(some 6), .load1 (.t 5), none, [0]⟩,
      ⟨(some 7), .len (.t 6), none, [0, 1]⟩,
      ⟨(some 8), .bin .lss (.t 7) (.c (.int .i64 2)), none, [1, 0, 2]⟩,
      ⟨(some 9), .call (.c (.fn 78 [] [])) [.t 8, .c (.int .i64 10)], none, [2, 0, 1, 3]⟩,
      ⟨(some 10), .faddr 0 (.t 1), none, []⟩,
      ⟨(some 11), .load1 (.t 10), none, [5]⟩,
      ⟨(some 12), .len (.t 11), none, [5, 6]⟩,
      ⟨(some 13), .bin .gtr (.t 12) (.c (.int .i64 10)), none, [6, 5, 7]⟩,
      ⟨(some 14), .call (.c (.fn 78 [] [])) [.t 13, .c (.int .i64 8)], none, [3, 1, 0, 2, 7, 5, 6, 4, 8]⟩,
      ⟨(some 15), .buildSlice 159 1 2 false [.nilfn, .nilfn] [(0, 1, .t 9), (1, 1, .t 14)], none, [8, 6, 5, 7, 3, 1, 0, 2, 9, 4]⟩,
      ⟨(some 16), .call (.c (.fn 77 [] [])) [.t 15], none, [4, 2, 0, 1, 3, 7, 5, 6, 8, 9, 10]⟩,
      ⟨(some 4), .mov (.t 16), none, [10, 9, 8, 7, 6, 5, 4, 3, 2, 1, 0, 11]⟩])
  (.seq (.seq (.reg [⟨(some 17), .mov (.t 4), none, []⟩,
      ⟨(some 18), .bin .neq (.t 17) (.c (.int .i64 0)), none, []⟩])
  (.cond (.t 18) (.seq (.reg [⟨(some 19), .mov (.t 4), none, []⟩,
        ⟨(some 2), .mov (.c (.int .i64 0)), none, []⟩,
        ⟨(some 3), .mov (.t 19), none, []⟩])
    (.ret)) .skip))
  (.seq (.reg [⟨(some 20), .faddr 0 (.t 1), none, []⟩,
      ⟨(some 21), .load1 (.t 20), none, []⟩,
      ⟨(some 22), .len (.t 21), none, []⟩,
      ⟨(some 23), .fn true 143 [] [.t 1], none, []⟩,
      ⟨(some 24), .call (.c (.fn 74 [] [])) [.t 22, .t 23], none, []⟩,
      ⟨(some 25), .extract (.t 24) 0, none, []⟩,
      ⟨(some 26), .extract (.t 24) 1, none, []⟩,
      ⟨(some 2), .mov (.t 25), none, []⟩,
      ⟨(some 3), .mov (.t 26), none, []⟩])
  (.ret)))), 27, [.t 2, .t 3]⟩
def xf31 : XFunc := ⟨.seq (.reg [⟨(some 1), .box 24 (.t 0), none, []⟩,
      ⟨(some 2), .new 24 [.nils], none, []⟩])
  (.seq (.reg [⟨(some 3), .buildSlice 137 2 0 true [] [], none, []⟩,
      ⟨(some 4), .faddr 0 (.t 1), none, []⟩,
      ⟨(some 5), .load1 (.t 4), none, []⟩,
      ⟨(some 6), .append 137 2 16 (.t 3) (.t 5), none, []⟩,
      ⟨(some 7), .build [.nils] [(0, 1, .t 6)], none, []⟩,
      ⟨none, .store 1 (.t 2) (.t 7), none, []⟩])
  (.ret)), 8, [.cn 2 1]⟩
def xf39 : XFunc := ⟨.seq (.reg [⟨(some 2), .box 24 (.t 0), none, []⟩,
      ⟨(some 4), .new 48 [.int .i64 0, .int .i64 0], none, []⟩,
      ⟨(some 5), .mov (.c (.int .i64 0)), none, []⟩])
  (.seq (.reg [⟨(some 9), .loadn 1 (.t 2), none, []⟩,
      ⟨(some 10), .mov (.t 1), none, []⟩,
      ⟨(some 11), .call (.c (.fn 67 [] [])) [.t 9, .t 10], none, []⟩,
      ⟨(some 8), .mov (.t 11), none, []⟩,
      ⟨(some 12), .extract (.t 8) 0, none, []⟩,
      ⟨(some 13), .extract (.t 8) 1, none, []⟩,
      ⟨(some 6), .new 101 [.nils], none, []⟩,
      ⟨none, .store 1 (.t 6) (.t 12), none, []⟩,
      ⟨(some 7), .mov (.t 13), none, []⟩])
  (.seq (.seq (.reg [⟨(some 14), .mov (.t 7), none, []⟩,
      ⟨(some 15), .bin .neq (.t 14) (.c (.int .i64 0)), none, []⟩])
  (.cond (.t 15) (.seq (.reg [⟨(some 16), .build [.int .i64 0, .int .i64 0] [], none, []⟩,
        ⟨(some 17), .mov (.t 7), none, []⟩,
        ⟨none, .store 2 (.t 4) (.t 16), none, []⟩,
        ⟨(some 5), .mov (.t 17), none, []⟩])
    (.ret)) .skip))
  (.seq (.reg [⟨(some 18), .loadn 1 (.t 6), none, []⟩,
      ⟨(some 19), .mov (.t 1), none, []⟩,
      ⟨(some 20), .call (.c (.fn 68 [] [])) [.t 18, .t 19], none, []⟩,
      ⟨(some 21), .call (.c (.fn 69 [] [])) [.t 20], none, []⟩,
      ⟨none, .store 2 (.t 4) (.t 21), none, []⟩,
      ⟨(some 5), .mov (.c (.int .i64 0)), none, []⟩])
  (.ret)))), 22, [.cn 4 2, .t 5]⟩
def xf88l0 : XCode := .seq (.seq (.reg [⟨(some 14), .mov (.t 4), none, []⟩,
      ⟨(some 15), .faddr 0 (.t 1), none, []⟩,
      ⟨(some 16), .load1 (.t 15), none, []⟩,
      ⟨(some 17), .len (.t 16), none, []⟩,
      ⟨(some 18), .bin .lss (.t 14) (.t 17), none, []⟩])
  (.cond (.t 18) .skip (.exit 0)))
  (.seq (.block 1 (.seq (.reg [⟨(some 21), .faddr 0 (.t 1), none, []⟩,
        ⟨(some 22), .load1 (.t 21), none, []⟩,
        ⟨(some 23), .mov (.t 4), none, []⟩,
        ⟨(some 24), .iaddr 2 (.t 22) (.t 23), none, []⟩,
        ⟨(some 25), .loadn 2 (.t 24), none, []⟩,
        ⟨(some 5), .new 137 [.int .i64 0, .int .i64 0], none, []⟩,
        ⟨none, .store 2 (.t 5) (.t 25), none, []⟩])
    (.seq (.seq (.reg [⟨(some 26), .faddr 0 (.t 5), none, []⟩,
        ⟨(some 27), .load1 (.t 26), none, []⟩,
        ⟨(some 28), .call (.c (.fn 27 [] [])) [.t 27, .c (.int .i64 0), .c (.int .i64 1000000)], none, []⟩,
        ⟨(some 29), .un .not (.t 28), none, []⟩,
        ⟨(some 30), .mov (.t 29), none, []⟩,
        ⟨(some 31), .faddr 1 (.t 5), (some (30, false)), []⟩,
        ⟨(some 32), .load1 (.t 31), (some (30, false)), []⟩,
        ⟨(some 33), .call (.c (.fn 27 [] [])) [.t 32, .c (.int .i64 0), .c (.int .i64 1000000000)], (some (30, false)), []⟩,
        ⟨(some 34), .un .not (.t 33), (some (30, false)), []⟩,
        ⟨(some 35), .pick (.t 30) (.c (.bool true)) (.t 34), none, []⟩])
    (.cond (.t 35) (.seq (.reg [⟨(some 36), .mov (.t 4), none, []⟩,
          ⟨(some 2), .mov (.t 36), none, []⟩,
          ⟨(some 3), .mov (.c (.int .i64 2)), none, []⟩])
      (.ret)) .skip))
    (.seq (.seq (.reg [⟨(some 37), .mov (.t 4), none, []⟩,
        ⟨(some 38), .bin .eql (.t 37) (.c (.int .i64 0)), none, []⟩])
    (.cond (.t 38) (.exit 1) .skip))
    (.seq (.seq (.dreg [⟨(some 39), .faddr 0 (.t 5), none, []⟩,
        ⟨(some 40), .load1 (.t 39), none, [0]⟩,
        ⟨(some 41), .faddr 0 (.t 1), none, []⟩,
        ⟨(some 42), .load1 (.t 41), none, [2]⟩,
        ⟨(some 43), .mov (.t 4), none, []⟩,
        ⟨(some 44), .bin .sub (.t 43) (.c (.int .i64 1)), none, [4]⟩,
        ⟨(some 45), .iaddr 2 (.t 42) (.t 44), none, [4, 2, 5, 3]⟩,
        ⟨(some 46), .faddr 0 (.t 45), none, [3, 5, 2, 4, 6]⟩,
        ⟨(some 47), .load1 (.t 46), none, [6, 4, 2, 5, 3, 7]⟩,
        ⟨(some 48), .bin .leq (.t 40) (.t 47), none, [7, 3, 5, 2, 4, 6, 0, 8, 1]⟩,
        ⟨(some 49), .mov (.t 48), none, [1, 8, 0, 6, 4, 2, 5, 3, 7, 9]⟩,
        ⟨(some 50), .faddr 1 (.t 5), (some (49, false)), [9, 7, 3, 5, 2, 4, 6, 0, 8, 1, 10]⟩,
        ⟨(some 51), .load1 (.t 50), (some (49, false)), [1, 8, 0, 6, 4, 2, 5, 3, 7, 9, 10, 11]⟩,
        ⟨(some 52), .faddr 0 (.t 1), (some (49, false)), [9, 7, 3, 5, 2, 4, 6, 0, 8, 1, 10]⟩,
        ⟨(some 53), .load1 (.t 52), (some (49, false)), [1, 8, 0, 6, 4, 2, 5, 3, 7, 9, 10, 13]⟩,
        ⟨(some 54), .mov (.t 4), (some (49, false)), [9, 7, 3, 5, 2, 4, 6, 0, 8, 1, 10]⟩,
        ⟨(some 55), .bin .sub (.t 54) (.c (.int .i64 1)), (some (49, false)), [1, 8, 0, 6, 4, 2, 5, 3, 7, 9, 10, 15]⟩,
        ⟨(some 56), .iaddr 2 (.t 53) (.t 55), (some (49, false)), [15, 13, 9, 7, 3, 5, 2, 4, 6, 0, 8, 1, 10, 16, 14]⟩,
        ⟨(some 57), .faddr 1 (.t 56), (some (49, false)), [14, 16, 1, 8, 0, 6, 4, 2, 5, 3, 7, 9, 13, 15, 10, 17]⟩,
        ⟨(some 58), .load1 (.t 57), (some (49, false)), [17, 15, 13, 9, 7, 3, 5, 2, 4, 6, 0, 8, 1, 16, 14, 10, 18]⟩,
        ⟨(some 59), .bin .leq (.t 51) (.t 58), (some (49, false)), [18, 14, 16, 13, 15, 17, 11, 9, 7, 3, 5, 2, 4, 6, 0, 8, 1, 10, 19, 12]⟩,
        ⟨(some 60), .pick (.t 49) (.c (.bool true)) (.t 59), none, [12, 19, 11, 17, 15, 13, 16, 14, 18, 9, 7, 3, 5, 2, 4, 6, 0, 8, 1, 20, 10]⟩])
    (.cond (.t 60) (.seq (.reg [⟨(some 61), .mov (.t 4), none, []⟩,
          ⟨(some 2), .mov (.t 61), none, []⟩,
          ⟨(some 3), .mov (.c (.int .i64 9)), none, []⟩])
      (.ret)) .skip))
    (.seq (.dreg [⟨(some 62), .mov (.t 4), none, []⟩,
        ⟨(some 63), .bin .gtr (.t 62) (.c (.int .i64 1)), none, [0]⟩,
        ⟨(some 64), .mov (.t 63), none, [0, 1]⟩,
        ⟨(some 65), .loadn 1 (.t 1), (some (64, true)), [1, 0, 2]⟩,
        ⟨(some 66), .mov (.t 4), (some (64, true)), [1, 0, 2]⟩,
        ⟨(some 67), .call (.c (.fn 119 [] [])) [.t 65, .t 66], (some (64, true)), [0, 1, 2, 4, 3]⟩,
        ⟨(some 68), .loadn 1 (.t 1), (some (64, true)), [1, 0, 2]⟩,
        ⟨(some 69), .mov (.t 4), (some (64, true)), [1, 0, 2]⟩,
        ⟨(some 70), .bin .sub (.t 69) (.c (.int .i64 1)), (some (64, true)), [0, 1, 2, 7]⟩,
        ⟨(some 71), .call (.c (.fn 119 [] [])) [.t 68, .t 70], (some (64, true)), [3, 4, 7, 0, 1, 2, 5, 8, 6]⟩,
        ⟨(some 72), .call (.c (.fn 99 [] [])) [.t 67, .t 71], (some (64, true)), [6, 8, 7, 3, 4, 1, 0, 2, 9, 5]⟩,
        ⟨(some 73), .bin .lss (.t 72) (.c (.int .i64 0)), (some (64, true)), [5, 9, 0, 1, 4, 3, 7, 8, 6, 2, 10]⟩,
        ⟨(some 74), .pick (.t 64) (.t 73) (.c (.bool false)), none, [10, 6, 8, 7, 3, 4, 9, 5, 1, 0, 11, 2]⟩])
    (.cond (.t 74) (.seq (.reg [⟨(some 75), .mov (.t 4), none, []⟩,
          ⟨(some 2), .mov (.t 75), none, []⟩,
          ⟨(some 3), .mov (.c (.int .i64 22)), none, []⟩])
      (.ret)) .skip)))))))
  (.reg [⟨(some 19), .mov (.t 4), none, []⟩,
      ⟨(some 20), .bin .add (.t 19) (.c (.int .i64 1)), none, []⟩,
      ⟨(some 4), .mov (.t 20), none, []⟩]))
def xf88 : XFunc := ⟨.seq (.reg [⟨(some 1), .box 24 (.t 0), none, []⟩,
      ⟨(some 2), .mov (.c (.int .i64 0)), none, []⟩,
      ⟨(some 3), .mov (.c (.int .i64 0)), none, []⟩])
  (.seq (.seq (.reg [⟨(some 6), .faddr 0 (.t 1), none, []⟩,
      ⟨(some 7), .load1 (.t 6), none, []⟩,
      ⟨(some 8), .len (.t 7), none, []⟩,
      ⟨(some 9), .bin .lss (.t 8) (.c (.int .i64 2)), none, []⟩])
  (.cond (.t 9) (.seq (.reg [⟨(some 2), .mov (.c (.int .i64 0)), none, []⟩,
        ⟨(some 3), .mov (.c (.int .i64 10)), none, []⟩])
    (.ret)) .skip))
  (.seq (.seq (.reg [⟨(some 10), .faddr 0 (.t 1), none, []⟩,
      ⟨(some 11), .load1 (.t 10), none, []⟩,
      ⟨(some 12), .len (.t 11), none, []⟩,
      ⟨(some 13), .bin .gtr (.t 12) (.c (.int .i64 10)), none, []⟩])
  (.cond (.t 13) (.seq (.reg [⟨(some 2), .mov (.c (.int .i64 0)), none, []⟩,
        ⟨(some 3), .mov (.c (.int .i64 8)), none, []⟩])
    (.ret)) .skip))
  (.seq (.seq (.reg [⟨(some 4), .mov (.c (.int .i64 0)), none, []⟩])
  (.block 0 (.loop xf88l0)))
  (.seq (.reg [⟨(some 2), .mov (.c (.int .i64 0)), none, []⟩,
      ⟨(some 3), .mov (.c (.int .i64 0)), none, []⟩])
  (.ret))))), 76, [.t 2, .t 3]⟩
def xf89 : XFunc := ⟨.seq (.reg [⟨(some 2), .box 24 (.t 0), none, []⟩,
      ⟨(some 4), .mov (.c (.bool false)), none, []⟩])
  (.seq (.dreg [⟨(some 5), .mov (.t 1), none, []⟩,
      ⟨(some 6), .loadn 1 (.t 2), none, []⟩,
      ⟨(some 7), .call (.c (.fn 59 [] [])) [.t 6], none, [1]⟩,
      ⟨(some 8), .field 0 1 false (.t 7), none, [1, 2]⟩,
      ⟨(some 9), .loadn 1 (.t 2), none, []⟩,
      ⟨(some 10), .call (.c (.fn 60 [] [])) [.t 9], none, [1, 2, 4]⟩,
      ⟨(some 11), .field 0 1 false (.t 10), none, [4, 2, 1, 5]⟩,
      ⟨(some 12), .call (.c (.fn 27 [] [])) [.t 5, .t 8, .t 11], none, [4, 2, 1, 5, 6, 3, 0]⟩,
      ⟨(some 4), .mov (.t 12), none, [6, 5, 4, 3, 2, 1, 0, 7]⟩])
  (.ret)), 13, [.t 4]⟩
def xf108 : XFunc := ⟨.seq (.reg [⟨(some 2), .box 24 (.t 0), none, []⟩,
      ⟨(some 4), .new 48 [.int .i64 0, .int .i64 0], none, []⟩])
  (.seq (.reg [⟨(some 5), .loadn 1 (.t 2), none, []⟩,
      ⟨(some 6), .mov (.t 1), none, []⟩,
      ⟨(some 7), .call (.c (.fn 131 [] [])) [.t 5, .t 6], none, []⟩,
      ⟨(some 8), .call (.c (.fn 116 [] [])) [.t 7], none, []⟩,
      ⟨none, .store 2 (.t 4) (.t 8), none, []⟩])
  (.ret)), 9, [.cn 4 2]⟩
def xf82 : XFunc := ⟨.seq (.reg [⟨(some 2), .box 24 (.t 0), none, []⟩,
      ⟨(some 4), .mov (.c (.bool false)), none, []⟩])
  (.seq (.dreg [⟨(some 5), .mov (.t 1), none, []⟩,
      ⟨(some 6), .loadn 1 (.t 2), none, []⟩,
      ⟨(some 7), .call (.c (.fn 59 [] [])) [.t 6], none, [1]⟩,
      ⟨(some 8), .field 1 1 false (.t 7), none, [1, 2]⟩,
      ⟨(some 9), .loadn 1 (.t 2), none, []⟩,
      ⟨(some 10), .call (.c (.fn 60 [] [])) [.t 9], none, [1, 2, 4]⟩,
      ⟨(some 11), .field 1 1 false (.t 10), none, [4, 2, 1, 5]⟩,
      ⟨(some 12), .call (.c (.fn 27 [] [])) [.t 5, .t 8, .t 11], none, [4, 2, 1, 5, 6, 3, 0]⟩,
      ⟨(some 4), .mov (.t 12), none, [6, 5, 4, 3, 2, 1, 0, 7]⟩])
  (.ret)), 13, [.t 4]⟩
def xf53 : XFunc := ⟨.seq (.reg [⟨(some 1), .box 24 (.t 0), none, []⟩,
      ⟨(some 2), .mov (.c (.int .i64 0)), none, []⟩])
  (.seq (.reg [⟨(some 6), .loadn 1 (.t 1), none, []⟩,
      ⟨(some 7), .call (.c (.fn 88 [] [])) [.t 6], none, []⟩,
      ⟨(some 5), .mov (.t 7), none, []⟩,
      ⟨(some 8), .extract (.t 5) 0, none, []⟩,
      ⟨(some 9), .extract (.t 5) 1, none, []⟩,
      ⟨(some 3), .mov (.t 8), none, []⟩,
      ⟨(some 4), .mov (.t 9), none, []⟩])
  (.seq (.reg [⟨(some 10), .mov (.t 4), none, []⟩,
      ⟨(some 2), .mov (.t 10), none, []⟩])
  (.ret))), 11, [.t 2]⟩
def xf60 : XFunc := ⟨.seq (.reg [⟨(some 1), .box 24 (.t 0), none, []⟩,
      ⟨(some 2), .new 137 [.int .i64 0, .int .i64 0], none, []⟩])
  (.seq (.reg [⟨(some 3), .faddr 0 (.t 1), none, []⟩,
      ⟨(some 4), .load1 (.t 3), none, []⟩,
      ⟨(some 5), .faddr 0 (.t 1), none, []⟩,
      ⟨(some 6), .load1 (.t 5), none, []⟩,
      ⟨(some 7), .len (.t 6), none, []⟩,
      ⟨(some 8), .bin .sub (.t 7) (.c (.int .i64 1)), none, []⟩,
      ⟨(some 9), .iaddr 2 (.t 4) (.t 8), none, []⟩,
      ⟨(some 10), .loadn 2 (.t 9), none, []⟩,
      ⟨none, .store 2 (.t 2) (.t 10), none, []⟩])
  (.ret)), 11, [.cn 2 2]⟩
def xf143 : XFunc := ⟨.seq (.reg [⟨(some 3), .mov (.c (.int .i64 0)), none, []⟩])
  (.seq (.reg [⟨(some 4), .faddr 0 (.t 1), none, []⟩,
      ⟨(some 5), .load1 (.t 4), none, []⟩,
      ⟨(some 6), .mov (.t 0), none, []⟩,
      ⟨(some 7), .bin .add (.t 6) (.c (.int .i64 1)), none, []⟩,
      ⟨(some 8), .slice 2 (.t 5) none (some (.t 7)), none, []⟩,
      ⟨(some 9), .call (.c (.fn 144 [] [])) [.t 8], none, []⟩,
      ⟨(some 3), .mov (.t 9), none, []⟩])
  (.ret)), 10, [.t 3]⟩
def xf144 : XFunc := ⟨.seq (.reg [⟨(some 2), .mov (.c (.int .i64 0)), none, []⟩])
  (.seq (.reg [⟨(some 6), .mov (.t 0), none, []⟩,
      ⟨(some 7), .len (.t 6), none, []⟩,
      ⟨(some 3), .mov (.t 7), none, []⟩])
  (.seq (.reg [⟨(some 8), .mov (.t 0), none, []⟩,
      ⟨(some 9), .mov (.t 3), none, []⟩,
      ⟨(some 10), .bin .sub (.t 9) (.c (.int .i64 1)), none, []⟩,
      ⟨(some 11), .iaddr 2 (.t 8) (.t 10), none, []⟩,
      ⟨(some 12), .loadn 2 (.t 11), none, []⟩,
      ⟨(some 4), .new 137 [.int .i64 0, .int .i64 0], none, []⟩,
      ⟨none, .store 2 (.t 4) (.t 12), none, []⟩])
  (.seq (.seq (.reg [⟨(some 13), .faddr 0 (.t 4), none, []⟩,
      ⟨(some 14), .load1 (.t 13), none, []⟩,
      ⟨(some 15), .call (.c (.fn 92 [] [])) [.t 14, .c (.int .i64 0), .c (.int .i64 1000000)], none, []⟩,
      ⟨(some 16), .un .not (.t 15), none, []⟩,
      ⟨(some 17), .mov (.t 16), none, []⟩,
      ⟨(some 18), .faddr 1 (.t 4), (some (17, false)), []⟩,
      ⟨(some 19), .load1 (.t 18), (some (17, false)), []⟩,
      ⟨(some 20), .call (.c (.fn 92 [] [])) [.t 19, .c (.int .i64 0), .c (.int .i64 1000000000)], (some (17, false)), []⟩,
      ⟨(some 21), .un .not (.t 20), (some (17, false)), []⟩,
      ⟨(some 22), .pick (.t 17) (.c (.bool true)) (.t 21), none, []⟩])
  (.cond (.t 22) (.seq (.reg [⟨(some 2), .mov (.c (.int .i64 2)), none, []⟩])
    (.ret)) .skip))
  (.seq (.seq (.reg [⟨(some 23), .mov (.t 3), none, []⟩,
      ⟨(some 24), .bin .lss (.t 23) (.c (.int .i64 2)), none, []⟩])
  (.cond (.t 24) (.seq (.reg [⟨(some 2), .mov (.c (.int .i64 0)), none, []⟩])
    (.ret)) .skip))
  (.seq (.dreg [⟨(some 25), .mov (.t 0), none, []⟩,
      ⟨(some 26), .mov (.t 3), none, []⟩,
      ⟨(some 27), .bin .sub (.t 26) (.c (.int .i64 2)), none, [1]⟩,
      ⟨(some 28), .iaddr 2 (.t 25) (.t 27), none, [1, 2, 0]⟩,
      ⟨(some 29), .loadn 2 (.t 28), none, [0, 2, 1, 3]⟩,
      ⟨(some 30), .loadn 2 (.t 4), none, []⟩,
      ⟨(some 31), .build [.int .i64 0, .int .i64 0, .int .i64 0, .int .i64 0] [(0, 2, .t 29), (2, 2, .t 30)], none, [3, 1, 2, 0, 5, 4]⟩,
      ⟨(some 5), .new 195 [.int .i64 0, .int .i64 0, .int .i64 0, .int .i64 0], none, []⟩,
      ⟨none, .store 4 (.t 5) (.t 31), none, [5, 4, 3, 2, 1, 0, 6, 7]⟩])
  (.seq (.seq (.reg [⟨(some 32), .loadn 4 (.t 5), none, []⟩,
      ⟨(some 33), .call (.c (.fn 135 [] [])) [.t 32], none, []⟩,
      ⟨(some 34), .bin .leq (.t 33) (.c (.int .i64 0)), none, []⟩,
      ⟨(some 35), .mov (.t 34), none, []⟩,
      ⟨(some 36), .loadn 4 (.t 5), (some (35, false)), []⟩,
      ⟨(some 37), .call (.c (.fn 134 [] [])) [.t 36], (some (35, false)), []⟩,
      ⟨(some 38), .bin .leq (.t 37) (.c (.int .i64 0)), (some (35, false)), []⟩,
      ⟨(some 39), .pick (.t 35) (.c (.bool true)) (.t 38), none, []⟩])
  (.cond (.t 39) (.seq (.reg [⟨(some 2), .mov (.c (.int .i64 9)), none, []⟩])
    (.ret)) .skip))
  (.seq (.seq (.dreg [⟨(some 40), .mov (.t 3), none, []⟩,
      ⟨(some 41), .bin .gtr (.t 40) (.c (.int .i64 2)), none, [0]⟩,
      ⟨(some 42), .mov (.t 41), none, [0, 1]⟩,
      ⟨(some 43), .loadn 4 (.t 5), (some (42, true)), [1, 0, 2]⟩,
      ⟨(some 44), .mov (.t 0), (some (42, true)), [1, 0, 2]⟩,
      ⟨(some 45), .mov (.t 3), (some (42, true)), [1, 0, 2]⟩,
      ⟨(some 46), .bin .sub (.t 45) (.c (.int .i64 3)), (some (42, true)), [0, 1, 2, 5]⟩,
      ⟨(some 47), .iaddr 2 (.t 44) (.t 46), (some (42, true)), [5, 0, 1, 2, 6, 4]⟩,
      ⟨(some 48), .loadn 2 (.t 47), (some (42, true)), [4, 6, 1, 0, 5, 2, 7]⟩,
      ⟨(some 49), .mov (.t 0), (some (42, true)), [1, 0, 2]⟩,
      ⟨(some 50), .mov (.t 3), (some (42, true)), [1, 0, 2]⟩,
      ⟨(some 51), .bin .sub (.t 50) (.c (.int .i64 2)), (some (42, true)), [0, 1, 2, 10]⟩,
      ⟨(some 52), .iaddr 2 (.t 49) (.t 51), (some (42, true)), [10, 0, 1, 2, 11, 9]⟩,
      ⟨(some 53), .loadn 2 (.t 52), (some (42, true)), [9, 11, 1, 0, 10, 2, 12]⟩,
      ⟨(some 54), .build [.int .i64 0, .int .i64 0, .int .i64 0, .int .i64 0] [(0, 2, .t 48), (2, 2, .t 53)], (some (42, true)), [12, 10, 11, 9, 7, 5, 0, 1, 6, 4, 2, 13, 8]⟩,
      ⟨(some 55), .call (.c (.fn 154 [] [])) [.t 43, .t 54], (some (42, true)), [8, 13, 4, 6, 5, 7, 9, 11, 10, 12, 0, 1, 2, 14, 3]⟩,
      ⟨(some 56), .pick (.t 42) (.t 55) (.c (.bool false)), none, [3, 14, 12, 10, 11, 9, 7, 5, 6, 4, 13, 8, 1, 0, 15, 2]⟩])
  (.cond (.t 56) (.seq (.reg [⟨(some 2), .mov (.c (.int .i64 22)), none, []⟩])
    (.ret)) .skip))
  (.seq (.reg [⟨(some 2), .mov (.c (.int .i64 0)), none, []⟩])
  (.ret))))))))), 57, [.t 2]⟩
def xf91 : XFunc := ⟨.seq (.reg [⟨(some 1), .box 24 (.t 0), none, []⟩,
      ⟨(some 2), .new 101 [.nils], none, []⟩,
      ⟨(some 3), .mov (.c (.int .i64 0)), none, []⟩])
  (.seq (.reg [⟨(some 7), .loadn 1 (.t 1), none, []⟩,
      ⟨(some 8), .call (.c (.fn 121 [] [])) [.t 7], none, []⟩,
      ⟨(some 6), .mov (.t 8), none, []⟩,
      ⟨(some 9), .extract (.t 6) 0, none, []⟩,
      ⟨(some 10), .extract (.t 6) 1, none, []⟩,
      ⟨(some 4), .mov (.t 9), none, []⟩,
      ⟨(some 5), .mov (.t 10), none, []⟩])
  (.seq (.reg [⟨(some 11), .loadn 1 (.t 1), none, []⟩,
      ⟨(some 12), .build [.nils] [(0, 1, .t 11)], none, []⟩,
      ⟨(some 13), .mov (.t 5), none, []⟩,
      ⟨none, .store 1 (.t 2) (.t 12), none, []⟩,
      ⟨(some 3), .mov (.t 13), none, []⟩])
  (.ret))), 14, [.cn 2 1, .t 3]⟩
def xf122 : XFunc := ⟨.seq (.reg [⟨(some 2), .box 101 (.t 0), none, []⟩,
      ⟨(some 4), .mov (.c (.bool false)), none, []⟩])
  (.seq (.dreg [⟨(some 5), .mov (.t 1), none, []⟩,
      ⟨(some 6), .loadn 1 (.t 2), none, []⟩,
      ⟨(some 7), .call (.c (.fn 73 [] [])) [.t 6], none, [1]⟩,
      ⟨(some 8), .field 0 1 false (.t 7), none, [1, 2]⟩,
      ⟨(some 9), .loadn 1 (.t 2), none, []⟩,
      ⟨(some 10), .call (.c (.fn 72 [] [])) [.t 9], none, [1, 2, 4]⟩,
      ⟨(some 11), .field 0 1 false (.t 10), none, [4, 2, 1, 5]⟩,
      ⟨(some 12), .call (.c (.fn 92 [] [])) [.t 5, .t 8, .t 11], none, [4, 2, 1, 5, 6, 3, 0]⟩,
      ⟨(some 4), .mov (.t 12), none, [6, 5, 4, 3, 2, 1, 0, 7]⟩])
  (.ret)), 13, [.t 4]⟩
def xf130 : XFunc := ⟨.seq (.reg [⟨(some 2), .box 101 (.t 0), none, []⟩,
      ⟨(some 3), .box 3 (.t 1), none, []⟩,
      ⟨(some 4), .new 149 [.int .i64 0, .int .i64 0, .int .i64 0], none, []⟩])
  (.seq (.reg [⟨(some 6), .loadn 1 (.t 2), none, []⟩,
      ⟨(some 7), .fn true 150 [] [.t 3], none, []⟩,
      ⟨(some 8), .call (.c (.fn 132 [] [])) [.t 6, .t 7], none, []⟩,
      ⟨(some 5), .new 195 [.int .i64 0, .int .i64 0, .int .i64 0, .int .i64 0], none, []⟩,
      ⟨none, .store 4 (.t 5) (.t 8), none, []⟩])
  (.seq (.reg [⟨(some 9), .load1 (.t 3), none, []⟩,
      ⟨(some 10), .faddr 0 (.t 5), none, []⟩,
      ⟨(some 11), .faddr 0 (.t 10), none, []⟩,
      ⟨(some 12), .load1 (.t 11), none, []⟩,
      ⟨(some 13), .faddr 2 (.t 5), none, []⟩,
      ⟨(some 14), .faddr 0 (.t 13), none, []⟩,
      ⟨(some 15), .load1 (.t 14), none, []⟩,
      ⟨(some 16), .faddr 0 (.t 5), none, []⟩,
      ⟨(some 17), .faddr 1 (.t 16), none, []⟩,
      ⟨(some 18), .load1 (.t 17), none, []⟩,
      ⟨(some 19), .faddr 2 (.t 5), none, []⟩,
      ⟨(some 20), .faddr 1 (.t 19), none, []⟩,
      ⟨(some 21), .load1 (.t 20), none, []⟩,
      ⟨(some 22), .call (.c (.fn 110 [] [])) [.t 9, .t 12, .t 15, .t 18, .t 21], none, []⟩,
      ⟨none, .store 3 (.t 4) (.t 22), none, []⟩])
  (.ret))), 23, [.cn 4 3]⟩
def xf69 : XFunc := ⟨.seq (.reg [⟨(some 1), .box 149 (.t 0), none, []⟩,
      ⟨(some 2), .new 48 [.int .i64 0, .int .i64 0], none, []⟩])
  (.seq (.dreg [⟨(some 3), .faddr 0 (.t 1), none, []⟩,
      ⟨(some 4), .load1 (.t 3), none, [0]⟩,
      ⟨(some 5), .loadn 3 (.t 1), none, []⟩,
      ⟨(some 6), .call (.c (.fn 111 [] [])) [.t 5], none, [2]⟩,
      ⟨(some 7), .build [.int .i64 0, .int .i64 0] [(0, 1, .t 4), (1, 1, .t 6)], none, [2, 0, 3, 1]⟩,
      ⟨none, .store 2 (.t 2) (.t 7), none, [2, 1, 0, 3, 4]⟩])
  (.ret)), 8, [.cn 2 2]⟩
def xf67 : XFunc := ⟨.seq (.reg [⟨(some 2), .box 24 (.t 0), none, []⟩,
      ⟨(some 4), .new 101 [.nils], none, []⟩,
      ⟨(some 5), .mov (.c (.int .i64 0)), none, []⟩])
  (.seq (.reg [⟨(some 9), .loadn 1 (.t 2), none, []⟩,
      ⟨(some 10), .call (.c (.fn 91 [] [])) [.t 9], none, []⟩,
      ⟨(some 8), .mov (.t 10), none, []⟩,
      ⟨(some 11), .extract (.t 8) 0, none, []⟩,
      ⟨(some 12), .extract (.t 8) 1, none, []⟩,
      ⟨(some 6), .new 101 [.nils], none, []⟩,
      ⟨none, .store 1 (.t 6) (.t 11), none, []⟩,
      ⟨(some 7), .mov (.t 12), none, []⟩])
  (.seq (.seq (.reg [⟨(some 13), .mov (.t 7), none, []⟩,
      ⟨(some 14), .bin .eql (.t 13) (.c (.int .i64 0)), none, []⟩,
      ⟨(some 15), .mov (.t 14), none, []⟩,
      ⟨(some 16), .loadn 1 (.t 6), (some (15, true)), []⟩,
      ⟨(some 17), .mov (.t 1), (some (15, true)), []⟩,
      ⟨(some 18), .call (.c (.fn 76 [] [])) [.t 16, .t 17], (some (15, true)), []⟩,
      ⟨(some 19), .un .not (.t 18), (some (15, true)), []⟩,
      ⟨(some 20), .pick (.t 15) (.t 19) (.c (.bool false)), none, []⟩])
  (.cond (.t 20) (.reg [⟨(some 7), .mov (.c (.int .i64 2)), none, []⟩]) .skip))
  (.seq (.reg [⟨(some 21), .loadn 1 (.t 6), none, []⟩,
      ⟨(some 22), .mov (.t 7), none, []⟩,
      ⟨none, .store 1 (.t 4) (.t 21), none, []⟩,
      ⟨(some 5), .mov (.t 22), none, []⟩])
  (.ret)))), 23, [.cn 4 1, .t 5]⟩
def xf68 : XFunc := ⟨.seq (.reg [⟨(some 2), .box 101 (.t 0), none, []⟩,
      ⟨(some 4), .new 149 [.int .i64 0, .int .i64 0, .int .i64 0], none, []⟩])
  (.seq (.reg [⟨(some 6), .loadn 1 (.t 2), none, []⟩,
      ⟨(some 7), .mov (.t 1), none, []⟩,
      ⟨(some 8), .call (.c (.fn 109 [] [])) [.t 6, .t 7], none, []⟩,
      ⟨(some 5), .new 195 [.int .i64 0, .int .i64 0, .int .i64 0, .int .i64 0], none, []⟩,
      ⟨none, .store 4 (.t 5) (.t 8), none, []⟩])
  (.seq (.reg [⟨(some 9), .mov (.t 1), none, []⟩,
      ⟨(some 10), .faddr 0 (.t 5), none, []⟩,
      ⟨(some 11), .faddr 1 (.t 10), none, []⟩,
      ⟨(some 12), .load1 (.t 11), none, []⟩,
      ⟨(some 13), .faddr 2 (.t 5), none, []⟩,
      ⟨(some 14), .faddr 1 (.t 13), none, []⟩,
      ⟨(some 15), .load1 (.t 14), none, []⟩,
      ⟨(some 16), .faddr 0 (.t 5), none, []⟩,
      ⟨(some 17), .faddr 0 (.t 16), none, []⟩,
      ⟨(some 18), .load1 (.t 17), none, []⟩,
      ⟨(some 19), .faddr 2 (.t 5), none, []⟩,
      ⟨(some 20), .faddr 0 (.t 19), none, []⟩,
      ⟨(some 21), .load1 (.t 20), none, []⟩,
      ⟨(some 22), .call (.c (.fn 110 [] [])) [.t 9, .t 12, .t 15, .t 18, .t 21], none, []⟩,
      ⟨none, .store 3 (.t 4) (.t 22), none, []⟩])
  (.ret))), 23, [.cn 4 3]⟩
def xf109 : XFunc := ⟨.seq (.reg [⟨(some 2), .box 101 (.t 0), none, []⟩,
      ⟨(some 3), .box 3 (.t 1), none, []⟩,
      ⟨(some 4), .new 195 [.int .i64 0, .int .i64 0, .int .i64 0, .int .i64 0], none, []⟩])
  (.seq (.reg [⟨(some 5), .loadn 1 (.t 2), none, []⟩,
      ⟨(some 6), .fn true 133 [] [.t 3], none, []⟩,
      ⟨(some 7), .call (.c (.fn 132 [] [])) [.t 5, .t 6], none, []⟩,
      ⟨none, .store 4 (.t 4) (.t 7), none, []⟩])
  (.ret)), 8, [.cn 4 4]⟩
def xf134 : XFunc := ⟨.seq (.reg [⟨(some 1), .box 195 (.t 0), none, []⟩,
      ⟨(some 2), .mov (.c (.int .i64 0)), none, []⟩])
  (.seq (.reg [⟨(some 3), .faddr 2 (.t 1), none, []⟩,
      ⟨(some 4), .faddr 1 (.t 3), none, []⟩,
      ⟨(some 5), .load1 (.t 4), none, []⟩,
      ⟨(some 6), .faddr 0 (.t 1), none, []⟩,
      ⟨(some 7), .faddr 1 (.t 6), none, []⟩,
      ⟨(some 8), .load1 (.t 7), none, []⟩,
      ⟨(some 9), .bin .sub (.t 5) (.t 8), none, []⟩,
      ⟨(some 2), .mov (.t 9), none, []⟩])
  (.ret)), 10, [.t 2]⟩
def xf135 : XFunc := ⟨.seq (.reg [⟨(some 1), .box 195 (.t 0), none, []⟩,
      ⟨(some 2), .mov (.c (.int .i64 0)), none, []⟩])
  (.seq (.reg [⟨(some 3), .faddr 2 (.t 1), none, []⟩,
      ⟨(some 4), .faddr 0 (.t 3), none, []⟩,
      ⟨(some 5), .load1 (.t 4), none, []⟩,
      ⟨(some 6), .faddr 0 (.t 1), none, []⟩,
      ⟨(some 7), .faddr 0 (.t 6), none, []⟩,
      ⟨(some 8), .load1 (.t 7), none, []⟩,
      ⟨(some 9), .bin .sub (.t 5) (.t 8), none, []⟩,
      ⟨(some 2), .mov (.t 9), none, []⟩])
  (.ret)), 10, [.t 2]⟩
def xf119 : XFunc := ⟨.seq (.reg [⟨(some 2), .box 24 (.t 0), none, []⟩,
      ⟨(some 4), .new 181 [.int .i64 0, .nils, .int .i64 0, .nils], none, []⟩])
  (.seq (.dreg [⟨(some 7), .faddr 0 (.t 2), none, []⟩,
      ⟨(some 8), .load1 (.t 7), none, [0]⟩,
      ⟨(some 9), .mov (.t 1), none, []⟩,
      ⟨(some 10), .bin .sub (.t 9) (.c (.int .i64 1)), none, [2]⟩,
      ⟨(some 11), .iaddr 2 (.t 8) (.t 10), none, [2, 0, 3, 1]⟩,
      ⟨(some 12), .loadn 2 (.t 11), none, [1, 3, 0, 2, 4]⟩,
      ⟨(some 13), .faddr 0 (.t 2), none, []⟩,
      ⟨(some 14), .load1 (.t 13), none, [6]⟩,
      ⟨(some 15), .mov (.t 1), none, []⟩,
      ⟨(some 16), .iaddr 2 (.t 14) (.t 15), none, [6, 8, 7]⟩,
      ⟨(some 17), .loadn 2 (.t 16), none, [7, 8, 6, 9]⟩,
      ⟨(some 5), .new 137 [.int .i64 0, .int .i64 0], none, []⟩,
      ⟨(some 6), .new 137 [.int .i64 0, .int .i64 0], none, []⟩,
      ⟨none, .store 2 (.t 5) (.t 12), none, [12, 4, 3, 2, 1, 0, 5, 11]⟩,
      ⟨none, .store 2 (.t 6) (.t 17), none, [11, 9, 8, 7, 6, 5, 4, 3, 2, 1, 0, 13, 10, 12]⟩])
  (.seq (.reg [⟨(some 18), .faddr 1 (.t 6), none, []⟩,
      ⟨(some 19), .load1 (.t 18), none, []⟩,
      ⟨(some 20), .faddr 1 (.t 5), none, []⟩,
      ⟨(some 21), .load1 (.t 20), none, []⟩,
      ⟨(some 22), .bin .sub (.t 19) (.t 21), none, []⟩,
      ⟨(some 23), .faddr 0 (.t 6), none, []⟩,
      ⟨(some 24), .load1 (.t 23), none, []⟩,
      ⟨(some 25), .faddr 0 (.t 5), none, []⟩,
      ⟨(some 26), .load1 (.t 25), none, []⟩,
      ⟨(some 27), .bin .sub (.t 24) (.t 26), none, []⟩,
      ⟨(some 28), .call (.c (.fn 140 [] [])) [.t 22, .t 27], none, []⟩,
      ⟨none, .store 4 (.t 4) (.t 28), none, []⟩])
  (.ret))), 29, [.cn 4 4]⟩
def xf59 : XFunc := ⟨.seq (.reg [⟨(some 1), .box 24 (.t 0), none, []⟩,
      ⟨(some 2), .new 137 [.int .i64 0, .int .i64 0], none, []⟩])
  (.seq (.reg [⟨(some 3), .faddr 0 (.t 1), none, []⟩,
      ⟨(some 4), .load1 (.t 3), none, []⟩,
      ⟨(some 5), .iaddr 2 (.t 4) (.c (.int .i64 0)), none, []⟩,
      ⟨(some 6), .loadn 2 (.t 5), none, []⟩,
      ⟨none, .store 2 (.t 2) (.t 6), none, []⟩])
  (.ret)), 7, [.cn 2 2]⟩
def xf116 : XFunc := ⟨.seq (.reg [⟨(some 1), .box 181 (.t 0), none, []⟩,
      ⟨(some 2), .new 48 [.int .i64 0, .int .i64 0], none, []⟩])
  (.seq (.reg [⟨(some 8), .loadn 4 (.t 1), none, []⟩,
      ⟨(some 9), .call (.c (.fn 137 [] [])) [.t 8], none, []⟩,
      ⟨(some 10), .call (.c (.fn 136 [] [])) [.t 9], none, []⟩,
      ⟨(some 7), .mov (.t 10), none, []⟩,
      ⟨(some 11), .extract (.t 7) 0, none, []⟩,
      ⟨(some 12), .extract (.t 7) 1, none, []⟩,
      ⟨(some 3), .mov (.t 11), none, []⟩,
      ⟨(some 4), .mov (.t 12), none, []⟩])
  (.seq (.reg [⟨(some 14), .loadn 4 (.t 1), none, []⟩,
      ⟨(some 15), .call (.c (.fn 138 [] [])) [.t 14], none, []⟩,
      ⟨(some 16), .call (.c (.fn 136 [] [])) [.t 15], none, []⟩,
      ⟨(some 13), .mov (.t 16), none, []⟩,
      ⟨(some 17), .extract (.t 13) 0, none, []⟩,
      ⟨(some 18), .extract (.t 13) 1, none, []⟩,
      ⟨(some 5), .mov (.t 17), none, []⟩,
      ⟨(some 6), .mov (.t 18), none, []⟩])
  (.seq (.reg [⟨(some 19), .mov (.t 3), none, []⟩,
      ⟨(some 20), .mov (.t 5), none, []⟩,
      ⟨(some 21), .build [.int .i64 0, .int .i64 0] [(0, 1, .t 19), (1, 1, .t 20)], none, []⟩,
      ⟨none, .store 2 (.t 2) (.t 21), none, []⟩])
  (.ret)))), 22, [.cn 2 2]⟩
def xf131l0 : XCode := .seq (.seq (.reg [⟨(some 7), .faddr 0 (.t 2), none, []⟩,
      ⟨(some 8), .load1 (.t 7), none, []⟩,
      ⟨(some 9), .mov (.t 5), none, []⟩,
      ⟨(some 10), .iaddr 2 (.t 8) (.t 9), none, []⟩,
      ⟨(some 11), .faddr 0 (.t 10), none, []⟩,
      ⟨(some 12), .load1 (.t 11), none, []⟩,
      ⟨(some 13), .mov (.t 1), none, []⟩,
      ⟨(some 14), .bin .lss (.t 12) (.t 13), none, []⟩])
  (.cond (.t 14) .skip (.exit 0)))
  (.block 1 (.reg [⟨(some 15), .mov (.t 5), none, []⟩,
        ⟨(some 16), .bin .add (.t 15) (.c (.int .i64 1)), none, []⟩,
        ⟨(some 5), .mov (.t 16), none, []⟩]))
def xf131 : XFunc := ⟨.seq (.reg [⟨(some 2), .box 24 (.t 0), none, []⟩,
      ⟨(some 4), .new 181 [.int .i64 0, .nils, .int .i64 0, .nils], none, []⟩])
  (.seq (.reg [⟨(some 5), .mov (.c (.int .i64 1)), none, []⟩])
  (.seq (.block 0 (.loop xf131l0))
  (.seq (.reg [⟨(some 17), .faddr 0 (.t 2), none, []⟩,
      ⟨(some 18), .load1 (.t 17), none, []⟩,
      ⟨(some 19), .mov (.t 5), none, []⟩,
      ⟨(some 20), .bin .sub (.t 19) (.c (.int .i64 1)), none, []⟩,
      ⟨(some 21), .iaddr 2 (.t 18) (.t 20), none, []⟩,
      ⟨(some 22), .loadn 2 (.t 21), none, []⟩,
      ⟨(some 6), .new 137 [.int .i64 0, .int .i64 0], none, []⟩,
      ⟨none, .store 2 (.t 6) (.t 22), none, []⟩])
  (.seq (.dreg [⟨(some 23), .faddr 1 (.t 6), none, []⟩,
      ⟨(some 24), .load1 (.t 23), none, [0]⟩,
      ⟨(some 25), .call (.c (.fn 100 [] [])) [.t 24], none, [0, 1]⟩,
      ⟨(some 26), .mov (.t 1), none, []⟩,
      ⟨(some 27), .faddr 0 (.t 6), none, []⟩,
      ⟨(some 28), .load1 (.t 27), none, [4]⟩,
      ⟨(some 29), .bin .sub (.t 26) (.t 28), none, [4, 5, 3]⟩,
      ⟨(some 30), .call (.c (.fn 100 [] [])) [.t 29], none, [1, 0, 3, 5, 4, 2, 6]⟩,
      ⟨(some 31), .loadn 1 (.t 2), none, []⟩,
      ⟨(some 32), .mov (.t 5), none, []⟩,
      ⟨(some 33), .call (.c (.fn 119 [] [])) [.t 31, .t 32], none, [6, 2, 4, 5, 3, 0, 1, 7, 9, 8]⟩,
      ⟨(some 34), .call (.c (.fn 118 [] [])) [.t 30, .t 33], none, [8, 9, 6, 2, 4, 5, 3, 0, 1, 10, 7]⟩,
      ⟨(some 35), .call (.c (.fn 123 [] [])) [.t 25, .t 34], none, [7, 10, 3, 5, 4, 6, 9, 8, 1, 0, 11, 2]⟩,
      ⟨none, .store 4 (.t 4) (.t 35), none, [11, 10, 9, 8, 7, 6, 5, 4, 3, 2, 1, 0, 12]⟩])
  (.ret))))), 36, [.cn 4 4]⟩
def xf97 : XFunc := ⟨.seq (.reg [⟨(some 2), .box 24 (.t 0), none, []⟩,
      ⟨(some 4), .new 181 [.int .i64 0, .nils, .int .i64 0, .nils], none, []⟩])
  (.seq (.reg [⟨(some 7), .loadn 1 (.t 2), none, []⟩,
      ⟨(some 8), .mov (.t 1), none, []⟩,
      ⟨(some 9), .call (.c (.fn 115 [] [])) [.t 7, .t 8], none, []⟩,
      ⟨(some 5), .mov (.t 9), none, []⟩])
  (.seq (.reg [⟨(some 10), .faddr 0 (.t 2), none, []⟩,
      ⟨(some 11), .load1 (.t 10), none, []⟩,
      ⟨(some 12), .mov (.t 5), none, []⟩,
      ⟨(some 13), .bin .sub (.t 12) (.c (.int .i64 1)), none, []⟩,
      ⟨(some 14), .iaddr 2 (.t 11) (.t 13), none, []⟩,
      ⟨(some 15), .loadn 2 (.t 14), none, []⟩,
      ⟨(some 6), .new 137 [.int .i64 0, .int .i64 0], none, []⟩,
      ⟨none, .store 2 (.t 6) (.t 15), none, []⟩])
  (.seq (.dreg [⟨(some 16), .faddr 0 (.t 6), none, []⟩,
      ⟨(some 17), .load1 (.t 16), none, [0]⟩,
      ⟨(some 18), .call (.c (.fn 100 [] [])) [.t 17], none, [0, 1]⟩,
      ⟨(some 19), .mov (.t 1), none, []⟩,
      ⟨(some 20), .faddr 1 (.t 6), none, []⟩,
      ⟨(some 21), .load1 (.t 20), none, [4]⟩,
      ⟨(some 22), .bin .sub (.t 19) (.t 21), none, [4, 5, 3]⟩,
      ⟨(some 23), .call (.c (.fn 100 [] [])) [.t 22], none, [1, 0, 3, 5, 4, 2, 6]⟩,
      ⟨(some 24), .loadn 1 (.t 2), none, []⟩,
      ⟨(some 25), .mov (.t 5), none, []⟩,
      ⟨(some 26), .call (.c (.fn 119 [] [])) [.t 24, .t 25], none, [6, 2, 4, 5, 3, 0, 1, 7, 9, 8]⟩,
      ⟨(some 27), .call (.c (.fn 117 [] [])) [.t 23, .t 26], none, [8, 9, 6, 2, 4, 5, 3, 0, 1, 10, 7]⟩,
      ⟨(some 28), .call (.c (.fn 123 [] [])) [.t 18, .t 27], none, [7, 10, 3, 5, 4, 6, 9, 8, 1, 0, 11, 2]⟩,
      ⟨none, .store 4 (.t 4) (.t 28), none, [11, 10, 9, 8, 7, 6, 5, 4, 3, 2, 1, 0, 12]⟩])
  (.ret)))), 29, [.cn 4 4]⟩
def xf115l0 : XCode := .seq (.seq (.reg [⟨(some 6), .faddr 0 (.t 2), none, []⟩,
      ⟨(some 7), .load1 (.t 6), none, []⟩,
      ⟨(some 8), .mov (.t 5), none, []⟩,
      ⟨(some 9), .iaddr 2 (.t 7) (.t 8), none, []⟩,
      ⟨(some 10), .faddr 1 (.t 9), none, []⟩,
      ⟨(some 11), .load1 (.t 10), none, []⟩,
      ⟨(some 12), .mov (.t 1), none, []⟩,
      ⟨(some 13), .bin .lss (.t 11) (.t 12), none, []⟩])
  (.cond (.t 13) .skip (.exit 0)))
  (.block 1 (.reg [⟨(some 14), .mov (.t 5), none, []⟩,
        ⟨(some 15), .bin .add (.t 14) (.c (.int .i64 1)), none, []⟩,
        ⟨(some 5), .mov (.t 15), none, []⟩]))
def xf115 : XFunc := ⟨.seq (.reg [⟨(some 2), .box 24 (.t 0), none, []⟩,
      ⟨(some 4), .mov (.c (.int .i64 0)), none, []⟩])
  (.seq (.reg [⟨(some 5), .mov (.c (.int .i64 1)), none, []⟩])
  (.seq (.block 0 (.loop xf115l0))
  (.seq (.reg [⟨(some 16), .mov (.t 5), none, []⟩,
      ⟨(some 4), .mov (.t 16), none, []⟩])
  (.ret)))), 17, [.t 4]⟩
def xf72 : XFunc := ⟨.seq (.reg [⟨(some 1), .box 101 (.t 0), none, []⟩,
      ⟨(some 2), .new 137 [.int .i64 0, .int .i64 0], none, []⟩])
  (.seq (.reg [⟨(some 3), .faddr 0 (.t 1), none, []⟩,
      ⟨(some 4), .faddr 0 (.t 3), none, []⟩,
      ⟨(some 5), .load1 (.t 4), none, []⟩,
      ⟨(some 6), .faddr 0 (.t 1), none, []⟩,
      ⟨(some 7), .faddr 0 (.t 6), none, []⟩,
      ⟨(some 8), .load1 (.t 7), none, []⟩,
      ⟨(some 9), .len (.t 8), none, []⟩,
      ⟨(some 10), .bin .sub (.t 9) (.c (.int .i64 1)), none, []⟩,
      ⟨(some 11), .iaddr 2 (.t 5) (.t 10), none, []⟩,
      ⟨(some 12), .loadn 2 (.t 11), none, []⟩,
      ⟨none, .store 2 (.t 2) (.t 12), none, []⟩])
  (.ret)), 13, [.cn 2 2]⟩
def xf73 : XFunc := ⟨.seq (.reg [⟨(some 1), .box 101 (.t 0), none, []⟩,
      ⟨(some 2), .new 137 [.int .i64 0, .int .i64 0], none, []⟩])
  (.seq (.reg [⟨(some 3), .faddr 0 (.t 1), none, []⟩,
      ⟨(some 4), .faddr 0 (.t 3), none, []⟩,
      ⟨(some 5), .load1 (.t 4), none, []⟩,
      ⟨(some 6), .iaddr 2 (.t 5) (.c (.int .i64 0)), none, []⟩,
      ⟨(some 7), .loadn 2 (.t 6), none, []⟩,
      ⟨none, .store 2 (.t 2) (.t 7), none, []⟩])
  (.ret)), 8, [.cn 2 2]⟩
def xf154 : XFunc := ⟨.seq (.reg [⟨(some 2), .box 195 (.t 0), none, []⟩,
      ⟨(some 3), .box 195 (.t 1), none, []⟩,
      ⟨(some 4), .mov (.c (.bool false)), none, []⟩])
  (.seq (.dreg [⟨(some 5), .loadn 4 (.t 2), none, []⟩,
      ⟨(some 6), .call (.c (.fn 134 [] [])) [.t 5], none, [0]⟩,
      ⟨(some 7), .loadn 4 (.t 3), none, []⟩,
      ⟨(some 8), .call (.c (.fn 135 [] [])) [.t 7], none, [0, 1, 2]⟩,
      ⟨(some 9), .bin .mul (.t 6) (.t 8), none, [2, 0, 3, 1]⟩,
      ⟨(some 10), .loadn 4 (.t 3), none, []⟩,
      ⟨(some 11), .call (.c (.fn 134 [] [])) [.t 10], none, [2, 1, 0, 3, 5]⟩,
      ⟨(some 12), .loadn 4 (.t 2), none, []⟩,
      ⟨(some 13), .call (.c (.fn 135 [] [])) [.t 12], none, [5, 3, 0, 1, 2, 6, 7]⟩,
      ⟨(some 14), .bin .mul (.t 11) (.t 13), none, [7, 5, 3, 0, 1, 2, 8, 6]⟩,
      ⟨(some 15), .bin .lss (.t 9) (.t 14), none, [6, 8, 5, 7, 1, 3, 0, 2, 9, 4]⟩,
      ⟨(some 4), .mov (.t 15), none, [9, 7, 6, 5, 4, 3, 2, 1, 0, 8, 10]⟩])
  (.ret)), 16, [.t 4]⟩
def xf132l0 : XCode := .seq (.seq (.reg [⟨(some 6), .mov (.t 5), none, []⟩,
      ⟨(some 7), .faddr 0 (.t 2), none, []⟩,
      ⟨(some 8), .faddr 0 (.t 7), none, []⟩,
      ⟨(some 9), .load1 (.t 8), none, []⟩,
      ⟨(some 10), .len (.t 9), none, []⟩,
      ⟨(some 11), .bin .sub (.t 10) (.c (.int .i64 1)), none, []⟩,
      ⟨(some 12), .bin .lss (.t 6) (.t 11), none, []⟩,
      ⟨(some 13), .mov (.t 12), none, []⟩,
      ⟨(some 14), .mov (.t 1), (some (13, true)), []⟩,
      ⟨(some 15), .faddr 0 (.t 2), (some (13, true)), []⟩,
      ⟨(some 16), .faddr 0 (.t 15), (some (13, true)), []⟩,
      ⟨(some 17), .load1 (.t 16), (some (13, true)), []⟩,
      ⟨(some 18), .mov (.t 5), (some (13, true)), []⟩,
      ⟨(some 19), .iaddr 2 (.t 17) (.t 18), (some (13, true)), []⟩,
      ⟨(some 20), .loadn 2 (.t 19), (some (13, true)), []⟩,
      ⟨(some 21), .call (.t 14) [.t 20], (some (13, true)), []⟩,
      ⟨(some 22), .un .not (.t 21), (some (13, true)), []⟩,
      ⟨(some 23), .pick (.t 13) (.t 22) (.c (.bool false)), none, []⟩])
  (.cond (.t 23) .skip (.exit 0)))
  (.block 1 (.reg [⟨(some 24), .mov (.t 5), none, []⟩,
        ⟨(some 25), .bin .add (.t 24) (.c (.int .i64 1)), none, []⟩,
        ⟨(some 5), .mov (.t 25), none, []⟩]))
def xf132 : XFunc := ⟨.seq (.reg [⟨(some 2), .box 101 (.t 0), none, []⟩,
      ⟨(some 4), .new 195 [.int .i64 0, .int .i64 0, .int .i64 0, .int .i64 0], none, []⟩])
  (.seq (.reg [⟨(some 5), .mov (.c (.int .i64 1)), none, []⟩])
  (.seq (.block 0 (.loop xf132l0))
  (.seq (.dreg [⟨(some 26), .faddr 0 (.t 2), none, []⟩,
      ⟨(some 27), .faddr 0 (.t 26), none, [0]⟩,
      ⟨(some 28), .load1 (.t 27), none, [0, 1]⟩,
      ⟨(some 29), .mov (.t 5), none, []⟩,
      ⟨(some 30), .bin .sub (.t 29) (.c (.int .i64 1)), none, [3]⟩,
      ⟨(some 31), .iaddr 2 (.t 28) (.t 30), none, [3, 1, 0, 4, 2]⟩,
      ⟨(some 32), .loadn 2 (.t 31), none, [2, 4, 0, 1, 3, 5]⟩,
      ⟨(some 33), .faddr 0 (.t 2), none, []⟩,
      ⟨(some 34), .faddr 0 (.t 33), none, [7]⟩,
      ⟨(some 35), .load1 (.t 34), none, [7, 8]⟩,
      ⟨(some 36), .mov (.t 5), none, []⟩,
      ⟨(some 37), .iaddr 2 (.t 35) (.t 36), none, [8, 7, 10, 9]⟩,
      ⟨(some 38), .loadn 2 (.t 37), none, [9, 10, 7, 8, 11]⟩,
      ⟨(some 39), .build [.int .i64 0, .int .i64 0, .int .i64 0, .int .i64 0] [(0, 2, .t 32), (2, 2, .t 38)], none, [11, 8, 7, 10, 9, 5, 3, 1, 0, 4, 2, 12, 6]⟩,
      ⟨none, .store 4 (.t 4) (.t 39), none, [12, 11, 10, 9, 8, 7, 6, 5, 4, 3, 2, 1, 0, 13]⟩])
  (.ret)))), 40, [.cn 4 4]⟩
def xf150 : XFunc := ⟨.seq (.reg [⟨(some 2), .box 137 (.t 0), none, []⟩,
      ⟨(some 3), .mov (.c (.bool false)), none, []⟩])
  (.seq (.reg [⟨(some 4), .faddr 0 (.t 2), none, []⟩,
      ⟨(some 5), .load1 (.t 4), none, []⟩,
      ⟨(some 6), .load1 (.t 1), none, []⟩,
      ⟨(some 7), .bin .geq (.t 5) (.t 6), none, []⟩,
      ⟨(some 3), .mov (.t 7), none, []⟩])
  (.ret)), 8, [.t 3]⟩
def xf110 : XFunc := ⟨.seq (.reg [⟨(some 10), .new 149 [.int .i64 0, .int .i64 0, .int .i64 0], none, []⟩])
  (.seq (.reg [⟨(some 13), .mov (.t 0), none, []⟩,
      ⟨(some 14), .mov (.t 1), none, []⟩,
      ⟨(some 15), .bin .sub (.t 13) (.t 14), none, []⟩,
      ⟨(some 16), .mov (.t 4), none, []⟩,
      ⟨(some 17), .mov (.t 3), none, []⟩,
      ⟨(some 18), .bin .sub (.t 16) (.t 17), none, []⟩,
      ⟨(some 19), .bin .mul (.t 15) (.t 18), none, []⟩,
      ⟨(some 20), .mov (.t 2), none, []⟩,
      ⟨(some 21), .mov (.t 1), none, []⟩,
      ⟨(some 22), .bin .sub (.t 20) (.t 21), none, []⟩,
      ⟨(some 11), .mov (.t 19), none, []⟩,
      ⟨(some 12), .mov (.t 22), none, []⟩])
  (.seq (.dreg [⟨(some 23), .mov (.t 3), none, []⟩,
      ⟨(some 24), .mov (.t 11), none, []⟩,
      ⟨(some 25), .mov (.t 12), none, []⟩,
      ⟨(some 26), .bin .quo (.t 24) (.t 25), none, [2, 1]⟩,
      ⟨(some 27), .bin .add (.t 23) (.t 26), none, [1, 2, 3, 0]⟩,
      ⟨(some 28), .mov (.t 11), none, []⟩,
      ⟨(some 29), .mov (.t 12), none, []⟩,
      ⟨(some 30), .bin .rem (.t 28) (.t 29), none, [6, 5]⟩,
      ⟨(some 31), .mov (.t 12), none, []⟩,
      ⟨(some 32), .build [.int .i64 0, .int .i64 0, .int .i64 0] [(0, 1, .t 27), (1, 1, .t 30), (2, 1, .t 31)], none, [5, 6, 0, 3, 2, 1, 8, 7, 4]⟩,
      ⟨none, .store 3 (.t 10) (.t 32), none, [8, 7, 6, 5, 4, 3, 2, 1, 0, 9]⟩])
  (.ret))), 33, [.cn 10 3]⟩
def xf111 : XFunc := ⟨.seq (.reg [⟨(some 1), .box 149 (.t 0), none, []⟩,
      ⟨(some 2), .mov (.c (.int .i64 0)), none, []⟩])
  (.seq (.seq (.reg [⟨(some 3), .faddr 1 (.t 1), none, []⟩,
      ⟨(some 4), .load1 (.t 3), none, []⟩,
      ⟨(some 5), .bin .gtr (.t 4) (.c (.int .i64 0)), none, []⟩])
  (.cond (.t 5) (.seq (.reg [⟨(some 6), .faddr 0 (.t 1), none, []⟩,
        ⟨(some 7), .load1 (.t 6), none, []⟩,
        ⟨(some 8), .bin .add (.t 7) (.c (.int .i64 1)), none, []⟩,
        ⟨(some 2), .mov (.t 8), none, []⟩])
    (.ret)) .skip))
  (.seq (.reg [⟨(some 9), .faddr 0 (.t 1), none, []⟩,
      ⟨(some 10), .load1 (.t 9), none, []⟩,
      ⟨(some 2), .mov (.t 10), none, []⟩])
  (.ret))), 11, [.t 2]⟩
def xf76 : XFunc := ⟨.seq (.reg [⟨(some 2), .box 101 (.t 0), none, []⟩,
      ⟨(some 4), .mov (.c (.bool false)), none, []⟩])
  (.seq (.dreg [⟨(some 5), .mov (.t 1), none, []⟩,
      ⟨(some 6), .loadn 1 (.t 2), none, []⟩,
      ⟨(some 7), .call (.c (.fn 73 [] [])) [.t 6], none, [1]⟩,
      ⟨(some 8), .field 1 1 false (.t 7), none, [1, 2]⟩,
      ⟨(some 9), .loadn 1 (.t 2), none, []⟩,
      ⟨(some 10), .call (.c (.fn 72 [] [])) [.t 9], none, [1, 2, 4]⟩,
      ⟨(some 11), .field 1 1 false (.t 10), none, [4, 2, 1, 5]⟩,
      ⟨(some 12), .call (.c (.fn 92 [] [])) [.t 5, .t 8, .t 11], none, [4, 2, 1, 5, 6, 3, 0]⟩,
      ⟨(some 4), .mov (.t 12), none, [6, 5, 4, 3, 2, 1, 0, 7]⟩])
  (.ret)), 13, [.t 4]⟩
def xf133 : XFunc := ⟨.seq (.reg [⟨(some 2), .box 137 (.t 0), none, []⟩,
      ⟨(some 3), .mov (.c (.bool false)), none, []⟩])
  (.seq (.reg [⟨(some 4), .faddr 1 (.t 2), none, []⟩,
      ⟨(some 5), .load1 (.t 4), none, []⟩,
      ⟨(some 6), .load1 (.t 1), none, []⟩,
      ⟨(some 7), .bin .geq (.t 5) (.t 6), none, []⟩,
      ⟨(some 3), .mov (.t 7), none, []⟩])
  (.ret)), 8, [.t 3]⟩
structure TabCode (X : FuncId → Option XFunc) : Prop where
  sea : SeaCode X
  wide : WideCode X
  h29 : X 29 = some xf29
  h121 : X 121 = some xf121
  h31 : X 31 = some xf31
  h39 : X 39 = some xf39
  h88 : X 88 = some xf88
  h89 : X 89 = some xf89
  h108 : X 108 = some xf108
  h82 : X 82 = some xf82
  h53 : X 53 = some xf53
  h60 : X 60 = some xf60
  h143 : X 143 = some xf143
  h144 : X 144 = some xf144
  h91 : X 91 = some xf91
  h122 : X 122 = some xf122
  h130 : X 130 = some xf130
  h69 : X 69 = some xf69
  h67 : X 67 = some xf67
  h68 : X 68 = some xf68
  h109 : X 109 = some xf109
  h134 : X 134 = some xf134
  h135 : X 135 = some xf135
  h119 : X 119 = some xf119
  h59 : X 59 = some xf59
  h116 : X 116 = some xf116
  h131 : X 131 = some xf131
  h97 : X 97 = some xf97
  h115 : X 115 = some xf115
  h72 : X 72 = some xf72
  h73 : X 73 = some xf73
  h154 : X 154 = some xf154
  h132 : X 132 = some xf132
  h150 : X 150 = some xf150
  h110 : X 110 = some xf110
  h111 : X 111 = some xf111
  h76 : X 76 = some xf76
  h133 : X 133 = some xf133
end Go.Proofs.YtbgjmclpahganaaGreat.Eng

/-
  CODE of Pair.
-/
namespace Go.Proofs.YtbgjmclpahganaaGreat.Eng
set_option linter.unusedSimpArgs false
set_option linter.unusedVariables false
def xf55 : XFunc := ⟨.seq (.reg [⟨(some 1), .box 26 (.t 0), none, []⟩,
      ⟨(some 2), .new 104 [.nils, .nils, .int .i64 0], none, []⟩,
      ⟨(some 3), .mov (.c (.int .i64 0)), none, []⟩])
  (.seq (.reg [⟨(some 7), .faddr 0 (.t 1), none, []⟩,
      ⟨(some 8), .loadn 1 (.t 7), none, []⟩,
      ⟨(some 9), .faddr 1 (.t 1), none, []⟩,
      ⟨(some 10), .loadn 1 (.t 9), none, []⟩,
      ⟨(some 11), .build [.nils, .nils] [(0, 1, .t 8), (1, 1, .t 10)], none, []⟩,
      ⟨(some 4), .new 173 [.nils, .nils], none, []⟩,
      ⟨none, .store 2 (.t 4) (.t 11), none, []⟩])
  (.seq (.reg [⟨(some 12), .faddr 2 (.t 1), none, []⟩,
      ⟨(some 13), .load1 (.t 12), none, []⟩,
      ⟨(some 14), .build [.nils, .nils, .int .i64 0] [(2, 1, .t 13)], none, []⟩,
      ⟨(some 5), .new 104 [.nils, .nils, .int .i64 0], none, []⟩,
      ⟨none, .store 3 (.t 5) (.t 14), none, []⟩])
  (.seq (.dreg [⟨(some 15), .fn false 90 [] [.t 4, .t 5], none, []⟩,
      ⟨(some 16), .call (.c (.fn 79 [] [])) [.c (.int .i64 2), .t 15], none, [0]⟩,
      ⟨(some 17), .faddr 2 (.t 1), none, []⟩,
      ⟨(some 18), .load1 (.t 17), none, [2]⟩,
      ⟨(some 19), .call (.c (.fn 92 [] [])) [.t 18, .c (.int .i64 0), .c (.int .i64 1000)], none, [0, 2, 1, 3]⟩,
      ⟨(some 20), .un .not (.t 19), none, [3, 1, 2, 0, 4]⟩,
      ⟨(some 21), .call (.c (.fn 78 [] [])) [.t 20, .c (.int .i64 2)], none, [0, 2, 1, 3, 4, 5]⟩,
      ⟨(some 22), .buildSlice 159 1 2 false [.nilfn, .nilfn] [(0, 1, .t 16), (1, 1, .t 21)], none, [5, 4, 3, 2, 0, 6, 1]⟩,
      ⟨(some 23), .call (.c (.fn 77 [] [])) [.t 22], none, [1, 0, 2, 3, 4, 5, 6, 7]⟩,
      ⟨(some 6), .mov (.t 23), none, [7, 6, 5, 4, 3, 2, 1, 0, 8]⟩])
  (.seq (.reg [⟨(some 24), .loadn 3 (.t 5), none, []⟩,
      ⟨(some 25), .mov (.t 6), none, []⟩,
      ⟨none, .store 3 (.t 2) (.t 24), none, []⟩,
      ⟨(some 3), .mov (.t 25), none, []⟩])
  (.ret))))), 26, [.cn 2 3, .t 3]⟩
def xf90 : XFunc := ⟨.seq (.reg [⟨(some 4), .mov (.c (.int .i64 0)), none, []⟩])
  (.seq (.reg [⟨(some 8), .mov (.t 0), none, []⟩,
      ⟨(some 9), .iaddrA 1 2 (.t 1) (.t 8), none, []⟩,
      ⟨(some 10), .loadn 1 (.t 9), none, []⟩,
      ⟨(some 11), .call (.c (.fn 91 [] [])) [.t 10], none, []⟩,
      ⟨(some 7), .mov (.t 11), none, []⟩,
      ⟨(some 12), .extract (.t 7) 0, none, []⟩,
      ⟨(some 13), .extract (.t 7) 1, none, []⟩,
      ⟨(some 5), .new 101 [.nils], none, []⟩,
      ⟨none, .store 1 (.t 5) (.t 12), none, []⟩,
      ⟨(some 6), .mov (.t 13), none, []⟩])
  (.seq (.reg [⟨(some 14), .mov (.t 0), none, []⟩,
      ⟨(some 15), .loadn 1 (.t 5), none, []⟩,
      ⟨(some 16), .faddr 0 (.t 2), none, []⟩,
      ⟨(some 17), .iaddrA 1 2 (.t 16) (.t 14), none, []⟩,
      ⟨none, .store 1 (.t 17) (.t 15), none, []⟩])
  (.seq (.reg [⟨(some 18), .mov (.t 6), none, []⟩,
      ⟨(some 4), .mov (.t 18), none, []⟩])
  (.ret)))), 19, [.t 4]⟩
def xf44 : XFunc := ⟨.seq (.reg [⟨(some 2), .box 26 (.t 0), none, []⟩,
      ⟨(some 3), .box 28 (.t 1), none, []⟩,
      ⟨(some 4), .new 108 [.nils, .nils, .int .i64 0, .int .i64 0, .int .i64 0], none, []⟩,
      ⟨(some 5), .mov (.c (.int .i64 0)), none, []⟩])
  (.seq (.reg [⟨(some 10), .loadn 3 (.t 2), none, []⟩,
      ⟨(some 11), .call (.c (.fn 55 [] [])) [.t 10], none, []⟩,
      ⟨(some 9), .mov (.t 11), none, []⟩,
      ⟨(some 12), .extract (.t 9) 0, none, []⟩,
      ⟨(some 13), .extract (.t 9) 1, none, []⟩,
      ⟨(some 6), .new 104 [.nils, .nils, .int .i64 0], none, []⟩,
      ⟨none, .store 3 (.t 6) (.t 12), none, []⟩,
      ⟨(some 7), .mov (.t 13), none, []⟩])
  (.seq (.seq (.reg [⟨(some 14), .mov (.t 7), none, []⟩,
      ⟨(some 15), .bin .neq (.t 14) (.c (.int .i64 0)), none, []⟩])
  (.cond (.t 15) (.seq (.reg [⟨(some 16), .build [.nils, .nils, .int .i64 0, .int .i64 0, .int .i64 0] [], none, []⟩,
        ⟨(some 17), .mov (.t 7), none, []⟩,
        ⟨none, .store 5 (.t 4) (.t 16), none, []⟩,
        ⟨(some 5), .mov (.t 17), none, []⟩])
    (.ret)) .skip))
  (.seq (.reg [⟨(some 18), .faddr 0 (.t 3), none, []⟩,
      ⟨(some 19), .load1 (.t 18), none, []⟩,
      ⟨(some 20), .faddr 1 (.t 3), none, []⟩,
      ⟨(some 21), .load1 (.t 20), none, []⟩,
      ⟨(some 22), .build [.int .i64 0, .int .i64 0] [(0, 1, .t 19), (1, 1, .t 21)], none, []⟩,
      ⟨(some 8), .new 106 [.int .i64 0, .int .i64 0], none, []⟩,
      ⟨none, .store 2 (.t 8) (.t 22), none, []⟩])
  (.seq (.reg [⟨(some 24), .fn true 75 [] [.t 6, .t 8], none, []⟩,
      ⟨(some 25), .call (.c (.fn 74 [] [])) [.c (.int .i64 2), .t 24], none, []⟩,
      ⟨(some 23), .mov (.t 25), none, []⟩,
      ⟨(some 26), .extract (.t 23) 0, none, []⟩,
      ⟨(some 27), .extract (.t 23) 1, none, []⟩,
      ⟨(some 7), .mov (.t 27), none, []⟩])
  (.seq (.reg [⟨(some 28), .loadn 3 (.t 6), none, []⟩,
      ⟨(some 29), .loadn 2 (.t 8), none, []⟩,
      ⟨(some 30), .build [.nils, .nils, .int .i64 0, .int .i64 0, .int .i64 0] [(0, 3, .t 28), (3, 2, .t 29)], none, []⟩,
      ⟨(some 31), .mov (.t 7), none, []⟩,
      ⟨none, .store 5 (.t 4) (.t 30), none, []⟩,
      ⟨(some 5), .mov (.t 31), none, []⟩])
  (.ret)))))), 32, [.cn 4 5, .t 5]⟩
def xf75 : XFunc := ⟨.seq (.reg [⟨(some 4), .mov (.c (.int .i64 0)), none, []⟩])
  (.seq (.seq (.dreg [⟨(some 5), .mov (.t 0), none, []⟩,
      ⟨(some 6), .faddr 0 (.t 1), none, []⟩,
      ⟨(some 7), .iaddrA 1 2 (.t 6) (.t 5), none, [0, 1]⟩,
      ⟨(some 8), .loadn 1 (.t 7), none, [1, 0, 2]⟩,
      ⟨(some 9), .mov (.t 0), none, []⟩,
      ⟨(some 10), .iaddrA 1 2 (.t 2) (.t 9), none, [4]⟩,
      ⟨(some 11), .load1 (.t 10), none, [4, 5]⟩,
      ⟨(some 12), .call (.c (.fn 76 [] [])) [.t 8, .t 11], none, [5, 4, 2, 0, 1, 6, 3]⟩,
      ⟨(some 13), .un .not (.t 12), none, [3, 6, 1, 0, 2, 4, 5, 7]⟩])
  (.cond (.t 13) (.seq (.reg [⟨(some 4), .mov (.c (.int .i64 2)), none, []⟩])
    (.ret)) .skip))
  (.seq (.reg [⟨(some 4), .mov (.c (.int .i64 0)), none, []⟩])
  (.ret))), 14, [.t 4]⟩
def xf9 : XFunc := ⟨.seq (.reg [⟨(some 1), .box 26 (.t 0), none, []⟩,
      ⟨(some 2), .mov (.c (.bool false)), none, []⟩])
  (.seq (.reg [⟨(some 3), .faddr 0 (.t 1), none, []⟩,
      ⟨(some 4), .loadn 1 (.t 3), none, []⟩,
      ⟨(some 5), .call (.c (.fn 29 [] [])) [.t 4], none, []⟩,
      ⟨(some 6), .mov (.t 5), none, []⟩,
      ⟨(some 7), .faddr 1 (.t 1), (some (6, true)), []⟩,
      ⟨(some 8), .loadn 1 (.t 7), (some (6, true)), []⟩,
      ⟨(some 9), .call (.c (.fn 29 [] [])) [.t 8], (some (6, true)), []⟩,
      ⟨(some 10), .pick (.t 6) (.t 9) (.c (.bool false)), none, []⟩,
      ⟨(some 2), .mov (.t 10), none, []⟩])
  (.ret)), 11, [.t 2]⟩
def xf12 : XFunc := ⟨.seq (.reg [⟨(some 1), .box 26 (.t 0), none, []⟩,
      ⟨(some 2), .new 26 [.nils, .nils, .int .i64 0], none, []⟩])
  (.seq (.dreg [⟨(some 3), .faddr 0 (.t 1), none, []⟩,
      ⟨(some 4), .loadn 1 (.t 3), none, [0]⟩,
      ⟨(some 5), .call (.c (.fn 31 [] [])) [.t 4], none, [0, 1]⟩,
      ⟨(some 6), .faddr 1 (.t 1), none, []⟩,
      ⟨(some 7), .loadn 1 (.t 6), none, [3]⟩,
      ⟨(some 8), .call (.c (.fn 31 [] [])) [.t 7], none, [1, 0, 3, 2, 4]⟩,
      ⟨(some 9), .faddr 2 (.t 1), none, []⟩,
      ⟨(some 10), .load1 (.t 9), none, [6]⟩,
      ⟨(some 11), .build [.nils, .nils, .int .i64 0] [(0, 1, .t 5), (1, 1, .t 8), (2, 1, .t 10)], none, [6, 4, 3, 1, 0, 7, 5, 2]⟩,
      ⟨none, .store 3 (.t 2) (.t 11), none, [7, 6, 4, 3, 2, 1, 0, 5, 8]⟩])
  (.ret)), 12, [.cn 2 3]⟩
def xf43l0 : XCode := .seq (.reg [⟨(some 27), .bin .lss (.t 26) (.c (.int .i64 2)), none, []⟩])
  (.seq (.cond (.t 27) .skip (.exit 0))
  (.seq (.block 1 (.seq (.reg [⟨(some 28), .mov (.t 26), none, []⟩,
        ⟨(some 29), .index 1 2 true (.t 25) (.t 26), none, []⟩,
        ⟨(some 10), .new 101 [.nils], none, []⟩,
        ⟨(some 9), .mov (.t 28), none, []⟩,
        ⟨none, .store 1 (.t 10) (.t 29), none, []⟩])
    (.seq (.reg [⟨(some 30), .mov (.t 9), none, []⟩,
        ⟨(some 31), .bin .sub (.c (.int .i64 1)) (.t 30), none, []⟩,
        ⟨(some 11), .mov (.t 31), none, []⟩])
    (.seq (.dreg [⟨(some 32), .mov (.t 11), none, []⟩,
        ⟨(some 33), .faddr 0 (.t 6), none, []⟩,
        ⟨(some 34), .faddr 0 (.t 33), none, [1]⟩,
        ⟨(some 35), .iaddrA 1 2 (.t 34) (.t 32), none, [1, 0, 2]⟩,
        ⟨(some 36), .loadn 1 (.t 35), none, [2, 0, 1, 3]⟩,
        ⟨(some 37), .call (.c (.fn 72 [] [])) [.t 36], none, [3, 1, 0, 2, 4]⟩,
        ⟨(some 38), .field 1 1 false (.t 37), none, [4, 2, 0, 1, 3, 5]⟩,
        ⟨(some 39), .mov (.t 11), none, []⟩,
        ⟨(some 40), .faddr 3 (.t 6), none, []⟩,
        ⟨(some 41), .iaddrA 1 2 (.t 40) (.t 39), none, [7, 8]⟩,
        ⟨(some 42), .load1 (.t 41), none, [8, 7, 9]⟩,
        ⟨(some 43), .bin .sub (.t 38) (.t 42), none, [9, 7, 8, 5, 3, 1, 0, 2, 4, 10, 6]⟩,
        ⟨(some 12), .mov (.t 43), none, [10, 9, 8, 7, 6, 4, 3, 2, 1, 0, 5, 11]⟩])
    (.dreg [⟨(some 44), .mov (.t 9), none, []⟩,
        ⟨(some 45), .mov (.t 9), none, []⟩,
        ⟨(some 46), .faddr 3 (.t 6), none, []⟩,
        ⟨(some 47), .iaddrA 1 2 (.t 46) (.t 45), none, [1, 2]⟩,
        ⟨(some 48), .load1 (.t 47), none, [2, 1, 3]⟩,
        ⟨(some 49), .loadn 1 (.t 10), none, []⟩,
        ⟨(some 50), .call (.c (.fn 73 [] [])) [.t 49], none, [5]⟩,
        ⟨(some 51), .field 1 1 false (.t 50), none, [5, 6]⟩,
        ⟨(some 52), .bin .sub (.t 48) (.t 51), none, [6, 5, 3, 1, 2, 7, 4]⟩,
        ⟨(some 53), .mov (.t 12), none, []⟩,
        ⟨(some 54), .ext false (.t 52) [.t 53], none, [4, 7, 2, 1, 3, 5, 6, 9, 8]⟩,
        ⟨(some 55), .iaddrA 1 2 (.t 8) (.t 44), none, [10, 9, 8, 7, 6, 5, 4, 3, 2, 1, 0]⟩,
        ⟨none, .store 1 (.t 55) (.t 54), none, [9, 8, 7, 5, 4, 3, 2, 1, 0, 6, 10, 11]⟩])))))
  (.reg [⟨(some 56), .bin .add (.t 26) (.c (.int .i64 1)), none, []⟩,
      ⟨(some 26), .mov (.t 56), none, []⟩])))
def xf43 : XFunc := ⟨.seq (.reg [⟨(some 2), .box 26 (.t 0), none, []⟩,
      ⟨(some 3), .box 28 (.t 1), none, []⟩,
      ⟨(some 4), .new 28 [.int .i64 0, .int .i64 0], none, []⟩,
      ⟨(some 5), .mov (.c (.int .i64 0)), none, []⟩])
  (.seq (.reg [⟨(some 14), .loadn 3 (.t 2), none, []⟩,
      ⟨(some 15), .loadn 2 (.t 3), none, []⟩,
      ⟨(some 16), .call (.c (.fn 44 [] [])) [.t 14, .t 15], none, []⟩,
      ⟨(some 13), .mov (.t 16), none, []⟩,
      ⟨(some 17), .extract (.t 13) 0, none, []⟩,
      ⟨(some 18), .extract (.t 13) 1, none, []⟩,
      ⟨(some 6), .new 108 [.nils, .nils, .int .i64 0, .int .i64 0, .int .i64 0], none, []⟩,
      ⟨none, .store 5 (.t 6) (.t 17), none, []⟩,
      ⟨(some 7), .mov (.t 18), none, []⟩])
  (.seq (.seq (.reg [⟨(some 19), .mov (.t 7), none, []⟩,
      ⟨(some 20), .bin .neq (.t 19) (.c (.int .i64 0)), none, []⟩])
  (.cond (.t 20) (.seq (.reg [⟨(some 21), .build [.int .i64 0, .int .i64 0] [], none, []⟩,
        ⟨(some 22), .mov (.t 7), none, []⟩,
        ⟨none, .store 2 (.t 4) (.t 21), none, []⟩,
        ⟨(some 5), .mov (.t 22), none, []⟩])
    (.ret)) .skip))
  (.seq (.reg [⟨(some 8), .new 106 [.int .i64 0, .int .i64 0], none, []⟩])
  (.seq (.seq (.reg [⟨(some 23), .faddr 0 (.t 6), none, []⟩,
      ⟨(some 24), .faddr 0 (.t 23), none, []⟩,
      ⟨(some 25), .loadn 2 (.t 24), none, []⟩,
      ⟨(some 26), .mov (.c (.int .i64 0)), none, []⟩])
  (.block 0 (.loop xf43l0)))
  (.seq (.reg [⟨(some 57), .loadn 2 (.t 8), none, []⟩,
      ⟨(some 58), .call (.c (.fn 47 [] [])) [.t 57], none, []⟩,
      ⟨none, .store 2 (.t 4) (.t 58), none, []⟩,
      ⟨(some 5), .mov (.c (.int .i64 0)), none, []⟩])
  (.ret)))))), 59, [.cn 4 2, .t 5]⟩
def xf41 : XFunc := ⟨.seq (.reg [⟨(some 3), .box 26 (.t 0), none, []⟩,
      ⟨(some 4), .box 28 (.t 1), none, []⟩,
      ⟨(some 5), .box 73 (.t 2), none, []⟩,
      ⟨(some 6), .new 28 [.int .i64 0, .int .i64 0], none, []⟩,
      ⟨(some 7), .new 35 [.int .i64 0, .int .i64 0], none, []⟩,
      ⟨(some 8), .mov (.c (.int .i64 0)), none, []⟩])
  (.seq (.reg [⟨(some 14), .loadn 3 (.t 3), none, []⟩,
      ⟨(some 15), .loadn 2 (.t 4), none, []⟩,
      ⟨(some 16), .call (.c (.fn 44 [] [])) [.t 14, .t 15], none, []⟩,
      ⟨(some 13), .mov (.t 16), none, []⟩,
      ⟨(some 17), .extract (.t 13) 0, none, []⟩,
      ⟨(some 18), .extract (.t 13) 1, none, []⟩,
      ⟨(some 9), .new 108 [.nils, .nils, .int .i64 0, .int .i64 0, .int .i64 0], none, []⟩,
      ⟨none, .store 5 (.t 9) (.t 17), none, []⟩,
      ⟨(some 10), .mov (.t 18), none, []⟩])
  (.seq (.seq (.reg [⟨(some 19), .mov (.t 10), none, []⟩,
      ⟨(some 20), .bin .neq (.t 19) (.c (.int .i64 0)), none, []⟩])
  (.cond (.t 20) (.seq (.reg [⟨(some 21), .build [.int .i64 0, .int .i64 0] [], none, []⟩,
        ⟨(some 22), .build [.int .i64 0, .int .i64 0] [], none, []⟩,
        ⟨(some 23), .mov (.t 10), none, []⟩,
        ⟨none, .store 2 (.t 6) (.t 21), none, []⟩,
        ⟨none, .store 2 (.t 7) (.t 22), none, []⟩,
        ⟨(some 8), .mov (.t 23), none, []⟩])
    (.ret)) .skip))
  (.seq (.seq (.reg [⟨(some 24), .loadn 3 (.t 5), none, []⟩,
      ⟨(some 25), .call (.c (.fn 70 [] [])) [.t 24], none, []⟩,
      ⟨(some 11), .mov (.t 25), none, []⟩])
  (.seq (.reg [⟨(some 26), .mov (.t 11), none, []⟩,
      ⟨(some 27), .bin .neq (.t 26) (.c (.int .i64 0)), none, []⟩])
  (.cond (.t 27) (.seq (.reg [⟨(some 28), .build [.int .i64 0, .int .i64 0] [], none, []⟩,
        ⟨(some 29), .build [.int .i64 0, .int .i64 0] [], none, []⟩,
        ⟨(some 30), .mov (.t 11), none, []⟩,
        ⟨none, .store 2 (.t 6) (.t 28), none, []⟩,
        ⟨none, .store 2 (.t 7) (.t 29), none, []⟩,
        ⟨(some 8), .mov (.t 30), none, []⟩])
    (.ret)) .skip)))
  (.seq (.reg [⟨(some 32), .faddr 0 (.t 9), none, []⟩,
      ⟨(some 33), .loadn 3 (.t 32), none, []⟩,
      ⟨(some 34), .faddr 3 (.t 9), none, []⟩,
      ⟨(some 35), .loadn 2 (.t 34), none, []⟩,
      ⟨(some 36), .loadn 3 (.t 5), none, []⟩,
      ⟨(some 37), .call (.c (.fn 71 [] [])) [.t 33, .t 35, .t 36], none, []⟩,
      ⟨(some 31), .mov (.t 37), none, []⟩,
      ⟨(some 38), .extract (.t 31) 0, none, []⟩,
      ⟨(some 39), .extract (.t 31) 1, none, []⟩,
      ⟨(some 12), .new 116 [.int .i64 0, .int .i64 0, .int .i64 0, .int .i64 0], none, []⟩,
      ⟨none, .store 4 (.t 12) (.t 38), none, []⟩,
      ⟨(some 10), .mov (.t 39), none, []⟩])
  (.seq (.dreg [⟨(some 40), .faddr 0 (.t 12), none, []⟩,
      ⟨(some 41), .loadn 2 (.t 40), none, [0]⟩,
      ⟨(some 42), .call (.c (.fn 47 [] [])) [.t 41], none, [0, 1]⟩,
      ⟨(some 43), .faddr 2 (.t 12), none, []⟩,
      ⟨(some 44), .loadn 2 (.t 43), none, [3]⟩,
      ⟨(some 45), .mov (.t 10), none, []⟩,
      ⟨none, .store 2 (.t 6) (.t 42), none, [1, 0, 2]⟩,
      ⟨none, .store 2 (.t 7) (.t 44), none, [3, 2, 1, 0, 6, 4]⟩,
      ⟨(some 8), .mov (.t 45), none, [6, 4, 3, 2, 1, 0, 7, 5]⟩])
  (.ret)))))), 46, [.cn 6 2, .cn 7 2, .t 8]⟩
def xf71l0 : XCode := .seq (.reg [⟨(some 28), .bin .lss (.t 27) (.c (.int .i64 2)), none, []⟩])
  (.seq (.cond (.t 28) .skip (.exit 0))
  (.seq (.block 1 (.seq (.reg [⟨(some 29), .mov (.t 27), none, []⟩,
        ⟨(some 30), .index 1 2 true (.t 26) (.t 27), none, []⟩,
        ⟨(some 11), .new 101 [.nils], none, []⟩,
        ⟨(some 10), .mov (.t 29), none, []⟩,
        ⟨none, .store 1 (.t 11) (.t 30), none, []⟩])
    (.seq (.dreg [⟨(some 31), .loadn 1 (.t 11), none, []⟩,
        ⟨(some 32), .mov (.t 10), none, []⟩,
        ⟨(some 33), .iaddrA 1 2 (.t 4) (.t 32), none, [1]⟩,
        ⟨(some 34), .load1 (.t 33), none, [1, 2]⟩,
        ⟨(some 35), .faddr 2 (.t 3), none, []⟩,
        ⟨(some 36), .load1 (.t 35), none, [4]⟩,
        ⟨(some 37), .call (.c (.fn 112 [] [])) [.t 31, .t 34, .t 36], none, [4, 2, 1, 5, 3, 0]⟩,
        ⟨(some 12), .mov (.t 37), none, [5, 4, 3, 2, 1, 0, 6]⟩])
    (.seq (.dreg [⟨(some 38), .mov (.t 10), none, []⟩,
        ⟨(some 39), .iaddrA 1 2 (.t 4) (.t 38), none, [0]⟩,
        ⟨(some 40), .load1 (.t 39), none, [0, 1]⟩,
        ⟨(some 41), .mov (.t 12), none, []⟩,
        ⟨(some 42), .bin .sub (.t 40) (.t 41), none, [1, 0, 3, 2]⟩,
        ⟨(some 43), .mov (.t 10), none, []⟩,
        ⟨(some 44), .iaddrA 1 2 (.t 8) (.t 43), none, [5]⟩,
        ⟨(some 45), .load1 (.t 44), none, [5, 6]⟩,
        ⟨(some 46), .bin .add (.t 42) (.t 45), none, [6, 5, 2, 3, 0, 1, 7, 4]⟩,
        ⟨(some 13), .mov (.t 46), none, [7, 6, 5, 4, 3, 2, 1, 0, 8]⟩])
    (.seq (.seq (.reg [⟨(some 47), .mov (.t 13), none, []⟩,
        ⟨(some 48), .loadn 1 (.t 11), none, []⟩,
        ⟨(some 49), .call (.c (.fn 73 [] [])) [.t 48], none, []⟩,
        ⟨(some 50), .field 1 1 false (.t 49), none, []⟩,
        ⟨(some 51), .bin .lss (.t 47) (.t 50), none, []⟩])
    (.cond (.t 51) (.seq (.reg [⟨(some 52), .build [.int .i64 0, .int .i64 0, .int .i64 0, .int .i64 0] [], none, []⟩,
          ⟨none, .store 4 (.t 6) (.t 52), none, []⟩,
          ⟨(some 7), .mov (.c (.int .i64 22)), none, []⟩])
      (.ret)) .skip))
    (.seq (.reg [⟨(some 53), .mov (.t 10), none, []⟩,
        ⟨(some 54), .mov (.t 13), none, []⟩,
        ⟨(some 55), .loadn 1 (.t 11), none, []⟩,
        ⟨(some 56), .call (.c (.fn 72 [] [])) [.t 55], none, []⟩,
        ⟨(some 57), .field 1 1 false (.t 56), none, []⟩,
        ⟨(some 58), .ext false (.t 54) [.t 57], none, []⟩,
        ⟨(some 59), .faddr 0 (.t 9), none, []⟩,
        ⟨(some 60), .iaddrA 1 2 (.t 59) (.t 53), none, []⟩,
        ⟨none, .store 1 (.t 60) (.t 58), none, []⟩])
    (.seq (.reg [⟨(some 61), .faddr 2 (.t 9), none, []⟩,
        ⟨(some 62), .faddr 0 (.t 61), none, []⟩,
        ⟨(some 63), .load1 (.t 62), none, []⟩,
        ⟨(some 64), .mov (.t 12), none, []⟩,
        ⟨(some 65), .bin .add (.t 63) (.t 64), none, []⟩,
        ⟨(some 66), .faddr 2 (.t 9), none, []⟩,
        ⟨(some 67), .faddr 0 (.t 66), none, []⟩,
        ⟨none, .store 1 (.t 67) (.t 65), none, []⟩])
    (.dreg [⟨(some 68), .faddr 2 (.t 9), none, []⟩,
        ⟨(some 69), .faddr 1 (.t 68), none, [0]⟩,
        ⟨(some 70), .load1 (.t 69), none, [0, 1]⟩,
        ⟨(some 71), .mov (.t 13), none, []⟩,
        ⟨(some 72), .mov (.t 10), none, []⟩,
        ⟨(some 73), .faddr 0 (.t 9), none, []⟩,
        ⟨(some 74), .iaddrA 1 2 (.t 73) (.t 72), none, [4, 5]⟩,
        ⟨(some 75), .load1 (.t 74), none, [5, 4, 6]⟩,
        ⟨(some 76), .bin .sub (.t 71) (.t 75), none, [6, 4, 5, 7, 3]⟩,
        ⟨(some 77), .bin .add (.t 70) (.t 76), none, [3, 7, 5, 4, 6, 1, 0, 8, 2]⟩,
        ⟨(some 78), .faddr 2 (.t 9), none, [9, 8, 7, 6, 5, 4, 3, 2, 1, 0]⟩,
        ⟨(some 79), .faddr 1 (.t 78), none, [9, 8, 7, 6, 5, 4, 3, 2, 1, 0, 10]⟩,
        ⟨none, .store 1 (.t 79) (.t 77), none, [10, 8, 7, 6, 5, 4, 3, 2, 1, 0, 9, 11]⟩]))))))))
  (.reg [⟨(some 80), .bin .add (.t 27) (.c (.int .i64 1)), none, []⟩,
      ⟨(some 27), .mov (.t 80), none, []⟩])))
def xf71 : XFunc := ⟨.seq (.reg [⟨(some 3), .box 104 (.t 0), none, []⟩,
      ⟨(some 4), .box 106 (.t 1), none, []⟩,
      ⟨(some 5), .box 73 (.t 2), none, []⟩,
      ⟨(some 6), .new 116 [.int .i64 0, .int .i64 0, .int .i64 0, .int .i64 0], none, []⟩,
      ⟨(some 7), .mov (.c (.int .i64 0)), none, []⟩])
  (.seq (.reg [⟨(some 14), .faddr 0 (.t 5), none, []⟩,
      ⟨(some 15), .load1 (.t 14), none, []⟩,
      ⟨(some 16), .faddr 2 (.t 5), none, []⟩,
      ⟨(some 17), .load1 (.t 16), none, []⟩,
      ⟨(some 18), .bin .add (.t 15) (.t 17), none, []⟩,
      ⟨(some 19), .faddr 1 (.t 5), none, []⟩,
      ⟨(some 20), .load1 (.t 19), none, []⟩,
      ⟨(some 21), .faddr 2 (.t 5), none, []⟩,
      ⟨(some 22), .load1 (.t 21), none, []⟩,
      ⟨(some 23), .bin .sub (.t 20) (.t 22), none, []⟩,
      ⟨(some 24), .build [.int .i64 0, .int .i64 0] [(0, 1, .t 18), (1, 1, .t 23)], none, []⟩,
      ⟨(some 8), .new 105 [.int .i64 0, .int .i64 0], none, []⟩,
      ⟨none, .store 2 (.t 8) (.t 24), none, []⟩])
  (.seq (.reg [⟨(some 9), .new 116 [.int .i64 0, .int .i64 0, .int .i64 0, .int .i64 0], none, []⟩])
  (.seq (.seq (.reg [⟨(some 25), .faddr 0 (.t 3), none, []⟩,
      ⟨(some 26), .loadn 2 (.t 25), none, []⟩,
      ⟨(some 27), .mov (.c (.int .i64 0)), none, []⟩])
  (.block 0 (.loop xf71l0)))
  (.seq (.reg [⟨(some 81), .loadn 4 (.t 9), none, []⟩,
      ⟨none, .store 4 (.t 6) (.t 81), none, []⟩,
      ⟨(some 7), .mov (.c (.int .i64 0)), none, []⟩])
  (.ret))))), 82, [.cn 6 4, .t 7]⟩
def xf70 : XFunc := ⟨.seq (.reg [⟨(some 1), .box 73 (.t 0), none, []⟩,
      ⟨(some 2), .mov (.c (.int .i64 0)), none, []⟩])
  (.seq (.seq (.reg [⟨(some 3), .faddr 0 (.t 1), none, []⟩,
      ⟨(some 4), .load1 (.t 3), none, []⟩,
      ⟨(some 5), .call (.c (.fn 92 [] [])) [.t 4, .c (.int .i64 0), .c (.int .i64 10000000)], none, []⟩,
      ⟨(some 6), .un .not (.t 5), none, []⟩,
      ⟨(some 7), .mov (.t 6), none, []⟩,
      ⟨(some 8), .faddr 1 (.t 1), (some (7, false)), []⟩,
      ⟨(some 9), .load1 (.t 8), (some (7, false)), []⟩,
      ⟨(some 10), .call (.c (.fn 92 [] [])) [.t 9, .c (.int .i64 0), .c (.int .i64 10000000)], (some (7, false)), []⟩,
      ⟨(some 11), .un .not (.t 10), (some (7, false)), []⟩,
      ⟨(some 12), .pick (.t 7) (.c (.bool true)) (.t 11), none, []⟩,
      ⟨(some 13), .mov (.t 12), none, []⟩,
      ⟨(some 14), .faddr 2 (.t 1), (some (13, false)), []⟩,
      ⟨(some 15), .load1 (.t 14), (some (13, false)), []⟩,
      ⟨(some 16), .call (.c (.fn 92 [] [])) [.t 15, .c (.int .i64 (-10000000)), .c (.int .i64 10000000)], (some (13, false)), []⟩,
      ⟨(some 17), .un .not (.t 16), (some (13, false)), []⟩,
      ⟨(some 18), .pick (.t 13) (.c (.bool true)) (.t 17), none, []⟩])
  (.cond (.t 18) (.seq (.reg [⟨(some 2), .mov (.c (.int .i64 2)), none, []⟩])
    (.ret)) .skip))
  (.seq (.reg [⟨(some 2), .mov (.c (.int .i64 0)), none, []⟩])
  (.ret))), 19, [.t 2]⟩
def xf47 : XFunc := ⟨.seq (.reg [⟨(some 1), .box 106 (.t 0), none, []⟩,
      ⟨(some 2), .new 28 [.int .i64 0, .int .i64 0], none, []⟩])
  (.seq (.reg [⟨(some 3), .iaddrA 1 2 (.t 1) (.c (.int .i64 0)), none, []⟩,
      ⟨(some 4), .load1 (.t 3), none, []⟩,
      ⟨(some 5), .iaddrA 1 2 (.t 1) (.c (.int .i64 1)), none, []⟩,
      ⟨(some 6), .load1 (.t 5), none, []⟩,
      ⟨(some 7), .build [.int .i64 0, .int .i64 0] [(0, 1, .t 4), (1, 1, .t 6)], none, []⟩,
      ⟨none, .store 2 (.t 2) (.t 7), none, []⟩])
  (.ret)), 8, [.cn 2 2]⟩
def xf112 : XFunc := ⟨.seq (.reg [⟨(some 3), .box 101 (.t 0), none, []⟩,
      ⟨(some 6), .mov (.c (.int .i64 0)), none, []⟩])
  (.seq (.reg [⟨(some 8), .loadn 1 (.t 3), none, []⟩,
      ⟨(some 9), .mov (.t 1), none, []⟩,
      ⟨(some 10), .call (.c (.fn 109 [] [])) [.t 8, .t 9], none, []⟩,
      ⟨(some 7), .new 195 [.int .i64 0, .int .i64 0, .int .i64 0, .int .i64 0], none, []⟩,
      ⟨none, .store 4 (.t 7) (.t 10), none, []⟩])
  (.seq (.dreg [⟨(some 11), .mov (.t 2), none, []⟩,
      ⟨(some 12), .loadn 4 (.t 7), none, []⟩,
      ⟨(some 13), .call (.c (.fn 134 [] [])) [.t 12], none, [1]⟩,
      ⟨(some 14), .bin .mul (.t 11) (.t 13), none, [1, 2, 0]⟩,
      ⟨(some 15), .loadn 4 (.t 7), none, []⟩,
      ⟨(some 16), .call (.c (.fn 135 [] [])) [.t 15], none, [1, 2, 4]⟩,
      ⟨(some 17), .bin .mul (.t 16) (.c (.int .i64 1000)), none, [4, 2, 1, 5]⟩,
      ⟨(some 18), .bin .quo (.t 14) (.t 17), none, [5, 4, 0, 2, 1, 6, 3]⟩,
      ⟨(some 19), .mov (.t 1), none, []⟩,
      ⟨(some 20), .loadn 1 (.t 3), none, []⟩,
      ⟨(some 21), .call (.c (.fn 73 [] [])) [.t 20], none, [4, 2, 1, 5, 9]⟩,
      ⟨(some 22), .field 1 1 false (.t 21), none, [9, 5, 1, 2, 4, 10]⟩,
      ⟨(some 23), .bin .sub (.t 19) (.t 22), none, [10, 4, 2, 1, 5, 9, 11, 8]⟩,
      ⟨(some 24), .ext false (.t 18) [.t 23], none, [8, 11, 9, 10, 3, 6, 1, 2, 0, 4, 5, 12, 7]⟩,
      ⟨(some 6), .mov (.t 24), none, [12, 11, 9, 8, 7, 6, 5, 4, 3, 2, 1, 0, 10, 13]⟩])
  (.ret))), 25, [.t 6]⟩
def xf20 : XFunc := ⟨.seq (.reg [⟨(some 1), .box 26 (.t 0), none, []⟩,
      ⟨(some 2), .mov (.c (.int .i64 0)), none, []⟩])
  (.seq (.seq (.reg [⟨(some 5), .faddr 0 (.t 1), none, []⟩,
      ⟨(some 6), .loadn 1 (.t 5), none, []⟩,
      ⟨(some 7), .call (.c (.fn 53 [] [])) [.t 6], none, []⟩,
      ⟨(some 3), .mov (.t 7), none, []⟩])
  (.seq (.reg [⟨(some 8), .mov (.t 3), none, []⟩,
      ⟨(some 9), .bin .neq (.t 8) (.c (.int .i64 0)), none, []⟩])
  (.cond (.t 9) (.seq (.reg [⟨(some 10), .mov (.t 3), none, []⟩,
        ⟨(some 2), .mov (.t 10), none, []⟩])
    (.ret)) .skip)))
  (.seq (.seq (.reg [⟨(some 11), .faddr 1 (.t 1), none, []⟩,
      ⟨(some 12), .loadn 1 (.t 11), none, []⟩,
      ⟨(some 13), .call (.c (.fn 53 [] [])) [.t 12], none, []⟩,
      ⟨(some 4), .mov (.t 13), none, []⟩])
  (.seq (.reg [⟨(some 14), .mov (.t 4), none, []⟩,
      ⟨(some 15), .bin .neq (.t 14) (.c (.int .i64 0)), none, []⟩])
  (.cond (.t 15) (.seq (.reg [⟨(some 16), .mov (.t 4), none, []⟩,
        ⟨(some 2), .mov (.t 16), none, []⟩])
    (.ret)) .skip)))
  (.seq (.seq (.reg [⟨(some 17), .faddr 2 (.t 1), none, []⟩,
      ⟨(some 18), .load1 (.t 17), none, []⟩,
      ⟨(some 19), .call (.c (.fn 27 [] [])) [.t 18, .c (.int .i64 0), .c (.int .i64 1000)], none, []⟩,
      ⟨(some 20), .un .not (.t 19), none, []⟩])
  (.cond (.t 20) (.seq (.reg [⟨(some 2), .mov (.c (.int .i64 2)), none, []⟩])
    (.ret)) .skip))
  (.seq (.reg [⟨(some 2), .mov (.c (.int .i64 0)), none, []⟩])
  (.ret))))), 21, [.t 2]⟩
def xf14 : XFunc := ⟨.seq (.reg [⟨(some 2), .box 26 (.t 0), none, []⟩,
      ⟨(some 3), .box 28 (.t 1), none, []⟩,
      ⟨(some 4), .mov (.c (.int .i64 0)), none, []⟩])
  (.seq (.seq (.reg [⟨(some 6), .loadn 3 (.t 2), none, []⟩,
      ⟨(some 7), .call (.c (.fn 20 [] [])) [.t 6], none, []⟩,
      ⟨(some 5), .mov (.t 7), none, []⟩])
  (.seq (.reg [⟨(some 8), .mov (.t 5), none, []⟩,
      ⟨(some 9), .bin .neq (.t 8) (.c (.int .i64 0)), none, []⟩])
  (.cond (.t 9) (.seq (.reg [⟨(some 10), .mov (.t 5), none, []⟩,
        ⟨(some 4), .mov (.t 10), none, []⟩])
    (.ret)) .skip)))
  (.seq (.reg [⟨(some 11), .loadn 3 (.t 2), none, []⟩,
      ⟨(some 12), .loadn 2 (.t 3), none, []⟩,
      ⟨(some 13), .call (.c (.fn 48 [] [])) [.t 11, .t 12], none, []⟩,
      ⟨(some 4), .mov (.t 13), none, []⟩])
  (.ret))), 14, [.t 4]⟩
def xf48 : XFunc := ⟨.seq (.reg [⟨(some 2), .box 26 (.t 0), none, []⟩,
      ⟨(some 3), .box 28 (.t 1), none, []⟩,
      ⟨(some 4), .mov (.c (.int .i64 0)), none, []⟩])
  (.seq (.seq (.reg [⟨(some 5), .faddr 0 (.t 2), none, []⟩,
      ⟨(some 6), .loadn 1 (.t 5), none, []⟩,
      ⟨(some 7), .faddr 0 (.t 3), none, []⟩,
      ⟨(some 8), .load1 (.t 7), none, []⟩,
      ⟨(some 9), .call (.c (.fn 82 [] [])) [.t 6, .t 8], none, []⟩,
      ⟨(some 10), .un .not (.t 9), none, []⟩,
      ⟨(some 11), .mov (.t 10), none, []⟩,
      ⟨(some 12), .faddr 1 (.t 2), (some (11, false)), []⟩,
      ⟨(some 13), .loadn 1 (.t 12), (some (11, false)), []⟩,
      ⟨(some 14), .faddr 1 (.t 3), (some (11, false)), []⟩,
      ⟨(some 15), .load1 (.t 14), (some (11, false)), []⟩,
      ⟨(some 16), .call (.c (.fn 82 [] [])) [.t 13, .t 15], (some (11, false)), []⟩,
      ⟨(some 17), .un .not (.t 16), (some (11, false)), []⟩,
      ⟨(some 18), .pick (.t 11) (.c (.bool true)) (.t 17), none, []⟩])
  (.cond (.t 18) (.seq (.reg [⟨(some 4), .mov (.c (.int .i64 2)), none, []⟩])
    (.ret)) .skip))
  (.seq (.reg [⟨(some 4), .mov (.c (.int .i64 0)), none, []⟩])
  (.ret))), 19, [.t 4]⟩
def xf49 : XFunc := ⟨.seq (.reg [⟨(some 1), .box 73 (.t 0), none, []⟩,
      ⟨(some 2), .mov (.c (.int .i64 0)), none, []⟩])
  (.seq (.seq (.reg [⟨(some 3), .faddr 0 (.t 1), none, []⟩,
      ⟨(some 4), .load1 (.t 3), none, []⟩,
      ⟨(some 5), .call (.c (.fn 27 [] [])) [.t 4, .c (.int .i64 0), .c (.int .i64 10000000)], none, []⟩,
      ⟨(some 6), .un .not (.t 5), none, []⟩,
      ⟨(some 7), .mov (.t 6), none, []⟩,
      ⟨(some 8), .faddr 1 (.t 1), (some (7, false)), []⟩,
      ⟨(some 9), .load1 (.t 8), (some (7, false)), []⟩,
      ⟨(some 10), .call (.c (.fn 27 [] [])) [.t 9, .c (.int .i64 0), .c (.int .i64 10000000)], (some (7, false)), []⟩,
      ⟨(some 11), .un .not (.t 10), (some (7, false)), []⟩,
      ⟨(some 12), .pick (.t 7) (.c (.bool true)) (.t 11), none, []⟩,
      ⟨(some 13), .mov (.t 12), none, []⟩,
      ⟨(some 14), .faddr 2 (.t 1), (some (13, false)), []⟩,
      ⟨(some 15), .load1 (.t 14), (some (13, false)), []⟩,
      ⟨(some 16), .call (.c (.fn 27 [] [])) [.t 15, .c (.int .i64 (-10000000)), .c (.int .i64 10000000)], (some (13, false)), []⟩,
      ⟨(some 17), .un .not (.t 16), (some (13, false)), []⟩,
      ⟨(some 18), .pick (.t 13) (.c (.bool true)) (.t 17), none, []⟩])
  (.cond (.t 18) (.seq (.reg [⟨(some 2), .mov (.c (.int .i64 2)), none, []⟩])
    (.ret)) .skip))
  (.seq (.reg [⟨(some 2), .mov (.c (.int .i64 0)), none, []⟩])
  (.ret))), 19, [.t 2]⟩
def xf50 : XFunc := ⟨.seq (.reg [⟨(some 3), .box 26 (.t 0), none, []⟩,
      ⟨(some 4), .box 28 (.t 1), none, []⟩,
      ⟨(some 5), .box 73 (.t 2), none, []⟩,
      ⟨(some 6), .new 28 [.int .i64 0, .int .i64 0], none, []⟩,
      ⟨(some 7), .new 35 [.int .i64 0, .int .i64 0], none, []⟩,
      ⟨(some 8), .mov (.c (.bool false)), none, []⟩])
  (.seq (.dreg [⟨(some 15), .faddr 0 (.t 3), none, []⟩,
      ⟨(some 16), .loadn 1 (.t 15), none, [0]⟩,
      ⟨(some 17), .faddr 2 (.t 3), none, []⟩,
      ⟨(some 18), .load1 (.t 17), none, [2]⟩,
      ⟨(some 19), .faddr 0 (.t 4), none, []⟩,
      ⟨(some 20), .load1 (.t 19), none, [4]⟩,
      ⟨(some 21), .call (.c (.fn 83 [] [])) [.t 16, .t 18, .t 20], none, [4, 2, 0, 5, 3, 1]⟩,
      ⟨(some 22), .faddr 1 (.t 3), none, []⟩,
      ⟨(some 23), .loadn 1 (.t 22), none, [7]⟩,
      ⟨(some 24), .faddr 2 (.t 3), none, []⟩,
      ⟨(some 25), .load1 (.t 24), none, [9]⟩,
      ⟨(some 26), .faddr 1 (.t 4), none, []⟩,
      ⟨(some 27), .load1 (.t 26), none, [11]⟩,
      ⟨(some 28), .call (.c (.fn 83 [] [])) [.t 23, .t 25, .t 27], none, [1, 3, 5, 0, 2, 4, 11, 9, 7, 6, 12, 10, 8]⟩,
      ⟨(some 9), .mov (.t 21), none, [8, 10, 12, 7, 9, 11, 5, 4, 3, 2, 1, 0, 13, 6]⟩,
      ⟨(some 10), .mov (.t 28), none, [12, 11, 10, 9, 8, 7, 6, 5, 4, 3, 2, 1, 0, 14, 13]⟩])
  (.seq (.dreg [⟨(some 29), .faddr 0 (.t 4), none, []⟩,
      ⟨(some 30), .load1 (.t 29), none, [0]⟩,
      ⟨(some 31), .mov (.t 9), none, []⟩,
      ⟨(some 32), .bin .sub (.t 30) (.t 31), none, [0, 2, 1]⟩,
      ⟨(some 33), .faddr 0 (.t 5), none, []⟩,
      ⟨(some 34), .load1 (.t 33), none, [4]⟩,
      ⟨(some 35), .bin .add (.t 32) (.t 34), none, [4, 1, 2, 0, 5, 3]⟩,
      ⟨(some 36), .faddr 2 (.t 5), none, []⟩,
      ⟨(some 37), .load1 (.t 36), none, [7]⟩,
      ⟨(some 38), .bin .add (.t 35) (.t 37), none, [7, 3, 5, 0, 2, 1, 4, 8, 6]⟩,
      ⟨(some 39), .faddr 1 (.t 4), none, []⟩,
      ⟨(some 40), .load1 (.t 39), none, [10]⟩,
      ⟨(some 41), .mov (.t 10), none, []⟩,
      ⟨(some 42), .bin .sub (.t 40) (.t 41), none, [10, 12, 11]⟩,
      ⟨(some 43), .faddr 1 (.t 5), none, []⟩,
      ⟨(some 44), .load1 (.t 43), none, [14]⟩,
      ⟨(some 45), .bin .add (.t 42) (.t 44), none, [14, 11, 12, 10, 15, 13]⟩,
      ⟨(some 46), .faddr 2 (.t 5), none, []⟩,
      ⟨(some 47), .load1 (.t 46), none, [17]⟩,
      ⟨(some 48), .bin .sub (.t 45) (.t 47), none, [17, 13, 15, 10, 12, 11, 14, 18, 16]⟩,
      ⟨(some 11), .mov (.t 38), none, [8, 7, 6, 5, 4, 3, 2, 1, 0, 9]⟩,
      ⟨(some 12), .mov (.t 48), none, [18, 17, 16, 15, 14, 13, 12, 11, 10, 9, 8, 7, 6, 5, 4, 3, 2, 1, 0, 20, 19]⟩])
  (.seq (.seq (.reg [⟨(some 49), .mov (.t 11), none, []⟩,
      ⟨(some 50), .faddr 0 (.t 3), none, []⟩,
      ⟨(some 51), .loadn 1 (.t 50), none, []⟩,
      ⟨(some 52), .call (.c (.fn 59 [] [])) [.t 51], none, []⟩,
      ⟨(some 53), .field 1 1 false (.t 52), none, []⟩,
      ⟨(some 54), .bin .lss (.t 49) (.t 53), none, []⟩,
      ⟨(some 55), .mov (.t 54), none, []⟩,
      ⟨(some 56), .mov (.t 12), (some (55, false)), []⟩,
      ⟨(some 57), .faddr 1 (.t 3), (some (55, false)), []⟩,
      ⟨(some 58), .loadn 1 (.t 57), (some (55, false)), []⟩,
      ⟨(some 59), .call (.c (.fn 59 [] [])) [.t 58], (some (55, false)), []⟩,
      ⟨(some 60), .field 1 1 false (.t 59), (some (55, false)), []⟩,
      ⟨(some 61), .bin .lss (.t 56) (.t 60), (some (55, false)), []⟩,
      ⟨(some 62), .pick (.t 55) (.c (.bool true)) (.t 61), none, []⟩])
  (.cond (.t 62) (.seq (.reg [⟨(some 63), .build [.int .i64 0, .int .i64 0] [], none, []⟩,
        ⟨(some 64), .build [.int .i64 0, .int .i64 0] [], none, []⟩,
        ⟨none, .store 2 (.t 6) (.t 63), none, []⟩,
        ⟨none, .store 2 (.t 7) (.t 64), none, []⟩,
        ⟨(some 8), .mov (.c (.bool false)), none, []⟩])
    (.ret)) .skip))
  (.seq (.dreg [⟨(some 65), .mov (.t 11), none, []⟩,
      ⟨(some 66), .faddr 0 (.t 3), none, []⟩,
      ⟨(some 67), .loadn 1 (.t 66), none, [1]⟩,
      ⟨(some 68), .call (.c (.fn 60 [] [])) [.t 67], none, [1, 2]⟩,
      ⟨(some 69), .field 1 1 false (.t 68), none, [2, 1, 3]⟩,
      ⟨(some 70), .bin .sub (.t 65) (.t 69), none, [3, 1, 2, 4, 0]⟩,
      ⟨(some 71), .ext true (.c (.int .i64 0)) [.t 70], none, [0, 4, 2, 1, 3, 5]⟩,
      ⟨(some 72), .mov (.t 12), none, []⟩,
      ⟨(some 73), .faddr 1 (.t 3), none, []⟩,
      ⟨(some 74), .loadn 1 (.t 73), none, [8]⟩,
      ⟨(some 75), .call (.c (.fn 60 [] [])) [.t 74], none, [2, 1, 8, 3, 9]⟩,
      ⟨(some 76), .field 1 1 false (.t 75), none, [9, 3, 8, 1, 2, 10]⟩,
      ⟨(some 77), .bin .sub (.t 72) (.t 76), none, [10, 2, 1, 8, 3, 9, 11, 7]⟩,
      ⟨(some 78), .ext true (.c (.int .i64 0)) [.t 77], none, [7, 11, 9, 3, 8, 1, 2, 10, 12]⟩,
      ⟨(some 13), .mov (.t 71), none, [9, 8, 5, 4, 3, 2, 1, 0, 10, 6]⟩,
      ⟨(some 14), .mov (.t 78), none, [12, 11, 10, 9, 8, 7, 6, 5, 4, 3, 2, 1, 0, 14, 13]⟩])
  (.seq (.reg [⟨(some 79), .mov (.t 11), none, []⟩,
      ⟨(some 80), .mov (.t 13), none, []⟩,
      ⟨(some 81), .bin .sub (.t 79) (.t 80), none, []⟩,
      ⟨(some 82), .mov (.t 12), none, []⟩,
      ⟨(some 83), .mov (.t 14), none, []⟩,
      ⟨(some 84), .bin .sub (.t 82) (.t 83), none, []⟩,
      ⟨(some 85), .build [.int .i64 0, .int .i64 0] [(0, 1, .t 81), (1, 1, .t 84)], none, []⟩,
      ⟨(some 86), .mov (.t 9), none, []⟩,
      ⟨(some 87), .mov (.t 10), none, []⟩,
      ⟨(some 88), .bin .add (.t 86) (.t 87), none, []⟩,
      ⟨(some 89), .mov (.t 13), none, []⟩,
      ⟨(some 90), .mov (.t 14), none, []⟩,
      ⟨(some 91), .bin .add (.t 89) (.t 90), none, []⟩,
      ⟨(some 92), .build [.int .i64 0, .int .i64 0] [(0, 1, .t 88), (1, 1, .t 91)], none, []⟩,
      ⟨none, .store 2 (.t 6) (.t 85), none, []⟩,
      ⟨none, .store 2 (.t 7) (.t 92), none, []⟩,
      ⟨(some 8), .mov (.c (.bool true)), none, []⟩])
  (.ret)))))), 93, [.cn 6 2, .cn 7 2, .t 8]⟩
def xf83 : XFunc := ⟨.seq (.reg [⟨(some 3), .box 24 (.t 0), none, []⟩,
      ⟨(some 6), .mov (.c (.int .i64 0)), none, []⟩])
  (.seq (.reg [⟨(some 9), .loadn 1 (.t 3), none, []⟩,
      ⟨(some 10), .mov (.t 2), none, []⟩,
      ⟨(some 11), .call (.c (.fn 115 [] [])) [.t 9, .t 10], none, []⟩,
      ⟨(some 7), .mov (.t 11), none, []⟩])
  (.seq (.dreg [⟨(some 12), .mov (.t 1), none, []⟩,
      ⟨(some 13), .call (.c (.fn 100 [] [])) [.t 12], none, [0]⟩,
      ⟨(some 14), .loadn 1 (.t 3), none, []⟩,
      ⟨(some 15), .mov (.t 7), none, []⟩,
      ⟨(some 16), .call (.c (.fn 119 [] [])) [.t 14, .t 15], none, [0, 1, 3, 2]⟩,
      ⟨(some 17), .call (.c (.fn 118 [] [])) [.t 13, .t 16], none, [2, 3, 0, 4, 1]⟩,
      ⟨(some 18), .call (.c (.fn 100 [] [])) [.c (.int .i64 1000)], none, [1, 4, 0, 3, 2, 5]⟩,
      ⟨(some 19), .call (.c (.fn 117 [] [])) [.t 17, .t 18], none, [1, 4, 0, 3, 2, 6, 5]⟩,
      ⟨(some 20), .call (.c (.fn 116 [] [])) [.t 19], none, [5, 6, 2, 3, 0, 4, 1, 7]⟩,
      ⟨(some 8), .new 48 [.int .i64 0, .int .i64 0], none, []⟩,
      ⟨none, .store 2 (.t 8) (.t 20), none, [7, 6, 5, 4, 3, 2, 1, 0, 8, 9]⟩])
  (.seq (.dreg [⟨(some 21), .faddr 0 (.t 8), none, []⟩,
      ⟨(some 22), .load1 (.t 21), none, [0]⟩,
      ⟨(some 23), .mov (.t 2), none, []⟩,
      ⟨(some 24), .loadn 1 (.t 3), none, []⟩,
      ⟨(some 25), .call (.c (.fn 59 [] [])) [.t 24], none, [3]⟩,
      ⟨(some 26), .field 1 1 false (.t 25), none, [3, 4]⟩,
      ⟨(some 27), .bin .sub (.t 23) (.t 26), none, [4, 3, 5, 2]⟩,
      ⟨(some 28), .ext false (.t 22) [.t 27], none, [2, 5, 3, 4, 0, 6, 1]⟩,
      ⟨(some 6), .mov (.t 28), none, [6, 5, 3, 2, 1, 0, 4, 7]⟩])
  (.ret)))), 29, [.t 6]⟩
structure PairCode (X : FuncId → Option XFunc) : Prop where
  tab : TabCode X
  h55 : X 55 = some xf55
  h90 : X 90 = some xf90
  h44 : X 44 = some xf44
  h75 : X 75 = some xf75
  h9 : X 9 = some xf9
  h12 : X 12 = some xf12
  h43 : X 43 = some xf43
  h41 : X 41 = some xf41
  h71 : X 71 = some xf71
  h70 : X 70 = some xf70
  h47 : X 47 = some xf47
  h112 : X 112 = some xf112
  h20 : X 20 = some xf20
  h14 : X 14 = some xf14
  h48 : X 48 = some xf48
  h49 : X 49 = some xf49
  h50 : X 50 = some xf50
  h83 : X 83 = some xf83
end Go.Proofs.YtbgjmclpahganaaGreat.Eng

/-
  CODE of Read.
-/
namespace Go.Proofs.YtbgjmclpahganaaGreat.Eng
set_option linter.unusedSimpArgs false
set_option linter.unusedVariables false
def xf64l0 : XCode := .seq (.seq (.reg [⟨(some 7), .mov (.t 3), none, []⟩,
      ⟨(some 8), .mov (.t 0), none, []⟩,
      ⟨(some 9), .len (.t 8), none, []⟩,
      ⟨(some 10), .bin .lss (.t 7) (.t 9), none, []⟩])
  (.cond (.t 10) .skip (.exit 0)))
  (.seq (.block 1 (.seq (.reg [⟨(some 13), .mov (.t 0), none, []⟩,
        ⟨(some 14), .mov (.t 3), none, []⟩,
        ⟨(some 15), .iaddr 1 (.t 13) (.t 14), none, []⟩,
        ⟨(some 16), .load1 (.t 15), none, []⟩,
        ⟨(some 17), .call (.c (.fn 27 [] [])) [.t 16, .c (.int .i64 (-10000000)), .c (.int .i64 10000000)], none, []⟩,
        ⟨(some 18), .un .not (.t 17), none, []⟩])
    (.cond (.t 18) (.seq (.reg [⟨(some 2), .mov (.c (.int .i64 2)), none, []⟩])
      (.ret)) .skip)))
  (.reg [⟨(some 11), .mov (.t 3), none, []⟩,
      ⟨(some 12), .bin .add (.t 11) (.c (.int .i64 1)), none, []⟩,
      ⟨(some 3), .mov (.t 12), none, []⟩]))
def xf64 : XFunc := ⟨.seq (.reg [⟨(some 2), .mov (.c (.int .i64 0)), none, []⟩])
  (.seq (.seq (.reg [⟨(some 4), .mov (.t 0), none, []⟩,
      ⟨(some 5), .len (.t 4), none, []⟩,
      ⟨(some 6), .bin .gtr (.t 5) (.c (.int .i64 200)), none, []⟩])
  (.cond (.t 6) (.seq (.reg [⟨(some 2), .mov (.c (.int .i64 8)), none, []⟩])
    (.ret)) .skip))
  (.seq (.seq (.reg [⟨(some 3), .mov (.c (.int .i64 0)), none, []⟩])
  (.block 0 (.loop xf64l0)))
  (.seq (.reg [⟨(some 2), .mov (.c (.int .i64 0)), none, []⟩])
  (.ret)))), 19, [.t 2]⟩
def xf65l0 : XCode := .seq (.seq (.reg [⟨(some 14), .mov (.t 7), none, []⟩,
      ⟨(some 15), .mov (.t 2), none, []⟩,
      ⟨(some 16), .len (.t 15), none, []⟩,
      ⟨(some 17), .bin .lss (.t 14) (.t 16), none, []⟩])
  (.cond (.t 17) .skip (.exit 0)))
  (.seq (.block 1 (.seq (.seq (.dreg [⟨(some 20), .mov (.t 2), none, []⟩,
        ⟨(some 21), .mov (.t 7), none, []⟩,
        ⟨(some 22), .iaddr 3 (.t 20) (.t 21), none, [1, 0]⟩,
        ⟨(some 23), .faddr 0 (.t 22), none, [0, 1, 2]⟩,
        ⟨(some 24), .load1 (.t 23), none, [2, 1, 0, 3]⟩,
        ⟨(some 25), .mov (.t 1), none, []⟩,
        ⟨(some 26), .len (.t 25), none, [5]⟩,
        ⟨(some 27), .call (.c (.fn 27 [] [])) [.t 24, .c (.int .i64 0), .t 26], none, [5, 3, 0, 1, 2, 6, 4]⟩,
        ⟨(some 28), .un .not (.t 27), none, [4, 6, 2, 1, 0, 3, 5, 7]⟩,
        ⟨(some 29), .mov (.t 28), none, [5, 3, 0, 1, 2, 6, 4, 7, 8]⟩,
        ⟨(some 30), .loadn 1 (.t 3), (some (29, false)), [8, 7, 4, 6, 2, 1, 0, 3, 5, 9]⟩,
        ⟨(some 31), .mov (.t 2), (some (29, false)), [8, 7, 4, 6, 2, 1, 0, 3, 5, 9]⟩,
        ⟨(some 32), .mov (.t 7), (some (29, false)), [8, 7, 4, 6, 2, 1, 0, 3, 5, 9]⟩,
        ⟨(some 33), .iaddr 3 (.t 31) (.t 32), (some (29, false)), [5, 3, 0, 1, 2, 6, 4, 7, 8, 9, 12, 11]⟩,
        ⟨(some 34), .faddr 1 (.t 33), (some (29, false)), [11, 12, 8, 7, 4, 6, 2, 1, 0, 3, 5, 9, 13]⟩,
        ⟨(some 35), .faddr 0 (.t 34), (some (29, false)), [13, 5, 3, 0, 1, 2, 6, 4, 7, 8, 12, 11, 9, 14]⟩,
        ⟨(some 36), .load1 (.t 35), (some (29, false)), [14, 11, 12, 8, 7, 4, 6, 2, 1, 0, 3, 5, 13, 9, 15]⟩,
        ⟨(some 37), .call (.c (.fn 89 [] [])) [.t 30, .t 36], (some (29, false)), [15, 13, 12, 11, 14, 5, 3, 0, 1, 2, 6, 4, 7, 8, 9, 16, 10]⟩,
        ⟨(some 38), .un .not (.t 37), (some (29, false)), [10, 16, 8, 7, 4, 6, 2, 1, 0, 3, 5, 14, 11, 12, 13, 15, 9, 17]⟩,
        ⟨(some 39), .pick (.t 29) (.c (.bool true)) (.t 38), none, [17, 15, 13, 12, 11, 14, 16, 10, 8, 7, 4, 6, 2, 1, 0, 3, 5, 18, 9]⟩,
        ⟨(some 40), .mov (.t 39), none, [9, 18, 5, 3, 0, 1, 2, 6, 4, 7, 8, 10, 16, 14, 11, 12, 13, 15, 17, 19]⟩,
        ⟨(some 41), .loadn 1 (.t 3), (some (40, false)), [19, 17, 15, 13, 12, 11, 14, 16, 10, 8, 7, 4, 6, 2, 1, 0, 3, 5, 18, 9, 20]⟩,
        ⟨(some 42), .mov (.t 2), (some (40, false)), [19, 17, 15, 13, 12, 11, 14, 16, 10, 8, 7, 4, 6, 2, 1, 0, 3, 5, 18, 9, 20]⟩,
        ⟨(some 43), .mov (.t 7), (some (40, false)), [19, 17, 15, 13, 12, 11, 14, 16, 10, 8, 7, 4, 6, 2, 1, 0, 3, 5, 18, 9, 20]⟩,
        ⟨(some 44), .iaddr 3 (.t 42) (.t 43), (some (40, false)), [9, 18, 5, 3, 0, 1, 2, 6, 4, 7, 8, 10, 16, 14, 11, 12, 13, 15, 17, 19, 20, 23, 22]⟩,
        ⟨(some 45), .faddr 1 (.t 44), (some (40, false)), [22, 23, 19, 17, 15, 13, 12, 11, 14, 16, 10, 8, 7, 4, 6, 2, 1, 0, 3, 5, 18, 9, 20, 24]⟩,
        ⟨(some 46), .faddr 1 (.t 45), (some (40, false)), [24, 9, 18, 5, 3, 0, 1, 2, 6, 4, 7, 8, 10, 16, 14, 11, 12, 13, 15, 17, 19, 23, 22, 20, 25]⟩,
        ⟨(some 47), .load1 (.t 46), (some (40, false)), [25, 22, 23, 19, 17, 15, 13, 12, 11, 14, 16, 10, 8, 7, 4, 6, 2, 1, 0, 3, 5, 18, 9, 24, 20, 26]⟩,
        ⟨(some 48), .call (.c (.fn 89 [] [])) [.t 41, .t 47], (some (40, false)), [26, 24, 23, 22, 25, 9, 18, 5, 3, 0, 1, 2, 6, 4, 7, 8, 10, 16, 14, 11, 12, 13, 15, 17, 19, 20, 27, 21]⟩,
        ⟨(some 49), .un .not (.t 48), (some (40, false)), [21, 27, 19, 17, 15, 13, 12, 11, 14, 16, 10, 8, 7, 4, 6, 2, 1, 0, 3, 5, 18, 9, 25, 22, 23, 24, 26, 20, 28]⟩,
        ⟨(some 50), .pick (.t 40) (.c (.bool true)) (.t 49), none, [28, 26, 24, 23, 22, 25, 27, 21, 19, 17, 15, 13, 12, 11, 14, 16, 10, 8, 7, 4, 6, 2, 1, 0, 3, 5, 18, 9, 29, 20]⟩])
    (.cond (.t 50) (.seq (.reg [⟨(some 6), .mov (.c (.int .i64 2)), none, []⟩])
      (.ret)) .skip))
    (.seq (.dreg [⟨(some 51), .mov (.t 2), none, []⟩,
        ⟨(some 52), .mov (.t 7), none, []⟩,
        ⟨(some 53), .iaddr 3 (.t 51) (.t 52), none, [1, 0]⟩,
        ⟨(some 54), .faddr 1 (.t 53), none, [0, 1, 2]⟩,
        ⟨(some 55), .faddr 0 (.t 54), none, [2, 1, 0, 3]⟩,
        ⟨(some 56), .load1 (.t 55), none, [3, 0, 1, 2, 4]⟩,
        ⟨(some 57), .mov (.t 2), none, []⟩,
        ⟨(some 58), .mov (.t 7), none, []⟩,
        ⟨(some 59), .iaddr 3 (.t 57) (.t 58), none, [7, 6]⟩,
        ⟨(some 60), .faddr 1 (.t 59), none, [6, 7, 8]⟩,
        ⟨(some 61), .faddr 1 (.t 60), none, [8, 7, 6, 9]⟩,
        ⟨(some 62), .load1 (.t 61), none, [9, 6, 7, 8, 10]⟩,
        ⟨(some 63), .bin .gtr (.t 56) (.t 62), none, [10, 8, 7, 6, 9, 4, 2, 1, 0, 3, 11, 5]⟩])
    (.cond (.t 63) (.seq (.reg [⟨(some 6), .mov (.c (.int .i64 9)), none, []⟩])
      (.ret)) .skip))))
  (.reg [⟨(some 18), .mov (.t 7), none, []⟩,
      ⟨(some 19), .bin .add (.t 18) (.c (.int .i64 1)), none, []⟩,
      ⟨(some 7), .mov (.t 19), none, []⟩]))
def xf65 : XFunc := ⟨.seq (.reg [⟨(some 3), .box 24 (.t 0), none, []⟩,
      ⟨(some 6), .mov (.c (.int .i64 0)), none, []⟩])
  (.seq (.seq (.reg [⟨(some 8), .mov (.t 2), none, []⟩,
      ⟨(some 9), .len (.t 8), none, []⟩,
      ⟨(some 10), .bin .eql (.t 9) (.c (.int .i64 0)), none, []⟩])
  (.cond (.t 10) (.seq (.reg [⟨(some 6), .mov (.c (.int .i64 10)), none, []⟩])
    (.ret)) .skip))
  (.seq (.seq (.reg [⟨(some 11), .mov (.t 2), none, []⟩,
      ⟨(some 12), .len (.t 11), none, []⟩,
      ⟨(some 13), .bin .gtr (.t 12) (.c (.int .i64 10)), none, []⟩])
  (.cond (.t 13) (.seq (.reg [⟨(some 6), .mov (.c (.int .i64 8)), none, []⟩])
    (.ret)) .skip))
  (.seq (.seq (.reg [⟨(some 7), .mov (.c (.int .i64 0)), none, []⟩])
  (.block 0 (.loop xf65l0)))
  (.seq (.reg [⟨(some 6), .mov (.c (.int .i64 0)), none, []⟩])
  (.ret))))), 64, [.t 6]⟩
def xf35 : XFunc := ⟨.seq (.reg [⟨(some 3), .box 24 (.t 0), none, []⟩,
      ⟨(some 6), .mov (.c (.int .i64 0)), none, []⟩])
  (.seq (.seq (.reg [⟨(some 9), .loadn 1 (.t 3), none, []⟩,
      ⟨(some 10), .call (.c (.fn 53 [] [])) [.t 9], none, []⟩,
      ⟨(some 7), .mov (.t 10), none, []⟩])
  (.seq (.reg [⟨(some 11), .mov (.t 7), none, []⟩,
      ⟨(some 12), .bin .neq (.t 11) (.c (.int .i64 0)), none, []⟩])
  (.cond (.t 12) (.seq (.reg [⟨(some 13), .mov (.t 7), none, []⟩,
        ⟨(some 6), .mov (.t 13), none, []⟩])
    (.ret)) .skip)))
  (.seq (.seq (.reg [⟨(some 14), .mov (.t 1), none, []⟩,
      ⟨(some 15), .call (.c (.fn 64 [] [])) [.t 14], none, []⟩,
      ⟨(some 8), .mov (.t 15), none, []⟩])
  (.seq (.reg [⟨(some 16), .mov (.t 8), none, []⟩,
      ⟨(some 17), .bin .neq (.t 16) (.c (.int .i64 0)), none, []⟩])
  (.cond (.t 17) (.seq (.reg [⟨(some 18), .mov (.t 8), none, []⟩,
        ⟨(some 6), .mov (.t 18), none, []⟩])
    (.ret)) .skip)))
  (.seq (.reg [⟨(some 19), .loadn 1 (.t 3), none, []⟩,
      ⟨(some 20), .mov (.t 1), none, []⟩,
      ⟨(some 21), .mov (.t 2), none, []⟩,
      ⟨(some 22), .call (.c (.fn 65 [] [])) [.t 19, .t 20, .t 21], none, []⟩,
      ⟨(some 6), .mov (.t 22), none, []⟩])
  (.ret)))), 23, [.t 6]⟩
def xf104 : XFunc := ⟨.seq (.reg [⟨(some 2), .mov (.c (.int .i64 0)), none, []⟩])
  (.seq (.seq (.reg [⟨(some 3), .mov (.t 0), none, []⟩,
      ⟨(some 4), .call (.c (.fn 92 [] [])) [.t 3, .c (.int .i64 (-10000000)), .c (.int .i64 10000000)], none, []⟩,
      ⟨(some 5), .un .not (.t 4), none, []⟩])
  (.cond (.t 5) (.seq (.reg [⟨(some 2), .mov (.c (.int .i64 2)), none, []⟩])
    (.ret)) .skip))
  (.seq (.reg [⟨(some 2), .mov (.c (.int .i64 0)), none, []⟩])
  (.ret))), 6, [.t 2]⟩
def xf103 : XFunc := ⟨.seq (.reg [⟨(some 3), .mov (.c (.int .i64 0)), none, []⟩])
  (.seq (.reg [⟨(some 4), .load1 (.t 1), none, []⟩,
      ⟨(some 5), .mov (.t 0), none, []⟩,
      ⟨(some 6), .iaddr 1 (.t 4) (.t 5), none, []⟩,
      ⟨(some 7), .load1 (.t 6), none, []⟩,
      ⟨(some 8), .call (.c (.fn 104 [] [])) [.t 7], none, []⟩,
      ⟨(some 3), .mov (.t 8), none, []⟩])
  (.ret)), 9, [.t 3]⟩
def xf106 : XFunc := ⟨.seq (.reg [⟨(some 3), .box 101 (.t 0), none, []⟩,
      ⟨(some 4), .box 99 (.t 1), none, []⟩,
      ⟨(some 6), .mov (.c (.int .i64 0)), none, []⟩])
  (.seq (.dreg [⟨(some 7), .faddr 0 (.t 4), none, []⟩,
      ⟨(some 8), .load1 (.t 7), none, [0]⟩,
      ⟨(some 9), .mov (.t 2), none, []⟩,
      ⟨(some 10), .call (.c (.fn 92 [] [])) [.t 8, .c (.int .i64 0), .t 9], none, [0, 2, 1]⟩,
      ⟨(some 11), .un .not (.t 10), none, [1, 2, 0, 3]⟩,
      ⟨(some 12), .call (.c (.fn 78 [] [])) [.t 11, .c (.int .i64 2)], none, [0, 2, 1, 3, 4]⟩,
      ⟨(some 13), .loadn 1 (.t 3), none, []⟩,
      ⟨(some 14), .faddr 1 (.t 4), none, []⟩,
      ⟨(some 15), .faddr 0 (.t 14), none, [7]⟩,
      ⟨(some 16), .load1 (.t 15), none, [7, 8]⟩,
      ⟨(some 17), .call (.c (.fn 122 [] [])) [.t 13, .t 16], none, [4, 3, 1, 2, 0, 8, 7, 5, 9, 6]⟩,
      ⟨(some 18), .un .not (.t 17), none, [6, 9, 5, 7, 8, 0, 2, 1, 3, 4, 10]⟩,
      ⟨(some 19), .mov (.t 18), none, [4, 3, 1, 2, 0, 8, 7, 5, 9, 6, 10, 11]⟩,
      ⟨(some 20), .loadn 1 (.t 3), (some (19, false)), [11, 10, 6, 9, 5, 7, 8, 0, 2, 1, 3, 4, 12]⟩,
      ⟨(some 21), .faddr 1 (.t 4), (some (19, false)), [11, 10, 6, 9, 5, 7, 8, 0, 2, 1, 3, 4, 12]⟩,
      ⟨(some 22), .faddr 1 (.t 21), (some (19, false)), [4, 3, 1, 2, 0, 8, 7, 5, 9, 6, 10, 11, 12, 14]⟩,
      ⟨(some 23), .load1 (.t 22), (some (19, false)), [14, 11, 10, 6, 9, 5, 7, 8, 0, 2, 1, 3, 4, 12, 15]⟩,
      ⟨(some 24), .call (.c (.fn 122 [] [])) [.t 20, .t 23], (some (19, false)), [15, 14, 4, 3, 1, 2, 0, 8, 7, 5, 9, 6, 10, 11, 12, 16, 13]⟩,
      ⟨(some 25), .un .not (.t 24), (some (19, false)), [13, 16, 11, 10, 6, 9, 5, 7, 8, 0, 2, 1, 3, 4, 14, 15, 12, 17]⟩,
      ⟨(some 26), .pick (.t 19) (.c (.bool true)) (.t 25), none, [17, 15, 14, 16, 13, 11, 10, 6, 9, 5, 7, 8, 0, 2, 1, 3, 4, 18, 12]⟩,
      ⟨(some 27), .call (.c (.fn 78 [] [])) [.t 26, .c (.int .i64 2)], none, [12, 18, 4, 3, 1, 2, 0, 8, 7, 5, 9, 6, 10, 11, 13, 16, 14, 15, 17, 19]⟩,
      ⟨(some 28), .faddr 1 (.t 4), none, []⟩,
      ⟨(some 29), .faddr 0 (.t 28), none, [21]⟩,
      ⟨(some 30), .load1 (.t 29), none, [21, 22]⟩,
      ⟨(some 31), .faddr 1 (.t 4), none, []⟩,
      ⟨(some 32), .faddr 1 (.t 31), none, [24]⟩,
      ⟨(some 33), .load1 (.t 32), none, [24, 25]⟩,
      ⟨(some 34), .bin .gtr (.t 30) (.t 33), none, [25, 24, 22, 21, 26, 23]⟩,
      ⟨(some 35), .call (.c (.fn 78 [] [])) [.t 34, .c (.int .i64 9)], none, [19, 17, 15, 14, 16, 13, 11, 10, 6, 9, 5, 7, 8, 0, 2, 1, 3, 4, 18, 12, 23, 26, 21, 22, 24, 25, 20, 27]⟩,
      ⟨(some 36), .buildSlice 159 1 3 false [.nilfn, .nilfn, .nilfn] [(0, 1, .t 12), (1, 1, .t 27), (2, 1, .t 35)], none, [27, 25, 24, 22, 21, 26, 23, 19, 17, 15, 14, 16, 13, 11, 10, 6, 9, 7, 8, 18, 12, 4, 3, 1, 2, 0, 28, 20, 5]⟩,
      ⟨(some 37), .call (.c (.fn 77 [] [])) [.t 36], none, [5, 20, 0, 2, 1, 3, 4, 12, 18, 8, 7, 9, 6, 10, 11, 13, 16, 14, 15, 17, 19, 23, 26, 21, 22, 24, 25, 27, 28, 29]⟩,
      ⟨(some 6), .mov (.t 37), none, [29, 28, 27, 26, 25, 24, 23, 22, 21, 20, 19, 18, 17, 16, 15, 14, 13, 12, 11, 10, 9, 8, 7, 6, 5, 4, 3, 2, 1, 0, 30]⟩])
  (.ret)), 38, [.t 6]⟩
def xf105 : XFunc := ⟨.seq (.reg [⟨(some 5), .mov (.c (.int .i64 0)), none, []⟩])
  (.seq (.dreg [⟨(some 6), .loadn 1 (.t 1), none, []⟩,
      ⟨(some 7), .load1 (.t 2), none, []⟩,
      ⟨(some 8), .mov (.t 0), none, []⟩,
      ⟨(some 9), .iaddr 3 (.t 7) (.t 8), none, [2, 1]⟩,
      ⟨(some 10), .loadn 3 (.t 9), none, [1, 2, 3]⟩,
      ⟨(some 11), .load1 (.t 3), none, []⟩,
      ⟨(some 12), .len (.t 11), none, [5]⟩,
      ⟨(some 13), .call (.c (.fn 106 [] [])) [.t 6, .t 10, .t 12], none, [5, 3, 2, 1, 6, 4, 0]⟩,
      ⟨(some 5), .mov (.t 13), none, [6, 5, 4, 3, 2, 1, 0, 7]⟩])
  (.ret)), 14, [.t 5]⟩
def xf107l0 : XCode := .seq (.reg [⟨(some 18), .bin .lss (.t 17) (.t 16), none, []⟩])
  (.seq (.cond (.t 18) .skip (.exit 0))
  (.seq (.block 1 (.seq (.reg [⟨(some 19), .iaddr 1 (.t 15) (.t 17), none, []⟩,
        ⟨(some 20), .load1 (.t 19), none, []⟩,
        ⟨(some 9), .mov (.t 20), none, []⟩])
    (.reg [⟨(some 21), .mov (.t 7), none, []⟩,
        ⟨(some 22), .mov (.t 9), none, []⟩,
        ⟨(some 23), .bin .add (.t 21) (.t 22), none, []⟩,
        ⟨(some 7), .mov (.t 23), none, []⟩])))
  (.reg [⟨(some 24), .bin .add (.t 17) (.c (.int .i64 1)), none, []⟩,
      ⟨(some 17), .mov (.t 24), none, []⟩])))
def xf107 : XFunc := ⟨.seq (.reg [⟨(some 3), .box 101 (.t 0), none, []⟩,
      ⟨(some 4), .box 99 (.t 1), none, []⟩,
      ⟨(some 6), .new 48 [.int .i64 0, .int .i64 0], none, []⟩])
  (.seq (.reg [⟨(some 7), .mov (.c (.int .i64 0)), none, []⟩])
  (.seq (.seq (.reg [⟨(some 12), .mov (.t 2), none, []⟩,
      ⟨(some 13), .faddr 0 (.t 4), none, []⟩,
      ⟨(some 14), .load1 (.t 13), none, []⟩,
      ⟨(some 15), .slice 1 (.t 12) none (some (.t 14)), none, []⟩,
      ⟨(some 16), .len (.t 15), none, []⟩,
      ⟨(some 17), .mov (.c (.int .i64 0)), none, []⟩])
  (.block 0 (.loop xf107l0)))
  (.seq (.dreg [⟨(some 25), .loadn 1 (.t 3), none, []⟩,
      ⟨(some 26), .faddr 1 (.t 4), none, []⟩,
      ⟨(some 27), .faddr 0 (.t 26), none, [1]⟩,
      ⟨(some 28), .load1 (.t 27), none, [1, 2]⟩,
      ⟨(some 29), .call (.c (.fn 130 [] [])) [.t 25, .t 28], none, [2, 1, 3, 0]⟩,
      ⟨(some 30), .loadn 1 (.t 3), none, []⟩,
      ⟨(some 31), .faddr 1 (.t 4), none, []⟩,
      ⟨(some 32), .faddr 1 (.t 31), none, [6]⟩,
      ⟨(some 33), .load1 (.t 32), none, [6, 7]⟩,
      ⟨(some 34), .call (.c (.fn 130 [] [])) [.t 30, .t 33], none, [0, 3, 1, 2, 7, 6, 4, 8, 5]⟩,
      ⟨(some 10), .new 149 [.int .i64 0, .int .i64 0, .int .i64 0], none, []⟩,
      ⟨(some 11), .new 149 [.int .i64 0, .int .i64 0, .int .i64 0], none, []⟩,
      ⟨none, .store 3 (.t 10) (.t 29), none, [5, 8, 6, 7, 11, 3, 2, 1, 0, 9, 4, 10]⟩,
      ⟨none, .store 3 (.t 11) (.t 34), none, [10, 8, 7, 6, 5, 4, 3, 2, 1, 0, 12, 9, 11]⟩])
  (.seq (.dreg [⟨(some 35), .loadn 3 (.t 10), none, []⟩,
      ⟨(some 36), .call (.c (.fn 111 [] [])) [.t 35], none, [0]⟩,
      ⟨(some 37), .mov (.t 7), none, []⟩,
      ⟨(some 38), .bin .sub (.t 36) (.t 37), none, [0, 2, 1]⟩,
      ⟨(some 39), .faddr 0 (.t 11), none, []⟩,
      ⟨(some 40), .load1 (.t 39), none, [4]⟩,
      ⟨(some 41), .mov (.t 7), none, []⟩,
      ⟨(some 42), .bin .sub (.t 40) (.t 41), none, [4, 6, 5]⟩,
      ⟨(some 43), .build [.int .i64 0, .int .i64 0] [(0, 1, .t 38), (1, 1, .t 42)], none, [5, 6, 4, 1, 2, 0, 7, 3]⟩,
      ⟨none, .store 2 (.t 6) (.t 43), none, [7, 6, 5, 4, 3, 2, 0, 1, 8]⟩])
  (.ret))))), 44, [.cn 6 2]⟩
def xf61l0 : XCode := .seq (.reg [⟨(some 49), .bin .lss (.t 48) (.t 47), none, []⟩])
  (.seq (.cond (.t 49) .skip (.exit 0))
  (.seq (.block 1 (.seq (.reg [⟨(some 50), .iaddr 3 (.t 46) (.t 48), none, []⟩,
        ⟨(some 51), .loadn 3 (.t 50), none, []⟩,
        ⟨(some 12), .new 99 [.int .i64 0, .int .i64 0, .int .i64 0], none, []⟩,
        ⟨none, .store 3 (.t 12) (.t 51), none, []⟩])
    (.reg [⟨(some 52), .mov (.t 10), none, []⟩,
        ⟨(some 53), .loadn 1 (.t 8), none, []⟩,
        ⟨(some 54), .loadn 3 (.t 12), none, []⟩,
        ⟨(some 55), .load1 (.t 4), none, []⟩,
        ⟨(some 56), .call (.c (.fn 107 [] [])) [.t 53, .t 54, .t 55], none, []⟩,
        ⟨(some 57), .buildSlice 48 2 1 true [.int .i64 0, .int .i64 0] [(0, 2, .t 56)], none, []⟩,
        ⟨(some 58), .append 48 2 16 (.t 52) (.t 57), none, []⟩,
        ⟨(some 10), .mov (.t 58), none, []⟩])))
  (.reg [⟨(some 59), .bin .add (.t 48) (.c (.int .i64 1)), none, []⟩,
      ⟨(some 48), .mov (.t 59), none, []⟩])))
def xf61 : XFunc := ⟨.seq (.reg [⟨(some 3), .box 24 (.t 0), none, []⟩,
      ⟨(some 4), .box 74 (.t 1), none, []⟩,
      ⟨(some 5), .box 75 (.t 2), none, []⟩,
      ⟨(some 6), .mov (.c .nils), none, []⟩,
      ⟨(some 7), .mov (.c (.int .i64 0)), none, []⟩])
  (.seq (.reg [⟨(some 14), .loadn 1 (.t 3), none, []⟩,
      ⟨(some 15), .call (.c (.fn 91 [] [])) [.t 14], none, []⟩,
      ⟨(some 13), .mov (.t 15), none, []⟩,
      ⟨(some 16), .extract (.t 13) 0, none, []⟩,
      ⟨(some 17), .extract (.t 13) 1, none, []⟩,
      ⟨(some 8), .new 101 [.nils], none, []⟩,
      ⟨none, .store 1 (.t 8) (.t 16), none, []⟩,
      ⟨(some 9), .mov (.t 17), none, []⟩])
  (.seq (.seq (.reg [⟨(some 18), .mov (.t 9), none, []⟩,
      ⟨(some 19), .bin .neq (.t 18) (.c (.int .i64 0)), none, []⟩])
  (.cond (.t 19) (.seq (.reg [⟨(some 20), .mov (.t 9), none, []⟩,
        ⟨(some 6), .mov (.c .nils), none, []⟩,
        ⟨(some 7), .mov (.t 20), none, []⟩])
    (.ret)) .skip))
  (.seq (.dreg [⟨(some 21), .load1 (.t 4), none, []⟩,
      ⟨(some 22), .len (.t 21), none, [0]⟩,
      ⟨(some 23), .bin .gtr (.t 22) (.c (.int .i64 200)), none, [0, 1]⟩,
      ⟨(some 24), .call (.c (.fn 78 [] [])) [.t 23, .c (.int .i64 8)], none, [1, 0, 2]⟩,
      ⟨(some 25), .load1 (.t 4), none, []⟩,
      ⟨(some 26), .len (.t 25), none, [4]⟩,
      ⟨(some 27), .fn true 103 [] [.t 4], none, []⟩,
      ⟨(some 28), .call (.c (.fn 79 [] [])) [.t 26, .t 27], none, [2, 0, 1, 4, 3, 6, 5]⟩,
      ⟨(some 29), .load1 (.t 5), none, []⟩,
      ⟨(some 30), .len (.t 29), none, [8]⟩,
      ⟨(some 31), .bin .eql (.t 30) (.c (.int .i64 0)), none, [8, 9]⟩,
      ⟨(some 32), .call (.c (.fn 78 [] [])) [.t 31, .c (.int .i64 10)], none, [5, 6, 3, 4, 1, 0, 2, 9, 8, 7, 10]⟩,
      ⟨(some 33), .load1 (.t 5), none, []⟩,
      ⟨(some 34), .len (.t 33), none, [12]⟩,
      ⟨(some 35), .bin .gtr (.t 34) (.c (.int .i64 10)), none, [12, 13]⟩,
      ⟨(some 36), .call (.c (.fn 78 [] [])) [.t 35, .c (.int .i64 8)], none, [10, 7, 8, 9, 2, 0, 1, 4, 3, 6, 5, 13, 12, 11, 14]⟩,
      ⟨(some 37), .load1 (.t 5), none, []⟩,
      ⟨(some 38), .len (.t 37), none, [16]⟩,
      ⟨(some 39), .fn true 105 [] [.t 8, .t 5, .t 4], none, []⟩,
      ⟨(some 40), .call (.c (.fn 79 [] [])) [.t 38, .t 39], none, [14, 11, 12, 13, 5, 6, 3, 4, 1, 0, 2, 9, 8, 7, 10, 16, 15, 18, 17]⟩,
      ⟨(some 41), .buildSlice 159 1 5 false [.nilfn, .nilfn, .nilfn, .nilfn, .nilfn] [(0, 1, .t 24), (1, 1, .t 28), (2, 1, .t 32), (3, 1, .t 36), (4, 1, .t 40)], none, [17, 18, 16, 14, 12, 13, 10, 8, 9, 5, 6, 4, 2, 0, 1, 19, 15, 11, 7, 3]⟩,
      ⟨(some 42), .call (.c (.fn 77 [] [])) [.t 41], none, [3, 7, 11, 15, 1, 0, 2, 4, 6, 5, 9, 8, 10, 13, 12, 14, 16, 18, 17, 19, 20]⟩,
      ⟨(some 9), .mov (.t 42), none, [20, 19, 18, 17, 16, 15, 14, 13, 12, 11, 10, 9, 8, 7, 6, 5, 4, 3, 2, 1, 0, 21]⟩])
  (.seq (.seq (.reg [⟨(some 43), .mov (.t 9), none, []⟩,
      ⟨(some 44), .bin .neq (.t 43) (.c (.int .i64 0)), none, []⟩])
  (.cond (.t 44) (.seq (.reg [⟨(some 45), .mov (.t 9), none, []⟩,
        ⟨(some 6), .mov (.c .nils), none, []⟩,
        ⟨(some 7), .mov (.t 45), none, []⟩])
    (.ret)) .skip))
  (.seq (.reg [⟨(some 10), .mov (.c .nils), none, []⟩])
  (.seq (.seq (.reg [⟨(some 46), .load1 (.t 5), none, []⟩,
      ⟨(some 47), .len (.t 46), none, []⟩,
      ⟨(some 48), .mov (.c (.int .i64 0)), none, []⟩])
  (.block 0 (.loop xf61l0)))
  (.seq (.reg [⟨(some 60), .mov (.t 10), none, []⟩,
      ⟨(some 6), .mov (.t 60), none, []⟩,
      ⟨(some 7), .mov (.c (.int .i64 0)), none, []⟩])
  (.ret)))))))), 61, [.t 6, .t 7]⟩
def xf62l0 : XCode := .seq (.reg [⟨(some 12), .bin .lss (.t 11) (.t 10), none, []⟩])
  (.seq (.cond (.t 12) .skip (.exit 0))
  (.seq (.block 1 (.seq (.reg [⟨(some 13), .iaddr 2 (.t 9) (.t 11), none, []⟩,
        ⟨(some 14), .loadn 2 (.t 13), none, []⟩,
        ⟨(some 5), .new 48 [.int .i64 0, .int .i64 0], none, []⟩,
        ⟨none, .store 2 (.t 5) (.t 14), none, []⟩])
    (.reg [⟨(some 15), .faddr 0 (.t 3), none, []⟩,
        ⟨(some 16), .load1 (.t 15), none, []⟩,
        ⟨(some 17), .faddr 0 (.t 5), none, []⟩,
        ⟨(some 18), .load1 (.t 17), none, []⟩,
        ⟨(some 19), .ext true (.t 16) [.t 18], none, []⟩,
        ⟨(some 20), .faddr 1 (.t 3), none, []⟩,
        ⟨(some 21), .load1 (.t 20), none, []⟩,
        ⟨(some 22), .faddr 1 (.t 5), none, []⟩,
        ⟨(some 23), .load1 (.t 22), none, []⟩,
        ⟨(some 24), .ext false (.t 21) [.t 23], none, []⟩,
        ⟨(some 25), .build [.int .i64 0, .int .i64 0] [(0, 1, .t 19), (1, 1, .t 24)], none, []⟩,
        ⟨none, .store 2 (.t 3) (.t 25), none, []⟩])))
  (.reg [⟨(some 26), .bin .add (.t 11) (.c (.int .i64 1)), none, []⟩,
      ⟨(some 11), .mov (.t 26), none, []⟩])))
def xf62 : XFunc := ⟨.seq (.reg [⟨(some 2), .new 48 [.int .i64 0, .int .i64 0], none, []⟩])
  (.seq (.reg [⟨(some 6), .mov (.t 0), none, []⟩,
      ⟨(some 7), .iaddr 2 (.t 6) (.c (.int .i64 0)), none, []⟩,
      ⟨(some 8), .loadn 2 (.t 7), none, []⟩,
      ⟨(some 3), .new 48 [.int .i64 0, .int .i64 0], none, []⟩,
      ⟨none, .store 2 (.t 3) (.t 8), none, []⟩])
  (.seq (.seq (.reg [⟨(some 9), .mov (.t 0), none, []⟩,
      ⟨(some 10), .len (.t 9), none, []⟩,
      ⟨(some 11), .mov (.c (.int .i64 0)), none, []⟩])
  (.block 0 (.loop xf62l0)))
  (.seq (.reg [⟨(some 27), .loadn 2 (.t 3), none, []⟩,
      ⟨none, .store 2 (.t 2) (.t 27), none, []⟩])
  (.ret)))), 28, [.cn 2 2]⟩
def xf63 : XFunc := ⟨.seq (.reg [⟨(some 1), .box 48 (.t 0), none, []⟩,
      ⟨(some 2), .mov (.c (.bool false)), none, []⟩])
  (.seq (.reg [⟨(some 3), .faddr 0 (.t 1), none, []⟩,
      ⟨(some 4), .load1 (.t 3), none, []⟩,
      ⟨(some 5), .faddr 1 (.t 1), none, []⟩,
      ⟨(some 6), .load1 (.t 5), none, []⟩,
      ⟨(some 7), .bin .gtr (.t 4) (.t 6), none, []⟩,
      ⟨(some 2), .mov (.t 7), none, []⟩])
  (.ret)), 8, [.t 2]⟩
def xf30 : XFunc := ⟨.seq (.reg [⟨(some 3), .box 24 (.t 0), none, []⟩,
      ⟨(some 6), .new 48 [.int .i64 0, .int .i64 0], none, []⟩,
      ⟨(some 7), .mov (.c (.int .i64 0)), none, []⟩])
  (.seq (.reg [⟨(some 12), .loadn 1 (.t 3), none, []⟩,
      ⟨(some 13), .mov (.t 1), none, []⟩,
      ⟨(some 14), .mov (.t 2), none, []⟩,
      ⟨(some 15), .call (.c (.fn 61 [] [])) [.t 12, .t 13, .t 14], none, []⟩,
      ⟨(some 11), .mov (.t 15), none, []⟩,
      ⟨(some 16), .extract (.t 11) 0, none, []⟩,
      ⟨(some 17), .extract (.t 11) 1, none, []⟩,
      ⟨(some 8), .mov (.t 16), none, []⟩,
      ⟨(some 9), .mov (.t 17), none, []⟩])
  (.seq (.seq (.reg [⟨(some 18), .mov (.t 9), none, []⟩,
      ⟨(some 19), .bin .neq (.t 18) (.c (.int .i64 0)), none, []⟩])
  (.cond (.t 19) (.seq (.reg [⟨(some 20), .build [.int .i64 0, .int .i64 0] [], none, []⟩,
        ⟨(some 21), .mov (.t 9), none, []⟩,
        ⟨none, .store 2 (.t 6) (.t 20), none, []⟩,
        ⟨(some 7), .mov (.t 21), none, []⟩])
    (.ret)) .skip))
  (.seq (.reg [⟨(some 22), .mov (.t 8), none, []⟩,
      ⟨(some 23), .call (.c (.fn 62 [] [])) [.t 22], none, []⟩,
      ⟨(some 10), .new 48 [.int .i64 0, .int .i64 0], none, []⟩,
      ⟨none, .store 2 (.t 10) (.t 23), none, []⟩])
  (.seq (.seq (.reg [⟨(some 24), .loadn 2 (.t 10), none, []⟩,
      ⟨(some 25), .call (.c (.fn 63 [] [])) [.t 24], none, []⟩])
  (.cond (.t 25) (.seq (.reg [⟨(some 26), .build [.int .i64 0, .int .i64 0] [], none, []⟩,
        ⟨none, .store 2 (.t 6) (.t 26), none, []⟩,
        ⟨(some 7), .mov (.c (.int .i64 13)), none, []⟩])
    (.ret)) .skip))
  (.seq (.reg [⟨(some 27), .loadn 2 (.t 10), none, []⟩,
      ⟨none, .store 2 (.t 6) (.t 27), none, []⟩,
      ⟨(some 7), .mov (.c (.int .i64 0)), none, []⟩])
  (.ret)))))), 28, [.cn 6 2, .t 7]⟩
def xf34l0 : XCode := .seq (.reg [⟨(some 28), .bin .lss (.t 27) (.t 26), none, []⟩])
  (.seq (.cond (.t 28) .skip (.exit 0))
  (.seq (.block 1 (.seq (.reg [⟨(some 29), .mov (.t 27), none, []⟩,
        ⟨(some 30), .iaddr 2 (.t 25) (.t 27), none, []⟩,
        ⟨(some 31), .loadn 2 (.t 30), none, []⟩,
        ⟨(some 11), .new 48 [.int .i64 0, .int .i64 0], none, []⟩,
        ⟨(some 10), .mov (.t 29), none, []⟩,
        ⟨none, .store 2 (.t 11) (.t 31), none, []⟩])
    (.seq (.reg [⟨(some 32), .loadn 2 (.t 11), none, []⟩,
        ⟨(some 33), .call (.c (.fn 63 [] [])) [.t 32], none, []⟩])
    (.cond (.t 33) (.seq (.reg [⟨(some 34), .mov (.t 10), none, []⟩,
          ⟨(some 35), .buildSlice 3 1 1 false [.int .i64 0] [(0, 1, .t 34)], none, []⟩,
          ⟨(some 6), .mov (.t 35), none, []⟩,
          ⟨(some 7), .mov (.c (.int .i64 0)), none, []⟩])
      (.ret)) .skip))))
  (.reg [⟨(some 36), .bin .add (.t 27) (.c (.int .i64 1)), none, []⟩,
      ⟨(some 27), .mov (.t 36), none, []⟩])))
def xf34l1 : XCode := .seq (.seq (.reg [⟨(some 46), .mov (.t 14), none, []⟩,
      ⟨(some 47), .mov (.t 8), none, []⟩,
      ⟨(some 48), .len (.t 47), none, []⟩,
      ⟨(some 49), .bin .lss (.t 46) (.t 48), none, []⟩])
  (.cond (.t 49) .skip (.exit 4)))
  (.seq (.block 5 (.seq (.dreg [⟨(some 52), .loadn 2 (.t 13), none, []⟩,
        ⟨(some 53), .mov (.t 8), none, []⟩,
        ⟨(some 54), .mov (.t 14), none, []⟩,
        ⟨(some 55), .iaddr 2 (.t 53) (.t 54), none, [2, 1]⟩,
        ⟨(some 56), .loadn 2 (.t 55), none, [1, 2, 3]⟩,
        ⟨(some 57), .buildSlice 48 2 2 true [.int .i64 0, .int .i64 0, .int .i64 0, .int .i64 0] [(0, 2, .t 52), (2, 2, .t 56)], none, [3, 2, 1, 4, 0]⟩,
        ⟨(some 58), .call (.c (.fn 62 [] [])) [.t 57], none, [0, 4, 1, 2, 3, 5]⟩,
        ⟨(some 59), .call (.c (.fn 63 [] [])) [.t 58], none, [5, 3, 2, 1, 4, 0, 6]⟩])
    (.cond (.t 59) (.seq (.reg [⟨(some 60), .mov (.t 12), none, []⟩,
          ⟨(some 61), .mov (.t 14), none, []⟩,
          ⟨(some 62), .buildSlice 3 1 2 false [.int .i64 0, .int .i64 0] [(0, 1, .t 60), (1, 1, .t 61)], none, []⟩,
          ⟨(some 6), .mov (.t 62), none, []⟩,
          ⟨(some 7), .mov (.c (.int .i64 0)), none, []⟩])
      (.ret)) .skip)))
  (.reg [⟨(some 50), .mov (.t 14), none, []⟩,
      ⟨(some 51), .bin .add (.t 50) (.c (.int .i64 1)), none, []⟩,
      ⟨(some 14), .mov (.t 51), none, []⟩]))
def xf34l2 : XCode := .seq (.reg [⟨(some 40), .bin .lss (.t 39) (.t 38), none, []⟩])
  (.seq (.cond (.t 40) .skip (.exit 2))
  (.seq (.block 3 (.seq (.reg [⟨(some 41), .mov (.t 39), none, []⟩,
        ⟨(some 42), .iaddr 2 (.t 37) (.t 39), none, []⟩,
        ⟨(some 43), .loadn 2 (.t 42), none, []⟩,
        ⟨(some 13), .new 48 [.int .i64 0, .int .i64 0], none, []⟩,
        ⟨(some 12), .mov (.t 41), none, []⟩,
        ⟨none, .store 2 (.t 13) (.t 43), none, []⟩])
    (.seq (.reg [⟨(some 44), .mov (.t 12), none, []⟩,
        ⟨(some 45), .bin .add (.t 44) (.c (.int .i64 1)), none, []⟩,
        ⟨(some 14), .mov (.t 45), none, []⟩])
    (.block 4 (.loop xf34l1)))))
  (.reg [⟨(some 63), .bin .add (.t 39) (.c (.int .i64 1)), none, []⟩,
      ⟨(some 39), .mov (.t 63), none, []⟩])))
def xf34 : XFunc := ⟨.seq (.reg [⟨(some 3), .box 24 (.t 0), none, []⟩,
      ⟨(some 6), .mov (.c .nils), none, []⟩,
      ⟨(some 7), .mov (.c (.int .i64 0)), none, []⟩])
  (.seq (.reg [⟨(some 16), .loadn 1 (.t 3), none, []⟩,
      ⟨(some 17), .mov (.t 1), none, []⟩,
      ⟨(some 18), .mov (.t 2), none, []⟩,
      ⟨(some 19), .call (.c (.fn 61 [] [])) [.t 16, .t 17, .t 18], none, []⟩,
      ⟨(some 15), .mov (.t 19), none, []⟩,
      ⟨(some 20), .extract (.t 15) 0, none, []⟩,
      ⟨(some 21), .extract (.t 15) 1, none, []⟩,
      ⟨(some 8), .mov (.t 20), none, []⟩,
      ⟨(some 9), .mov (.t 21), none, []⟩])
  (.seq (.seq (.reg [⟨(some 22), .mov (.t 9), none, []⟩,
      ⟨(some 23), .bin .neq (.t 22) (.c (.int .i64 0)), none, []⟩])
  (.cond (.t 23) (.seq (.reg [⟨(some 24), .mov (.t 9), none, []⟩,
        ⟨(some 6), .mov (.c .nils), none, []⟩,
        ⟨(some 7), .mov (.t 24), none, []⟩])
    (.ret)) .skip))
  (.seq (.seq (.reg [⟨(some 25), .mov (.t 8), none, []⟩,
      ⟨(some 26), .len (.t 25), none, []⟩,
      ⟨(some 27), .mov (.c (.int .i64 0)), none, []⟩])
  (.block 0 (.loop xf34l0)))
  (.seq (.seq (.reg [⟨(some 37), .mov (.t 8), none, []⟩,
      ⟨(some 38), .len (.t 37), none, []⟩,
      ⟨(some 39), .mov (.c (.int .i64 0)), none, []⟩])
  (.block 2 (.loop xf34l2)))
  (.seq (.reg [⟨(some 6), .mov (.c .nils), none, []⟩,
      ⟨(some 7), .mov (.c (.int .i64 12)), none, []⟩])
  (.ret)))))), 64, [.t 6, .t 7]⟩
def xf32 : XFunc := ⟨.seq (.reg [⟨(some 2), .mov (.c .nils), none, []⟩])
  (.seq (.reg [⟨(some 3), .buildSlice 3 1 0 false [] [], none, []⟩,
      ⟨(some 4), .mov (.t 0), none, []⟩,
      ⟨(some 5), .append 3 1 8 (.t 3) (.t 4), none, []⟩,
      ⟨(some 2), .mov (.t 5), none, []⟩])
  (.ret)), 6, [.t 2]⟩
def xf33 : XFunc := ⟨.seq (.reg [⟨(some 2), .mov (.c .nils), none, []⟩])
  (.seq (.reg [⟨(some 3), .buildSlice 99 3 0 true [] [], none, []⟩,
      ⟨(some 4), .mov (.t 0), none, []⟩,
      ⟨(some 5), .append 99 3 24 (.t 3) (.t 4), none, []⟩,
      ⟨(some 2), .mov (.t 5), none, []⟩])
  (.ret)), 6, [.t 2]⟩
structure ReadCode (X : FuncId → Option XFunc) : Prop where
  tab : TabCode X
  h64 : X 64 = some xf64
  h65 : X 65 = some xf65
  h35 : X 35 = some xf35
  h104 : X 104 = some xf104
  h103 : X 103 = some xf103
  h106 : X 106 = some xf106
  h105 : X 105 = some xf105
  h107 : X 107 = some xf107
  h61 : X 61 = some xf61
  h62 : X 62 = some xf62
  h63 : X 63 = some xf63
  h30 : X 30 = some xf30
  h34 : X 34 = some xf34
  h32 : X 32 = some xf32
  h33 : X 33 = some xf33
end Go.Proofs.YtbgjmclpahganaaGreat.Eng

/-
  CODE of Run.
-/
namespace Go.Proofs.YtbgjmclpahganaaGreat.Eng
set_option linter.unusedSimpArgs false
set_option linter.unusedVariables false
def xf45 : XFunc := ⟨.seq (.reg [⟨(some 1), .box 29 (.t 0), none, []⟩,
      ⟨(some 2), .mov (.c (.int .i64 0)), none, []⟩])
  (.seq (.dreg [⟨(some 3), .load1 (.t 1), none, []⟩,
      ⟨(some 4), .len (.t 3), none, [0]⟩,
      ⟨(some 5), .bin .gtr (.t 4) (.c (.int .i64 200)), none, [0, 1]⟩,
      ⟨(some 6), .call (.c (.fn 78 [] [])) [.t 5, .c (.int .i64 8)], none, [1, 0, 2]⟩,
      ⟨(some 7), .load1 (.t 1), none, []⟩,
      ⟨(some 8), .len (.t 7), none, [4]⟩,
      ⟨(some 9), .fn true 80 [] [.t 1], none, []⟩,
      ⟨(some 10), .call (.c (.fn 79 [] [])) [.t 8, .t 9], none, [2, 0, 1, 4, 3, 6, 5]⟩,
      ⟨(some 11), .buildSlice 159 1 2 false [.nilfn, .nilfn] [(0, 1, .t 6), (1, 1, .t 10)], none, [5, 6, 4, 2, 0, 1, 7, 3]⟩,
      ⟨(some 12), .call (.c (.fn 77 [] [])) [.t 11], none, [3, 1, 0, 2, 4, 6, 5, 7, 8]⟩,
      ⟨(some 2), .mov (.t 12), none, [8, 7, 6, 5, 4, 3, 2, 1, 0, 9]⟩])
  (.ret)), 13, [.t 2]⟩
def xf80 : XFunc := ⟨.seq (.reg [⟨(some 3), .mov (.c (.int .i64 0)), none, []⟩])
  (.seq (.reg [⟨(some 4), .load1 (.t 1), none, []⟩,
      ⟨(some 5), .mov (.t 0), none, []⟩,
      ⟨(some 6), .iaddr 3 (.t 4) (.t 5), none, []⟩,
      ⟨(some 7), .loadn 3 (.t 6), none, []⟩,
      ⟨(some 8), .call (.c (.fn 70 [] [])) [.t 7], none, []⟩,
      ⟨(some 3), .mov (.t 8), none, []⟩])
  (.ret)), 9, [.t 3]⟩
def xf46 : XFunc := ⟨.seq (.reg [⟨(some 2), .box 108 (.t 0), none, []⟩,
      ⟨(some 3), .box 29 (.t 1), none, []⟩,
      ⟨(some 4), .mov (.c .nilfn), none, []⟩])
  (.seq (.reg [⟨(some 5), .fn true 81 [] [.t 2, .t 3], none, []⟩,
      ⟨(some 4), .mov (.t 5), none, []⟩])
  (.ret)), 6, [.t 4]⟩
def xf81l0 : XCode := .seq (.reg [⟨(some 14), .bin .lss (.t 13) (.t 12), none, []⟩])
  (.seq (.cond (.t 14) .skip (.exit 0))
  (.seq (.block 1 (.seq (.reg [⟨(some 15), .iaddr 3 (.t 11) (.t 13), none, []⟩,
        ⟨(some 16), .loadn 3 (.t 15), none, []⟩,
        ⟨(some 6), .new 73 [.int .i64 0, .int .i64 0, .int .i64 0], none, []⟩,
        ⟨none, .store 3 (.t 6) (.t 16), none, []⟩])
    (.seq (.reg [⟨(some 18), .faddr 0 (.t 1), none, []⟩,
        ⟨(some 19), .loadn 3 (.t 18), none, []⟩,
        ⟨(some 20), .loadn 2 (.t 4), none, []⟩,
        ⟨(some 21), .loadn 3 (.t 6), none, []⟩,
        ⟨(some 22), .call (.c (.fn 71 [] [])) [.t 19, .t 20, .t 21], none, []⟩,
        ⟨(some 17), .mov (.t 22), none, []⟩,
        ⟨(some 23), .extract (.t 17) 0, none, []⟩,
        ⟨(some 24), .extract (.t 17) 1, none, []⟩,
        ⟨(some 7), .new 116 [.int .i64 0, .int .i64 0, .int .i64 0, .int .i64 0], none, []⟩,
        ⟨none, .store 4 (.t 7) (.t 23), none, []⟩,
        ⟨(some 8), .mov (.t 24), none, []⟩])
    (.seq (.seq (.reg [⟨(some 25), .mov (.t 0), none, []⟩,
        ⟨(some 26), .loadn 4 (.t 7), none, []⟩,
        ⟨(some 27), .mov (.t 8), none, []⟩,
        ⟨(some 28), .call (.t 25) [.t 26, .t 27], none, []⟩,
        ⟨(some 29), .un .not (.t 28), none, []⟩,
        ⟨(some 30), .mov (.t 29), none, []⟩,
        ⟨(some 31), .mov (.t 8), (some (30, false)), []⟩,
        ⟨(some 32), .bin .neq (.t 31) (.c (.int .i64 0)), (some (30, false)), []⟩,
        ⟨(some 33), .pick (.t 30) (.c (.bool true)) (.t 32), none, []⟩])
    (.cond (.t 33) .ret .skip))
    (.reg [⟨(some 34), .faddr 0 (.t 7), none, []⟩,
        ⟨(some 35), .loadn 2 (.t 34), none, []⟩,
        ⟨none, .store 2 (.t 4) (.t 35), none, []⟩])))))
  (.reg [⟨(some 36), .bin .add (.t 13) (.c (.int .i64 1)), none, []⟩,
      ⟨(some 13), .mov (.t 36), none, []⟩])))
def xf81 : XFunc := ⟨.seq (.reg [⟨(some 9), .faddr 3 (.t 1), none, []⟩,
      ⟨(some 10), .loadn 2 (.t 9), none, []⟩,
      ⟨(some 4), .new 106 [.int .i64 0, .int .i64 0], none, []⟩,
      ⟨none, .store 2 (.t 4) (.t 10), none, []⟩])
  (.seq (.reg [⟨(some 11), .load1 (.t 2), none, []⟩,
      ⟨(some 12), .len (.t 11), none, []⟩,
      ⟨(some 13), .mov (.c (.int .i64 0)), none, []⟩])
  (.block 0 (.loop xf81l0))), 37, []⟩
def xf11a0 : XCode := .seq (.reg [⟨(some 14), .new 116 [.int .i64 0, .int .i64 0, .int .i64 0, .int .i64 0], none, []⟩,
      ⟨none, .store 4 (.t 14) (.t 35), none, []⟩])
  (.reg [⟨(some 15), .mov (.t 36), none, []⟩])
def xf11b0 : XCode := .block 1 (.seq (.seq (.reg [⟨(some 37), .mov (.t 15), none, []⟩,
        ⟨(some 38), .bin .neq (.t 37) (.c (.int .i64 0)), none, []⟩])
    (.cond (.t 38) (.seq (.reg [⟨(some 39), .build [.int .i64 0, .int .i64 0] [], none, []⟩,
          ⟨(some 40), .mov (.t 15), none, []⟩,
          ⟨none, .store 1 (.t 6) (.c .nils), none, []⟩,
          ⟨none, .store 2 (.t 7) (.t 39), none, []⟩,
          ⟨none, .store 1 (.t 8) (.t 40), none, []⟩])
      (.ret)) .skip))
    (.seq (.dreg [⟨(some 41), .load1 (.t 12), none, []⟩,
        ⟨(some 42), .faddr 0 (.t 14), none, []⟩,
        ⟨(some 43), .loadn 2 (.t 42), none, [1]⟩,
        ⟨(some 44), .call (.c (.fn 47 [] [])) [.t 43], none, [1, 2]⟩,
        ⟨(some 45), .buildSlice 28 2 1 true [.int .i64 0, .int .i64 0] [(0, 2, .t 44)], none, [2, 1, 3]⟩,
        ⟨(some 46), .append 28 2 16 (.t 41) (.t 45), none, [1, 2, 3, 4, 0]⟩,
        ⟨none, .store 1 (.t 12) (.t 46), none, [4, 3, 2, 1, 0, 5]⟩])
    (.seq (.reg [⟨(some 47), .faddr 0 (.t 13), none, []⟩,
        ⟨(some 48), .load1 (.t 47), none, []⟩,
        ⟨(some 49), .faddr 2 (.t 14), none, []⟩,
        ⟨(some 50), .faddr 0 (.t 49), none, []⟩,
        ⟨(some 51), .load1 (.t 50), none, []⟩,
        ⟨(some 52), .bin .add (.t 48) (.t 51), none, []⟩,
        ⟨(some 53), .faddr 0 (.t 13), none, []⟩,
        ⟨none, .store 1 (.t 53) (.t 52), none, []⟩])
    (.reg [⟨(some 54), .faddr 1 (.t 13), none, []⟩,
        ⟨(some 55), .load1 (.t 54), none, []⟩,
        ⟨(some 56), .faddr 2 (.t 14), none, []⟩,
        ⟨(some 57), .faddr 1 (.t 56), none, []⟩,
        ⟨(some 58), .load1 (.t 57), none, []⟩,
        ⟨(some 59), .bin .add (.t 55) (.t 58), none, []⟩,
        ⟨(some 60), .faddr 1 (.t 13), none, []⟩,
        ⟨none, .store 1 (.t 60) (.t 59), none, []⟩]))))
def xf11 : XFunc := ⟨.seq (.reg [⟨(some 3), .box 26 (.t 0), none, []⟩,
      ⟨(some 4), .box 28 (.t 1), none, []⟩,
      ⟨(some 6), .new 33 [.nils], none, []⟩,
      ⟨(some 7), .new 35 [.int .i64 0, .int .i64 0], none, []⟩,
      ⟨(some 8), .new 36 [.int .i64 0], none, []⟩])
  (.seq (.reg [⟨(some 17), .loadn 3 (.t 3), none, []⟩,
      ⟨(some 18), .loadn 2 (.t 4), none, []⟩,
      ⟨(some 19), .call (.c (.fn 44 [] [])) [.t 17, .t 18], none, []⟩,
      ⟨(some 16), .mov (.t 19), none, []⟩,
      ⟨(some 20), .extract (.t 16) 0, none, []⟩,
      ⟨(some 21), .extract (.t 16) 1, none, []⟩,
      ⟨(some 9), .new 108 [.nils, .nils, .int .i64 0, .int .i64 0, .int .i64 0], none, []⟩,
      ⟨none, .store 5 (.t 9) (.t 20), none, []⟩,
      ⟨(some 10), .mov (.t 21), none, []⟩])
  (.seq (.seq (.reg [⟨(some 22), .mov (.t 10), none, []⟩,
      ⟨(some 23), .bin .neq (.t 22) (.c (.int .i64 0)), none, []⟩])
  (.cond (.t 23) (.seq (.reg [⟨(some 24), .build [.int .i64 0, .int .i64 0] [], none, []⟩,
        ⟨(some 25), .mov (.t 10), none, []⟩,
        ⟨none, .store 1 (.t 6) (.c .nils), none, []⟩,
        ⟨none, .store 2 (.t 7) (.t 24), none, []⟩,
        ⟨none, .store 1 (.t 8) (.t 25), none, []⟩])
    (.ret)) .skip))
  (.seq (.seq (.reg [⟨(some 26), .mov (.t 2), none, []⟩,
      ⟨(some 27), .call (.c (.fn 45 [] [])) [.t 26], none, []⟩,
      ⟨(some 11), .mov (.t 27), none, []⟩])
  (.seq (.reg [⟨(some 28), .mov (.t 11), none, []⟩,
      ⟨(some 29), .bin .neq (.t 28) (.c (.int .i64 0)), none, []⟩])
  (.cond (.t 29) (.seq (.reg [⟨(some 30), .build [.int .i64 0, .int .i64 0] [], none, []⟩,
        ⟨(some 31), .mov (.t 11), none, []⟩,
        ⟨none, .store 1 (.t 6) (.c .nils), none, []⟩,
        ⟨none, .store 2 (.t 7) (.t 30), none, []⟩,
        ⟨none, .store 1 (.t 8) (.t 31), none, []⟩])
    (.ret)) .skip)))
  (.seq (.reg [⟨(some 12), .new 33 [.nils], none, []⟩])
  (.seq (.reg [⟨(some 13), .new 35 [.int .i64 0, .int .i64 0], none, []⟩])
  (.seq (.seq (.reg [⟨(some 32), .loadn 5 (.t 9), none, []⟩,
      ⟨(some 33), .mov (.t 2), none, []⟩,
      ⟨(some 34), .call (.c (.fn 46 [] [])) [.t 32, .t 33], none, []⟩])
  (.block 0 (.rangeF (.t 34) [35, 36] xf11a0 xf11b0)))
  (.seq (.dreg [⟨(some 61), .load1 (.t 12), none, []⟩,
      ⟨(some 62), .loadn 2 (.t 13), none, []⟩,
      ⟨none, .store 1 (.t 6) (.t 61), none, [0]⟩,
      ⟨none, .store 2 (.t 7) (.t 62), none, [0, 2, 1]⟩,
      ⟨none, .store 1 (.t 8) (.c (.int .i64 0)), none, [2, 1, 0, 3]⟩])
  (.ret)))))))), 63, [.c1 6, .cn 7 2, .c1 8]⟩
def xf13 : XFunc := ⟨.seq (.reg [⟨(some 2), .mov (.c .nils), none, []⟩])
  (.seq (.reg [⟨(some 3), .buildSlice 73 3 0 true [] [], none, []⟩,
      ⟨(some 4), .mov (.t 0), none, []⟩,
      ⟨(some 5), .append 73 3 24 (.t 3) (.t 4), none, []⟩,
      ⟨(some 2), .mov (.t 5), none, []⟩])
  (.ret)), 6, [.t 2]⟩
def xf15l0 : XCode := .seq (.seq (.reg [⟨(some 8), .mov (.t 3), none, []⟩,
      ⟨(some 9), .mov (.t 0), none, []⟩,
      ⟨(some 10), .len (.t 9), none, []⟩,
      ⟨(some 11), .bin .lss (.t 8) (.t 10), none, []⟩])
  (.cond (.t 11) .skip (.exit 0)))
  (.seq (.block 1 (.seq (.reg [⟨(some 14), .mov (.t 0), none, []⟩,
        ⟨(some 15), .mov (.t 3), none, []⟩,
        ⟨(some 16), .iaddr 3 (.t 14) (.t 15), none, []⟩,
        ⟨(some 17), .loadn 3 (.t 16), none, []⟩,
        ⟨(some 18), .call (.c (.fn 49 [] [])) [.t 17], none, []⟩,
        ⟨(some 4), .mov (.t 18), none, []⟩])
    (.seq (.reg [⟨(some 19), .mov (.t 4), none, []⟩,
        ⟨(some 20), .bin .neq (.t 19) (.c (.int .i64 0)), none, []⟩])
    (.cond (.t 20) (.seq (.reg [⟨(some 21), .mov (.t 4), none, []⟩,
          ⟨(some 2), .mov (.t 21), none, []⟩])
      (.ret)) .skip))))
  (.reg [⟨(some 12), .mov (.t 3), none, []⟩,
      ⟨(some 13), .bin .add (.t 12) (.c (.int .i64 1)), none, []⟩,
      ⟨(some 3), .mov (.t 13), none, []⟩]))
def xf15 : XFunc := ⟨.seq (.reg [⟨(some 2), .mov (.c (.int .i64 0)), none, []⟩])
  (.seq (.seq (.reg [⟨(some 5), .mov (.t 0), none, []⟩,
      ⟨(some 6), .len (.t 5), none, []⟩,
      ⟨(some 7), .bin .gtr (.t 6) (.c (.int .i64 200)), none, []⟩])
  (.cond (.t 7) (.seq (.reg [⟨(some 2), .mov (.c (.int .i64 8)), none, []⟩])
    (.ret)) .skip))
  (.seq (.seq (.reg [⟨(some 3), .mov (.c (.int .i64 0)), none, []⟩])
  (.block 0 (.loop xf15l0)))
  (.seq (.reg [⟨(some 2), .mov (.c (.int .i64 0)), none, []⟩])
  (.ret)))), 22, [.t 2]⟩
def xf17l0 : XCode := .seq (.seq (.reg [⟨(some 11), .mov (.t 5), none, []⟩,
      ⟨(some 12), .mov (.t 0), none, []⟩,
      ⟨(some 13), .len (.t 12), none, []⟩,
      ⟨(some 14), .bin .lss (.t 11) (.t 13), none, []⟩])
  (.cond (.t 14) .skip (.exit 0)))
  (.seq (.block 1 (.seq (.dreg [⟨(some 17), .mov (.t 0), none, []⟩,
        ⟨(some 18), .mov (.t 5), none, []⟩,
        ⟨(some 19), .iaddr 2 (.t 17) (.t 18), none, [1, 0]⟩,
        ⟨(some 20), .loadn 2 (.t 19), none, [0, 1, 2]⟩,
        ⟨(some 21), .mov (.t 1), none, []⟩,
        ⟨(some 22), .mov (.t 5), none, []⟩,
        ⟨(some 23), .iaddr 2 (.t 21) (.t 22), none, [5, 4]⟩,
        ⟨(some 24), .loadn 2 (.t 23), none, [4, 5, 6]⟩,
        ⟨(some 25), .eqA true (.s [(0, 1, false, .c 0), (1, 1, false, .c 0)]) (.t 20) (.t 24), none, [6, 5, 4, 2, 1, 0, 7, 3]⟩])
    (.cond (.t 25) (.seq (.reg [⟨(some 4), .mov (.c (.bool false)), none, []⟩])
      (.ret)) .skip)))
  (.reg [⟨(some 15), .mov (.t 5), none, []⟩,
      ⟨(some 16), .bin .add (.t 15) (.c (.int .i64 1)), none, []⟩,
      ⟨(some 5), .mov (.t 16), none, []⟩]))
def xf17 : XFunc := ⟨.seq (.reg [⟨(some 4), .mov (.c (.bool false)), none, []⟩])
  (.seq (.seq (.reg [⟨(some 6), .mov (.t 0), none, []⟩,
      ⟨(some 7), .len (.t 6), none, []⟩,
      ⟨(some 8), .mov (.t 1), none, []⟩,
      ⟨(some 9), .len (.t 8), none, []⟩,
      ⟨(some 10), .bin .neq (.t 7) (.t 9), none, []⟩])
  (.cond (.t 10) (.seq (.reg [⟨(some 4), .mov (.c (.bool false)), none, []⟩])
    (.ret)) .skip))
  (.seq (.seq (.reg [⟨(some 5), .mov (.c (.int .i64 0)), none, []⟩])
  (.block 0 (.loop xf17l0)))
  (.seq (.reg [⟨(some 4), .mov (.c (.bool true)), none, []⟩])
  (.ret)))), 26, [.t 4]⟩
structure RunCode (X : FuncId → Option XFunc) : Prop where
  pair : PairCode X
  read : ReadCode X
  h45 : X 45 = some xf45
  h80 : X 80 = some xf80
  h46 : X 46 = some xf46
  h81 : X 81 = some xf81
  h11 : X 11 = some xf11
  h13 : X 13 = some xf13
  h15 : X 15 = some xf15
  h17 : X 17 = some xf17
end Go.Proofs.YtbgjmclpahganaaGreat.Eng

/-
  CODE of VRuns.
-/
namespace Go.Proofs.YtbgjmclpahganaaGreat.Eng
set_option linter.unusedSimpArgs false
set_option linter.unusedVariables false
def xf3 : XFunc := ⟨.seq (.reg [⟨(some 3), .box 26 (.t 0), none, []⟩,
      ⟨(some 4), .box 28 (.t 1), none, []⟩,
      ⟨(some 6), .mov (.c (.bool false)), none, []⟩])
  (.seq (.seq (.reg [⟨(some 14), .call (.c (.fn 8 [] [])) [], none, []⟩,
      ⟨(some 15), .un .not (.t 14), none, []⟩])
  (.cond (.t 15) (.seq (.reg [⟨(some 6), .mov (.c (.bool false)), none, []⟩])
    (.ret)) .skip))
  (.seq (.seq (.reg [⟨(some 16), .loadn 3 (.t 3), none, []⟩,
      ⟨(some 17), .call (.c (.fn 9 [] [])) [.t 16], none, []⟩,
      ⟨(some 18), .un .not (.t 17), none, []⟩,
      ⟨(some 19), .mov (.t 18), none, []⟩,
      ⟨(some 20), .mov (.t 2), (some (19, false)), []⟩,
      ⟨(some 21), .len (.t 20), (some (19, false)), []⟩,
      ⟨(some 22), .call (.c (.fn 10 [] [])) [.t 21], (some (19, false)), []⟩,
      ⟨(some 23), .un .not (.t 22), (some (19, false)), []⟩,
      ⟨(some 24), .pick (.t 19) (.c (.bool true)) (.t 23), none, []⟩])
  (.cond (.t 24) (.seq (.reg [⟨(some 6), .mov (.c (.bool true)), none, []⟩])
    (.ret)) .skip))
  (.seq (.dreg [⟨(some 26), .loadn 3 (.t 3), none, []⟩,
      ⟨(some 27), .call (.c (.fn 12 [] [])) [.t 26], none, [0]⟩,
      ⟨(some 28), .loadn 2 (.t 4), none, []⟩,
      ⟨(some 29), .mov (.t 2), none, []⟩,
      ⟨(some 30), .call (.c (.fn 13 [] [])) [.t 29], none, [0, 1, 3]⟩,
      ⟨(some 31), .call (.c (.fn 11 [] [])) [.t 27, .t 28, .t 30], none, [3, 0, 4, 2, 1]⟩,
      ⟨(some 25), .mov (.t 31), none, [1, 2, 4, 0, 3, 5]⟩,
      ⟨(some 32), .extract (.t 25) 0, none, [5, 3, 0, 4, 2, 1, 6]⟩,
      ⟨(some 33), .extract (.t 25) 1, none, [5, 3, 0, 4, 2, 1, 6]⟩,
      ⟨(some 34), .extract (.t 25) 2, none, [5, 3, 0, 4, 2, 1, 6]⟩,
      ⟨(some 8), .new 35 [.int .i64 0, .int .i64 0], none, []⟩,
      ⟨(some 7), .mov (.t 32), none, [10, 6, 4, 3, 2, 1, 0, 5, 7]⟩,
      ⟨none, .store 2 (.t 8) (.t 33), none, [7, 6, 5, 4, 3, 2, 1, 0, 11, 8, 10]⟩,
      ⟨(some 9), .mov (.t 34), none, [11, 10, 8, 7, 6, 5, 4, 3, 2, 1, 0, 12, 9]⟩])
  (.seq (.reg [⟨(some 35), .loadn 3 (.t 3), none, []⟩,
      ⟨(some 36), .loadn 2 (.t 4), none, []⟩,
      ⟨(some 37), .call (.c (.fn 14 [] [])) [.t 35, .t 36], none, []⟩,
      ⟨(some 10), .mov (.t 37), none, []⟩])
  (.seq (.seq (.reg [⟨(some 38), .mov (.t 10), none, []⟩,
      ⟨(some 39), .bin .eql (.t 38) (.c (.int .i64 0)), none, []⟩])
  (.cond (.t 39) (.reg [⟨(some 40), .mov (.t 2), none, []⟩,
        ⟨(some 41), .call (.c (.fn 15 [] [])) [.t 40], none, []⟩,
        ⟨(some 10), .mov (.t 41), none, []⟩]) .skip))
  (.seq (.seq (.reg [⟨(some 42), .mov (.t 10), none, []⟩,
      ⟨(some 43), .bin .neq (.t 42) (.c (.int .i64 0)), none, []⟩])
  (.cond (.t 43) (.seq (.reg [⟨(some 44), .mov (.t 9), none, []⟩,
        ⟨(some 45), .mov (.t 10), none, []⟩,
        ⟨(some 46), .bin .eql (.t 44) (.t 45), none, []⟩,
        ⟨(some 47), .mov (.t 46), none, []⟩,
        ⟨(some 48), .mov (.t 7), (some (47, true)), []⟩,
        ⟨(some 49), .len (.t 48), (some (47, true)), []⟩,
        ⟨(some 50), .bin .eql (.t 49) (.c (.int .i64 0)), (some (47, true)), []⟩,
        ⟨(some 51), .pick (.t 47) (.t 50) (.c (.bool false)), none, []⟩,
        ⟨(some 52), .mov (.t 51), none, []⟩,
        ⟨(some 53), .loadn 2 (.t 8), (some (52, true)), []⟩,
        ⟨(some 54), .build [.int .i64 0, .int .i64 0] [], (some (52, true)), []⟩,
        ⟨(some 55), .eqA false (.s [(0, 1, false, .c 0), (1, 1, false, .c 0)]) (.t 53) (.t 54), (some (52, true)), []⟩,
        ⟨(some 56), .pick (.t 52) (.t 55) (.c (.bool false)), none, []⟩,
        ⟨(some 6), .mov (.t 56), none, []⟩])
    (.ret)) .skip))
  (.seq (.reg [⟨(some 58), .loadn 3 (.t 3), none, []⟩,
      ⟨(some 59), .loadn 2 (.t 4), none, []⟩,
      ⟨(some 60), .mov (.t 2), none, []⟩,
      ⟨(some 61), .call (.c (.fn 16 [] [])) [.t 58, .t 59, .t 60], none, []⟩,
      ⟨(some 57), .mov (.t 61), none, []⟩,
      ⟨(some 62), .extract (.t 57) 0, none, []⟩,
      ⟨(some 63), .extract (.t 57) 1, none, []⟩,
      ⟨(some 64), .extract (.t 57) 2, none, []⟩,
      ⟨(some 12), .new 35 [.int .i64 0, .int .i64 0], none, []⟩,
      ⟨(some 11), .mov (.t 62), none, []⟩,
      ⟨none, .store 2 (.t 12) (.t 63), none, []⟩,
      ⟨(some 13), .mov (.t 64), none, []⟩])
  (.seq (.seq (.reg [⟨(some 65), .mov (.t 13), none, []⟩,
      ⟨(some 66), .un .not (.t 65), none, []⟩])
  (.cond (.t 66) (.seq (.reg [⟨(some 67), .mov (.t 9), none, []⟩,
        ⟨(some 68), .bin .eql (.t 67) (.c (.int .i64 22)), none, []⟩,
        ⟨(some 69), .mov (.t 68), none, []⟩,
        ⟨(some 70), .mov (.t 7), (some (69, true)), []⟩,
        ⟨(some 71), .len (.t 70), (some (69, true)), []⟩,
        ⟨(some 72), .bin .eql (.t 71) (.c (.int .i64 0)), (some (69, true)), []⟩,
        ⟨(some 73), .pick (.t 69) (.t 72) (.c (.bool false)), none, []⟩,
        ⟨(some 74), .mov (.t 73), none, []⟩,
        ⟨(some 75), .loadn 2 (.t 8), (some (74, true)), []⟩,
        ⟨(some 76), .build [.int .i64 0, .int .i64 0] [], (some (74, true)), []⟩,
        ⟨(some 77), .eqA false (.s [(0, 1, false, .c 0), (1, 1, false, .c 0)]) (.t 75) (.t 76), (some (74, true)), []⟩,
        ⟨(some 78), .pick (.t 74) (.t 77) (.c (.bool false)), none, []⟩,
        ⟨(some 6), .mov (.t 78), none, []⟩])
    (.ret)) .skip))
  (.seq (.reg [⟨(some 79), .mov (.t 9), none, []⟩,
      ⟨(some 80), .bin .eql (.t 79) (.c (.int .i64 0)), none, []⟩,
      ⟨(some 81), .mov (.t 80), none, []⟩,
      ⟨(some 82), .mov (.t 7), (some (81, true)), []⟩,
      ⟨(some 83), .mov (.t 11), (some (81, true)), []⟩,
      ⟨(some 84), .call (.c (.fn 17 [] [])) [.t 82, .t 83], (some (81, true)), []⟩,
      ⟨(some 85), .pick (.t 81) (.t 84) (.c (.bool false)), none, []⟩,
      ⟨(some 86), .mov (.t 85), none, []⟩,
      ⟨(some 87), .loadn 2 (.t 8), (some (86, true)), []⟩,
      ⟨(some 88), .loadn 2 (.t 12), (some (86, true)), []⟩,
      ⟨(some 89), .eqA false (.s [(0, 1, false, .c 0), (1, 1, false, .c 0)]) (.t 87) (.t 88), (some (86, true)), []⟩,
      ⟨(some 90), .pick (.t 86) (.t 89) (.c (.bool false)), none, []⟩,
      ⟨(some 6), .mov (.t 90), none, []⟩])
  (.ret)))))))))), 91, [.t 6]⟩
def xf10 : XFunc := ⟨.seq (.reg [⟨(some 2), .mov (.c (.bool false)), none, []⟩])
  (.seq (.reg [⟨(some 3), .mov (.t 0), none, []⟩,
      ⟨(some 4), .bin .leq (.t 3) (.c (.int .i64 24)), none, []⟩,
      ⟨(some 5), .mov (.t 4), none, []⟩,
      ⟨(some 6), .mov (.t 0), (some (5, false)), []⟩,
      ⟨(some 7), .bin .gtr (.t 6) (.c (.int .i64 200)), (some (5, false)), []⟩,
      ⟨(some 8), .mov (.t 7), (some (5, false)), []⟩,
      ⟨(some 9), .mov (.t 0), (some (8, true)), []⟩,
      ⟨(some 10), .bin .leq (.t 9) (.c (.int .i64 202)), (some (8, true)), []⟩,
      ⟨(some 11), .pick (.t 8) (.t 10) (.c (.bool false)), (some (5, false)), []⟩,
      ⟨(some 12), .pick (.t 5) (.c (.bool true)) (.t 11), none, []⟩,
      ⟨(some 2), .mov (.t 12), none, []⟩])
  (.ret)), 13, [.t 2]⟩
def xf16l0 : XCode := .seq (.seq (.reg [⟨(some 15), .mov (.t 11), none, []⟩,
      ⟨(some 16), .mov (.t 2), none, []⟩,
      ⟨(some 17), .len (.t 16), none, []⟩,
      ⟨(some 18), .bin .lss (.t 15) (.t 17), none, []⟩])
  (.cond (.t 18) .skip (.exit 0)))
  (.seq (.block 1 (.seq (.dreg [⟨(some 22), .loadn 3 (.t 3), none, []⟩,
        ⟨(some 23), .loadn 2 (.t 4), none, []⟩,
        ⟨(some 24), .mov (.t 2), none, []⟩,
        ⟨(some 25), .mov (.t 11), none, []⟩,
        ⟨(some 26), .iaddr 3 (.t 24) (.t 25), none, [3, 2]⟩,
        ⟨(some 27), .loadn 3 (.t 26), none, [2, 3, 4]⟩,
        ⟨(some 28), .call (.c (.fn 50 [] [])) [.t 22, .t 23, .t 27], none, [4, 3, 2, 5, 1, 0]⟩,
        ⟨(some 21), .mov (.t 28), none, [0, 1, 5, 2, 3, 4, 6]⟩,
        ⟨(some 29), .extract (.t 21) 0, none, [6, 4, 3, 2, 5, 1, 0, 7]⟩,
        ⟨(some 30), .extract (.t 21) 1, none, [6, 4, 3, 2, 5, 1, 0, 7]⟩,
        ⟨(some 31), .extract (.t 21) 2, none, [6, 4, 3, 2, 5, 1, 0, 7]⟩,
        ⟨(some 12), .new 28 [.int .i64 0, .int .i64 0], none, []⟩,
        ⟨(some 13), .new 35 [.int .i64 0, .int .i64 0], none, []⟩,
        ⟨none, .store 2 (.t 12) (.t 29), none, [12, 7, 5, 4, 3, 2, 1, 0, 6, 8, 11]⟩,
        ⟨none, .store 2 (.t 13) (.t 30), none, [11, 8, 7, 6, 5, 4, 3, 2, 1, 0, 13, 9, 12]⟩,
        ⟨(some 14), .mov (.t 31), none, [13, 12, 11, 9, 8, 7, 6, 5, 4, 3, 2, 1, 0, 14, 10]⟩])
    (.seq (.seq (.reg [⟨(some 32), .mov (.t 14), none, []⟩,
        ⟨(some 33), .un .not (.t 32), none, []⟩])
    (.cond (.t 33) (.seq (.dreg [⟨(some 34), .mov (.t 9), none, []⟩,
          ⟨(some 35), .loadn 2 (.t 10), none, []⟩,
          ⟨(some 6), .mov (.t 34), none, [0]⟩,
          ⟨none, .store 2 (.t 7) (.t 35), none, [0, 2, 1]⟩,
          ⟨(some 8), .mov (.c (.bool false)), none, [2, 1, 0, 3]⟩])
      (.ret)) .skip))
    (.seq (.reg [⟨(some 36), .loadn 2 (.t 12), none, []⟩,
        ⟨none, .store 2 (.t 4) (.t 36), none, []⟩])
    (.seq (.reg [⟨(some 37), .mov (.t 9), none, []⟩,
        ⟨(some 38), .loadn 2 (.t 4), none, []⟩,
        ⟨(some 39), .buildSlice 28 2 1 true [.int .i64 0, .int .i64 0] [(0, 2, .t 38)], none, []⟩,
        ⟨(some 40), .append 28 2 16 (.t 37) (.t 39), none, []⟩,
        ⟨(some 9), .mov (.t 40), none, []⟩])
    (.reg [⟨(some 41), .faddr 0 (.t 10), none, []⟩,
        ⟨(some 42), .load1 (.t 41), none, []⟩,
        ⟨(some 43), .faddr 0 (.t 13), none, []⟩,
        ⟨(some 44), .load1 (.t 43), none, []⟩,
        ⟨(some 45), .bin .add (.t 42) (.t 44), none, []⟩,
        ⟨(some 46), .faddr 1 (.t 10), none, []⟩,
        ⟨(some 47), .load1 (.t 46), none, []⟩,
        ⟨(some 48), .faddr 1 (.t 13), none, []⟩,
        ⟨(some 49), .load1 (.t 48), none, []⟩,
        ⟨(some 50), .bin .add (.t 47) (.t 49), none, []⟩,
        ⟨(some 51), .build [.int .i64 0, .int .i64 0] [(0, 1, .t 45), (1, 1, .t 50)], none, []⟩,
        ⟨none, .store 2 (.t 10) (.t 51), none, []⟩]))))))
  (.reg [⟨(some 19), .mov (.t 11), none, []⟩,
      ⟨(some 20), .bin .add (.t 19) (.c (.int .i64 1)), none, []⟩,
      ⟨(some 11), .mov (.t 20), none, []⟩]))
def xf16 : XFunc := ⟨.seq (.reg [⟨(some 3), .box 26 (.t 0), none, []⟩,
      ⟨(some 4), .box 28 (.t 1), none, []⟩,
      ⟨(some 6), .mov (.c .nils), none, []⟩,
      ⟨(some 7), .new 35 [.int .i64 0, .int .i64 0], none, []⟩,
      ⟨(some 8), .mov (.c (.bool false)), none, []⟩])
  (.seq (.reg [⟨(some 9), .mov (.c .nils), none, []⟩])
  (.seq (.reg [⟨(some 10), .new 35 [.int .i64 0, .int .i64 0], none, []⟩])
  (.seq (.seq (.reg [⟨(some 11), .mov (.c (.int .i64 0)), none, []⟩])
  (.block 0 (.loop xf16l0)))
  (.seq (.dreg [⟨(some 52), .mov (.t 9), none, []⟩,
      ⟨(some 53), .loadn 2 (.t 10), none, []⟩,
      ⟨(some 6), .mov (.t 52), none, [0]⟩,
      ⟨none, .store 2 (.t 7) (.t 53), none, [0, 2, 1]⟩,
      ⟨(some 8), .mov (.c (.bool true)), none, [2, 1, 0, 3]⟩])
  (.ret))))), 54, [.t 6, .cn 7 2, .t 8]⟩
structure VRunsCode (X : FuncId → Option XFunc) : Prop where
  run : RunCode X
  h3 : X 3 = some xf3
  h10 : X 10 = some xf10
  h16 : X 16 = some xf16
end Go.Proofs.YtbgjmclpahganaaGreat.Eng
