/-
  LAKE, code: what the functions of the seasons are, compiled.
-/
import Derived.Test.YtbpflcilndinfaaEngY
namespace Go.Proofs.Ytbpflcilndinfaa.Eng
set_option linter.unusedSimpArgs false
set_option linter.unusedVariables false
def xf8 : XFunc := ⟨.seq (.reg [⟨(some 4), .mov (.c (.bool false)), none, []⟩])
  (.seq (.seq (.reg [⟨(some 11), .call (.c (.fn 11 [] [])) [], none, []⟩,
    ⟨(some 12), .un .not (.t 11), none, []⟩])
  (.cond (.t 12)
    (.seq (.reg [⟨(some 4), .mov (.c (.bool false)), none, []⟩])
    (.ret))
    (.skip)))
  (.seq (.seq (.reg [⟨(some 13), .mov (.t 0), none, []⟩,
    ⟨(some 14), .len (.t 13), none, []⟩,
    ⟨(some 15), .bin .gtr (.t 14) (.c (.int .i64 14)), none, []⟩])
  (.cond (.t 15)
    (.seq (.reg [⟨(some 4), .mov (.c (.bool true)), none, []⟩])
    (.ret))
    (.skip)))
  (.seq (.reg [⟨(some 17), .mov (.t 0), none, []⟩,
    ⟨(some 18), .call (.c (.fn 46 [] [])) [.t 17], none, []⟩,
    ⟨(some 19), .mov (.t 1), none, []⟩,
    ⟨(some 20), .call (.c (.fn 45 [] [])) [.t 18, .t 19], none, []⟩,
    ⟨(some 16), .mov (.t 20), none, []⟩,
    ⟨(some 21), .extract (.t 16) 0, none, []⟩,
    ⟨(some 22), .extract (.t 16) 1, none, []⟩,
    ⟨(some 5), .mov (.t 21), none, []⟩,
    ⟨(some 6), .mov (.t 22), none, []⟩])
  (.seq (.reg [⟨(some 24), .mov (.t 0), none, []⟩,
    ⟨(some 25), .mov (.t 1), none, []⟩,
    ⟨(some 26), .call (.c (.fn 47 [] [])) [.t 24, .t 25], none, []⟩,
    ⟨(some 23), .mov (.t 26), none, []⟩,
    ⟨(some 27), .extract (.t 23) 0, none, []⟩,
    ⟨(some 28), .extract (.t 23) 1, none, []⟩,
    ⟨(some 7), .mov (.t 27), none, []⟩,
    ⟨(some 8), .mov (.t 28), none, []⟩])
  (.seq (.seq (.reg [⟨(some 29), .mov (.t 6), none, []⟩,
    ⟨(some 30), .mov (.t 8), none, []⟩,
    ⟨(some 31), .bin .neq (.t 29) (.t 30), none, []⟩,
    ⟨(some 32), .mov (.t 31), none, []⟩,
    ⟨(some 33), .mov (.t 5), (some (32, false)), []⟩,
    ⟨(some 34), .mov (.t 7), (some (32, false)), []⟩,
    ⟨(some 35), .bin .neq (.t 33) (.t 34), (some (32, false)), []⟩,
    ⟨(some 36), .pick (.t 32) (.c (.bool true)) (.t 35), none, []⟩])
  (.cond (.t 36)
    (.seq (.reg [⟨(some 4), .mov (.c (.bool false)), none, []⟩])
    (.ret))
    (.skip)))
  (.seq (.seq (.reg [⟨(some 37), .mov (.t 8), none, []⟩,
    ⟨(some 38), .bin .neq (.t 37) (.c (.int .i64 0)), none, []⟩,
    ⟨(some 39), .mov (.t 38), none, []⟩,
    ⟨(some 40), .mov (.t 1), (some (39, false)), []⟩,
    ⟨(some 41), .call (.c (.fn 25 [] [])) [.t 40, .c (.int .i64 0), .c (.int .i64 99635)], (some (39, false)), []⟩,
    ⟨(some 42), .un .not (.t 41), (some (39, false)), []⟩,
    ⟨(some 43), .pick (.t 39) (.c (.bool true)) (.t 42), none, []⟩])
  (.cond (.t 43)
    (.seq (.reg [⟨(some 4), .mov (.c (.bool true)), none, []⟩])
    (.ret))
    (.skip)))
  (.seq (.reg [⟨(some 45), .mov (.t 0), none, []⟩,
    ⟨(some 46), .call (.c (.fn 46 [] [])) [.t 45], none, []⟩,
    ⟨(some 47), .mov (.t 1), none, []⟩,
    ⟨(some 48), .bin .add (.t 47) (.c (.int .i64 365)), none, []⟩,
    ⟨(some 49), .call (.c (.fn 45 [] [])) [.t 46, .t 48], none, []⟩,
    ⟨(some 44), .mov (.t 49), none, []⟩,
    ⟨(some 50), .extract (.t 44) 0, none, []⟩,
    ⟨(some 51), .extract (.t 44) 1, none, []⟩,
    ⟨(some 9), .mov (.t 50), none, []⟩,
    ⟨(some 10), .mov (.t 51), none, []⟩])
  (.seq (.reg [⟨(some 52), .mov (.t 10), none, []⟩,
    ⟨(some 53), .bin .eql (.t 52) (.c (.int .i64 0)), none, []⟩,
    ⟨(some 54), .mov (.t 53), none, []⟩,
    ⟨(some 55), .mov (.t 9), (some (54, true)), []⟩,
    ⟨(some 56), .mov (.t 5), (some (54, true)), []⟩,
    ⟨(some 57), .bin .eql (.t 55) (.t 56), (some (54, true)), []⟩,
    ⟨(some 58), .pick (.t 54) (.t 57) (.c (.bool false)), none, []⟩,
    ⟨(some 4), .mov (.t 58), none, []⟩])
  (.ret))))))))), 59, [.t 4]⟩
def xf11 : XFunc := ⟨.seq (.reg [⟨(some 0), .mov (.c (.bool false)), none, []⟩])
  (.seq (.reg [⟨(some 11), .call (.c (.fn 56 [] [])) [], none, []⟩,
    ⟨(some 12), .call (.c (.fn 16 [] [])) [.t 11, .c (.int .i64 1501)], none, []⟩,
    ⟨(some 10), .mov (.t 12), none, []⟩,
    ⟨(some 13), .extract (.t 10) 0, none, []⟩,
    ⟨(some 14), .extract (.t 10) 1, none, []⟩,
    ⟨(some 1), .new 32 [.int .i64 0, .int .i64 0], none, []⟩,
    ⟨none, .store 2 (.t 1) (.t 13), none, []⟩,
    ⟨(some 2), .mov (.t 14), none, []⟩])
  (.seq (.reg [⟨(some 16), .call (.c (.fn 57 [] [])) [], none, []⟩,
    ⟨(some 17), .build [.int .i64 0, .int .i64 0] [(0, 1, .c (.int .i64 2950)), (1, 1, .c (.int .i64 500))], none, []⟩,
    ⟨(some 18), .build [.int .i64 0, .int .i64 0, .int .i64 0] [(2, 1, .c (.int .i64 200))], none, []⟩,
    ⟨(some 19), .call (.c (.fn 30 [] [])) [.t 16, .t 17, .t 18], none, []⟩,
    ⟨(some 15), .mov (.t 19), none, []⟩,
    ⟨(some 20), .extract (.t 15) 0, none, []⟩,
    ⟨(some 21), .extract (.t 15) 1, none, []⟩,
    ⟨(some 22), .extract (.t 15) 2, none, []⟩,
    ⟨(some 3), .new 55 [.int .i64 0, .int .i64 0], none, []⟩,
    ⟨(some 4), .new 60 [.int .i64 0, .int .i64 0], none, []⟩,
    ⟨none, .store 2 (.t 3) (.t 20), none, []⟩,
    ⟨none, .store 2 (.t 4) (.t 21), none, []⟩,
    ⟨(some 5), .mov (.t 22), none, []⟩])
  (.seq (.reg [⟨(some 24), .call (.c (.fn 57 [] [])) [], none, []⟩,
    ⟨(some 25), .build [.int .i64 0, .int .i64 0] [(0, 1, .c (.int .i64 2950)), (1, 1, .c (.int .i64 500))], none, []⟩,
    ⟨(some 26), .call (.c (.fn 32 [] [])) [.t 24, .t 25], none, []⟩,
    ⟨(some 23), .mov (.t 26), none, []⟩,
    ⟨(some 27), .extract (.t 23) 0, none, []⟩,
    ⟨(some 28), .extract (.t 23) 1, none, []⟩,
    ⟨(some 6), .new 55 [.int .i64 0, .int .i64 0], none, []⟩,
    ⟨none, .store 2 (.t 6) (.t 27), none, []⟩,
    ⟨(some 7), .mov (.t 28), none, []⟩])
  (.seq (.reg [⟨(some 30), .call (.c (.fn 56 [] [])) [], none, []⟩,
    ⟨(some 31), .buildSlice 3 1 2 false [.int .i64 0, .int .i64 0] [(0, 1, .c (.int .i64 10)), (1, 1, .c (.int .i64 20))], none, []⟩,
    ⟨(some 32), .build [.int .i64 0, .int .i64 0] [(0, 1, .c (.int .i64 50)), (1, 1, .c (.int .i64 52))], none, []⟩,
    ⟨(some 33), .build [.int .i64 0, .int .i64 0, .int .i64 0] [(1, 2, .t 32)], none, []⟩,
    ⟨(some 34), .build [.int .i64 0, .int .i64 0] [(0, 1, .c (.int .i64 54)), (1, 1, .c (.int .i64 55))], none, []⟩,
    ⟨(some 35), .build [.int .i64 0, .int .i64 0, .int .i64 0] [(0, 1, .c (.int .i64 2)), (1, 2, .t 34)], none, []⟩,
    ⟨(some 36), .buildSlice 100 3 2 true [.int .i64 0, .int .i64 0, .int .i64 0, .int .i64 0, .int .i64 0, .int .i64 0] [(0, 3, .t 33), (3, 3, .t 35)], none, []⟩,
    ⟨(some 37), .call (.c (.fn 49 [] [])) [.t 30, .t 31, .t 36], none, []⟩,
    ⟨(some 29), .mov (.t 37), none, []⟩,
    ⟨(some 38), .extract (.t 29) 0, none, []⟩,
    ⟨(some 39), .extract (.t 29) 1, none, []⟩,
    ⟨(some 8), .new 32 [.int .i64 0, .int .i64 0], none, []⟩,
    ⟨none, .store 2 (.t 8) (.t 38), none, []⟩,
    ⟨(some 9), .mov (.t 39), none, []⟩])
  (.seq (.reg [⟨(some 40), .mov (.t 2), none, []⟩,
    ⟨(some 41), .bin .eql (.t 40) (.c (.int .i64 0)), none, []⟩,
    ⟨(some 42), .mov (.t 41), none, []⟩,
    ⟨(some 43), .loadn 2 (.t 1), (some (42, true)), []⟩,
    ⟨(some 44), .build [.int .i64 0, .int .i64 0] [(0, 1, .c (.int .i64 125)), (1, 1, .c (.int .i64 126))], (some (42, true)), []⟩,
    ⟨(some 45), .eqA false (.s [(0, 1, false, .c 0), (1, 1, false, .c 0)]) (.t 43) (.t 44), (some (42, true)), []⟩,
    ⟨(some 46), .pick (.t 42) (.t 45) (.c (.bool false)), none, []⟩,
    ⟨(some 47), .mov (.t 46), none, []⟩,
    ⟨(some 48), .mov (.t 5), (some (47, true)), []⟩,
    ⟨(some 49), .bin .eql (.t 48) (.c (.int .i64 0)), (some (47, true)), []⟩,
    ⟨(some 50), .pick (.t 47) (.t 49) (.c (.bool false)), none, []⟩,
    ⟨(some 51), .mov (.t 50), none, []⟩,
    ⟨(some 52), .loadn 2 (.t 3), (some (51, true)), []⟩,
    ⟨(some 53), .build [.int .i64 0, .int .i64 0] [(0, 1, .c (.int .i64 3000)), (1, 1, .c (.int .i64 295))], (some (51, true)), []⟩,
    ⟨(some 54), .eqA false (.s [(0, 1, false, .c 0), (1, 1, false, .c 0)]) (.t 52) (.t 53), (some (51, true)), []⟩,
    ⟨(some 55), .pick (.t 51) (.t 54) (.c (.bool false)), none, []⟩,
    ⟨(some 56), .mov (.t 55), none, []⟩,
    ⟨(some 57), .loadn 2 (.t 4), (some (56, true)), []⟩,
    ⟨(some 58), .build [.int .i64 0, .int .i64 0] [(0, 1, .c (.int .i64 15)), (1, 1, .c (.int .i64 140))], (some (56, true)), []⟩,
    ⟨(some 59), .eqA false (.s [(0, 1, false, .c 0), (1, 1, false, .c 0)]) (.t 57) (.t 58), (some (56, true)), []⟩,
    ⟨(some 60), .pick (.t 56) (.t 59) (.c (.bool false)), none, []⟩,
    ⟨(some 61), .mov (.t 60), none, []⟩,
    ⟨(some 62), .mov (.t 7), (some (61, true)), []⟩,
    ⟨(some 63), .bin .eql (.t 62) (.c (.int .i64 0)), (some (61, true)), []⟩,
    ⟨(some 64), .pick (.t 61) (.t 63) (.c (.bool false)), none, []⟩,
    ⟨(some 65), .mov (.t 64), none, []⟩,
    ⟨(some 66), .loadn 2 (.t 6), (some (65, true)), []⟩,
    ⟨(some 67), .build [.int .i64 0, .int .i64 0] [(0, 1, .c (.int .i64 2500)), (1, 1, .c (.int .i64 50))], (some (65, true)), []⟩,
    ⟨(some 68), .eqA false (.s [(0, 1, false, .c 0), (1, 1, false, .c 0)]) (.t 66) (.t 67), (some (65, true)), []⟩,
    ⟨(some 69), .pick (.t 65) (.t 68) (.c (.bool false)), none, []⟩,
    ⟨(some 70), .mov (.t 69), none, []⟩,
    ⟨(some 71), .mov (.t 9), (some (70, true)), []⟩,
    ⟨(some 72), .bin .eql (.t 71) (.c (.int .i64 0)), (some (70, true)), []⟩,
    ⟨(some 73), .pick (.t 70) (.t 72) (.c (.bool false)), none, []⟩,
    ⟨(some 74), .mov (.t 73), none, []⟩,
    ⟨(some 75), .loadn 2 (.t 8), (some (74, true)), []⟩,
    ⟨(some 76), .build [.int .i64 0, .int .i64 0] [(0, 1, .c (.int .i64 510)), (1, 1, .c (.int .i64 520))], (some (74, true)), []⟩,
    ⟨(some 77), .eqA false (.s [(0, 1, false, .c 0), (1, 1, false, .c 0)]) (.t 75) (.t 76), (some (74, true)), []⟩,
    ⟨(some 78), .pick (.t 74) (.t 77) (.c (.bool false)), none, []⟩,
    ⟨(some 0), .mov (.t 78), none, []⟩])
  (.ret)))))), 79, [.t 0]⟩
def xf25 : XFunc := ⟨.seq (.reg [⟨(some 6), .mov (.c (.bool false)), none, []⟩])
  (.seq (.reg [⟨(some 7), .mov (.t 1), none, []⟩,
    ⟨(some 8), .mov (.t 0), none, []⟩,
    ⟨(some 9), .bin .leq (.t 7) (.t 8), none, []⟩,
    ⟨(some 10), .mov (.t 9), none, []⟩,
    ⟨(some 11), .mov (.t 0), (some (10, true)), []⟩,
    ⟨(some 12), .mov (.t 2), (some (10, true)), []⟩,
    ⟨(some 13), .bin .leq (.t 11) (.t 12), (some (10, true)), []⟩,
    ⟨(some 14), .pick (.t 10) (.t 13) (.c (.bool false)), none, []⟩,
    ⟨(some 6), .mov (.t 14), none, []⟩])
  (.ret)), 15, [.t 6]⟩
def xf45l0 : XCode := .seq (.reg [⟨(some 30), .bin .lss (.t 29) (.t 28), none, []⟩])
  (.seq (.cond (.t 30)
    (.skip)
    (.exit 0))
  (.seq (.block 1 (.seq (.reg [⟨(some 31), .iaddr 3 (.t 27) (.t 29), none, []⟩,
     ⟨(some 32), .loadn 3 (.t 31), none, []⟩,
     ⟨(some 9), .new 171 [.int .i64 0, .int .i64 0, .int .i64 0], none, []⟩,
     ⟨none, .store 3 (.t 9) (.t 32), none, []⟩])
   (.seq (.reg [⟨(some 33), .loadn 3 (.t 9), none, []⟩,
     ⟨(some 34), .mov (.t 1), none, []⟩,
     ⟨(some 35), .bin .rem (.t 34) (.c (.int .i64 365)), none, []⟩,
     ⟨(some 36), .call (.c (.fn 97 [] [])) [.t 33, .t 35], none, []⟩])
   (.cond (.t 36)
     (.reg [⟨(some 37), .mov (.t 7), none, []⟩,
       ⟨(some 38), .faddr 2 (.t 9), none, []⟩,
       ⟨(some 39), .load1 (.t 38), none, []⟩,
       ⟨(some 40), .ext true (.t 37) [.t 39], none, []⟩,
       ⟨(some 7), .mov (.t 40), none, []⟩])
     (.skip)))))
  (.reg [⟨(some 41), .bin .add (.t 29) (.c (.int .i64 1)), none, []⟩,
    ⟨(some 29), .mov (.t 41), none, []⟩])))
def xf45 : XFunc := ⟨.seq (.reg [⟨(some 2), .box 84 (.t 0), none, []⟩,
    ⟨(some 4), .mov (.c (.int .i64 0)), none, []⟩,
    ⟨(some 5), .mov (.c (.int .i64 0)), none, []⟩])
  (.seq (.dreg [⟨(some 10), .load1 (.t 2), none, []⟩,
    ⟨(some 11), .len (.t 10), none, [0]⟩,
    ⟨(some 12), .bin .gtr (.t 11) (.c (.int .i64 12)), none, [0, 1]⟩,
    ⟨(some 13), .call (.c (.fn 59 [] [])) [.t 12, .c (.int .i64 8)], none, [1, 0, 2]⟩,
    ⟨(some 14), .load1 (.t 2), none, []⟩,
    ⟨(some 15), .len (.t 14), none, [4]⟩,
    ⟨(some 16), .fn true 94 [] [.t 2], none, []⟩,
    ⟨(some 17), .call (.c (.fn 93 [] [])) [.t 15, .t 16], none, [2, 0, 1, 4, 3, 6, 5]⟩,
    ⟨(some 18), .mov (.t 1), none, []⟩,
    ⟨(some 19), .call (.c (.fn 96 [] [])) [.t 18, .c (.int .i64 0), .c (.int .i64 100000)], none, [5, 6, 3, 4, 1, 0, 2, 7, 8]⟩,
    ⟨(some 20), .un .not (.t 19), none, [8, 7, 2, 0, 1, 4, 3, 6, 5, 9]⟩,
    ⟨(some 21), .call (.c (.fn 59 [] [])) [.t 20, .c (.int .i64 2)], none, [5, 6, 3, 4, 1, 0, 2, 7, 8, 9, 10]⟩,
    ⟨(some 22), .buildSlice 117 1 3 false [.nilfn, .nilfn, .nilfn] [(0, 1, .t 13), (1, 1, .t 17), (2, 1, .t 21)], none, [10, 9, 8, 5, 6, 4, 2, 0, 1, 11, 7, 3]⟩,
    ⟨(some 23), .call (.c (.fn 58 [] [])) [.t 22], none, [3, 7, 1, 0, 2, 4, 6, 5, 8, 9, 10, 11, 12]⟩,
    ⟨(some 6), .mov (.t 23), none, [12, 11, 10, 9, 8, 7, 6, 5, 4, 3, 2, 1, 0, 13]⟩])
  (.seq (.seq (.reg [⟨(some 24), .mov (.t 6), none, []⟩,
    ⟨(some 25), .bin .neq (.t 24) (.c (.int .i64 0)), none, []⟩])
  (.cond (.t 25)
    (.seq (.reg [⟨(some 26), .mov (.t 6), none, []⟩,
      ⟨(some 4), .mov (.c (.int .i64 0)), none, []⟩,
      ⟨(some 5), .mov (.t 26), none, []⟩])
    (.ret))
    (.skip)))
  (.seq (.reg [⟨(some 7), .mov (.c (.int .i64 0)), none, []⟩])
  (.seq (.seq (.reg [⟨(some 27), .load1 (.t 2), none, []⟩,
    ⟨(some 28), .len (.t 27), none, []⟩,
    ⟨(some 29), .mov (.c (.int .i64 0)), none, []⟩])
  (.block 0 (.loop xf45l0)))
  (.seq (.reg [⟨(some 42), .mov (.t 7), none, []⟩,
    ⟨(some 4), .mov (.t 42), none, []⟩,
    ⟨(some 5), .mov (.c (.int .i64 0)), none, []⟩])
  (.ret)))))), 43, [.t 4, .t 5]⟩
def xf46 : XFunc := ⟨.seq (.reg [⟨(some 2), .mov (.c (.nils)), none, []⟩])
  (.seq (.reg [⟨(some 3), .buildSlice 171 3 0 true [] [], none, []⟩,
    ⟨(some 4), .mov (.t 0), none, []⟩,
    ⟨(some 5), .append 171 3 24 (.t 3) (.t 4), none, []⟩,
    ⟨(some 2), .mov (.t 5), none, []⟩])
  (.ret)), 6, [.t 2]⟩
def xf47l0 : XCode := .seq (.seq (.reg [⟨(some 14), .mov (.t 6), none, []⟩,
    ⟨(some 15), .mov (.t 0), none, []⟩,
    ⟨(some 16), .len (.t 15), none, []⟩,
    ⟨(some 17), .bin .lss (.t 14) (.t 16), none, []⟩])
  (.cond (.t 17)
    (.skip)
    (.exit 0)))
  (.seq (.block 1 (.seq (.reg [⟨(some 20), .mov (.t 0), none, []⟩,
     ⟨(some 21), .mov (.t 6), none, []⟩,
     ⟨(some 22), .iaddr 3 (.t 20) (.t 21), none, []⟩,
     ⟨(some 23), .faddr 0 (.t 22), none, []⟩,
     ⟨(some 24), .load1 (.t 23), none, []⟩,
     ⟨(some 25), .call (.c (.fn 25 [] [])) [.t 24, .c (.int .i64 0), .c (.int .i64 364)], none, []⟩,
     ⟨(some 26), .un .not (.t 25), none, []⟩,
     ⟨(some 27), .mov (.t 26), none, []⟩,
     ⟨(some 28), .mov (.t 0), (some (27, false)), []⟩,
     ⟨(some 29), .mov (.t 6), (some (27, false)), []⟩,
     ⟨(some 30), .iaddr 3 (.t 28) (.t 29), (some (27, false)), []⟩,
     ⟨(some 31), .faddr 1 (.t 30), (some (27, false)), []⟩,
     ⟨(some 32), .load1 (.t 31), (some (27, false)), []⟩,
     ⟨(some 33), .call (.c (.fn 25 [] [])) [.t 32, .c (.int .i64 0), .c (.int .i64 364)], (some (27, false)), []⟩,
     ⟨(some 34), .un .not (.t 33), (some (27, false)), []⟩,
     ⟨(some 35), .pick (.t 27) (.c (.bool true)) (.t 34), none, []⟩,
     ⟨(some 36), .mov (.t 35), none, []⟩,
     ⟨(some 37), .mov (.t 0), (some (36, false)), []⟩,
     ⟨(some 38), .mov (.t 6), (some (36, false)), []⟩,
     ⟨(some 39), .iaddr 3 (.t 37) (.t 38), (some (36, false)), []⟩,
     ⟨(some 40), .faddr 2 (.t 39), (some (36, false)), []⟩,
     ⟨(some 41), .load1 (.t 40), (some (36, false)), []⟩,
     ⟨(some 42), .call (.c (.fn 25 [] [])) [.t 41, .c (.int .i64 0), .c (.int .i64 1000000)], (some (36, false)), []⟩,
     ⟨(some 43), .un .not (.t 42), (some (36, false)), []⟩,
     ⟨(some 44), .pick (.t 36) (.c (.bool true)) (.t 43), none, []⟩])
   (.cond (.t 44)
     (.seq (.reg [⟨(some 4), .mov (.c (.int .i64 0)), none, []⟩,
       ⟨(some 5), .mov (.c (.int .i64 2)), none, []⟩])
     (.ret))
     (.skip))))
  (.reg [⟨(some 18), .mov (.t 6), none, []⟩,
    ⟨(some 19), .bin .add (.t 18) (.c (.int .i64 1)), none, []⟩,
    ⟨(some 6), .mov (.t 19), none, []⟩]))
def xf47l1 : XCode := .seq (.seq (.reg [⟨(some 50), .mov (.t 9), none, []⟩,
    ⟨(some 51), .mov (.t 0), none, []⟩,
    ⟨(some 52), .len (.t 51), none, []⟩,
    ⟨(some 53), .bin .lss (.t 50) (.t 52), none, []⟩])
  (.cond (.t 53)
    (.skip)
    (.exit 2)))
  (.seq (.block 3 (.seq (.dreg [⟨(some 56), .mov (.t 7), none, []⟩,
     ⟨(some 57), .mov (.t 0), none, []⟩,
     ⟨(some 58), .mov (.t 9), none, []⟩,
     ⟨(some 59), .iaddr 3 (.t 57) (.t 58), none, [2, 1]⟩,
     ⟨(some 60), .faddr 0 (.t 59), none, [1, 2, 3]⟩,
     ⟨(some 61), .load1 (.t 60), none, [3, 2, 1, 4]⟩,
     ⟨(some 62), .mov (.t 0), none, []⟩,
     ⟨(some 63), .mov (.t 9), none, []⟩,
     ⟨(some 64), .iaddr 3 (.t 62) (.t 63), none, [7, 6]⟩,
     ⟨(some 65), .faddr 1 (.t 64), none, [6, 7, 8]⟩,
     ⟨(some 66), .load1 (.t 65), none, [8, 7, 6, 9]⟩,
     ⟨(some 67), .call (.c (.fn 25 [] [])) [.t 56, .t 61, .t 66], none, [9, 6, 7, 8, 4, 1, 2, 3, 10, 5, 0]⟩,
     ⟨(some 10), .mov (.t 67), none, [10, 9, 8, 7, 6, 5, 4, 3, 2, 1, 0, 11]⟩])
   (.seq (.seq (.dreg [⟨(some 68), .mov (.t 0), none, []⟩,
     ⟨(some 69), .mov (.t 9), none, []⟩,
     ⟨(some 70), .iaddr 3 (.t 68) (.t 69), none, [1, 0]⟩,
     ⟨(some 71), .faddr 0 (.t 70), none, [0, 1, 2]⟩,
     ⟨(some 72), .load1 (.t 71), none, [2, 1, 0, 3]⟩,
     ⟨(some 73), .mov (.t 0), none, []⟩,
     ⟨(some 74), .mov (.t 9), none, []⟩,
     ⟨(some 75), .iaddr 3 (.t 73) (.t 74), none, [6, 5]⟩,
     ⟨(some 76), .faddr 1 (.t 75), none, [5, 6, 7]⟩,
     ⟨(some 77), .load1 (.t 76), none, [7, 6, 5, 8]⟩,
     ⟨(some 78), .bin .gtr (.t 72) (.t 77), none, [8, 5, 6, 7, 3, 0, 1, 2, 9, 4]⟩])
   (.cond (.t 78)
     (.reg [⟨(some 79), .mov (.t 7), none, []⟩,
       ⟨(some 80), .mov (.t 0), none, []⟩,
       ⟨(some 81), .mov (.t 9), none, []⟩,
       ⟨(some 82), .iaddr 3 (.t 80) (.t 81), none, []⟩,
       ⟨(some 83), .faddr 0 (.t 82), none, []⟩,
       ⟨(some 84), .load1 (.t 83), none, []⟩,
       ⟨(some 85), .bin .geq (.t 79) (.t 84), none, []⟩,
       ⟨(some 86), .mov (.t 85), none, []⟩,
       ⟨(some 87), .mov (.t 7), (some (86, false)), []⟩,
       ⟨(some 88), .mov (.t 0), (some (86, false)), []⟩,
       ⟨(some 89), .mov (.t 9), (some (86, false)), []⟩,
       ⟨(some 90), .iaddr 3 (.t 88) (.t 89), (some (86, false)), []⟩,
       ⟨(some 91), .faddr 1 (.t 90), (some (86, false)), []⟩,
       ⟨(some 92), .load1 (.t 91), (some (86, false)), []⟩,
       ⟨(some 93), .bin .leq (.t 87) (.t 92), (some (86, false)), []⟩,
       ⟨(some 94), .pick (.t 86) (.c (.bool true)) (.t 93), none, []⟩,
       ⟨(some 10), .mov (.t 94), none, []⟩])
     (.skip)))
   (.seq (.reg [⟨(some 95), .mov (.t 10), none, []⟩])
   (.cond (.t 95)
     (.reg [⟨(some 96), .mov (.t 8), none, []⟩,
       ⟨(some 97), .mov (.t 0), none, []⟩,
       ⟨(some 98), .mov (.t 9), none, []⟩,
       ⟨(some 99), .iaddr 3 (.t 97) (.t 98), none, []⟩,
       ⟨(some 100), .faddr 2 (.t 99), none, []⟩,
       ⟨(some 101), .load1 (.t 100), none, []⟩,
       ⟨(some 102), .ext true (.t 96) [.t 101], none, []⟩,
       ⟨(some 8), .mov (.t 102), none, []⟩])
     (.skip))))))
  (.reg [⟨(some 54), .mov (.t 9), none, []⟩,
    ⟨(some 55), .bin .add (.t 54) (.c (.int .i64 1)), none, []⟩,
    ⟨(some 9), .mov (.t 55), none, []⟩]))
def xf47 : XFunc := ⟨.seq (.reg [⟨(some 4), .mov (.c (.int .i64 0)), none, []⟩,
    ⟨(some 5), .mov (.c (.int .i64 0)), none, []⟩])
  (.seq (.seq (.reg [⟨(some 11), .mov (.t 0), none, []⟩,
    ⟨(some 12), .len (.t 11), none, []⟩,
    ⟨(some 13), .bin .gtr (.t 12) (.c (.int .i64 12)), none, []⟩])
  (.cond (.t 13)
    (.seq (.reg [⟨(some 4), .mov (.c (.int .i64 0)), none, []⟩,
      ⟨(some 5), .mov (.c (.int .i64 8)), none, []⟩])
    (.ret))
    (.skip)))
  (.seq (.seq (.reg [⟨(some 6), .mov (.c (.int .i64 0)), none, []⟩])
  (.block 0 (.loop xf47l0)))
  (.seq (.seq (.reg [⟨(some 45), .mov (.t 1), none, []⟩,
    ⟨(some 46), .call (.c (.fn 25 [] [])) [.t 45, .c (.int .i64 0), .c (.int .i64 100000)], none, []⟩,
    ⟨(some 47), .un .not (.t 46), none, []⟩])
  (.cond (.t 47)
    (.seq (.reg [⟨(some 4), .mov (.c (.int .i64 0)), none, []⟩,
      ⟨(some 5), .mov (.c (.int .i64 2)), none, []⟩])
    (.ret))
    (.skip)))
  (.seq (.reg [⟨(some 48), .mov (.t 1), none, []⟩,
    ⟨(some 49), .bin .rem (.t 48) (.c (.int .i64 365)), none, []⟩,
    ⟨(some 7), .mov (.t 49), none, []⟩,
    ⟨(some 8), .mov (.c (.int .i64 0)), none, []⟩])
  (.seq (.seq (.reg [⟨(some 9), .mov (.c (.int .i64 0)), none, []⟩])
  (.block 2 (.loop xf47l1)))
  (.seq (.reg [⟨(some 103), .mov (.t 8), none, []⟩,
    ⟨(some 4), .mov (.t 103), none, []⟩,
    ⟨(some 5), .mov (.c (.int .i64 0)), none, []⟩])
  (.ret))))))), 104, [.t 4, .t 5]⟩
def xf58l0 : XCode := .seq (.reg [⟨(some 9), .bin .lss (.t 8) (.t 7), none, []⟩])
  (.seq (.cond (.t 9)
    (.skip)
    (.exit 0))
  (.seq (.block 1 (.seq (.reg [⟨(some 10), .iaddr 1 (.t 6) (.t 8), none, []⟩,
     ⟨(some 11), .load1 (.t 10), none, []⟩,
     ⟨(some 4), .mov (.t 11), none, []⟩])
   (.seq (.reg [⟨(some 12), .mov (.t 4), none, []⟩,
     ⟨(some 13), .call (.t 12) [], none, []⟩,
     ⟨(some 5), .mov (.t 13), none, []⟩])
   (.seq (.reg [⟨(some 14), .mov (.t 5), none, []⟩,
     ⟨(some 15), .bin .neq (.t 14) (.c (.int .i64 0)), none, []⟩])
   (.cond (.t 15)
     (.seq (.reg [⟨(some 16), .mov (.t 5), none, []⟩,
       ⟨(some 2), .mov (.t 16), none, []⟩])
     (.ret))
     (.skip))))))
  (.reg [⟨(some 17), .bin .add (.t 8) (.c (.int .i64 1)), none, []⟩,
    ⟨(some 8), .mov (.t 17), none, []⟩])))
def xf58 : XFunc := ⟨.seq (.reg [⟨(some 2), .mov (.c (.int .i64 0)), none, []⟩])
  (.seq (.seq (.reg [⟨(some 6), .mov (.t 0), none, []⟩,
    ⟨(some 7), .len (.t 6), none, []⟩,
    ⟨(some 8), .mov (.c (.int .i64 0)), none, []⟩])
  (.block 0 (.loop xf58l0)))
  (.seq (.reg [⟨(some 2), .mov (.c (.int .i64 0)), none, []⟩])
  (.ret))), 18, [.t 2]⟩
def xf59 : XFunc := ⟨.seq (.reg [⟨(some 2), .box 4 (.t 0), none, []⟩,
    ⟨(some 3), .box 27 (.t 1), none, []⟩,
    ⟨(some 4), .mov (.c (.nilfn)), none, []⟩])
  (.seq (.reg [⟨(some 5), .fn true 106 [] [.t 2, .t 3], none, []⟩,
    ⟨(some 4), .mov (.t 5), none, []⟩])
  (.ret)), 6, [.t 4]⟩
def xf60l0 : XCode := .seq (.reg [⟨(some 10), .bin .lss (.t 9) (.t 8), none, []⟩])
  (.seq (.cond (.t 10)
    (.skip)
    (.exit 0))
  (.seq (.block 1 (.seq (.reg [⟨(some 11), .mov (.t 9), none, []⟩,
     ⟨(some 6), .mov (.t 11), none, []⟩])
   (.seq (.reg [⟨(some 12), .mov (.t 1), none, []⟩,
     ⟨(some 13), .mov (.t 6), none, []⟩,
     ⟨(some 14), .call (.t 12) [.t 13], none, []⟩,
     ⟨(some 7), .mov (.t 14), none, []⟩])
   (.seq (.reg [⟨(some 15), .mov (.t 7), none, []⟩,
     ⟨(some 16), .bin .neq (.t 15) (.c (.int .i64 0)), none, []⟩])
   (.cond (.t 16)
     (.seq (.reg [⟨(some 17), .mov (.t 6), none, []⟩,
       ⟨(some 18), .mov (.t 7), none, []⟩,
       ⟨(some 4), .mov (.t 17), none, []⟩,
       ⟨(some 5), .mov (.t 18), none, []⟩])
     (.ret))
     (.skip))))))
  (.reg [⟨(some 19), .bin .add (.t 9) (.c (.int .i64 1)), none, []⟩,
    ⟨(some 9), .mov (.t 19), none, []⟩])))
def xf60 : XFunc := ⟨.seq (.reg [⟨(some 4), .mov (.c (.int .i64 0)), none, []⟩,
    ⟨(some 5), .mov (.c (.int .i64 0)), none, []⟩])
  (.seq (.seq (.reg [⟨(some 8), .mov (.t 0), none, []⟩,
    ⟨(some 9), .mov (.c (.int .i64 0)), none, []⟩])
  (.block 0 (.loop xf60l0)))
  (.seq (.reg [⟨(some 4), .mov (.c (.int .i64 0)), none, []⟩,
    ⟨(some 5), .mov (.c (.int .i64 0)), none, []⟩])
  (.ret))), 20, [.t 4, .t 5]⟩
def xf93 : XFunc := ⟨.seq (.reg [⟨(some 2), .box 3 (.t 0), none, []⟩,
    ⟨(some 3), .box 121 (.t 1), none, []⟩,
    ⟨(some 4), .mov (.c (.nilfn)), none, []⟩])
  (.seq (.reg [⟨(some 5), .fn true 130 [] [.t 2, .t 3], none, []⟩,
    ⟨(some 4), .mov (.t 5), none, []⟩])
  (.ret)), 6, [.t 4]⟩
def xf94 : XFunc := ⟨.seq (.reg [⟨(some 3), .mov (.c (.int .i64 0)), none, []⟩])
  (.seq (.reg [⟨(some 4), .load1 (.t 1), none, []⟩,
    ⟨(some 5), .mov (.t 0), none, []⟩,
    ⟨(some 6), .iaddr 3 (.t 4) (.t 5), none, []⟩,
    ⟨(some 7), .loadn 3 (.t 6), none, []⟩,
    ⟨(some 8), .call (.c (.fn 95 [] [])) [.t 7], none, []⟩,
    ⟨(some 3), .mov (.t 8), none, []⟩])
  (.ret)), 9, [.t 3]⟩
def xf95 : XFunc := ⟨.seq (.reg [⟨(some 1), .box 171 (.t 0), none, []⟩,
    ⟨(some 2), .mov (.c (.int .i64 0)), none, []⟩])
  (.seq (.seq (.reg [⟨(some 3), .faddr 0 (.t 1), none, []⟩,
    ⟨(some 4), .load1 (.t 3), none, []⟩,
    ⟨(some 5), .call (.c (.fn 96 [] [])) [.t 4, .c (.int .i64 0), .c (.int .i64 364)], none, []⟩,
    ⟨(some 6), .un .not (.t 5), none, []⟩,
    ⟨(some 7), .mov (.t 6), none, []⟩,
    ⟨(some 8), .faddr 1 (.t 1), (some (7, false)), []⟩,
    ⟨(some 9), .load1 (.t 8), (some (7, false)), []⟩,
    ⟨(some 10), .call (.c (.fn 96 [] [])) [.t 9, .c (.int .i64 0), .c (.int .i64 364)], (some (7, false)), []⟩,
    ⟨(some 11), .un .not (.t 10), (some (7, false)), []⟩,
    ⟨(some 12), .pick (.t 7) (.c (.bool true)) (.t 11), none, []⟩,
    ⟨(some 13), .mov (.t 12), none, []⟩,
    ⟨(some 14), .faddr 2 (.t 1), (some (13, false)), []⟩,
    ⟨(some 15), .load1 (.t 14), (some (13, false)), []⟩,
    ⟨(some 16), .call (.c (.fn 96 [] [])) [.t 15, .c (.int .i64 0), .c (.int .i64 1000000)], (some (13, false)), []⟩,
    ⟨(some 17), .un .not (.t 16), (some (13, false)), []⟩,
    ⟨(some 18), .pick (.t 13) (.c (.bool true)) (.t 17), none, []⟩])
  (.cond (.t 18)
    (.seq (.reg [⟨(some 2), .mov (.c (.int .i64 2)), none, []⟩])
    (.ret))
    (.skip)))
  (.seq (.reg [⟨(some 2), .mov (.c (.int .i64 0)), none, []⟩])
  (.ret))), 19, [.t 2]⟩
def xf96 : XFunc := ⟨.seq (.reg [⟨(some 6), .mov (.c (.bool false)), none, []⟩])
  (.seq (.reg [⟨(some 7), .mov (.t 1), none, []⟩,
    ⟨(some 8), .mov (.t 0), none, []⟩,
    ⟨(some 9), .bin .leq (.t 7) (.t 8), none, []⟩,
    ⟨(some 10), .mov (.t 9), none, []⟩,
    ⟨(some 11), .mov (.t 0), (some (10, true)), []⟩,
    ⟨(some 12), .mov (.t 2), (some (10, true)), []⟩,
    ⟨(some 13), .bin .leq (.t 11) (.t 12), (some (10, true)), []⟩,
    ⟨(some 14), .pick (.t 10) (.t 13) (.c (.bool false)), none, []⟩,
    ⟨(some 6), .mov (.t 14), none, []⟩])
  (.ret)), 15, [.t 6]⟩
def xf97 : XFunc := ⟨.seq (.reg [⟨(some 2), .box 171 (.t 0), none, []⟩,
    ⟨(some 4), .mov (.c (.bool false)), none, []⟩])
  (.seq (.seq (.reg [⟨(some 5), .faddr 0 (.t 2), none, []⟩,
    ⟨(some 6), .load1 (.t 5), none, []⟩,
    ⟨(some 7), .faddr 1 (.t 2), none, []⟩,
    ⟨(some 8), .load1 (.t 7), none, []⟩,
    ⟨(some 9), .bin .leq (.t 6) (.t 8), none, []⟩])
  (.cond (.t 9)
    (.seq (.reg [⟨(some 10), .mov (.t 1), none, []⟩,
      ⟨(some 11), .faddr 0 (.t 2), none, []⟩,
      ⟨(some 12), .load1 (.t 11), none, []⟩,
      ⟨(some 13), .faddr 1 (.t 2), none, []⟩,
      ⟨(some 14), .load1 (.t 13), none, []⟩,
      ⟨(some 15), .call (.c (.fn 96 [] [])) [.t 10, .t 12, .t 14], none, []⟩,
      ⟨(some 4), .mov (.t 15), none, []⟩])
    (.ret))
    (.skip)))
  (.seq (.reg [⟨(some 16), .mov (.t 1), none, []⟩,
    ⟨(some 17), .faddr 0 (.t 2), none, []⟩,
    ⟨(some 18), .load1 (.t 17), none, []⟩,
    ⟨(some 19), .bin .geq (.t 16) (.t 18), none, []⟩,
    ⟨(some 20), .mov (.t 19), none, []⟩,
    ⟨(some 21), .mov (.t 1), (some (20, false)), []⟩,
    ⟨(some 22), .faddr 1 (.t 2), (some (20, false)), []⟩,
    ⟨(some 23), .load1 (.t 22), (some (20, false)), []⟩,
    ⟨(some 24), .bin .leq (.t 21) (.t 23), (some (20, false)), []⟩,
    ⟨(some 25), .pick (.t 20) (.c (.bool true)) (.t 24), none, []⟩,
    ⟨(some 4), .mov (.t 25), none, []⟩])
  (.ret))), 26, [.t 4]⟩
def xf106 : XFunc := ⟨.seq (.reg [⟨(some 2), .mov (.c (.int .i64 0)), none, []⟩])
  (.seq (.seq (.reg [⟨(some 3), .load1 (.t 0), none, []⟩])
  (.cond (.t 3)
    (.seq (.reg [⟨(some 4), .load1 (.t 1), none, []⟩,
      ⟨(some 2), .mov (.t 4), none, []⟩])
    (.ret))
    (.skip)))
  (.seq (.reg [⟨(some 2), .mov (.c (.int .i64 0)), none, []⟩])
  (.ret))), 5, [.t 2]⟩
def xf130 : XFunc := ⟨.seq (.reg [⟨(some 2), .mov (.c (.int .i64 0)), none, []⟩])
  (.seq (.reg [⟨(some 6), .load1 (.t 0), none, []⟩,
    ⟨(some 7), .load1 (.t 1), none, []⟩,
    ⟨(some 8), .call (.c (.fn 60 [] [])) [.t 6, .t 7], none, []⟩,
    ⟨(some 5), .mov (.t 8), none, []⟩,
    ⟨(some 9), .extract (.t 5) 0, none, []⟩,
    ⟨(some 10), .extract (.t 5) 1, none, []⟩,
    ⟨(some 3), .mov (.t 9), none, []⟩,
    ⟨(some 4), .mov (.t 10), none, []⟩])
  (.seq (.reg [⟨(some 11), .mov (.t 4), none, []⟩,
    ⟨(some 2), .mov (.t 11), none, []⟩])
  (.ret))), 12, [.t 2]⟩


/-- The code is known. -/
structure SeaCode (X : FuncId → Option XFunc) : Prop where
  h8 : X 8 = some xf8
  h11 : X 11 = some xf11
  h25 : X 25 = some xf25
  h45 : X 45 = some xf45
  h46 : X 46 = some xf46
  h47 : X 47 = some xf47
  h58 : X 58 = some xf58
  h59 : X 59 = some xf59
  h60 : X 60 = some xf60
  h93 : X 93 = some xf93
  h94 : X 94 = some xf94
  h95 : X 95 = some xf95
  h96 : X 96 = some xf96
  h97 : X 97 = some xf97
  h106 : X 106 = some xf106
  h130 : X 130 = some xf130
end Go.Proofs.Ytbpflcilndinfaa.Eng

/-
  CODE of Wide.
-/
namespace Go.Proofs.Ytbpflcilndinfaa.Eng
set_option linter.unusedSimpArgs false
set_option linter.unusedVariables false
def xf153l0 : XCode := .seq (.seq (.reg [⟨(some 6), .mov (.t 3), none, []⟩,
    ⟨(some 7), .bin .gtr (.t 6) (.c (.int .i64 0)), none, []⟩,
    ⟨(some 8), .mov (.t 7), none, []⟩,
    ⟨(some 9), .mov (.t 0), (some (8, true)), []⟩,
    ⟨(some 10), .mov (.t 3), (some (8, true)), []⟩,
    ⟨(some 11), .bin .sub (.t 10) (.c (.int .i64 1)), (some (8, true)), []⟩,
    ⟨(some 12), .iaddr 1 (.t 9) (.t 11), (some (8, true)), []⟩,
    ⟨(some 13), .load1 (.t 12), (some (8, true)), []⟩,
    ⟨(some 14), .bin .eql (.t 13) (.c (.int .i64 0)), (some (8, true)), []⟩,
    ⟨(some 15), .pick (.t 8) (.t 14) (.c (.bool false)), none, []⟩])
  (.cond (.t 15)
    (.skip)
    (.exit 0)))
  (.block 1 (.reg [⟨(some 16), .mov (.t 3), none, []⟩,
     ⟨(some 17), .bin .sub (.t 16) (.c (.int .i64 1)), none, []⟩,
     ⟨(some 3), .mov (.t 17), none, []⟩]))
def xf153 : XFunc := ⟨.seq (.reg [⟨(some 2), .mov (.c (.nils)), none, []⟩])
  (.seq (.reg [⟨(some 4), .mov (.t 0), none, []⟩,
    ⟨(some 5), .len (.t 4), none, []⟩,
    ⟨(some 3), .mov (.t 5), none, []⟩])
  (.seq (.block 0 (.loop xf153l0))
  (.seq (.reg [⟨(some 18), .mov (.t 0), none, []⟩,
    ⟨(some 19), .mov (.t 3), none, []⟩,
    ⟨(some 20), .slice 1 (.t 18) none (some (.t 19)), none, []⟩,
    ⟨(some 2), .mov (.t 20), none, []⟩])
  (.ret)))), 21, [.t 2]⟩
def xf143 : XFunc := ⟨.seq (.reg [⟨(some 4), .new 139 [.int .i64 0, .nils], none, []⟩])
  (.seq (.reg [⟨(some 5), .mov (.t 1), none, []⟩,
    ⟨(some 6), .call (.c (.fn 153 [] [])) [.t 5], none, []⟩,
    ⟨(some 1), .mov (.t 6), none, []⟩])
  (.seq (.seq (.reg [⟨(some 7), .mov (.t 1), none, []⟩,
    ⟨(some 8), .len (.t 7), none, []⟩,
    ⟨(some 9), .bin .eql (.t 8) (.c (.int .i64 0)), none, []⟩])
  (.cond (.t 9)
    (.reg [⟨(some 0), .mov (.c (.int .i64 0)), none, []⟩])
    (.skip)))
  (.seq (.reg [⟨(some 10), .mov (.t 0), none, []⟩,
    ⟨(some 11), .mov (.t 1), none, []⟩,
    ⟨(some 12), .build [.int .i64 0, .nils] [(0, 1, .t 10), (1, 1, .t 11)], none, []⟩,
    ⟨none, .store 2 (.t 4) (.t 12), none, []⟩])
  (.ret)))), 13, [.cn 4 2]⟩
def xf145l0 : XCode := .seq (.seq (.reg [⟨(some 7), .mov (.t 0), none, []⟩,
    ⟨(some 8), .bin .neq (.t 7) (.c (.int .i64 0)), none, []⟩])
  (.cond (.t 8)
    (.skip)
    (.exit 0)))
  (.block 1 (.seq (.reg [⟨(some 9), .mov (.t 4), none, []⟩,
     ⟨(some 10), .mov (.t 0), none, []⟩,
     ⟨(some 11), .bin .rem (.t 10) (.c (.int .i64 1000000000)), none, []⟩,
     ⟨(some 12), .call (.c (.fn 149 [] [])) [.t 11], none, []⟩,
     ⟨(some 13), .buildSlice 3 1 1 false [.int .i64 0] [(0, 1, .t 12)], none, []⟩,
     ⟨(some 14), .append 3 1 8 (.t 9) (.t 13), none, []⟩,
     ⟨(some 4), .mov (.t 14), none, []⟩])
   (.reg [⟨(some 15), .mov (.t 0), none, []⟩,
     ⟨(some 16), .bin .quo (.t 15) (.c (.int .i64 1000000000)), none, []⟩,
     ⟨(some 0), .mov (.t 16), none, []⟩])))
def xf145 : XFunc := ⟨.seq (.reg [⟨(some 2), .new 139 [.int .i64 0, .nils], none, []⟩])
  (.seq (.reg [⟨(some 3), .mov (.c (.int .i64 1)), none, []⟩])
  (.seq (.seq (.reg [⟨(some 5), .mov (.t 0), none, []⟩,
    ⟨(some 6), .bin .lss (.t 5) (.c (.int .i64 0)), none, []⟩])
  (.cond (.t 6)
    (.reg [⟨(some 3), .mov (.c (.int .i64 (-1))), none, []⟩])
    (.skip)))
  (.seq (.reg [⟨(some 4), .mov (.c (.nils)), none, []⟩])
  (.seq (.block 0 (.loop xf145l0))
  (.seq (.reg [⟨(some 17), .movf (.t 3), none, []⟩,
    ⟨(some 18), .movf (.t 4), none, []⟩,
    ⟨(some 19), .call (.c (.fn 143 [] [])) [.t 17, .t 18], none, []⟩,
    ⟨none, .store 2 (.t 2) (.t 19), none, []⟩])
  (.ret)))))), 20, [.cn 2 2]⟩
def xf149 : XFunc := ⟨.seq (.reg [⟨(some 2), .mov (.c (.int .i64 0)), none, []⟩])
  (.seq (.reg [⟨(some 3), .mov (.t 0), none, []⟩,
    ⟨(some 4), .mov (.t 0), none, []⟩,
    ⟨(some 5), .un .neg (.t 4), none, []⟩,
    ⟨(some 6), .ext true (.t 3) [.t 5], none, []⟩,
    ⟨(some 2), .mov (.t 6), none, []⟩])
  (.ret)), 7, [.t 2]⟩
def xf156l0 : XCode := .seq (.seq (.reg [⟨(some 19), .mov (.t 5), none, []⟩,
    ⟨(some 20), .bin .geq (.t 19) (.c (.int .i64 0)), none, []⟩])
  (.cond (.t 20)
    (.skip)
    (.exit 0)))
  (.seq (.block 1 (.seq (.seq (.dreg [⟨(some 23), .mov (.t 0), none, []⟩,
     ⟨(some 24), .mov (.t 5), none, []⟩,
     ⟨(some 25), .iaddr 1 (.t 23) (.t 24), none, [1, 0]⟩,
     ⟨(some 26), .load1 (.t 25), none, [0, 1, 2]⟩,
     ⟨(some 27), .mov (.t 1), none, []⟩,
     ⟨(some 28), .mov (.t 5), none, []⟩,
     ⟨(some 29), .iaddr 1 (.t 27) (.t 28), none, [5, 4]⟩,
     ⟨(some 30), .load1 (.t 29), none, [4, 5, 6]⟩,
     ⟨(some 31), .bin .lss (.t 26) (.t 30), none, [6, 5, 4, 2, 1, 0, 7, 3]⟩])
   (.cond (.t 31)
     (.seq (.reg [⟨(some 4), .mov (.c (.int .i64 (-1))), none, []⟩])
     (.ret))
     (.skip)))
   (.seq (.dreg [⟨(some 32), .mov (.t 0), none, []⟩,
     ⟨(some 33), .mov (.t 5), none, []⟩,
     ⟨(some 34), .iaddr 1 (.t 32) (.t 33), none, [1, 0]⟩,
     ⟨(some 35), .load1 (.t 34), none, [0, 1, 2]⟩,
     ⟨(some 36), .mov (.t 1), none, []⟩,
     ⟨(some 37), .mov (.t 5), none, []⟩,
     ⟨(some 38), .iaddr 1 (.t 36) (.t 37), none, [5, 4]⟩,
     ⟨(some 39), .load1 (.t 38), none, [4, 5, 6]⟩,
     ⟨(some 40), .bin .gtr (.t 35) (.t 39), none, [6, 5, 4, 2, 1, 0, 7, 3]⟩])
   (.cond (.t 40)
     (.seq (.reg [⟨(some 4), .mov (.c (.int .i64 1)), none, []⟩])
     (.ret))
     (.skip)))))
  (.reg [⟨(some 21), .mov (.t 5), none, []⟩,
    ⟨(some 22), .bin .sub (.t 21) (.c (.int .i64 1)), none, []⟩,
    ⟨(some 5), .mov (.t 22), none, []⟩]))
def xf156 : XFunc := ⟨.seq (.reg [⟨(some 4), .mov (.c (.int .i64 0)), none, []⟩])
  (.seq (.seq (.reg [⟨(some 6), .mov (.t 0), none, []⟩,
    ⟨(some 7), .len (.t 6), none, []⟩,
    ⟨(some 8), .mov (.t 1), none, []⟩,
    ⟨(some 9), .len (.t 8), none, []⟩,
    ⟨(some 10), .bin .neq (.t 7) (.t 9), none, []⟩])
  (.cond (.t 10)
    (.seq (.seq (.reg [⟨(some 11), .mov (.t 0), none, []⟩,
      ⟨(some 12), .len (.t 11), none, []⟩,
      ⟨(some 13), .mov (.t 1), none, []⟩,
      ⟨(some 14), .len (.t 13), none, []⟩,
      ⟨(some 15), .bin .lss (.t 12) (.t 14), none, []⟩])
    (.cond (.t 15)
      (.seq (.reg [⟨(some 4), .mov (.c (.int .i64 (-1))), none, []⟩])
      (.ret))
      (.skip)))
    (.seq (.reg [⟨(some 4), .mov (.c (.int .i64 1)), none, []⟩])
    (.ret)))
    (.skip)))
  (.seq (.seq (.reg [⟨(some 16), .mov (.t 0), none, []⟩,
    ⟨(some 17), .len (.t 16), none, []⟩,
    ⟨(some 18), .bin .sub (.t 17) (.c (.int .i64 1)), none, []⟩,
    ⟨(some 5), .mov (.t 18), none, []⟩])
  (.block 0 (.loop xf156l0)))
  (.seq (.reg [⟨(some 4), .mov (.c (.int .i64 0)), none, []⟩])
  (.ret)))), 41, [.t 4]⟩
def xf162 : XFunc := ⟨.seq (.reg [⟨(some 4), .mov (.c (.int .i64 0)), none, []⟩])
  (.seq (.seq (.reg [⟨(some 5), .mov (.t 1), none, []⟩,
    ⟨(some 6), .mov (.t 0), none, []⟩,
    ⟨(some 7), .len (.t 6), none, []⟩,
    ⟨(some 8), .bin .lss (.t 5) (.t 7), none, []⟩])
  (.cond (.t 8)
    (.seq (.reg [⟨(some 9), .mov (.t 0), none, []⟩,
      ⟨(some 10), .mov (.t 1), none, []⟩,
      ⟨(some 11), .iaddr 1 (.t 9) (.t 10), none, []⟩,
      ⟨(some 12), .load1 (.t 11), none, []⟩,
      ⟨(some 4), .mov (.t 12), none, []⟩])
    (.ret))
    (.skip)))
  (.seq (.reg [⟨(some 4), .mov (.c (.int .i64 0)), none, []⟩])
  (.ret))), 13, [.t 4]⟩
def xf158l0 : XCode := .seq (.seq (.reg [⟨(some 9), .mov (.t 7), none, []⟩,
    ⟨(some 10), .mov (.t 0), none, []⟩,
    ⟨(some 11), .len (.t 10), none, []⟩,
    ⟨(some 12), .bin .lss (.t 9) (.t 11), none, []⟩,
    ⟨(some 13), .mov (.t 12), none, []⟩,
    ⟨(some 14), .mov (.t 7), (some (13, false)), []⟩,
    ⟨(some 15), .mov (.t 1), (some (13, false)), []⟩,
    ⟨(some 16), .len (.t 15), (some (13, false)), []⟩,
    ⟨(some 17), .bin .lss (.t 14) (.t 16), (some (13, false)), []⟩,
    ⟨(some 18), .pick (.t 13) (.c (.bool true)) (.t 17), none, []⟩,
    ⟨(some 19), .mov (.t 18), none, []⟩,
    ⟨(some 20), .mov (.t 6), (some (19, false)), []⟩,
    ⟨(some 21), .bin .gtr (.t 20) (.c (.int .i64 0)), (some (19, false)), []⟩,
    ⟨(some 22), .pick (.t 19) (.c (.bool true)) (.t 21), none, []⟩])
  (.cond (.t 22)
    (.skip)
    (.exit 0)))
  (.seq (.block 1 (.seq (.reg [⟨(some 25), .mov (.t 0), none, []⟩,
     ⟨(some 26), .mov (.t 7), none, []⟩,
     ⟨(some 27), .call (.c (.fn 162 [] [])) [.t 25, .t 26], none, []⟩,
     ⟨(some 28), .mov (.t 1), none, []⟩,
     ⟨(some 29), .mov (.t 7), none, []⟩,
     ⟨(some 30), .call (.c (.fn 162 [] [])) [.t 28, .t 29], none, []⟩,
     ⟨(some 31), .bin .add (.t 27) (.t 30), none, []⟩,
     ⟨(some 32), .mov (.t 6), none, []⟩,
     ⟨(some 33), .bin .add (.t 31) (.t 32), none, []⟩,
     ⟨(some 8), .mov (.t 33), none, []⟩])
   (.reg [⟨(some 34), .mov (.t 5), none, []⟩,
     ⟨(some 35), .mov (.t 8), none, []⟩,
     ⟨(some 36), .bin .rem (.t 35) (.c (.int .i64 1000000000)), none, []⟩,
     ⟨(some 37), .buildSlice 3 1 1 false [.int .i64 0] [(0, 1, .t 36)], none, []⟩,
     ⟨(some 38), .append 3 1 8 (.t 34) (.t 37), none, []⟩,
     ⟨(some 39), .mov (.t 8), none, []⟩,
     ⟨(some 40), .bin .quo (.t 39) (.c (.int .i64 1000000000)), none, []⟩,
     ⟨(some 5), .mov (.t 38), none, []⟩,
     ⟨(some 6), .mov (.t 40), none, []⟩])))
  (.reg [⟨(some 23), .mov (.t 7), none, []⟩,
    ⟨(some 24), .bin .add (.t 23) (.c (.int .i64 1)), none, []⟩,
    ⟨(some 7), .mov (.t 24), none, []⟩]))
def xf158 : XFunc := ⟨.seq (.reg [⟨(some 4), .mov (.c (.nils)), none, []⟩])
  (.seq (.reg [⟨(some 5), .mov (.c (.nils)), none, []⟩])
  (.seq (.reg [⟨(some 6), .mov (.c (.int .i64 0)), none, []⟩])
  (.seq (.seq (.reg [⟨(some 7), .mov (.c (.int .i64 0)), none, []⟩])
  (.block 0 (.loop xf158l0)))
  (.seq (.reg [⟨(some 41), .mov (.t 5), none, []⟩,
    ⟨(some 4), .mov (.t 41), none, []⟩])
  (.ret))))), 42, [.t 4]⟩
def xf157l0 : XCode := .seq (.seq (.reg [⟨(some 9), .mov (.t 7), none, []⟩,
    ⟨(some 10), .mov (.t 0), none, []⟩,
    ⟨(some 11), .len (.t 10), none, []⟩,
    ⟨(some 12), .bin .lss (.t 9) (.t 11), none, []⟩])
  (.cond (.t 12)
    (.skip)
    (.exit 0)))
  (.seq (.block 1 (.seq (.dreg [⟨(some 15), .mov (.t 0), none, []⟩,
     ⟨(some 16), .mov (.t 7), none, []⟩,
     ⟨(some 17), .iaddr 1 (.t 15) (.t 16), none, [1, 0]⟩,
     ⟨(some 18), .load1 (.t 17), none, [0, 1, 2]⟩,
     ⟨(some 19), .mov (.t 1), none, []⟩,
     ⟨(some 20), .mov (.t 7), none, []⟩,
     ⟨(some 21), .call (.c (.fn 162 [] [])) [.t 19, .t 20], none, [5, 4]⟩,
     ⟨(some 22), .bin .sub (.t 18) (.t 21), none, [4, 5, 2, 1, 0, 6, 3]⟩,
     ⟨(some 23), .mov (.t 6), none, []⟩,
     ⟨(some 24), .bin .sub (.t 22) (.t 23), none, [3, 6, 0, 1, 2, 5, 4, 8, 7]⟩,
     ⟨(some 8), .mov (.t 24), none, [8, 7, 5, 4, 3, 2, 1, 0, 6, 9]⟩])
   (.seq (.reg [⟨(some 6), .mov (.c (.int .i64 0)), none, []⟩])
   (.seq (.seq (.reg [⟨(some 25), .mov (.t 8), none, []⟩,
     ⟨(some 26), .bin .lss (.t 25) (.c (.int .i64 0)), none, []⟩])
   (.cond (.t 26)
     (.reg [⟨(some 27), .mov (.t 8), none, []⟩,
       ⟨(some 28), .bin .add (.t 27) (.c (.int .i64 1000000000)), none, []⟩,
       ⟨(some 8), .mov (.t 28), none, []⟩,
       ⟨(some 6), .mov (.c (.int .i64 1)), none, []⟩])
     (.skip)))
   (.reg [⟨(some 29), .mov (.t 5), none, []⟩,
     ⟨(some 30), .mov (.t 8), none, []⟩,
     ⟨(some 31), .buildSlice 3 1 1 false [.int .i64 0] [(0, 1, .t 30)], none, []⟩,
     ⟨(some 32), .append 3 1 8 (.t 29) (.t 31), none, []⟩,
     ⟨(some 5), .mov (.t 32), none, []⟩])))))
  (.reg [⟨(some 13), .mov (.t 7), none, []⟩,
    ⟨(some 14), .bin .add (.t 13) (.c (.int .i64 1)), none, []⟩,
    ⟨(some 7), .mov (.t 14), none, []⟩]))
def xf157 : XFunc := ⟨.seq (.reg [⟨(some 4), .mov (.c (.nils)), none, []⟩])
  (.seq (.reg [⟨(some 5), .mov (.c (.nils)), none, []⟩])
  (.seq (.reg [⟨(some 6), .mov (.c (.int .i64 0)), none, []⟩])
  (.seq (.seq (.reg [⟨(some 7), .mov (.c (.int .i64 0)), none, []⟩])
  (.block 0 (.loop xf157l0)))
  (.seq (.reg [⟨(some 33), .mov (.t 5), none, []⟩,
    ⟨(some 34), .call (.c (.fn 153 [] [])) [.t 33], none, []⟩,
    ⟨(some 4), .mov (.t 34), none, []⟩])
  (.ret))))), 35, [.t 4]⟩
def xf147 : XFunc := ⟨.seq (.reg [⟨(some 1), .box 139 (.t 0), none, []⟩,
    ⟨(some 2), .new 139 [.int .i64 0, .nils], none, []⟩])
  (.seq (.reg [⟨(some 3), .faddr 0 (.t 1), none, []⟩,
    ⟨(some 4), .load1 (.t 3), none, []⟩,
    ⟨(some 5), .un .neg (.t 4), none, []⟩,
    ⟨(some 6), .faddr 1 (.t 1), none, []⟩,
    ⟨(some 7), .load1 (.t 6), none, []⟩,
    ⟨(some 8), .build [.int .i64 0, .nils] [(0, 1, .t 5), (1, 1, .t 7)], none, []⟩,
    ⟨none, .store 2 (.t 2) (.t 8), none, []⟩])
  (.ret)), 9, [.cn 2 2]⟩
def xf148 : XFunc := ⟨.seq (.reg [⟨(some 2), .box 139 (.t 0), none, []⟩,
    ⟨(some 3), .box 139 (.t 1), none, []⟩,
    ⟨(some 4), .new 139 [.int .i64 0, .nils], none, []⟩])
  (.seq (.seq (.reg [⟨(some 6), .faddr 0 (.t 2), none, []⟩,
    ⟨(some 7), .load1 (.t 6), none, []⟩,
    ⟨(some 8), .bin .eql (.t 7) (.c (.int .i64 0)), none, []⟩])
  (.cond (.t 8)
    (.seq (.reg [⟨(some 9), .loadn 2 (.t 3), none, []⟩,
      ⟨none, .store 2 (.t 4) (.t 9), none, []⟩])
    (.ret))
    (.skip)))
  (.seq (.seq (.reg [⟨(some 10), .faddr 0 (.t 3), none, []⟩,
    ⟨(some 11), .load1 (.t 10), none, []⟩,
    ⟨(some 12), .bin .eql (.t 11) (.c (.int .i64 0)), none, []⟩])
  (.cond (.t 12)
    (.seq (.reg [⟨(some 13), .loadn 2 (.t 2), none, []⟩,
      ⟨none, .store 2 (.t 4) (.t 13), none, []⟩])
    (.ret))
    (.skip)))
  (.seq (.seq (.reg [⟨(some 14), .faddr 0 (.t 2), none, []⟩,
    ⟨(some 15), .load1 (.t 14), none, []⟩,
    ⟨(some 16), .faddr 0 (.t 3), none, []⟩,
    ⟨(some 17), .load1 (.t 16), none, []⟩,
    ⟨(some 18), .bin .eql (.t 15) (.t 17), none, []⟩])
  (.cond (.t 18)
    (.seq (.dreg [⟨(some 19), .faddr 0 (.t 2), none, []⟩,
      ⟨(some 20), .load1 (.t 19), none, [0]⟩,
      ⟨(some 21), .faddr 1 (.t 2), none, []⟩,
      ⟨(some 22), .load1 (.t 21), none, [2]⟩,
      ⟨(some 23), .faddr 1 (.t 3), none, []⟩,
      ⟨(some 24), .load1 (.t 23), none, [4]⟩,
      ⟨(some 25), .call (.c (.fn 158 [] [])) [.t 22, .t 24], none, [4, 2, 5, 3]⟩,
      ⟨(some 26), .call (.c (.fn 143 [] [])) [.t 20, .t 25], none, [3, 5, 2, 4, 0, 6, 1]⟩,
      ⟨none, .store 2 (.t 4) (.t 26), none, [6, 5, 4, 3, 2, 1, 0, 7]⟩])
    (.ret))
    (.skip)))
  (.seq (.reg [⟨(some 27), .faddr 1 (.t 2), none, []⟩,
    ⟨(some 28), .load1 (.t 27), none, []⟩,
    ⟨(some 29), .faddr 1 (.t 3), none, []⟩,
    ⟨(some 30), .load1 (.t 29), none, []⟩,
    ⟨(some 31), .call (.c (.fn 156 [] [])) [.t 28, .t 30], none, []⟩,
    ⟨(some 5), .mov (.t 31), none, []⟩])
  (.seq (.seq (.reg [⟨(some 32), .mov (.t 5), none, []⟩,
    ⟨(some 33), .bin .eql (.t 32) (.c (.int .i64 0)), none, []⟩])
  (.cond (.t 33)
    (.seq (.reg [⟨(some 34), .build [.int .i64 0, .nils] [], none, []⟩,
      ⟨none, .store 2 (.t 4) (.t 34), none, []⟩])
    (.ret))
    (.skip)))
  (.seq (.seq (.reg [⟨(some 35), .mov (.t 5), none, []⟩,
    ⟨(some 36), .bin .gtr (.t 35) (.c (.int .i64 0)), none, []⟩])
  (.cond (.t 36)
    (.seq (.dreg [⟨(some 37), .faddr 0 (.t 2), none, []⟩,
      ⟨(some 38), .load1 (.t 37), none, [0]⟩,
      ⟨(some 39), .faddr 1 (.t 2), none, []⟩,
      ⟨(some 40), .load1 (.t 39), none, [2]⟩,
      ⟨(some 41), .faddr 1 (.t 3), none, []⟩,
      ⟨(some 42), .load1 (.t 41), none, [4]⟩,
      ⟨(some 43), .call (.c (.fn 157 [] [])) [.t 40, .t 42], none, [4, 2, 5, 3]⟩,
      ⟨(some 44), .call (.c (.fn 143 [] [])) [.t 38, .t 43], none, [3, 5, 2, 4, 0, 6, 1]⟩,
      ⟨none, .store 2 (.t 4) (.t 44), none, [6, 5, 4, 3, 2, 1, 0, 7]⟩])
    (.ret))
    (.skip)))
  (.seq (.dreg [⟨(some 45), .faddr 0 (.t 3), none, []⟩,
    ⟨(some 46), .load1 (.t 45), none, [0]⟩,
    ⟨(some 47), .faddr 1 (.t 3), none, []⟩,
    ⟨(some 48), .load1 (.t 47), none, [2]⟩,
    ⟨(some 49), .faddr 1 (.t 2), none, []⟩,
    ⟨(some 50), .load1 (.t 49), none, [4]⟩,
    ⟨(some 51), .call (.c (.fn 157 [] [])) [.t 48, .t 50], none, [4, 2, 5, 3]⟩,
    ⟨(some 52), .call (.c (.fn 143 [] [])) [.t 46, .t 51], none, [3, 5, 2, 4, 0, 6, 1]⟩,
    ⟨none, .store 2 (.t 4) (.t 52), none, [6, 5, 4, 3, 2, 1, 0, 7]⟩])
  (.ret)))))))), 53, [.cn 4 2]⟩
def xf142 : XFunc := ⟨.seq (.reg [⟨(some 2), .box 139 (.t 0), none, []⟩,
    ⟨(some 3), .box 139 (.t 1), none, []⟩,
    ⟨(some 4), .new 139 [.int .i64 0, .nils], none, []⟩])
  (.seq (.dreg [⟨(some 5), .loadn 2 (.t 2), none, []⟩,
    ⟨(some 6), .loadn 2 (.t 3), none, []⟩,
    ⟨(some 7), .call (.c (.fn 147 [] [])) [.t 6], none, [1]⟩,
    ⟨(some 8), .call (.c (.fn 148 [] [])) [.t 5, .t 7], none, [1, 2, 0]⟩,
    ⟨none, .store 2 (.t 4) (.t 8), none, [2, 1, 0, 3]⟩])
  (.ret)), 9, [.cn 4 2]⟩
def xf114 : XFunc := ⟨.seq (.reg [⟨(some 2), .box 139 (.t 0), none, []⟩,
    ⟨(some 3), .box 139 (.t 1), none, []⟩,
    ⟨(some 4), .mov (.c (.int .i64 0)), none, []⟩])
  (.seq (.reg [⟨(some 5), .loadn 2 (.t 2), none, []⟩,
    ⟨(some 6), .loadn 2 (.t 3), none, []⟩,
    ⟨(some 7), .call (.c (.fn 142 [] [])) [.t 5, .t 6], none, []⟩,
    ⟨(some 8), .field 0 1 false (.t 7), none, []⟩,
    ⟨(some 4), .mov (.t 8), none, []⟩])
  (.ret)), 9, [.t 4]⟩
def xf115l0 : XCode := .seq (.seq (.reg [⟨(some 26), .mov (.t 8), none, []⟩,
    ⟨(some 27), .faddr 1 (.t 3), none, []⟩,
    ⟨(some 28), .load1 (.t 27), none, []⟩,
    ⟨(some 29), .len (.t 28), none, []⟩,
    ⟨(some 30), .bin .lss (.t 26) (.t 29), none, []⟩])
  (.cond (.t 30)
    (.skip)
    (.exit 2)))
  (.seq (.block 3 (.seq (.dreg [⟨(some 33), .mov (.t 5), none, []⟩,
     ⟨(some 34), .mov (.t 6), none, []⟩,
     ⟨(some 35), .mov (.t 8), none, []⟩,
     ⟨(some 36), .bin .add (.t 34) (.t 35), none, [2, 1]⟩,
     ⟨(some 37), .iaddr 1 (.t 33) (.t 36), none, [1, 2, 3, 0]⟩,
     ⟨(some 38), .load1 (.t 37), none, [0, 3, 2, 1, 4]⟩,
     ⟨(some 39), .faddr 1 (.t 2), none, []⟩,
     ⟨(some 40), .load1 (.t 39), none, [6]⟩,
     ⟨(some 41), .mov (.t 6), none, []⟩,
     ⟨(some 42), .iaddr 1 (.t 40) (.t 41), none, [6, 8, 7]⟩,
     ⟨(some 43), .load1 (.t 42), none, [7, 8, 6, 9]⟩,
     ⟨(some 44), .faddr 1 (.t 3), none, []⟩,
     ⟨(some 45), .load1 (.t 44), none, [11]⟩,
     ⟨(some 46), .mov (.t 8), none, []⟩,
     ⟨(some 47), .iaddr 1 (.t 45) (.t 46), none, [11, 13, 12]⟩,
     ⟨(some 48), .load1 (.t 47), none, [12, 13, 11, 14]⟩,
     ⟨(some 49), .bin .mul (.t 43) (.t 48), none, [14, 11, 13, 12, 9, 6, 8, 7, 15, 10]⟩,
     ⟨(some 50), .bin .add (.t 38) (.t 49), none, [10, 15, 7, 8, 6, 9, 12, 13, 11, 14, 4, 1, 2, 3, 0, 16, 5]⟩,
     ⟨(some 51), .mov (.t 7), none, []⟩,
     ⟨(some 52), .bin .add (.t 50) (.t 51), none, [5, 16, 0, 3, 2, 1, 4, 14, 11, 13, 12, 9, 6, 8, 7, 15, 10, 18, 17]⟩,
     ⟨(some 9), .mov (.t 52), none, [18, 17, 16, 15, 14, 13, 12, 11, 10, 9, 8, 7, 6, 5, 4, 3, 2, 1, 0, 19]⟩])
   (.reg [⟨(some 53), .mov (.t 5), none, []⟩,
     ⟨(some 54), .mov (.t 6), none, []⟩,
     ⟨(some 55), .mov (.t 8), none, []⟩,
     ⟨(some 56), .bin .add (.t 54) (.t 55), none, []⟩,
     ⟨(some 57), .mov (.t 9), none, []⟩,
     ⟨(some 58), .bin .rem (.t 57) (.c (.int .i64 1000000000)), none, []⟩,
     ⟨(some 59), .mov (.t 9), none, []⟩,
     ⟨(some 60), .bin .quo (.t 59) (.c (.int .i64 1000000000)), none, []⟩,
     ⟨(some 61), .iaddr 1 (.t 53) (.t 56), none, []⟩,
     ⟨none, .store 1 (.t 61) (.t 58), none, []⟩,
     ⟨(some 7), .mov (.t 60), none, []⟩])))
  (.reg [⟨(some 31), .mov (.t 8), none, []⟩,
    ⟨(some 32), .bin .add (.t 31) (.c (.int .i64 1)), none, []⟩,
    ⟨(some 8), .mov (.t 32), none, []⟩]))
def xf115l1 : XCode := .seq (.seq (.reg [⟨(some 19), .mov (.t 6), none, []⟩,
    ⟨(some 20), .faddr 1 (.t 2), none, []⟩,
    ⟨(some 21), .load1 (.t 20), none, []⟩,
    ⟨(some 22), .len (.t 21), none, []⟩,
    ⟨(some 23), .bin .lss (.t 19) (.t 22), none, []⟩])
  (.cond (.t 23)
    (.skip)
    (.exit 0)))
  (.seq (.block 1 (.seq (.reg [⟨(some 7), .mov (.c (.int .i64 0)), none, []⟩])
   (.seq (.seq (.reg [⟨(some 8), .mov (.c (.int .i64 0)), none, []⟩])
   (.block 2 (.loop xf115l0)))
   (.dreg [⟨(some 62), .mov (.t 5), none, []⟩,
     ⟨(some 63), .mov (.t 6), none, []⟩,
     ⟨(some 64), .faddr 1 (.t 3), none, []⟩,
     ⟨(some 65), .load1 (.t 64), none, [2]⟩,
     ⟨(some 66), .len (.t 65), none, [2, 3]⟩,
     ⟨(some 67), .bin .add (.t 63) (.t 66), none, [3, 2, 4, 1]⟩,
     ⟨(some 68), .mov (.t 5), none, []⟩,
     ⟨(some 69), .mov (.t 6), none, []⟩,
     ⟨(some 70), .faddr 1 (.t 3), none, []⟩,
     ⟨(some 71), .load1 (.t 70), none, [8]⟩,
     ⟨(some 72), .len (.t 71), none, [8, 9]⟩,
     ⟨(some 73), .bin .add (.t 69) (.t 72), none, [9, 8, 10, 7]⟩,
     ⟨(some 74), .iaddr 1 (.t 68) (.t 73), none, [7, 10, 8, 9, 11, 6]⟩,
     ⟨(some 75), .load1 (.t 74), none, [6, 11, 9, 8, 10, 7, 12]⟩,
     ⟨(some 76), .mov (.t 7), none, []⟩,
     ⟨(some 77), .bin .add (.t 75) (.t 76), none, [12, 7, 10, 8, 9, 11, 6, 14, 13]⟩,
     ⟨(some 78), .iaddr 1 (.t 62) (.t 67), none, [15, 14, 13, 12, 11, 10, 9, 8, 7, 6, 4, 3, 2, 1, 5, 0]⟩,
     ⟨none, .store 1 (.t 78) (.t 77), none, [14, 13, 12, 11, 10, 9, 8, 7, 6, 5, 4, 3, 2, 1, 0, 15, 16]⟩]))))
  (.reg [⟨(some 24), .mov (.t 6), none, []⟩,
    ⟨(some 25), .bin .add (.t 24) (.c (.int .i64 1)), none, []⟩,
    ⟨(some 6), .mov (.t 25), none, []⟩]))
def xf115 : XFunc := ⟨.seq (.reg [⟨(some 2), .box 139 (.t 0), none, []⟩,
    ⟨(some 3), .box 139 (.t 1), none, []⟩,
    ⟨(some 4), .new 139 [.int .i64 0, .nils], none, []⟩])
  (.seq (.reg [⟨(some 10), .faddr 1 (.t 2), none, []⟩,
    ⟨(some 11), .load1 (.t 10), none, []⟩,
    ⟨(some 12), .len (.t 11), none, []⟩,
    ⟨(some 13), .faddr 1 (.t 3), none, []⟩,
    ⟨(some 14), .load1 (.t 13), none, []⟩,
    ⟨(some 15), .len (.t 14), none, []⟩,
    ⟨(some 16), .bin .add (.t 12) (.t 15), none, []⟩,
    ⟨(some 17), .bin .add (.t 16) (.c (.int .i64 1)), none, []⟩,
    ⟨(some 18), .makeS 3 1 8 [.int .i64 0] (.t 17) (.t 17), none, []⟩,
    ⟨(some 5), .mov (.t 18), none, []⟩])
  (.seq (.seq (.reg [⟨(some 6), .mov (.c (.int .i64 0)), none, []⟩])
  (.block 0 (.loop xf115l1)))
  (.seq (.reg [⟨(some 79), .faddr 0 (.t 2), none, []⟩,
    ⟨(some 80), .load1 (.t 79), none, []⟩,
    ⟨(some 81), .faddr 0 (.t 3), none, []⟩,
    ⟨(some 82), .load1 (.t 81), none, []⟩,
    ⟨(some 83), .bin .mul (.t 80) (.t 82), none, []⟩,
    ⟨(some 84), .movf (.t 5), none, []⟩,
    ⟨(some 85), .call (.c (.fn 143 [] [])) [.t 83, .t 84], none, []⟩,
    ⟨none, .store 2 (.t 4) (.t 85), none, []⟩])
  (.ret)))), 86, [.cn 4 2]⟩
def xf146l0 : XCode := .seq (.seq (.reg [⟨(some 38), .mov (.t 8), none, []⟩,
    ⟨(some 39), .mov (.t 9), none, []⟩,
    ⟨(some 40), .bin .lss (.t 38) (.t 39), none, []⟩])
  (.cond (.t 40)
    (.skip)
    (.exit 2)))
  (.block 3 (.seq (.reg [⟨(some 41), .mov (.t 8), none, []⟩,
     ⟨(some 42), .mov (.t 9), none, []⟩,
     ⟨(some 43), .bin .add (.t 41) (.t 42), none, []⟩,
     ⟨(some 44), .bin .add (.t 43) (.c (.int .i64 1)), none, []⟩,
     ⟨(some 45), .bin .quo (.t 44) (.c (.int .i64 2)), none, []⟩,
     ⟨(some 10), .mov (.t 45), none, []⟩])
   (.seq (.reg [⟨(some 46), .faddr 1 (.t 3), none, []⟩,
     ⟨(some 47), .load1 (.t 46), none, []⟩,
     ⟨(some 48), .call (.c (.fn 143 [] [])) [.c (.int .i64 1), .t 47], none, []⟩,
     ⟨(some 49), .mov (.t 10), none, []⟩,
     ⟨(some 50), .call (.c (.fn 145 [] [])) [.t 49], none, []⟩,
     ⟨(some 51), .call (.c (.fn 115 [] [])) [.t 48, .t 50], none, []⟩,
     ⟨(some 52), .field 1 1 false (.t 51), none, []⟩,
     ⟨(some 53), .mov (.t 6), none, []⟩,
     ⟨(some 54), .call (.c (.fn 156 [] [])) [.t 52, .t 53], none, []⟩,
     ⟨(some 55), .bin .leq (.t 54) (.c (.int .i64 0)), none, []⟩])
   (.cond (.t 55)
     (.reg [⟨(some 56), .mov (.t 10), none, []⟩,
       ⟨(some 8), .mov (.t 56), none, []⟩])
     (.reg [⟨(some 57), .mov (.t 10), none, []⟩,
       ⟨(some 58), .bin .sub (.t 57) (.c (.int .i64 1)), none, []⟩,
       ⟨(some 9), .mov (.t 58), none, []⟩])))))
def xf146l1 : XCode := .seq (.seq (.reg [⟨(some 25), .mov (.t 7), none, []⟩,
    ⟨(some 26), .bin .geq (.t 25) (.c (.int .i64 0)), none, []⟩])
  (.cond (.t 26)
    (.skip)
    (.exit 0)))
  (.seq (.block 1 (.seq (.reg [⟨(some 29), .faddr 1 (.t 2), none, []⟩,
     ⟨(some 30), .load1 (.t 29), none, []⟩,
     ⟨(some 31), .mov (.t 7), none, []⟩,
     ⟨(some 32), .iaddr 1 (.t 30) (.t 31), none, []⟩,
     ⟨(some 33), .load1 (.t 32), none, []⟩,
     ⟨(some 34), .buildSlice 3 1 1 false [.int .i64 0] [(0, 1, .t 33)], none, []⟩,
     ⟨(some 35), .mov (.t 6), none, []⟩,
     ⟨(some 36), .append 3 1 8 (.t 34) (.t 35), none, []⟩,
     ⟨(some 37), .call (.c (.fn 153 [] [])) [.t 36], none, []⟩,
     ⟨(some 6), .mov (.t 37), none, []⟩])
   (.seq (.reg [⟨(some 8), .mov (.c (.int .i64 0)), none, []⟩,
     ⟨(some 9), .mov (.c (.int .i64 999999999)), none, []⟩])
   (.seq (.block 2 (.loop xf146l0))
   (.seq (.reg [⟨(some 59), .mov (.t 5), none, []⟩,
     ⟨(some 60), .mov (.t 7), none, []⟩,
     ⟨(some 61), .mov (.t 8), none, []⟩,
     ⟨(some 62), .iaddr 1 (.t 59) (.t 60), none, []⟩,
     ⟨none, .store 1 (.t 62) (.t 61), none, []⟩])
   (.reg [⟨(some 63), .mov (.t 6), none, []⟩,
     ⟨(some 64), .faddr 1 (.t 3), none, []⟩,
     ⟨(some 65), .load1 (.t 64), none, []⟩,
     ⟨(some 66), .call (.c (.fn 143 [] [])) [.c (.int .i64 1), .t 65], none, []⟩,
     ⟨(some 67), .mov (.t 8), none, []⟩,
     ⟨(some 68), .call (.c (.fn 145 [] [])) [.t 67], none, []⟩,
     ⟨(some 69), .call (.c (.fn 115 [] [])) [.t 66, .t 68], none, []⟩,
     ⟨(some 70), .field 1 1 false (.t 69), none, []⟩,
     ⟨(some 71), .call (.c (.fn 157 [] [])) [.t 63, .t 70], none, []⟩,
     ⟨(some 6), .mov (.t 71), none, []⟩]))))))
  (.reg [⟨(some 27), .mov (.t 7), none, []⟩,
    ⟨(some 28), .bin .sub (.t 27) (.c (.int .i64 1)), none, []⟩,
    ⟨(some 7), .mov (.t 28), none, []⟩]))
def xf146 : XFunc := ⟨.seq (.reg [⟨(some 2), .box 139 (.t 0), none, []⟩,
    ⟨(some 3), .box 139 (.t 1), none, []⟩,
    ⟨(some 4), .new 139 [.int .i64 0, .nils], none, []⟩])
  (.seq (.seq (.reg [⟨(some 12), .faddr 0 (.t 2), none, []⟩,
    ⟨(some 13), .load1 (.t 12), none, []⟩,
    ⟨(some 14), .bin .eql (.t 13) (.c (.int .i64 0)), none, []⟩])
  (.cond (.t 14)
    (.seq (.reg [⟨(some 15), .build [.int .i64 0, .nils] [], none, []⟩,
      ⟨none, .store 2 (.t 4) (.t 15), none, []⟩])
    (.ret))
    (.skip)))
  (.seq (.reg [⟨(some 16), .faddr 1 (.t 2), none, []⟩,
    ⟨(some 17), .load1 (.t 16), none, []⟩,
    ⟨(some 18), .len (.t 17), none, []⟩,
    ⟨(some 19), .makeS 3 1 8 [.int .i64 0] (.t 18) (.t 18), none, []⟩,
    ⟨(some 20), .buildSlice 3 1 0 false [] [], none, []⟩,
    ⟨(some 5), .mov (.t 19), none, []⟩,
    ⟨(some 6), .mov (.t 20), none, []⟩])
  (.seq (.seq (.reg [⟨(some 21), .faddr 1 (.t 2), none, []⟩,
    ⟨(some 22), .load1 (.t 21), none, []⟩,
    ⟨(some 23), .len (.t 22), none, []⟩,
    ⟨(some 24), .bin .sub (.t 23) (.c (.int .i64 1)), none, []⟩,
    ⟨(some 7), .mov (.t 24), none, []⟩])
  (.block 0 (.loop xf146l1)))
  (.seq (.reg [⟨(some 72), .faddr 0 (.t 2), none, []⟩,
    ⟨(some 73), .load1 (.t 72), none, []⟩,
    ⟨(some 74), .movf (.t 5), none, []⟩,
    ⟨(some 75), .call (.c (.fn 143 [] [])) [.t 73, .t 74], none, []⟩,
    ⟨(some 11), .new 139 [.int .i64 0, .nils], none, []⟩,
    ⟨none, .store 2 (.t 11) (.t 75), none, []⟩])
  (.seq (.seq (.reg [⟨(some 76), .faddr 0 (.t 2), none, []⟩,
    ⟨(some 77), .load1 (.t 76), none, []⟩,
    ⟨(some 78), .bin .lss (.t 77) (.c (.int .i64 0)), none, []⟩,
    ⟨(some 79), .mov (.t 78), none, []⟩,
    ⟨(some 80), .mov (.t 6), (some (79, true)), []⟩,
    ⟨(some 81), .len (.t 80), (some (79, true)), []⟩,
    ⟨(some 82), .bin .gtr (.t 81) (.c (.int .i64 0)), (some (79, true)), []⟩,
    ⟨(some 83), .pick (.t 79) (.t 82) (.c (.bool false)), none, []⟩])
  (.cond (.t 83)
    (.dreg [⟨(some 84), .loadn 2 (.t 11), none, []⟩,
      ⟨(some 85), .call (.c (.fn 145 [] [])) [.c (.int .i64 1)], none, []⟩,
      ⟨(some 86), .call (.c (.fn 142 [] [])) [.t 84, .t 85], none, [1, 0]⟩,
      ⟨none, .store 2 (.t 11) (.t 86), none, [1, 0, 2]⟩])
    (.skip)))
  (.seq (.reg [⟨(some 87), .loadn 2 (.t 11), none, []⟩,
    ⟨none, .store 2 (.t 4) (.t 87), none, []⟩])
  (.ret))))))), 88, [.cn 4 2]⟩
def xf117l0 : XCode := .seq (.seq (.reg [⟨(some 14), .mov (.t 5), none, []⟩,
    ⟨(some 15), .bin .geq (.t 14) (.c (.int .i64 0)), none, []⟩])
  (.cond (.t 15)
    (.skip)
    (.exit 0)))
  (.seq (.block 1 (.reg [⟨(some 18), .mov (.t 4), none, []⟩,
     ⟨(some 19), .bin .mul (.t 18) (.c (.int .i64 1000000000)), none, []⟩,
     ⟨(some 20), .faddr 1 (.t 1), none, []⟩,
     ⟨(some 21), .load1 (.t 20), none, []⟩,
     ⟨(some 22), .mov (.t 5), none, []⟩,
     ⟨(some 23), .iaddr 1 (.t 21) (.t 22), none, []⟩,
     ⟨(some 24), .load1 (.t 23), none, []⟩,
     ⟨(some 25), .bin .add (.t 19) (.t 24), none, []⟩,
     ⟨(some 4), .mov (.t 25), none, []⟩]))
  (.reg [⟨(some 16), .mov (.t 5), none, []⟩,
    ⟨(some 17), .bin .sub (.t 16) (.c (.int .i64 1)), none, []⟩,
    ⟨(some 5), .mov (.t 17), none, []⟩]))
def xf117 : XFunc := ⟨.seq (.reg [⟨(some 1), .box 139 (.t 0), none, []⟩,
    ⟨(some 2), .mov (.c (.int .i64 0)), none, []⟩,
    ⟨(some 3), .mov (.c (.bool false)), none, []⟩])
  (.seq (.seq (.reg [⟨(some 6), .faddr 1 (.t 1), none, []⟩,
    ⟨(some 7), .load1 (.t 6), none, []⟩,
    ⟨(some 8), .len (.t 7), none, []⟩,
    ⟨(some 9), .bin .gtr (.t 8) (.c (.int .i64 2)), none, []⟩])
  (.cond (.t 9)
    (.seq (.reg [⟨(some 2), .mov (.c (.int .i64 0)), none, []⟩,
      ⟨(some 3), .mov (.c (.bool false)), none, []⟩])
    (.ret))
    (.skip)))
  (.seq (.reg [⟨(some 4), .mov (.c (.int .i64 0)), none, []⟩])
  (.seq (.seq (.reg [⟨(some 10), .faddr 1 (.t 1), none, []⟩,
    ⟨(some 11), .load1 (.t 10), none, []⟩,
    ⟨(some 12), .len (.t 11), none, []⟩,
    ⟨(some 13), .bin .sub (.t 12) (.c (.int .i64 1)), none, []⟩,
    ⟨(some 5), .mov (.t 13), none, []⟩])
  (.block 0 (.loop xf117l0)))
  (.seq (.reg [⟨(some 26), .faddr 0 (.t 1), none, []⟩,
    ⟨(some 27), .load1 (.t 26), none, []⟩,
    ⟨(some 28), .mov (.t 4), none, []⟩,
    ⟨(some 29), .bin .mul (.t 27) (.t 28), none, []⟩,
    ⟨(some 2), .mov (.t 29), none, []⟩,
    ⟨(some 3), .mov (.c (.bool true)), none, []⟩])
  (.ret))))), 30, [.t 2, .t 3]⟩
def xf154 : XFunc := ⟨.seq (.reg [⟨(some 1), .box 139 (.t 0), none, []⟩,
    ⟨(some 2), .mov (.c (.int .i64 0)), none, []⟩])
  (.seq (.reg [⟨(some 3), .faddr 0 (.t 1), none, []⟩,
    ⟨(some 4), .load1 (.t 3), none, []⟩,
    ⟨(some 2), .mov (.t 4), none, []⟩])
  (.ret)), 5, [.t 2]⟩
def xf161 : XFunc := ⟨.seq (.reg [⟨(some 1), .box 139 (.t 0), none, []⟩,
    ⟨(some 2), .new 139 [.int .i64 0, .nils], none, []⟩])
  (.seq (.seq (.reg [⟨(some 3), .faddr 0 (.t 1), none, []⟩,
    ⟨(some 4), .load1 (.t 3), none, []⟩,
    ⟨(some 5), .bin .lss (.t 4) (.c (.int .i64 0)), none, []⟩])
  (.cond (.t 5)
    (.seq (.reg [⟨(some 6), .loadn 2 (.t 1), none, []⟩,
      ⟨(some 7), .call (.c (.fn 147 [] [])) [.t 6], none, []⟩,
      ⟨none, .store 2 (.t 2) (.t 7), none, []⟩])
    (.ret))
    (.skip)))
  (.seq (.reg [⟨(some 8), .loadn 2 (.t 1), none, []⟩,
    ⟨none, .store 2 (.t 2) (.t 8), none, []⟩])
  (.ret))), 9, [.cn 2 2]⟩
def xf155l0 : XCode := .seq (.seq (.reg [⟨(some 10), .loadn 2 (.t 3), none, []⟩,
    ⟨(some 11), .call (.c (.fn 154 [] [])) [.t 10], none, []⟩,
    ⟨(some 12), .bin .neq (.t 11) (.c (.int .i64 0)), none, []⟩])
  (.cond (.t 12)
    (.skip)
    (.exit 0)))
  (.block 1 (.seq (.dreg [⟨(some 13), .loadn 2 (.t 2), none, []⟩,
     ⟨(some 14), .loadn 2 (.t 2), none, []⟩,
     ⟨(some 15), .loadn 2 (.t 3), none, []⟩,
     ⟨(some 16), .call (.c (.fn 146 [] [])) [.t 14, .t 15], none, [2, 1]⟩,
     ⟨(some 17), .loadn 2 (.t 3), none, []⟩,
     ⟨(some 18), .call (.c (.fn 115 [] [])) [.t 16, .t 17], none, [1, 2, 4, 3]⟩,
     ⟨(some 19), .call (.c (.fn 142 [] [])) [.t 13, .t 18], none, [3, 4, 2, 1, 5, 0]⟩,
     ⟨(some 5), .new 139 [.int .i64 0, .nils], none, []⟩,
     ⟨none, .store 2 (.t 5) (.t 19), none, [5, 4, 3, 2, 1, 0, 6, 7]⟩])
   (.dreg [⟨(some 20), .loadn 2 (.t 3), none, []⟩,
     ⟨(some 21), .loadn 2 (.t 5), none, []⟩,
     ⟨none, .store 2 (.t 2) (.t 20), none, [0]⟩,
     ⟨none, .store 2 (.t 3) (.t 21), none, [0, 2, 1]⟩])))
def xf155 : XFunc := ⟨.seq (.reg [⟨(some 2), .box 139 (.t 0), none, []⟩,
    ⟨(some 3), .box 139 (.t 1), none, []⟩,
    ⟨(some 4), .new 139 [.int .i64 0, .nils], none, []⟩])
  (.seq (.dreg [⟨(some 6), .loadn 2 (.t 2), none, []⟩,
    ⟨(some 7), .call (.c (.fn 161 [] [])) [.t 6], none, [0]⟩,
    ⟨(some 8), .loadn 2 (.t 3), none, []⟩,
    ⟨(some 9), .call (.c (.fn 161 [] [])) [.t 8], none, [0, 1, 2]⟩,
    ⟨none, .store 2 (.t 2) (.t 7), none, [2, 0, 3, 1]⟩,
    ⟨none, .store 2 (.t 3) (.t 9), none, [2, 1, 0, 4, 3]⟩])
  (.seq (.block 0 (.loop xf155l0))
  (.seq (.reg [⟨(some 22), .loadn 2 (.t 2), none, []⟩,
    ⟨none, .store 2 (.t 4) (.t 22), none, []⟩])
  (.ret)))), 23, [.cn 4 2]⟩
def xf144 : XFunc := ⟨.seq (.reg [⟨(some 2), .box 139 (.t 0), none, []⟩,
    ⟨(some 3), .box 139 (.t 1), none, []⟩,
    ⟨(some 4), .new 141 [.int .i64 0, .nils, .int .i64 0, .nils], none, []⟩])
  (.seq (.seq (.reg [⟨(some 6), .loadn 2 (.t 3), none, []⟩,
    ⟨(some 7), .call (.c (.fn 154 [] [])) [.t 6], none, []⟩,
    ⟨(some 8), .bin .lss (.t 7) (.c (.int .i64 0)), none, []⟩])
  (.cond (.t 8)
    (.dreg [⟨(some 9), .loadn 2 (.t 2), none, []⟩,
      ⟨(some 10), .call (.c (.fn 147 [] [])) [.t 9], none, [0]⟩,
      ⟨(some 11), .loadn 2 (.t 3), none, []⟩,
      ⟨(some 12), .call (.c (.fn 147 [] [])) [.t 11], none, [0, 1, 2]⟩,
      ⟨none, .store 2 (.t 2) (.t 10), none, [2, 0, 3, 1]⟩,
      ⟨none, .store 2 (.t 3) (.t 12), none, [2, 1, 0, 4, 3]⟩])
    (.skip)))
  (.seq (.reg [⟨(some 13), .loadn 2 (.t 2), none, []⟩,
    ⟨(some 14), .loadn 2 (.t 3), none, []⟩,
    ⟨(some 15), .call (.c (.fn 155 [] [])) [.t 13, .t 14], none, []⟩,
    ⟨(some 5), .new 139 [.int .i64 0, .nils], none, []⟩,
    ⟨none, .store 2 (.t 5) (.t 15), none, []⟩])
  (.seq (.seq (.dreg [⟨(some 16), .loadn 2 (.t 5), none, []⟩,
    ⟨(some 17), .call (.c (.fn 145 [] [])) [.c (.int .i64 1)], none, []⟩,
    ⟨(some 18), .call (.c (.fn 114 [] [])) [.t 16, .t 17], none, [1, 0]⟩,
    ⟨(some 19), .bin .eql (.t 18) (.c (.int .i64 0)), none, [0, 1, 2]⟩])
  (.cond (.t 19)
    (.seq (.reg [⟨(some 20), .loadn 2 (.t 2), none, []⟩,
      ⟨(some 21), .loadn 2 (.t 3), none, []⟩,
      ⟨(some 22), .build [.int .i64 0, .nils, .int .i64 0, .nils] [(0, 2, .t 20), (2, 2, .t 21)], none, []⟩,
      ⟨none, .store 4 (.t 4) (.t 22), none, []⟩])
    (.ret))
    (.skip)))
  (.seq (.dreg [⟨(some 23), .loadn 2 (.t 2), none, []⟩,
    ⟨(some 24), .loadn 2 (.t 5), none, []⟩,
    ⟨(some 25), .call (.c (.fn 146 [] [])) [.t 23, .t 24], none, [1, 0]⟩,
    ⟨(some 26), .loadn 2 (.t 3), none, []⟩,
    ⟨(some 27), .loadn 2 (.t 5), none, []⟩,
    ⟨(some 28), .call (.c (.fn 146 [] [])) [.t 26, .t 27], none, [0, 1, 2, 4, 3]⟩,
    ⟨(some 29), .build [.int .i64 0, .nils, .int .i64 0, .nils] [(0, 2, .t 25), (2, 2, .t 28)], none, [3, 4, 0, 1, 5, 2]⟩,
    ⟨none, .store 4 (.t 4) (.t 29), none, [4, 3, 2, 1, 0, 5, 6]⟩])
  (.ret))))), 30, [.cn 4 4]⟩
def xf116 : XFunc := ⟨.seq (.reg [⟨(some 4), .new 141 [.int .i64 0, .nils, .int .i64 0, .nils], none, []⟩])
  (.seq (.reg [⟨(some 5), .mov (.t 0), none, []⟩,
    ⟨(some 6), .call (.c (.fn 145 [] [])) [.t 5], none, []⟩,
    ⟨(some 7), .mov (.t 1), none, []⟩,
    ⟨(some 8), .call (.c (.fn 145 [] [])) [.t 7], none, []⟩,
    ⟨(some 9), .call (.c (.fn 144 [] [])) [.t 6, .t 8], none, []⟩,
    ⟨none, .store 4 (.t 4) (.t 9), none, []⟩])
  (.ret)), 10, [.cn 4 4]⟩
def xf121 : XFunc := ⟨.seq (.reg [⟨(some 2), .new 141 [.int .i64 0, .nils, .int .i64 0, .nils], none, []⟩])
  (.seq (.reg [⟨(some 3), .mov (.t 0), none, []⟩,
    ⟨(some 4), .call (.c (.fn 145 [] [])) [.t 3], none, []⟩,
    ⟨(some 5), .call (.c (.fn 145 [] [])) [.c (.int .i64 1)], none, []⟩,
    ⟨(some 6), .build [.int .i64 0, .nils, .int .i64 0, .nils] [(0, 2, .t 4), (2, 2, .t 5)], none, []⟩,
    ⟨none, .store 4 (.t 2) (.t 6), none, []⟩])
  (.ret)), 7, [.cn 2 4]⟩
def xf73 : XFunc := ⟨.seq (.reg [⟨(some 2), .box 141 (.t 0), none, []⟩,
    ⟨(some 3), .box 141 (.t 1), none, []⟩,
    ⟨(some 4), .mov (.c (.int .i64 0)), none, []⟩])
  (.seq (.dreg [⟨(some 5), .faddr 0 (.t 2), none, []⟩,
    ⟨(some 6), .loadn 2 (.t 5), none, [0]⟩,
    ⟨(some 7), .faddr 2 (.t 3), none, []⟩,
    ⟨(some 8), .loadn 2 (.t 7), none, [2]⟩,
    ⟨(some 9), .call (.c (.fn 115 [] [])) [.t 6, .t 8], none, [2, 0, 3, 1]⟩,
    ⟨(some 10), .faddr 0 (.t 3), none, []⟩,
    ⟨(some 11), .loadn 2 (.t 10), none, [5]⟩,
    ⟨(some 12), .faddr 2 (.t 2), none, []⟩,
    ⟨(some 13), .loadn 2 (.t 12), none, [7]⟩,
    ⟨(some 14), .call (.c (.fn 115 [] [])) [.t 11, .t 13], none, [1, 3, 0, 2, 7, 5, 4, 8, 6]⟩,
    ⟨(some 15), .call (.c (.fn 114 [] [])) [.t 9, .t 14], none, [6, 8, 5, 7, 1, 3, 0, 2, 9, 4]⟩,
    ⟨(some 4), .mov (.t 15), none, [9, 8, 7, 6, 5, 4, 3, 2, 1, 0, 10]⟩])
  (.ret)), 16, [.t 4]⟩
def xf118 : XFunc := ⟨.seq (.reg [⟨(some 1), .box 141 (.t 0), none, []⟩,
    ⟨(some 2), .new 139 [.int .i64 0, .nils], none, []⟩])
  (.seq (.reg [⟨(some 3), .faddr 0 (.t 1), none, []⟩,
    ⟨(some 4), .loadn 2 (.t 3), none, []⟩,
    ⟨(some 5), .faddr 2 (.t 1), none, []⟩,
    ⟨(some 6), .loadn 2 (.t 5), none, []⟩,
    ⟨(some 7), .call (.c (.fn 146 [] [])) [.t 4, .t 6], none, []⟩,
    ⟨none, .store 2 (.t 2) (.t 7), none, []⟩])
  (.ret)), 8, [.cn 2 2]⟩
def xf119 : XFunc := ⟨.seq (.reg [⟨(some 1), .box 141 (.t 0), none, []⟩,
    ⟨(some 2), .new 139 [.int .i64 0, .nils], none, []⟩])
  (.seq (.dreg [⟨(some 3), .faddr 0 (.t 1), none, []⟩,
    ⟨(some 4), .loadn 2 (.t 3), none, [0]⟩,
    ⟨(some 5), .call (.c (.fn 147 [] [])) [.t 4], none, [0, 1]⟩,
    ⟨(some 6), .faddr 2 (.t 1), none, []⟩,
    ⟨(some 7), .loadn 2 (.t 6), none, [3]⟩,
    ⟨(some 8), .call (.c (.fn 146 [] [])) [.t 5, .t 7], none, [3, 1, 0, 4, 2]⟩,
    ⟨(some 9), .call (.c (.fn 147 [] [])) [.t 8], none, [2, 4, 0, 1, 3, 5]⟩,
    ⟨none, .store 2 (.t 2) (.t 9), none, [5, 4, 3, 2, 1, 0, 6]⟩])
  (.ret)), 10, [.cn 2 2]⟩
def xf120 : XFunc := ⟨.seq (.reg [⟨(some 2), .box 141 (.t 0), none, []⟩,
    ⟨(some 3), .box 141 (.t 1), none, []⟩,
    ⟨(some 4), .new 141 [.int .i64 0, .nils, .int .i64 0, .nils], none, []⟩])
  (.seq (.dreg [⟨(some 5), .faddr 0 (.t 2), none, []⟩,
    ⟨(some 6), .loadn 2 (.t 5), none, [0]⟩,
    ⟨(some 7), .faddr 2 (.t 3), none, []⟩,
    ⟨(some 8), .loadn 2 (.t 7), none, [2]⟩,
    ⟨(some 9), .call (.c (.fn 115 [] [])) [.t 6, .t 8], none, [2, 0, 3, 1]⟩,
    ⟨(some 10), .faddr 0 (.t 3), none, []⟩,
    ⟨(some 11), .loadn 2 (.t 10), none, [5]⟩,
    ⟨(some 12), .faddr 2 (.t 2), none, []⟩,
    ⟨(some 13), .loadn 2 (.t 12), none, [7]⟩,
    ⟨(some 14), .call (.c (.fn 115 [] [])) [.t 11, .t 13], none, [1, 3, 0, 2, 7, 5, 4, 8, 6]⟩,
    ⟨(some 15), .call (.c (.fn 148 [] [])) [.t 9, .t 14], none, [6, 8, 5, 7, 1, 3, 0, 2, 9, 4]⟩,
    ⟨(some 16), .faddr 2 (.t 2), none, []⟩,
    ⟨(some 17), .loadn 2 (.t 16), none, [11]⟩,
    ⟨(some 18), .faddr 2 (.t 3), none, []⟩,
    ⟨(some 19), .loadn 2 (.t 18), none, [13]⟩,
    ⟨(some 20), .call (.c (.fn 115 [] [])) [.t 17, .t 19], none, [4, 9, 2, 0, 3, 1, 7, 5, 8, 6, 13, 11, 10, 14, 12]⟩,
    ⟨(some 21), .call (.c (.fn 144 [] [])) [.t 15, .t 20], none, [12, 14, 11, 13, 4, 9, 2, 0, 3, 1, 7, 5, 8, 6, 15, 10]⟩,
    ⟨none, .store 4 (.t 4) (.t 21), none, [15, 14, 13, 12, 11, 10, 9, 8, 7, 6, 5, 4, 3, 2, 1, 0, 16]⟩])
  (.ret)), 22, [.cn 4 4]⟩
def xf122 : XFunc := ⟨.seq (.reg [⟨(some 2), .box 141 (.t 0), none, []⟩,
    ⟨(some 3), .box 141 (.t 1), none, []⟩,
    ⟨(some 4), .new 141 [.int .i64 0, .nils, .int .i64 0, .nils], none, []⟩])
  (.seq (.dreg [⟨(some 5), .faddr 0 (.t 2), none, []⟩,
    ⟨(some 6), .loadn 2 (.t 5), none, [0]⟩,
    ⟨(some 7), .faddr 0 (.t 3), none, []⟩,
    ⟨(some 8), .loadn 2 (.t 7), none, [2]⟩,
    ⟨(some 9), .call (.c (.fn 115 [] [])) [.t 6, .t 8], none, [2, 0, 3, 1]⟩,
    ⟨(some 10), .faddr 2 (.t 2), none, []⟩,
    ⟨(some 11), .loadn 2 (.t 10), none, [5]⟩,
    ⟨(some 12), .faddr 2 (.t 3), none, []⟩,
    ⟨(some 13), .loadn 2 (.t 12), none, [7]⟩,
    ⟨(some 14), .call (.c (.fn 115 [] [])) [.t 11, .t 13], none, [1, 3, 0, 2, 7, 5, 4, 8, 6]⟩,
    ⟨(some 15), .call (.c (.fn 144 [] [])) [.t 9, .t 14], none, [6, 8, 5, 7, 1, 3, 0, 2, 9, 4]⟩,
    ⟨none, .store 4 (.t 4) (.t 15), none, [9, 8, 7, 6, 5, 4, 3, 2, 1, 0, 10]⟩])
  (.ret)), 16, [.cn 4 4]⟩
def xf123 : XFunc := ⟨.seq (.reg [⟨(some 2), .box 141 (.t 0), none, []⟩,
    ⟨(some 3), .box 141 (.t 1), none, []⟩,
    ⟨(some 4), .new 141 [.int .i64 0, .nils, .int .i64 0, .nils], none, []⟩])
  (.seq (.dreg [⟨(some 5), .faddr 0 (.t 2), none, []⟩,
    ⟨(some 6), .loadn 2 (.t 5), none, [0]⟩,
    ⟨(some 7), .faddr 2 (.t 3), none, []⟩,
    ⟨(some 8), .loadn 2 (.t 7), none, [2]⟩,
    ⟨(some 9), .call (.c (.fn 115 [] [])) [.t 6, .t 8], none, [2, 0, 3, 1]⟩,
    ⟨(some 10), .faddr 2 (.t 2), none, []⟩,
    ⟨(some 11), .loadn 2 (.t 10), none, [5]⟩,
    ⟨(some 12), .faddr 0 (.t 3), none, []⟩,
    ⟨(some 13), .loadn 2 (.t 12), none, [7]⟩,
    ⟨(some 14), .call (.c (.fn 115 [] [])) [.t 11, .t 13], none, [1, 3, 0, 2, 7, 5, 4, 8, 6]⟩,
    ⟨(some 15), .call (.c (.fn 144 [] [])) [.t 9, .t 14], none, [6, 8, 5, 7, 1, 3, 0, 2, 9, 4]⟩,
    ⟨none, .store 4 (.t 4) (.t 15), none, [9, 8, 7, 6, 5, 4, 3, 2, 1, 0, 10]⟩])
  (.ret)), 16, [.cn 4 4]⟩
structure WideCode (X : FuncId → Option XFunc) : Prop where
  h153 : X 153 = some xf153
  h143 : X 143 = some xf143
  h145 : X 145 = some xf145
  h149 : X 149 = some xf149
  h156 : X 156 = some xf156
  h162 : X 162 = some xf162
  h158 : X 158 = some xf158
  h157 : X 157 = some xf157
  h147 : X 147 = some xf147
  h148 : X 148 = some xf148
  h142 : X 142 = some xf142
  h114 : X 114 = some xf114
  h115 : X 115 = some xf115
  h146 : X 146 = some xf146
  h117 : X 117 = some xf117
  h154 : X 154 = some xf154
  h161 : X 161 = some xf161
  h155 : X 155 = some xf155
  h144 : X 144 = some xf144
  h116 : X 116 = some xf116
  h121 : X 121 = some xf121
  h73 : X 73 = some xf73
  h118 : X 118 = some xf118
  h119 : X 119 = some xf119
  h120 : X 120 = some xf120
  h122 : X 122 = some xf122
  h123 : X 123 = some xf123
end Go.Proofs.Ytbpflcilndinfaa.Eng

/-
  CODE of Tab.
-/
namespace Go.Proofs.Ytbpflcilndinfaa.Eng
set_option linter.unusedSimpArgs false
set_option linter.unusedVariables false
def xf12 : XFunc := ⟨.seq (.reg [⟨(some 1), .box 24 (.t 0), none, []⟩,
    ⟨(some 2), .mov (.c (.bool false)), none, []⟩])
  (.seq (.reg [⟨(some 3), .faddr 0 (.t 1), none, []⟩,
    ⟨(some 4), .load1 (.t 3), none, []⟩,
    ⟨(some 5), .len (.t 4), none, []⟩,
    ⟨(some 6), .bin .leq (.t 5) (.c (.int .i64 12)), none, []⟩,
    ⟨(some 2), .mov (.t 6), none, []⟩])
  (.ret)), 7, [.t 2]⟩
def xf13 : XFunc := ⟨.seq (.reg [⟨(some 1), .box 24 (.t 0), none, []⟩,
    ⟨(some 2), .mov (.c (.int .i64 0)), none, []⟩,
    ⟨(some 3), .mov (.c (.int .i64 0)), none, []⟩])
  (.seq (.dreg [⟨(some 5), .faddr 0 (.t 1), none, []⟩,
    ⟨(some 6), .load1 (.t 5), none, [0]⟩,
    ⟨(some 7), .len (.t 6), none, [0, 1]⟩,
    ⟨(some 8), .bin .lss (.t 7) (.c (.int .i64 2)), none, [1, 0, 2]⟩,
    ⟨(some 9), .call (.c (.fn 59 [] [])) [.t 8, .c (.int .i64 10)], none, [2, 0, 1, 3]⟩,
    ⟨(some 10), .faddr 0 (.t 1), none, []⟩,
    ⟨(some 11), .load1 (.t 10), none, [5]⟩,
    ⟨(some 12), .len (.t 11), none, [5, 6]⟩,
    ⟨(some 13), .bin .gtr (.t 12) (.c (.int .i64 10)), none, [6, 5, 7]⟩,
    ⟨(some 14), .call (.c (.fn 59 [] [])) [.t 13, .c (.int .i64 8)], none, [3, 1, 0, 2, 7, 5, 6, 4, 8]⟩,
    ⟨(some 15), .buildSlice 117 1 2 false [.nilfn, .nilfn] [(0, 1, .t 9), (1, 1, .t 14)], none, [8, 6, 5, 7, 3, 1, 0, 2, 9, 4]⟩,
    ⟨(some 16), .call (.c (.fn 58 [] [])) [.t 15], none, [4, 2, 0, 1, 3, 7, 5, 6, 8, 9, 10]⟩,
    ⟨(some 4), .mov (.t 16), none, [10, 9, 8, 7, 6, 5, 4, 3, 2, 1, 0, 11]⟩])
  (.seq (.seq (.reg [⟨(some 17), .mov (.t 4), none, []⟩,
    ⟨(some 18), .bin .neq (.t 17) (.c (.int .i64 0)), none, []⟩])
  (.cond (.t 18)
    (.seq (.reg [⟨(some 19), .mov (.t 4), none, []⟩,
      ⟨(some 2), .mov (.c (.int .i64 0)), none, []⟩,
      ⟨(some 3), .mov (.t 19), none, []⟩])
    (.ret))
    (.skip)))
  (.seq (.reg [⟨(some 20), .faddr 0 (.t 1), none, []⟩,
    ⟨(some 21), .load1 (.t 20), none, []⟩,
    ⟨(some 22), .len (.t 21), none, []⟩,
    ⟨(some 23), .fn true 61 [] [.t 1], none, []⟩,
    ⟨(some 24), .call (.c (.fn 60 [] [])) [.t 22, .t 23], none, []⟩,
    ⟨(some 25), .extract (.t 24) 0, none, []⟩,
    ⟨(some 26), .extract (.t 24) 1, none, []⟩,
    ⟨(some 2), .mov (.t 25), none, []⟩,
    ⟨(some 3), .mov (.t 26), none, []⟩])
  (.ret)))), 27, [.t 2, .t 3]⟩
def xf14 : XFunc := ⟨.seq (.reg [⟨(some 1), .box 24 (.t 0), none, []⟩,
    ⟨(some 2), .new 24 [.nils], none, []⟩])
  (.seq (.reg [⟨(some 3), .buildSlice 48 2 0 true [] [], none, []⟩,
    ⟨(some 4), .faddr 0 (.t 1), none, []⟩,
    ⟨(some 5), .load1 (.t 4), none, []⟩,
    ⟨(some 6), .append 48 2 16 (.t 3) (.t 5), none, []⟩,
    ⟨(some 7), .build [.nils] [(0, 1, .t 6)], none, []⟩,
    ⟨none, .store 1 (.t 2) (.t 7), none, []⟩])
  (.ret)), 8, [.cn 2 1]⟩
def xf15 : XFunc := ⟨.seq (.reg [⟨(some 2), .box 24 (.t 0), none, []⟩,
    ⟨(some 4), .new 32 [.int .i64 0, .int .i64 0], none, []⟩,
    ⟨(some 5), .mov (.c (.int .i64 0)), none, []⟩])
  (.seq (.reg [⟨(some 9), .loadn 1 (.t 2), none, []⟩,
    ⟨(some 10), .call (.c (.fn 63 [] [])) [.t 9], none, []⟩,
    ⟨(some 8), .mov (.t 10), none, []⟩,
    ⟨(some 11), .extract (.t 8) 0, none, []⟩,
    ⟨(some 12), .extract (.t 8) 1, none, []⟩,
    ⟨(some 6), .new 123 [.nils], none, []⟩,
    ⟨none, .store 1 (.t 6) (.t 11), none, []⟩,
    ⟨(some 7), .mov (.t 12), none, []⟩])
  (.seq (.seq (.reg [⟨(some 13), .mov (.t 7), none, []⟩,
    ⟨(some 14), .bin .neq (.t 13) (.c (.int .i64 0)), none, []⟩])
  (.cond (.t 14)
    (.seq (.reg [⟨(some 15), .build [.int .i64 0, .int .i64 0] [], none, []⟩,
      ⟨(some 16), .mov (.t 7), none, []⟩,
      ⟨none, .store 2 (.t 4) (.t 15), none, []⟩,
      ⟨(some 5), .mov (.t 16), none, []⟩])
    (.ret))
    (.skip)))
  (.seq (.seq (.reg [⟨(some 17), .loadn 1 (.t 6), none, []⟩,
    ⟨(some 18), .mov (.t 1), none, []⟩,
    ⟨(some 19), .call (.c (.fn 64 [] [])) [.t 17, .t 18], none, []⟩,
    ⟨(some 20), .un .not (.t 19), none, []⟩])
  (.cond (.t 20)
    (.seq (.reg [⟨(some 21), .build [.int .i64 0, .int .i64 0] [], none, []⟩,
      ⟨none, .store 2 (.t 4) (.t 21), none, []⟩,
      ⟨(some 5), .mov (.c (.int .i64 2)), none, []⟩])
    (.ret))
    (.skip)))
  (.seq (.reg [⟨(some 22), .loadn 1 (.t 6), none, []⟩,
    ⟨(some 23), .mov (.t 1), none, []⟩,
    ⟨(some 24), .call (.c (.fn 65 [] [])) [.t 22, .t 23], none, []⟩,
    ⟨(some 25), .call (.c (.fn 66 [] [])) [.t 24], none, []⟩,
    ⟨none, .store 2 (.t 4) (.t 25), none, []⟩,
    ⟨(some 5), .mov (.c (.int .i64 0)), none, []⟩])
  (.ret))))), 26, [.cn 4 2, .t 5]⟩
def xf16 : XFunc := ⟨.seq (.reg [⟨(some 2), .box 24 (.t 0), none, []⟩,
    ⟨(some 4), .new 32 [.int .i64 0, .int .i64 0], none, []⟩,
    ⟨(some 5), .mov (.c (.int .i64 0)), none, []⟩])
  (.seq (.reg [⟨(some 9), .loadn 1 (.t 2), none, []⟩,
    ⟨(some 10), .mov (.t 1), none, []⟩,
    ⟨(some 11), .call (.c (.fn 67 [] [])) [.t 9, .t 10], none, []⟩,
    ⟨(some 8), .mov (.t 11), none, []⟩,
    ⟨(some 12), .extract (.t 8) 0, none, []⟩,
    ⟨(some 13), .extract (.t 8) 1, none, []⟩,
    ⟨(some 6), .new 123 [.nils], none, []⟩,
    ⟨none, .store 1 (.t 6) (.t 12), none, []⟩,
    ⟨(some 7), .mov (.t 13), none, []⟩])
  (.seq (.seq (.reg [⟨(some 14), .mov (.t 7), none, []⟩,
    ⟨(some 15), .bin .neq (.t 14) (.c (.int .i64 0)), none, []⟩])
  (.cond (.t 15)
    (.seq (.reg [⟨(some 16), .build [.int .i64 0, .int .i64 0] [], none, []⟩,
      ⟨(some 17), .mov (.t 7), none, []⟩,
      ⟨none, .store 2 (.t 4) (.t 16), none, []⟩,
      ⟨(some 5), .mov (.t 17), none, []⟩])
    (.ret))
    (.skip)))
  (.seq (.reg [⟨(some 18), .loadn 1 (.t 6), none, []⟩,
    ⟨(some 19), .mov (.t 1), none, []⟩,
    ⟨(some 20), .call (.c (.fn 68 [] [])) [.t 18, .t 19], none, []⟩,
    ⟨(some 21), .call (.c (.fn 66 [] [])) [.t 20], none, []⟩,
    ⟨none, .store 2 (.t 4) (.t 21), none, []⟩,
    ⟨(some 5), .mov (.c (.int .i64 0)), none, []⟩])
  (.ret)))), 22, [.cn 4 2, .t 5]⟩
def xf17 : XFunc := ⟨.seq (.reg [⟨(some 2), .box 24 (.t 0), none, []⟩,
    ⟨(some 4), .new 36 [.int .i64 0, .int .i64 0], none, []⟩,
    ⟨(some 5), .mov (.c (.int .i64 0)), none, []⟩])
  (.seq (.reg [⟨(some 10), .loadn 1 (.t 2), none, []⟩,
    ⟨(some 11), .mov (.t 1), none, []⟩,
    ⟨(some 12), .call (.c (.fn 67 [] [])) [.t 10, .t 11], none, []⟩,
    ⟨(some 9), .mov (.t 12), none, []⟩,
    ⟨(some 13), .extract (.t 9) 0, none, []⟩,
    ⟨(some 14), .extract (.t 9) 1, none, []⟩,
    ⟨(some 6), .new 123 [.nils], none, []⟩,
    ⟨none, .store 1 (.t 6) (.t 13), none, []⟩,
    ⟨(some 7), .mov (.t 14), none, []⟩])
  (.seq (.seq (.reg [⟨(some 15), .mov (.t 7), none, []⟩,
    ⟨(some 16), .bin .neq (.t 15) (.c (.int .i64 0)), none, []⟩])
  (.cond (.t 16)
    (.seq (.reg [⟨(some 17), .build [.int .i64 0, .int .i64 0] [], none, []⟩,
      ⟨(some 18), .mov (.t 7), none, []⟩,
      ⟨none, .store 2 (.t 4) (.t 17), none, []⟩,
      ⟨(some 5), .mov (.t 18), none, []⟩])
    (.ret))
    (.skip)))
  (.seq (.reg [⟨(some 19), .loadn 1 (.t 6), none, []⟩,
    ⟨(some 20), .mov (.t 1), none, []⟩,
    ⟨(some 21), .call (.c (.fn 69 [] [])) [.t 19, .t 20], none, []⟩,
    ⟨(some 8), .new 133 [.int .i64 0, .int .i64 0, .int .i64 0, .int .i64 0], none, []⟩,
    ⟨none, .store 4 (.t 8) (.t 21), none, []⟩])
  (.seq (.dreg [⟨(some 22), .loadn 4 (.t 8), none, []⟩,
    ⟨(some 23), .call (.c (.fn 71 [] [])) [.t 22], none, [0]⟩,
    ⟨(some 24), .loadn 4 (.t 8), none, []⟩,
    ⟨(some 25), .call (.c (.fn 72 [] [])) [.t 24], none, [0, 1, 2]⟩,
    ⟨(some 26), .call (.c (.fn 70 [] [])) [.t 23, .t 25], none, [2, 0, 3, 1]⟩,
    ⟨none, .store 2 (.t 4) (.t 26), none, [3, 2, 1, 0, 4]⟩,
    ⟨(some 5), .mov (.c (.int .i64 0)), none, [4, 3, 2, 1, 0, 5]⟩])
  (.ret))))), 27, [.cn 4 2, .t 5]⟩
def xf18l0 : XCode := .seq (.seq (.reg [⟨(some 14), .mov (.t 4), none, []⟩,
    ⟨(some 15), .faddr 0 (.t 1), none, []⟩,
    ⟨(some 16), .load1 (.t 15), none, []⟩,
    ⟨(some 17), .len (.t 16), none, []⟩,
    ⟨(some 18), .bin .lss (.t 14) (.t 17), none, []⟩])
  (.cond (.t 18)
    (.skip)
    (.exit 0)))
  (.seq (.block 1 (.seq (.reg [⟨(some 21), .faddr 0 (.t 1), none, []⟩,
     ⟨(some 22), .load1 (.t 21), none, []⟩,
     ⟨(some 23), .mov (.t 4), none, []⟩,
     ⟨(some 24), .iaddr 2 (.t 22) (.t 23), none, []⟩,
     ⟨(some 25), .loadn 2 (.t 24), none, []⟩,
     ⟨(some 5), .new 48 [.int .i64 0, .int .i64 0], none, []⟩,
     ⟨none, .store 2 (.t 5) (.t 25), none, []⟩])
   (.seq (.seq (.reg [⟨(some 26), .faddr 0 (.t 5), none, []⟩,
     ⟨(some 27), .load1 (.t 26), none, []⟩,
     ⟨(some 28), .call (.c (.fn 25 [] [])) [.t 27, .c (.int .i64 0), .c (.int .i64 1000000)], none, []⟩,
     ⟨(some 29), .un .not (.t 28), none, []⟩,
     ⟨(some 30), .mov (.t 29), none, []⟩,
     ⟨(some 31), .faddr 1 (.t 5), (some (30, false)), []⟩,
     ⟨(some 32), .load1 (.t 31), (some (30, false)), []⟩,
     ⟨(some 33), .call (.c (.fn 25 [] [])) [.t 32, .c (.int .i64 0), .c (.int .i64 1000000000)], (some (30, false)), []⟩,
     ⟨(some 34), .un .not (.t 33), (some (30, false)), []⟩,
     ⟨(some 35), .pick (.t 30) (.c (.bool true)) (.t 34), none, []⟩])
   (.cond (.t 35)
     (.seq (.reg [⟨(some 36), .mov (.t 4), none, []⟩,
       ⟨(some 2), .mov (.t 36), none, []⟩,
       ⟨(some 3), .mov (.c (.int .i64 2)), none, []⟩])
     (.ret))
     (.skip)))
   (.seq (.seq (.reg [⟨(some 37), .mov (.t 4), none, []⟩,
     ⟨(some 38), .bin .eql (.t 37) (.c (.int .i64 0)), none, []⟩])
   (.cond (.t 38)
     (.exit 1)
     (.skip)))
   (.seq (.seq (.dreg [⟨(some 39), .faddr 0 (.t 5), none, []⟩,
     ⟨(some 40), .load1 (.t 39), none, [0]⟩,
     ⟨(some 41), .faddr 0 (.t 1), none, []⟩,
     ⟨(some 42), .load1 (.t 41), none, [2]⟩,
     ⟨(some 43), .mov (.t 4), none, []⟩,
     ⟨(some 44), .bin .sub (.t 43) (.c (.int .i64 1)), none, [4]⟩,
     ⟨(some 45), .iaddr 2 (.t 42) (.t 44), none, [4, 2, 5, 3]⟩,
     ⟨(some 46), .faddr 0 (.t 45), none, [3, 5, 2, 4, 6]⟩,
     ⟨(some 47), .load1 (.t 46), none, [6, 4, 2, 5, 3, 7]⟩,
     ⟨(some 48), .bin .leq (.t 40) (.t 47), none, [7, 3, 5, 2, 4, 6, 0, 8, 1]⟩,
     ⟨(some 49), .mov (.t 48), none, [1, 8, 0, 6, 4, 2, 5, 3, 7, 9]⟩,
     ⟨(some 50), .faddr 1 (.t 5), (some (49, false)), [9, 7, 3, 5, 2, 4, 6, 0, 8, 1, 10]⟩,
     ⟨(some 51), .load1 (.t 50), (some (49, false)), [1, 8, 0, 6, 4, 2, 5, 3, 7, 9, 10, 11]⟩,
     ⟨(some 52), .faddr 0 (.t 1), (some (49, false)), [9, 7, 3, 5, 2, 4, 6, 0, 8, 1, 10]⟩,
     ⟨(some 53), .load1 (.t 52), (some (49, false)), [1, 8, 0, 6, 4, 2, 5, 3, 7, 9, 10, 13]⟩,
     ⟨(some 54), .mov (.t 4), (some (49, false)), [9, 7, 3, 5, 2, 4, 6, 0, 8, 1, 10]⟩,
     ⟨(some 55), .bin .sub (.t 54) (.c (.int .i64 1)), (some (49, false)), [1, 8, 0, 6, 4, 2, 5, 3, 7, 9, 10, 15]⟩,
     ⟨(some 56), .iaddr 2 (.t 53) (.t 55), (some (49, false)), [15, 13, 9, 7, 3, 5, 2, 4, 6, 0, 8, 1, 10, 16, 14]⟩,
     ⟨(some 57), .faddr 1 (.t 56), (some (49, false)), [14, 16, 1, 8, 0, 6, 4, 2, 5, 3, 7, 9, 13, 15, 10, 17]⟩,
     ⟨(some 58), .load1 (.t 57), (some (49, false)), [17, 15, 13, 9, 7, 3, 5, 2, 4, 6, 0, 8, 1, 16, 14, 10, 18]⟩,
     ⟨(some 59), .bin .leq (.t 51) (.t 58), (some (49, false)), [18, 14, 16, 13, 15, 17, 11, 9, 7, 3, 5, 2, 4, 6, 0, 8, 1, 10, 19, 12]⟩,
     ⟨(some 60), .pick (.t 49) (.c (.bool true)) (.t 59), none, [12, 19, 11, 17, 15, 13, 16, 14, 18, 9, 7, 3, 5, 2, 4, 6, 0, 8, 1, 20, 10]⟩])
   (.cond (.t 60)
     (.seq (.reg [⟨(some 61), .mov (.t 4), none, []⟩,
       ⟨(some 2), .mov (.t 61), none, []⟩,
       ⟨(some 3), .mov (.c (.int .i64 9)), none, []⟩])
     (.ret))
     (.skip)))
   (.seq (.dreg [⟨(some 62), .mov (.t 4), none, []⟩,
     ⟨(some 63), .bin .gtr (.t 62) (.c (.int .i64 1)), none, [0]⟩,
     ⟨(some 64), .mov (.t 63), none, [0, 1]⟩,
     ⟨(some 65), .loadn 1 (.t 1), (some (64, true)), [1, 0, 2]⟩,
     ⟨(some 66), .mov (.t 4), (some (64, true)), [1, 0, 2]⟩,
     ⟨(some 67), .call (.c (.fn 74 [] [])) [.t 65, .t 66], (some (64, true)), [0, 1, 2, 4, 3]⟩,
     ⟨(some 68), .loadn 1 (.t 1), (some (64, true)), [1, 0, 2]⟩,
     ⟨(some 69), .mov (.t 4), (some (64, true)), [1, 0, 2]⟩,
     ⟨(some 70), .bin .sub (.t 69) (.c (.int .i64 1)), (some (64, true)), [0, 1, 2, 7]⟩,
     ⟨(some 71), .call (.c (.fn 74 [] [])) [.t 68, .t 70], (some (64, true)), [3, 4, 7, 0, 1, 2, 5, 8, 6]⟩,
     ⟨(some 72), .call (.c (.fn 73 [] [])) [.t 67, .t 71], (some (64, true)), [6, 8, 7, 3, 4, 1, 0, 2, 9, 5]⟩,
     ⟨(some 73), .bin .lss (.t 72) (.c (.int .i64 0)), (some (64, true)), [5, 9, 0, 1, 4, 3, 7, 8, 6, 2, 10]⟩,
     ⟨(some 74), .pick (.t 64) (.t 73) (.c (.bool false)), none, [10, 6, 8, 7, 3, 4, 9, 5, 1, 0, 11, 2]⟩])
   (.cond (.t 74)
     (.seq (.reg [⟨(some 75), .mov (.t 4), none, []⟩,
       ⟨(some 2), .mov (.t 75), none, []⟩,
       ⟨(some 3), .mov (.c (.int .i64 22)), none, []⟩])
     (.ret))
     (.skip))))))))
  (.reg [⟨(some 19), .mov (.t 4), none, []⟩,
    ⟨(some 20), .bin .add (.t 19) (.c (.int .i64 1)), none, []⟩,
    ⟨(some 4), .mov (.t 20), none, []⟩]))
def xf18 : XFunc := ⟨.seq (.reg [⟨(some 1), .box 24 (.t 0), none, []⟩,
    ⟨(some 2), .mov (.c (.int .i64 0)), none, []⟩,
    ⟨(some 3), .mov (.c (.int .i64 0)), none, []⟩])
  (.seq (.seq (.reg [⟨(some 6), .faddr 0 (.t 1), none, []⟩,
    ⟨(some 7), .load1 (.t 6), none, []⟩,
    ⟨(some 8), .len (.t 7), none, []⟩,
    ⟨(some 9), .bin .lss (.t 8) (.c (.int .i64 2)), none, []⟩])
  (.cond (.t 9)
    (.seq (.reg [⟨(some 2), .mov (.c (.int .i64 0)), none, []⟩,
      ⟨(some 3), .mov (.c (.int .i64 10)), none, []⟩])
    (.ret))
    (.skip)))
  (.seq (.seq (.reg [⟨(some 10), .faddr 0 (.t 1), none, []⟩,
    ⟨(some 11), .load1 (.t 10), none, []⟩,
    ⟨(some 12), .len (.t 11), none, []⟩,
    ⟨(some 13), .bin .gtr (.t 12) (.c (.int .i64 10)), none, []⟩])
  (.cond (.t 13)
    (.seq (.reg [⟨(some 2), .mov (.c (.int .i64 0)), none, []⟩,
      ⟨(some 3), .mov (.c (.int .i64 8)), none, []⟩])
    (.ret))
    (.skip)))
  (.seq (.seq (.reg [⟨(some 4), .mov (.c (.int .i64 0)), none, []⟩])
  (.block 0 (.loop xf18l0)))
  (.seq (.reg [⟨(some 2), .mov (.c (.int .i64 0)), none, []⟩,
    ⟨(some 3), .mov (.c (.int .i64 0)), none, []⟩])
  (.ret))))), 76, [.t 2, .t 3]⟩
def xf19 : XFunc := ⟨.seq (.reg [⟨(some 2), .box 24 (.t 0), none, []⟩,
    ⟨(some 4), .mov (.c (.bool false)), none, []⟩])
  (.seq (.dreg [⟨(some 5), .mov (.t 1), none, []⟩,
    ⟨(some 6), .loadn 1 (.t 2), none, []⟩,
    ⟨(some 7), .call (.c (.fn 75 [] [])) [.t 6], none, [1]⟩,
    ⟨(some 8), .field 0 1 false (.t 7), none, [1, 2]⟩,
    ⟨(some 9), .loadn 1 (.t 2), none, []⟩,
    ⟨(some 10), .call (.c (.fn 26 [] [])) [.t 9], none, [1, 2, 4]⟩,
    ⟨(some 11), .field 0 1 false (.t 10), none, [4, 2, 1, 5]⟩,
    ⟨(some 12), .call (.c (.fn 25 [] [])) [.t 5, .t 8, .t 11], none, [4, 2, 1, 5, 6, 3, 0]⟩,
    ⟨(some 4), .mov (.t 12), none, [6, 5, 4, 3, 2, 1, 0, 7]⟩])
  (.ret)), 13, [.t 4]⟩
def xf20 : XFunc := ⟨.seq (.reg [⟨(some 2), .box 24 (.t 0), none, []⟩,
    ⟨(some 4), .new 32 [.int .i64 0, .int .i64 0], none, []⟩])
  (.seq (.reg [⟨(some 5), .loadn 1 (.t 2), none, []⟩,
    ⟨(some 6), .mov (.t 1), none, []⟩,
    ⟨(some 7), .call (.c (.fn 77 [] [])) [.t 5, .t 6], none, []⟩,
    ⟨(some 8), .call (.c (.fn 76 [] [])) [.t 7], none, []⟩,
    ⟨none, .store 2 (.t 4) (.t 8), none, []⟩])
  (.ret)), 9, [.cn 4 2]⟩
def xf21 : XFunc := ⟨.seq (.reg [⟨(some 2), .box 24 (.t 0), none, []⟩,
    ⟨(some 4), .mov (.c (.bool false)), none, []⟩])
  (.seq (.dreg [⟨(some 5), .mov (.t 1), none, []⟩,
    ⟨(some 6), .loadn 1 (.t 2), none, []⟩,
    ⟨(some 7), .call (.c (.fn 75 [] [])) [.t 6], none, [1]⟩,
    ⟨(some 8), .field 1 1 false (.t 7), none, [1, 2]⟩,
    ⟨(some 9), .loadn 1 (.t 2), none, []⟩,
    ⟨(some 10), .call (.c (.fn 26 [] [])) [.t 9], none, [1, 2, 4]⟩,
    ⟨(some 11), .field 1 1 false (.t 10), none, [4, 2, 1, 5]⟩,
    ⟨(some 12), .call (.c (.fn 25 [] [])) [.t 5, .t 8, .t 11], none, [4, 2, 1, 5, 6, 3, 0]⟩,
    ⟨(some 4), .mov (.t 12), none, [6, 5, 4, 3, 2, 1, 0, 7]⟩])
  (.ret)), 13, [.t 4]⟩
def xf22 : XFunc := ⟨.seq (.reg [⟨(some 2), .box 24 (.t 0), none, []⟩,
    ⟨(some 4), .new 32 [.int .i64 0, .int .i64 0], none, []⟩])
  (.seq (.reg [⟨(some 5), .loadn 1 (.t 2), none, []⟩,
    ⟨(some 6), .mov (.t 1), none, []⟩,
    ⟨(some 7), .call (.c (.fn 78 [] [])) [.t 5, .t 6], none, []⟩,
    ⟨(some 8), .call (.c (.fn 76 [] [])) [.t 7], none, []⟩,
    ⟨none, .store 2 (.t 4) (.t 8), none, []⟩])
  (.ret)), 9, [.cn 4 2]⟩
def xf23 : XFunc := ⟨.seq (.reg [⟨(some 2), .box 24 (.t 0), none, []⟩,
    ⟨(some 4), .new 36 [.int .i64 0, .int .i64 0], none, []⟩])
  (.seq (.reg [⟨(some 8), .loadn 1 (.t 2), none, []⟩,
    ⟨(some 9), .mov (.t 1), none, []⟩,
    ⟨(some 10), .call (.c (.fn 79 [] [])) [.t 8, .t 9], none, []⟩,
    ⟨(some 5), .mov (.t 10), none, []⟩])
  (.seq (.dreg [⟨(some 11), .faddr 0 (.t 2), none, []⟩,
    ⟨(some 12), .load1 (.t 11), none, [0]⟩,
    ⟨(some 13), .mov (.t 5), none, []⟩,
    ⟨(some 14), .bin .sub (.t 13) (.c (.int .i64 1)), none, [2]⟩,
    ⟨(some 15), .iaddr 2 (.t 12) (.t 14), none, [2, 0, 3, 1]⟩,
    ⟨(some 16), .loadn 2 (.t 15), none, [1, 3, 0, 2, 4]⟩,
    ⟨(some 17), .faddr 0 (.t 2), none, []⟩,
    ⟨(some 18), .load1 (.t 17), none, [6]⟩,
    ⟨(some 19), .mov (.t 5), none, []⟩,
    ⟨(some 20), .iaddr 2 (.t 18) (.t 19), none, [6, 8, 7]⟩,
    ⟨(some 21), .loadn 2 (.t 20), none, [7, 8, 6, 9]⟩,
    ⟨(some 6), .new 48 [.int .i64 0, .int .i64 0], none, []⟩,
    ⟨(some 7), .new 48 [.int .i64 0, .int .i64 0], none, []⟩,
    ⟨none, .store 2 (.t 6) (.t 16), none, [12, 4, 3, 2, 1, 0, 5, 11]⟩,
    ⟨none, .store 2 (.t 7) (.t 21), none, [11, 9, 8, 7, 6, 5, 4, 3, 2, 1, 0, 13, 10, 12]⟩])
  (.seq (.reg [⟨(some 22), .faddr 1 (.t 7), none, []⟩,
    ⟨(some 23), .load1 (.t 22), none, []⟩,
    ⟨(some 24), .faddr 1 (.t 6), none, []⟩,
    ⟨(some 25), .load1 (.t 24), none, []⟩,
    ⟨(some 26), .bin .sub (.t 23) (.t 25), none, []⟩,
    ⟨(some 27), .faddr 0 (.t 7), none, []⟩,
    ⟨(some 28), .load1 (.t 27), none, []⟩,
    ⟨(some 29), .faddr 0 (.t 6), none, []⟩,
    ⟨(some 30), .load1 (.t 29), none, []⟩,
    ⟨(some 31), .bin .sub (.t 28) (.t 30), none, []⟩,
    ⟨(some 32), .call (.c (.fn 80 [] [])) [.t 26, .t 31], none, []⟩,
    ⟨none, .store 2 (.t 4) (.t 32), none, []⟩])
  (.ret)))), 33, [.cn 4 2]⟩
def xf24 : XFunc := ⟨.seq (.reg [⟨(some 1), .box 24 (.t 0), none, []⟩,
    ⟨(some 2), .mov (.c (.int .i64 0)), none, []⟩])
  (.seq (.reg [⟨(some 6), .loadn 1 (.t 1), none, []⟩,
    ⟨(some 7), .call (.c (.fn 18 [] [])) [.t 6], none, []⟩,
    ⟨(some 5), .mov (.t 7), none, []⟩,
    ⟨(some 8), .extract (.t 5) 0, none, []⟩,
    ⟨(some 9), .extract (.t 5) 1, none, []⟩,
    ⟨(some 3), .mov (.t 8), none, []⟩,
    ⟨(some 4), .mov (.t 9), none, []⟩])
  (.seq (.reg [⟨(some 10), .mov (.t 4), none, []⟩,
    ⟨(some 2), .mov (.t 10), none, []⟩])
  (.ret))), 11, [.t 2]⟩
def xf26 : XFunc := ⟨.seq (.reg [⟨(some 1), .box 24 (.t 0), none, []⟩,
    ⟨(some 2), .new 48 [.int .i64 0, .int .i64 0], none, []⟩])
  (.seq (.reg [⟨(some 3), .faddr 0 (.t 1), none, []⟩,
    ⟨(some 4), .load1 (.t 3), none, []⟩,
    ⟨(some 5), .faddr 0 (.t 1), none, []⟩,
    ⟨(some 6), .load1 (.t 5), none, []⟩,
    ⟨(some 7), .len (.t 6), none, []⟩,
    ⟨(some 8), .bin .sub (.t 7) (.c (.int .i64 1)), none, []⟩,
    ⟨(some 9), .iaddr 2 (.t 4) (.t 8), none, []⟩,
    ⟨(some 10), .loadn 2 (.t 9), none, []⟩,
    ⟨none, .store 2 (.t 2) (.t 10), none, []⟩])
  (.ret)), 11, [.cn 2 2]⟩
def xf61 : XFunc := ⟨.seq (.reg [⟨(some 3), .mov (.c (.int .i64 0)), none, []⟩])
  (.seq (.reg [⟨(some 4), .faddr 0 (.t 1), none, []⟩,
    ⟨(some 5), .load1 (.t 4), none, []⟩,
    ⟨(some 6), .mov (.t 0), none, []⟩,
    ⟨(some 7), .bin .add (.t 6) (.c (.int .i64 1)), none, []⟩,
    ⟨(some 8), .slice 2 (.t 5) none (some (.t 7)), none, []⟩,
    ⟨(some 9), .call (.c (.fn 62 [] [])) [.t 8], none, []⟩,
    ⟨(some 3), .mov (.t 9), none, []⟩])
  (.ret)), 10, [.t 3]⟩
def xf62 : XFunc := ⟨.seq (.reg [⟨(some 2), .mov (.c (.int .i64 0)), none, []⟩])
  (.seq (.reg [⟨(some 6), .mov (.t 0), none, []⟩,
    ⟨(some 7), .len (.t 6), none, []⟩,
    ⟨(some 3), .mov (.t 7), none, []⟩])
  (.seq (.reg [⟨(some 8), .mov (.t 0), none, []⟩,
    ⟨(some 9), .mov (.t 3), none, []⟩,
    ⟨(some 10), .bin .sub (.t 9) (.c (.int .i64 1)), none, []⟩,
    ⟨(some 11), .iaddr 2 (.t 8) (.t 10), none, []⟩,
    ⟨(some 12), .loadn 2 (.t 11), none, []⟩,
    ⟨(some 4), .new 48 [.int .i64 0, .int .i64 0], none, []⟩,
    ⟨none, .store 2 (.t 4) (.t 12), none, []⟩])
  (.seq (.seq (.reg [⟨(some 13), .faddr 0 (.t 4), none, []⟩,
    ⟨(some 14), .load1 (.t 13), none, []⟩,
    ⟨(some 15), .call (.c (.fn 96 [] [])) [.t 14, .c (.int .i64 0), .c (.int .i64 1000000)], none, []⟩,
    ⟨(some 16), .un .not (.t 15), none, []⟩,
    ⟨(some 17), .mov (.t 16), none, []⟩,
    ⟨(some 18), .faddr 1 (.t 4), (some (17, false)), []⟩,
    ⟨(some 19), .load1 (.t 18), (some (17, false)), []⟩,
    ⟨(some 20), .call (.c (.fn 96 [] [])) [.t 19, .c (.int .i64 0), .c (.int .i64 1000000000)], (some (17, false)), []⟩,
    ⟨(some 21), .un .not (.t 20), (some (17, false)), []⟩,
    ⟨(some 22), .pick (.t 17) (.c (.bool true)) (.t 21), none, []⟩])
  (.cond (.t 22)
    (.seq (.reg [⟨(some 2), .mov (.c (.int .i64 2)), none, []⟩])
    (.ret))
    (.skip)))
  (.seq (.seq (.reg [⟨(some 23), .mov (.t 3), none, []⟩,
    ⟨(some 24), .bin .lss (.t 23) (.c (.int .i64 2)), none, []⟩])
  (.cond (.t 24)
    (.seq (.reg [⟨(some 2), .mov (.c (.int .i64 0)), none, []⟩])
    (.ret))
    (.skip)))
  (.seq (.dreg [⟨(some 25), .mov (.t 0), none, []⟩,
    ⟨(some 26), .mov (.t 3), none, []⟩,
    ⟨(some 27), .bin .sub (.t 26) (.c (.int .i64 2)), none, [1]⟩,
    ⟨(some 28), .iaddr 2 (.t 25) (.t 27), none, [1, 2, 0]⟩,
    ⟨(some 29), .loadn 2 (.t 28), none, [0, 2, 1, 3]⟩,
    ⟨(some 30), .loadn 2 (.t 4), none, []⟩,
    ⟨(some 31), .build [.int .i64 0, .int .i64 0, .int .i64 0, .int .i64 0] [(0, 2, .t 29), (2, 2, .t 30)], none, [3, 1, 2, 0, 5, 4]⟩,
    ⟨(some 5), .new 133 [.int .i64 0, .int .i64 0, .int .i64 0, .int .i64 0], none, []⟩,
    ⟨none, .store 4 (.t 5) (.t 31), none, [5, 4, 3, 2, 1, 0, 6, 7]⟩])
  (.seq (.seq (.reg [⟨(some 32), .loadn 4 (.t 5), none, []⟩,
    ⟨(some 33), .call (.c (.fn 72 [] [])) [.t 32], none, []⟩,
    ⟨(some 34), .bin .leq (.t 33) (.c (.int .i64 0)), none, []⟩,
    ⟨(some 35), .mov (.t 34), none, []⟩,
    ⟨(some 36), .loadn 4 (.t 5), (some (35, false)), []⟩,
    ⟨(some 37), .call (.c (.fn 71 [] [])) [.t 36], (some (35, false)), []⟩,
    ⟨(some 38), .bin .leq (.t 37) (.c (.int .i64 0)), (some (35, false)), []⟩,
    ⟨(some 39), .pick (.t 35) (.c (.bool true)) (.t 38), none, []⟩])
  (.cond (.t 39)
    (.seq (.reg [⟨(some 2), .mov (.c (.int .i64 9)), none, []⟩])
    (.ret))
    (.skip)))
  (.seq (.seq (.dreg [⟨(some 40), .mov (.t 3), none, []⟩,
    ⟨(some 41), .bin .gtr (.t 40) (.c (.int .i64 2)), none, [0]⟩,
    ⟨(some 42), .mov (.t 41), none, [0, 1]⟩,
    ⟨(some 43), .loadn 4 (.t 5), (some (42, true)), [1, 0, 2]⟩,
    ⟨(some 44), .mov (.t 0), (some (42, true)), [1, 0, 2]⟩,
    ⟨(some 45), .mov (.t 3), (some (42, true)), [1, 0, 2]⟩,
    ⟨(some 46), .bin .sub (.t 45) (.c (.int .i64 3)), (some (42, true)), [0, 1, 2, 5]⟩,
    ⟨(some 47), .iaddr 2 (.t 44) (.t 46), (some (42, true)), [5, 0, 1, 2, 6, 4]⟩,
    ⟨(some 48), .loadn 2 (.t 47), (some (42, true)), [4, 6, 1, 0, 5, 2, 7]⟩,
    ⟨(some 49), .mov (.t 0), (some (42, true)), [1, 0, 2]⟩,
    ⟨(some 50), .mov (.t 3), (some (42, true)), [1, 0, 2]⟩,
    ⟨(some 51), .bin .sub (.t 50) (.c (.int .i64 2)), (some (42, true)), [0, 1, 2, 10]⟩,
    ⟨(some 52), .iaddr 2 (.t 49) (.t 51), (some (42, true)), [10, 0, 1, 2, 11, 9]⟩,
    ⟨(some 53), .loadn 2 (.t 52), (some (42, true)), [9, 11, 1, 0, 10, 2, 12]⟩,
    ⟨(some 54), .build [.int .i64 0, .int .i64 0, .int .i64 0, .int .i64 0] [(0, 2, .t 48), (2, 2, .t 53)], (some (42, true)), [12, 10, 11, 9, 7, 5, 0, 1, 6, 4, 2, 13, 8]⟩,
    ⟨(some 55), .call (.c (.fn 107 [] [])) [.t 43, .t 54], (some (42, true)), [8, 13, 4, 6, 5, 7, 9, 11, 10, 12, 0, 1, 2, 14, 3]⟩,
    ⟨(some 56), .pick (.t 42) (.t 55) (.c (.bool false)), none, [3, 14, 12, 10, 11, 9, 7, 5, 6, 4, 13, 8, 1, 0, 15, 2]⟩])
  (.cond (.t 56)
    (.seq (.reg [⟨(some 2), .mov (.c (.int .i64 22)), none, []⟩])
    (.ret))
    (.skip)))
  (.seq (.reg [⟨(some 2), .mov (.c (.int .i64 0)), none, []⟩])
  (.ret))))))))), 57, [.t 2]⟩
def xf63 : XFunc := ⟨.seq (.reg [⟨(some 1), .box 24 (.t 0), none, []⟩,
    ⟨(some 2), .new 123 [.nils], none, []⟩,
    ⟨(some 3), .mov (.c (.int .i64 0)), none, []⟩])
  (.seq (.reg [⟨(some 7), .loadn 1 (.t 1), none, []⟩,
    ⟨(some 8), .call (.c (.fn 13 [] [])) [.t 7], none, []⟩,
    ⟨(some 6), .mov (.t 8), none, []⟩,
    ⟨(some 9), .extract (.t 6) 0, none, []⟩,
    ⟨(some 10), .extract (.t 6) 1, none, []⟩,
    ⟨(some 4), .mov (.t 9), none, []⟩,
    ⟨(some 5), .mov (.t 10), none, []⟩])
  (.seq (.reg [⟨(some 11), .loadn 1 (.t 1), none, []⟩,
    ⟨(some 12), .build [.nils] [(0, 1, .t 11)], none, []⟩,
    ⟨(some 13), .mov (.t 5), none, []⟩,
    ⟨none, .store 1 (.t 2) (.t 12), none, []⟩,
    ⟨(some 3), .mov (.t 13), none, []⟩])
  (.ret))), 14, [.cn 2 1, .t 3]⟩
def xf64 : XFunc := ⟨.seq (.reg [⟨(some 2), .box 123 (.t 0), none, []⟩,
    ⟨(some 4), .mov (.c (.bool false)), none, []⟩])
  (.seq (.dreg [⟨(some 5), .mov (.t 1), none, []⟩,
    ⟨(some 6), .loadn 1 (.t 2), none, []⟩,
    ⟨(some 7), .call (.c (.fn 88 [] [])) [.t 6], none, [1]⟩,
    ⟨(some 8), .field 0 1 false (.t 7), none, [1, 2]⟩,
    ⟨(some 9), .loadn 1 (.t 2), none, []⟩,
    ⟨(some 10), .call (.c (.fn 87 [] [])) [.t 9], none, [1, 2, 4]⟩,
    ⟨(some 11), .field 0 1 false (.t 10), none, [4, 2, 1, 5]⟩,
    ⟨(some 12), .call (.c (.fn 96 [] [])) [.t 5, .t 8, .t 11], none, [4, 2, 1, 5, 6, 3, 0]⟩,
    ⟨(some 4), .mov (.t 12), none, [6, 5, 4, 3, 2, 1, 0, 7]⟩])
  (.ret)), 13, [.t 4]⟩
def xf65 : XFunc := ⟨.seq (.reg [⟨(some 2), .box 123 (.t 0), none, []⟩,
    ⟨(some 3), .box 3 (.t 1), none, []⟩,
    ⟨(some 4), .new 128 [.int .i64 0, .int .i64 0, .int .i64 0], none, []⟩])
  (.seq (.reg [⟨(some 6), .loadn 1 (.t 2), none, []⟩,
    ⟨(some 7), .fn true 109 [] [.t 3], none, []⟩,
    ⟨(some 8), .call (.c (.fn 108 [] [])) [.t 6, .t 7], none, []⟩,
    ⟨(some 5), .new 133 [.int .i64 0, .int .i64 0, .int .i64 0, .int .i64 0], none, []⟩,
    ⟨none, .store 4 (.t 5) (.t 8), none, []⟩])
  (.seq (.reg [⟨(some 9), .load1 (.t 3), none, []⟩,
    ⟨(some 10), .faddr 0 (.t 5), none, []⟩,
    ⟨(some 11), .faddr 0 (.t 10), none, []⟩,
    ⟨(some 12), .load1 (.t 11), none, []⟩,
    ⟨(some 13), .faddr 2 (.t 5), none, []⟩,
    ⟨(some 14), .faddr 0 (.t 13), none, []⟩,
    ⟨(some 15), .load1 (.t 14), none, []⟩,
    ⟨(some 16), .faddr 0 (.t 5), none, []⟩,
    ⟨(some 17), .faddr 1 (.t 16), none, []⟩,
    ⟨(some 18), .load1 (.t 17), none, []⟩,
    ⟨(some 19), .faddr 2 (.t 5), none, []⟩,
    ⟨(some 20), .faddr 1 (.t 19), none, []⟩,
    ⟨(some 21), .load1 (.t 20), none, []⟩,
    ⟨(some 22), .call (.c (.fn 110 [] [])) [.t 9, .t 12, .t 15, .t 18, .t 21], none, []⟩,
    ⟨none, .store 3 (.t 4) (.t 22), none, []⟩])
  (.ret))), 23, [.cn 4 3]⟩
def xf66 : XFunc := ⟨.seq (.reg [⟨(some 1), .box 128 (.t 0), none, []⟩,
    ⟨(some 2), .new 32 [.int .i64 0, .int .i64 0], none, []⟩])
  (.seq (.dreg [⟨(some 3), .faddr 0 (.t 1), none, []⟩,
    ⟨(some 4), .load1 (.t 3), none, [0]⟩,
    ⟨(some 5), .loadn 3 (.t 1), none, []⟩,
    ⟨(some 6), .call (.c (.fn 111 [] [])) [.t 5], none, [2]⟩,
    ⟨(some 7), .build [.int .i64 0, .int .i64 0] [(0, 1, .t 4), (1, 1, .t 6)], none, [2, 0, 3, 1]⟩,
    ⟨none, .store 2 (.t 2) (.t 7), none, [2, 1, 0, 3, 4]⟩])
  (.ret)), 8, [.cn 2 2]⟩
def xf67 : XFunc := ⟨.seq (.reg [⟨(some 2), .box 24 (.t 0), none, []⟩,
    ⟨(some 4), .new 123 [.nils], none, []⟩,
    ⟨(some 5), .mov (.c (.int .i64 0)), none, []⟩])
  (.seq (.reg [⟨(some 9), .loadn 1 (.t 2), none, []⟩,
    ⟨(some 10), .call (.c (.fn 63 [] [])) [.t 9], none, []⟩,
    ⟨(some 8), .mov (.t 10), none, []⟩,
    ⟨(some 11), .extract (.t 8) 0, none, []⟩,
    ⟨(some 12), .extract (.t 8) 1, none, []⟩,
    ⟨(some 6), .new 123 [.nils], none, []⟩,
    ⟨none, .store 1 (.t 6) (.t 11), none, []⟩,
    ⟨(some 7), .mov (.t 12), none, []⟩])
  (.seq (.seq (.reg [⟨(some 13), .mov (.t 7), none, []⟩,
    ⟨(some 14), .bin .eql (.t 13) (.c (.int .i64 0)), none, []⟩,
    ⟨(some 15), .mov (.t 14), none, []⟩,
    ⟨(some 16), .loadn 1 (.t 6), (some (15, true)), []⟩,
    ⟨(some 17), .mov (.t 1), (some (15, true)), []⟩,
    ⟨(some 18), .call (.c (.fn 112 [] [])) [.t 16, .t 17], (some (15, true)), []⟩,
    ⟨(some 19), .un .not (.t 18), (some (15, true)), []⟩,
    ⟨(some 20), .pick (.t 15) (.t 19) (.c (.bool false)), none, []⟩])
  (.cond (.t 20)
    (.reg [⟨(some 7), .mov (.c (.int .i64 2)), none, []⟩])
    (.skip)))
  (.seq (.reg [⟨(some 21), .loadn 1 (.t 6), none, []⟩,
    ⟨(some 22), .mov (.t 7), none, []⟩,
    ⟨none, .store 1 (.t 4) (.t 21), none, []⟩,
    ⟨(some 5), .mov (.t 22), none, []⟩])
  (.ret)))), 23, [.cn 4 1, .t 5]⟩
def xf68 : XFunc := ⟨.seq (.reg [⟨(some 2), .box 123 (.t 0), none, []⟩,
    ⟨(some 4), .new 128 [.int .i64 0, .int .i64 0, .int .i64 0], none, []⟩])
  (.seq (.reg [⟨(some 6), .loadn 1 (.t 2), none, []⟩,
    ⟨(some 7), .mov (.t 1), none, []⟩,
    ⟨(some 8), .call (.c (.fn 69 [] [])) [.t 6, .t 7], none, []⟩,
    ⟨(some 5), .new 133 [.int .i64 0, .int .i64 0, .int .i64 0, .int .i64 0], none, []⟩,
    ⟨none, .store 4 (.t 5) (.t 8), none, []⟩])
  (.seq (.reg [⟨(some 9), .mov (.t 1), none, []⟩,
    ⟨(some 10), .faddr 0 (.t 5), none, []⟩,
    ⟨(some 11), .faddr 1 (.t 10), none, []⟩,
    ⟨(some 12), .load1 (.t 11), none, []⟩,
    ⟨(some 13), .faddr 2 (.t 5), none, []⟩,
    ⟨(some 14), .faddr 1 (.t 13), none, []⟩,
    ⟨(some 15), .load1 (.t 14), none, []⟩,
    ⟨(some 16), .faddr 0 (.t 5), none, []⟩,
    ⟨(some 17), .faddr 0 (.t 16), none, []⟩,
    ⟨(some 18), .load1 (.t 17), none, []⟩,
    ⟨(some 19), .faddr 2 (.t 5), none, []⟩,
    ⟨(some 20), .faddr 0 (.t 19), none, []⟩,
    ⟨(some 21), .load1 (.t 20), none, []⟩,
    ⟨(some 22), .call (.c (.fn 110 [] [])) [.t 9, .t 12, .t 15, .t 18, .t 21], none, []⟩,
    ⟨none, .store 3 (.t 4) (.t 22), none, []⟩])
  (.ret))), 23, [.cn 4 3]⟩
def xf69 : XFunc := ⟨.seq (.reg [⟨(some 2), .box 123 (.t 0), none, []⟩,
    ⟨(some 3), .box 3 (.t 1), none, []⟩,
    ⟨(some 4), .new 133 [.int .i64 0, .int .i64 0, .int .i64 0, .int .i64 0], none, []⟩])
  (.seq (.reg [⟨(some 5), .loadn 1 (.t 2), none, []⟩,
    ⟨(some 6), .fn true 113 [] [.t 3], none, []⟩,
    ⟨(some 7), .call (.c (.fn 108 [] [])) [.t 5, .t 6], none, []⟩,
    ⟨none, .store 4 (.t 4) (.t 7), none, []⟩])
  (.ret)), 8, [.cn 4 4]⟩
def xf70l0 : XCode := .seq (.seq (.reg [⟨(some 9), .mov (.t 6), none, []⟩,
    ⟨(some 10), .bin .neq (.t 9) (.c (.int .i64 0)), none, []⟩])
  (.cond (.t 10)
    (.skip)
    (.exit 0)))
  (.block 1 (.dreg [⟨(some 11), .mov (.t 6), none, []⟩,
     ⟨(some 12), .mov (.t 5), none, []⟩,
     ⟨(some 13), .mov (.t 6), none, []⟩,
     ⟨(some 14), .bin .rem (.t 12) (.t 13), none, [2, 1]⟩,
     ⟨(some 5), .mov (.t 11), none, [1, 0]⟩,
     ⟨(some 6), .mov (.t 14), none, [2, 1, 0, 4, 3]⟩]))
def xf70 : XFunc := ⟨.seq (.reg [⟨(some 4), .new 36 [.int .i64 0, .int .i64 0], none, []⟩])
  (.seq (.reg [⟨(some 7), .mov (.t 0), none, []⟩,
    ⟨(some 8), .mov (.t 1), none, []⟩,
    ⟨(some 5), .mov (.t 7), none, []⟩,
    ⟨(some 6), .mov (.t 8), none, []⟩])
  (.seq (.block 0 (.loop xf70l0))
  (.seq (.dreg [⟨(some 15), .mov (.t 0), none, []⟩,
    ⟨(some 16), .mov (.t 5), none, []⟩,
    ⟨(some 17), .bin .quo (.t 15) (.t 16), none, [1, 0]⟩,
    ⟨(some 18), .mov (.t 1), none, []⟩,
    ⟨(some 19), .mov (.t 5), none, []⟩,
    ⟨(some 20), .bin .quo (.t 18) (.t 19), none, [4, 3]⟩,
    ⟨(some 21), .build [.int .i64 0, .int .i64 0] [(0, 1, .t 17), (1, 1, .t 20)], none, [3, 4, 0, 1, 5, 2]⟩,
    ⟨none, .store 2 (.t 4) (.t 21), none, [5, 4, 3, 2, 1, 0, 6]⟩])
  (.ret)))), 22, [.cn 4 2]⟩
def xf71 : XFunc := ⟨.seq (.reg [⟨(some 1), .box 133 (.t 0), none, []⟩,
    ⟨(some 2), .mov (.c (.int .i64 0)), none, []⟩])
  (.seq (.reg [⟨(some 3), .faddr 2 (.t 1), none, []⟩,
    ⟨(some 4), .faddr 1 (.t 3), none, []⟩,
    ⟨(some 5), .load1 (.t 4), none, []⟩,
    ⟨(some 6), .faddr 0 (.t 1), none, []⟩,
    ⟨(some 7), .faddr 1 (.t 6), none, []⟩,
    ⟨(some 8), .load1 (.t 7), none, []⟩,
    ⟨(some 9), .bin .sub (.t 5) (.t 8), none, []⟩,
    ⟨(some 2), .mov (.t 9), none, []⟩])
  (.ret)), 10, [.t 2]⟩
def xf72 : XFunc := ⟨.seq (.reg [⟨(some 1), .box 133 (.t 0), none, []⟩,
    ⟨(some 2), .mov (.c (.int .i64 0)), none, []⟩])
  (.seq (.reg [⟨(some 3), .faddr 2 (.t 1), none, []⟩,
    ⟨(some 4), .faddr 0 (.t 3), none, []⟩,
    ⟨(some 5), .load1 (.t 4), none, []⟩,
    ⟨(some 6), .faddr 0 (.t 1), none, []⟩,
    ⟨(some 7), .faddr 0 (.t 6), none, []⟩,
    ⟨(some 8), .load1 (.t 7), none, []⟩,
    ⟨(some 9), .bin .sub (.t 5) (.t 8), none, []⟩,
    ⟨(some 2), .mov (.t 9), none, []⟩])
  (.ret)), 10, [.t 2]⟩
def xf74 : XFunc := ⟨.seq (.reg [⟨(some 2), .box 24 (.t 0), none, []⟩,
    ⟨(some 4), .new 141 [.int .i64 0, .nils, .int .i64 0, .nils], none, []⟩])
  (.seq (.dreg [⟨(some 7), .faddr 0 (.t 2), none, []⟩,
    ⟨(some 8), .load1 (.t 7), none, [0]⟩,
    ⟨(some 9), .mov (.t 1), none, []⟩,
    ⟨(some 10), .bin .sub (.t 9) (.c (.int .i64 1)), none, [2]⟩,
    ⟨(some 11), .iaddr 2 (.t 8) (.t 10), none, [2, 0, 3, 1]⟩,
    ⟨(some 12), .loadn 2 (.t 11), none, [1, 3, 0, 2, 4]⟩,
    ⟨(some 13), .faddr 0 (.t 2), none, []⟩,
    ⟨(some 14), .load1 (.t 13), none, [6]⟩,
    ⟨(some 15), .mov (.t 1), none, []⟩,
    ⟨(some 16), .iaddr 2 (.t 14) (.t 15), none, [6, 8, 7]⟩,
    ⟨(some 17), .loadn 2 (.t 16), none, [7, 8, 6, 9]⟩,
    ⟨(some 5), .new 48 [.int .i64 0, .int .i64 0], none, []⟩,
    ⟨(some 6), .new 48 [.int .i64 0, .int .i64 0], none, []⟩,
    ⟨none, .store 2 (.t 5) (.t 12), none, [12, 4, 3, 2, 1, 0, 5, 11]⟩,
    ⟨none, .store 2 (.t 6) (.t 17), none, [11, 9, 8, 7, 6, 5, 4, 3, 2, 1, 0, 13, 10, 12]⟩])
  (.seq (.reg [⟨(some 18), .faddr 1 (.t 6), none, []⟩,
    ⟨(some 19), .load1 (.t 18), none, []⟩,
    ⟨(some 20), .faddr 1 (.t 5), none, []⟩,
    ⟨(some 21), .load1 (.t 20), none, []⟩,
    ⟨(some 22), .bin .sub (.t 19) (.t 21), none, []⟩,
    ⟨(some 23), .faddr 0 (.t 6), none, []⟩,
    ⟨(some 24), .load1 (.t 23), none, []⟩,
    ⟨(some 25), .faddr 0 (.t 5), none, []⟩,
    ⟨(some 26), .load1 (.t 25), none, []⟩,
    ⟨(some 27), .bin .sub (.t 24) (.t 26), none, []⟩,
    ⟨(some 28), .call (.c (.fn 116 [] [])) [.t 22, .t 27], none, []⟩,
    ⟨none, .store 4 (.t 4) (.t 28), none, []⟩])
  (.ret))), 29, [.cn 4 4]⟩
def xf75 : XFunc := ⟨.seq (.reg [⟨(some 1), .box 24 (.t 0), none, []⟩,
    ⟨(some 2), .new 48 [.int .i64 0, .int .i64 0], none, []⟩])
  (.seq (.reg [⟨(some 3), .faddr 0 (.t 1), none, []⟩,
    ⟨(some 4), .load1 (.t 3), none, []⟩,
    ⟨(some 5), .iaddr 2 (.t 4) (.c (.int .i64 0)), none, []⟩,
    ⟨(some 6), .loadn 2 (.t 5), none, []⟩,
    ⟨none, .store 2 (.t 2) (.t 6), none, []⟩])
  (.ret)), 7, [.cn 2 2]⟩
def xf76 : XFunc := ⟨.seq (.reg [⟨(some 1), .box 141 (.t 0), none, []⟩,
    ⟨(some 2), .new 32 [.int .i64 0, .int .i64 0], none, []⟩])
  (.seq (.reg [⟨(some 8), .loadn 4 (.t 1), none, []⟩,
    ⟨(some 9), .call (.c (.fn 118 [] [])) [.t 8], none, []⟩,
    ⟨(some 10), .call (.c (.fn 117 [] [])) [.t 9], none, []⟩,
    ⟨(some 7), .mov (.t 10), none, []⟩,
    ⟨(some 11), .extract (.t 7) 0, none, []⟩,
    ⟨(some 12), .extract (.t 7) 1, none, []⟩,
    ⟨(some 3), .mov (.t 11), none, []⟩,
    ⟨(some 4), .mov (.t 12), none, []⟩])
  (.seq (.reg [⟨(some 14), .loadn 4 (.t 1), none, []⟩,
    ⟨(some 15), .call (.c (.fn 119 [] [])) [.t 14], none, []⟩,
    ⟨(some 16), .call (.c (.fn 117 [] [])) [.t 15], none, []⟩,
    ⟨(some 13), .mov (.t 16), none, []⟩,
    ⟨(some 17), .extract (.t 13) 0, none, []⟩,
    ⟨(some 18), .extract (.t 13) 1, none, []⟩,
    ⟨(some 5), .mov (.t 17), none, []⟩,
    ⟨(some 6), .mov (.t 18), none, []⟩])
  (.seq (.reg [⟨(some 19), .mov (.t 3), none, []⟩,
    ⟨(some 20), .mov (.t 5), none, []⟩,
    ⟨(some 21), .build [.int .i64 0, .int .i64 0] [(0, 1, .t 19), (1, 1, .t 20)], none, []⟩,
    ⟨none, .store 2 (.t 2) (.t 21), none, []⟩])
  (.ret)))), 22, [.cn 2 2]⟩
def xf77l0 : XCode := .seq (.seq (.reg [⟨(some 7), .faddr 0 (.t 2), none, []⟩,
    ⟨(some 8), .load1 (.t 7), none, []⟩,
    ⟨(some 9), .mov (.t 5), none, []⟩,
    ⟨(some 10), .iaddr 2 (.t 8) (.t 9), none, []⟩,
    ⟨(some 11), .faddr 0 (.t 10), none, []⟩,
    ⟨(some 12), .load1 (.t 11), none, []⟩,
    ⟨(some 13), .mov (.t 1), none, []⟩,
    ⟨(some 14), .bin .lss (.t 12) (.t 13), none, []⟩])
  (.cond (.t 14)
    (.skip)
    (.exit 0)))
  (.block 1 (.reg [⟨(some 15), .mov (.t 5), none, []⟩,
     ⟨(some 16), .bin .add (.t 15) (.c (.int .i64 1)), none, []⟩,
     ⟨(some 5), .mov (.t 16), none, []⟩]))
def xf77 : XFunc := ⟨.seq (.reg [⟨(some 2), .box 24 (.t 0), none, []⟩,
    ⟨(some 4), .new 141 [.int .i64 0, .nils, .int .i64 0, .nils], none, []⟩])
  (.seq (.reg [⟨(some 5), .mov (.c (.int .i64 1)), none, []⟩])
  (.seq (.block 0 (.loop xf77l0))
  (.seq (.reg [⟨(some 17), .faddr 0 (.t 2), none, []⟩,
    ⟨(some 18), .load1 (.t 17), none, []⟩,
    ⟨(some 19), .mov (.t 5), none, []⟩,
    ⟨(some 20), .bin .sub (.t 19) (.c (.int .i64 1)), none, []⟩,
    ⟨(some 21), .iaddr 2 (.t 18) (.t 20), none, []⟩,
    ⟨(some 22), .loadn 2 (.t 21), none, []⟩,
    ⟨(some 6), .new 48 [.int .i64 0, .int .i64 0], none, []⟩,
    ⟨none, .store 2 (.t 6) (.t 22), none, []⟩])
  (.seq (.dreg [⟨(some 23), .faddr 1 (.t 6), none, []⟩,
    ⟨(some 24), .load1 (.t 23), none, [0]⟩,
    ⟨(some 25), .call (.c (.fn 121 [] [])) [.t 24], none, [0, 1]⟩,
    ⟨(some 26), .mov (.t 1), none, []⟩,
    ⟨(some 27), .faddr 0 (.t 6), none, []⟩,
    ⟨(some 28), .load1 (.t 27), none, [4]⟩,
    ⟨(some 29), .bin .sub (.t 26) (.t 28), none, [4, 5, 3]⟩,
    ⟨(some 30), .call (.c (.fn 121 [] [])) [.t 29], none, [1, 0, 3, 5, 4, 2, 6]⟩,
    ⟨(some 31), .loadn 1 (.t 2), none, []⟩,
    ⟨(some 32), .mov (.t 5), none, []⟩,
    ⟨(some 33), .call (.c (.fn 74 [] [])) [.t 31, .t 32], none, [6, 2, 4, 5, 3, 0, 1, 7, 9, 8]⟩,
    ⟨(some 34), .call (.c (.fn 122 [] [])) [.t 30, .t 33], none, [8, 9, 6, 2, 4, 5, 3, 0, 1, 10, 7]⟩,
    ⟨(some 35), .call (.c (.fn 120 [] [])) [.t 25, .t 34], none, [7, 10, 3, 5, 4, 6, 9, 8, 1, 0, 11, 2]⟩,
    ⟨none, .store 4 (.t 4) (.t 35), none, [11, 10, 9, 8, 7, 6, 5, 4, 3, 2, 1, 0, 12]⟩])
  (.ret))))), 36, [.cn 4 4]⟩
def xf78 : XFunc := ⟨.seq (.reg [⟨(some 2), .box 24 (.t 0), none, []⟩,
    ⟨(some 4), .new 141 [.int .i64 0, .nils, .int .i64 0, .nils], none, []⟩])
  (.seq (.reg [⟨(some 7), .loadn 1 (.t 2), none, []⟩,
    ⟨(some 8), .mov (.t 1), none, []⟩,
    ⟨(some 9), .call (.c (.fn 79 [] [])) [.t 7, .t 8], none, []⟩,
    ⟨(some 5), .mov (.t 9), none, []⟩])
  (.seq (.reg [⟨(some 10), .faddr 0 (.t 2), none, []⟩,
    ⟨(some 11), .load1 (.t 10), none, []⟩,
    ⟨(some 12), .mov (.t 5), none, []⟩,
    ⟨(some 13), .bin .sub (.t 12) (.c (.int .i64 1)), none, []⟩,
    ⟨(some 14), .iaddr 2 (.t 11) (.t 13), none, []⟩,
    ⟨(some 15), .loadn 2 (.t 14), none, []⟩,
    ⟨(some 6), .new 48 [.int .i64 0, .int .i64 0], none, []⟩,
    ⟨none, .store 2 (.t 6) (.t 15), none, []⟩])
  (.seq (.dreg [⟨(some 16), .faddr 0 (.t 6), none, []⟩,
    ⟨(some 17), .load1 (.t 16), none, [0]⟩,
    ⟨(some 18), .call (.c (.fn 121 [] [])) [.t 17], none, [0, 1]⟩,
    ⟨(some 19), .mov (.t 1), none, []⟩,
    ⟨(some 20), .faddr 1 (.t 6), none, []⟩,
    ⟨(some 21), .load1 (.t 20), none, [4]⟩,
    ⟨(some 22), .bin .sub (.t 19) (.t 21), none, [4, 5, 3]⟩,
    ⟨(some 23), .call (.c (.fn 121 [] [])) [.t 22], none, [1, 0, 3, 5, 4, 2, 6]⟩,
    ⟨(some 24), .loadn 1 (.t 2), none, []⟩,
    ⟨(some 25), .mov (.t 5), none, []⟩,
    ⟨(some 26), .call (.c (.fn 74 [] [])) [.t 24, .t 25], none, [6, 2, 4, 5, 3, 0, 1, 7, 9, 8]⟩,
    ⟨(some 27), .call (.c (.fn 123 [] [])) [.t 23, .t 26], none, [8, 9, 6, 2, 4, 5, 3, 0, 1, 10, 7]⟩,
    ⟨(some 28), .call (.c (.fn 120 [] [])) [.t 18, .t 27], none, [7, 10, 3, 5, 4, 6, 9, 8, 1, 0, 11, 2]⟩,
    ⟨none, .store 4 (.t 4) (.t 28), none, [11, 10, 9, 8, 7, 6, 5, 4, 3, 2, 1, 0, 12]⟩])
  (.ret)))), 29, [.cn 4 4]⟩
def xf79l0 : XCode := .seq (.seq (.reg [⟨(some 6), .faddr 0 (.t 2), none, []⟩,
    ⟨(some 7), .load1 (.t 6), none, []⟩,
    ⟨(some 8), .mov (.t 5), none, []⟩,
    ⟨(some 9), .iaddr 2 (.t 7) (.t 8), none, []⟩,
    ⟨(some 10), .faddr 1 (.t 9), none, []⟩,
    ⟨(some 11), .load1 (.t 10), none, []⟩,
    ⟨(some 12), .mov (.t 1), none, []⟩,
    ⟨(some 13), .bin .lss (.t 11) (.t 12), none, []⟩])
  (.cond (.t 13)
    (.skip)
    (.exit 0)))
  (.block 1 (.reg [⟨(some 14), .mov (.t 5), none, []⟩,
     ⟨(some 15), .bin .add (.t 14) (.c (.int .i64 1)), none, []⟩,
     ⟨(some 5), .mov (.t 15), none, []⟩]))
def xf79 : XFunc := ⟨.seq (.reg [⟨(some 2), .box 24 (.t 0), none, []⟩,
    ⟨(some 4), .mov (.c (.int .i64 0)), none, []⟩])
  (.seq (.reg [⟨(some 5), .mov (.c (.int .i64 1)), none, []⟩])
  (.seq (.block 0 (.loop xf79l0))
  (.seq (.reg [⟨(some 16), .mov (.t 5), none, []⟩,
    ⟨(some 4), .mov (.t 16), none, []⟩])
  (.ret)))), 17, [.t 4]⟩
def xf80 : XFunc := ⟨.seq (.reg [⟨(some 4), .new 36 [.int .i64 0, .int .i64 0], none, []⟩])
  (.seq (.reg [⟨(some 6), .mov (.t 0), none, []⟩,
    ⟨(some 7), .mov (.t 1), none, []⟩,
    ⟨(some 8), .call (.c (.fn 124 [] [])) [.t 6, .t 7], none, []⟩,
    ⟨(some 5), .mov (.t 8), none, []⟩])
  (.seq (.seq (.reg [⟨(some 9), .mov (.t 1), none, []⟩,
    ⟨(some 10), .bin .lss (.t 9) (.c (.int .i64 0)), none, []⟩])
  (.cond (.t 10)
    (.reg [⟨(some 11), .mov (.t 5), none, []⟩,
      ⟨(some 12), .un .neg (.t 11), none, []⟩,
      ⟨(some 5), .mov (.t 12), none, []⟩])
    (.skip)))
  (.seq (.dreg [⟨(some 13), .mov (.t 0), none, []⟩,
    ⟨(some 14), .mov (.t 5), none, []⟩,
    ⟨(some 15), .bin .quo (.t 13) (.t 14), none, [1, 0]⟩,
    ⟨(some 16), .mov (.t 1), none, []⟩,
    ⟨(some 17), .mov (.t 5), none, []⟩,
    ⟨(some 18), .bin .quo (.t 16) (.t 17), none, [4, 3]⟩,
    ⟨(some 19), .build [.int .i64 0, .int .i64 0] [(0, 1, .t 15), (1, 1, .t 18)], none, [3, 4, 0, 1, 5, 2]⟩,
    ⟨none, .store 2 (.t 4) (.t 19), none, [5, 4, 3, 2, 1, 0, 6]⟩])
  (.ret)))), 20, [.cn 4 2]⟩
def xf87 : XFunc := ⟨.seq (.reg [⟨(some 1), .box 123 (.t 0), none, []⟩,
    ⟨(some 2), .new 48 [.int .i64 0, .int .i64 0], none, []⟩])
  (.seq (.reg [⟨(some 3), .faddr 0 (.t 1), none, []⟩,
    ⟨(some 4), .faddr 0 (.t 3), none, []⟩,
    ⟨(some 5), .load1 (.t 4), none, []⟩,
    ⟨(some 6), .faddr 0 (.t 1), none, []⟩,
    ⟨(some 7), .faddr 0 (.t 6), none, []⟩,
    ⟨(some 8), .load1 (.t 7), none, []⟩,
    ⟨(some 9), .len (.t 8), none, []⟩,
    ⟨(some 10), .bin .sub (.t 9) (.c (.int .i64 1)), none, []⟩,
    ⟨(some 11), .iaddr 2 (.t 5) (.t 10), none, []⟩,
    ⟨(some 12), .loadn 2 (.t 11), none, []⟩,
    ⟨none, .store 2 (.t 2) (.t 12), none, []⟩])
  (.ret)), 13, [.cn 2 2]⟩
def xf88 : XFunc := ⟨.seq (.reg [⟨(some 1), .box 123 (.t 0), none, []⟩,
    ⟨(some 2), .new 48 [.int .i64 0, .int .i64 0], none, []⟩])
  (.seq (.reg [⟨(some 3), .faddr 0 (.t 1), none, []⟩,
    ⟨(some 4), .faddr 0 (.t 3), none, []⟩,
    ⟨(some 5), .load1 (.t 4), none, []⟩,
    ⟨(some 6), .iaddr 2 (.t 5) (.c (.int .i64 0)), none, []⟩,
    ⟨(some 7), .loadn 2 (.t 6), none, []⟩,
    ⟨none, .store 2 (.t 2) (.t 7), none, []⟩])
  (.ret)), 8, [.cn 2 2]⟩
def xf107 : XFunc := ⟨.seq (.reg [⟨(some 2), .box 133 (.t 0), none, []⟩,
    ⟨(some 3), .box 133 (.t 1), none, []⟩,
    ⟨(some 4), .mov (.c (.bool false)), none, []⟩])
  (.seq (.dreg [⟨(some 5), .loadn 4 (.t 2), none, []⟩,
    ⟨(some 6), .call (.c (.fn 71 [] [])) [.t 5], none, [0]⟩,
    ⟨(some 7), .loadn 4 (.t 3), none, []⟩,
    ⟨(some 8), .call (.c (.fn 72 [] [])) [.t 7], none, [0, 1, 2]⟩,
    ⟨(some 9), .bin .mul (.t 6) (.t 8), none, [2, 0, 3, 1]⟩,
    ⟨(some 10), .loadn 4 (.t 3), none, []⟩,
    ⟨(some 11), .call (.c (.fn 71 [] [])) [.t 10], none, [2, 1, 0, 3, 5]⟩,
    ⟨(some 12), .loadn 4 (.t 2), none, []⟩,
    ⟨(some 13), .call (.c (.fn 72 [] [])) [.t 12], none, [5, 3, 0, 1, 2, 6, 7]⟩,
    ⟨(some 14), .bin .mul (.t 11) (.t 13), none, [7, 5, 3, 0, 1, 2, 8, 6]⟩,
    ⟨(some 15), .bin .lss (.t 9) (.t 14), none, [6, 8, 5, 7, 1, 3, 0, 2, 9, 4]⟩,
    ⟨(some 4), .mov (.t 15), none, [9, 7, 6, 5, 4, 3, 2, 1, 0, 8, 10]⟩])
  (.ret)), 16, [.t 4]⟩
def xf108l0 : XCode := .seq (.seq (.reg [⟨(some 6), .mov (.t 5), none, []⟩,
    ⟨(some 7), .faddr 0 (.t 2), none, []⟩,
    ⟨(some 8), .faddr 0 (.t 7), none, []⟩,
    ⟨(some 9), .load1 (.t 8), none, []⟩,
    ⟨(some 10), .len (.t 9), none, []⟩,
    ⟨(some 11), .bin .sub (.t 10) (.c (.int .i64 1)), none, []⟩,
    ⟨(some 12), .bin .lss (.t 6) (.t 11), none, []⟩,
    ⟨(some 13), .mov (.t 12), none, []⟩,
    ⟨(some 14), .mov (.t 1), (some (13, true)), []⟩,
    ⟨(some 15), .faddr 0 (.t 2), (some (13, true)), []⟩,
    ⟨(some 16), .faddr 0 (.t 15), (some (13, true)), []⟩,
    ⟨(some 17), .load1 (.t 16), (some (13, true)), []⟩,
    ⟨(some 18), .mov (.t 5), (some (13, true)), []⟩,
    ⟨(some 19), .iaddr 2 (.t 17) (.t 18), (some (13, true)), []⟩,
    ⟨(some 20), .loadn 2 (.t 19), (some (13, true)), []⟩,
    ⟨(some 21), .call (.t 14) [.t 20], (some (13, true)), []⟩,
    ⟨(some 22), .un .not (.t 21), (some (13, true)), []⟩,
    ⟨(some 23), .pick (.t 13) (.t 22) (.c (.bool false)), none, []⟩])
  (.cond (.t 23)
    (.skip)
    (.exit 0)))
  (.block 1 (.reg [⟨(some 24), .mov (.t 5), none, []⟩,
     ⟨(some 25), .bin .add (.t 24) (.c (.int .i64 1)), none, []⟩,
     ⟨(some 5), .mov (.t 25), none, []⟩]))
def xf108 : XFunc := ⟨.seq (.reg [⟨(some 2), .box 123 (.t 0), none, []⟩,
    ⟨(some 4), .new 133 [.int .i64 0, .int .i64 0, .int .i64 0, .int .i64 0], none, []⟩])
  (.seq (.reg [⟨(some 5), .mov (.c (.int .i64 1)), none, []⟩])
  (.seq (.block 0 (.loop xf108l0))
  (.seq (.dreg [⟨(some 26), .faddr 0 (.t 2), none, []⟩,
    ⟨(some 27), .faddr 0 (.t 26), none, [0]⟩,
    ⟨(some 28), .load1 (.t 27), none, [0, 1]⟩,
    ⟨(some 29), .mov (.t 5), none, []⟩,
    ⟨(some 30), .bin .sub (.t 29) (.c (.int .i64 1)), none, [3]⟩,
    ⟨(some 31), .iaddr 2 (.t 28) (.t 30), none, [3, 1, 0, 4, 2]⟩,
    ⟨(some 32), .loadn 2 (.t 31), none, [2, 4, 0, 1, 3, 5]⟩,
    ⟨(some 33), .faddr 0 (.t 2), none, []⟩,
    ⟨(some 34), .faddr 0 (.t 33), none, [7]⟩,
    ⟨(some 35), .load1 (.t 34), none, [7, 8]⟩,
    ⟨(some 36), .mov (.t 5), none, []⟩,
    ⟨(some 37), .iaddr 2 (.t 35) (.t 36), none, [8, 7, 10, 9]⟩,
    ⟨(some 38), .loadn 2 (.t 37), none, [9, 10, 7, 8, 11]⟩,
    ⟨(some 39), .build [.int .i64 0, .int .i64 0, .int .i64 0, .int .i64 0] [(0, 2, .t 32), (2, 2, .t 38)], none, [11, 8, 7, 10, 9, 5, 3, 1, 0, 4, 2, 12, 6]⟩,
    ⟨none, .store 4 (.t 4) (.t 39), none, [12, 11, 10, 9, 8, 7, 6, 5, 4, 3, 2, 1, 0, 13]⟩])
  (.ret)))), 40, [.cn 4 4]⟩
def xf109 : XFunc := ⟨.seq (.reg [⟨(some 2), .box 48 (.t 0), none, []⟩,
    ⟨(some 3), .mov (.c (.bool false)), none, []⟩])
  (.seq (.reg [⟨(some 4), .faddr 0 (.t 2), none, []⟩,
    ⟨(some 5), .load1 (.t 4), none, []⟩,
    ⟨(some 6), .load1 (.t 1), none, []⟩,
    ⟨(some 7), .bin .geq (.t 5) (.t 6), none, []⟩,
    ⟨(some 3), .mov (.t 7), none, []⟩])
  (.ret)), 8, [.t 3]⟩
def xf110 : XFunc := ⟨.seq (.reg [⟨(some 10), .new 128 [.int .i64 0, .int .i64 0, .int .i64 0], none, []⟩])
  (.seq (.reg [⟨(some 13), .mov (.t 0), none, []⟩,
    ⟨(some 14), .mov (.t 1), none, []⟩,
    ⟨(some 15), .bin .sub (.t 13) (.t 14), none, []⟩,
    ⟨(some 16), .mov (.t 4), none, []⟩,
    ⟨(some 17), .mov (.t 3), none, []⟩,
    ⟨(some 18), .bin .sub (.t 16) (.t 17), none, []⟩,
    ⟨(some 19), .bin .mul (.t 15) (.t 18), none, []⟩,
    ⟨(some 20), .mov (.t 2), none, []⟩,
    ⟨(some 21), .mov (.t 1), none, []⟩,
    ⟨(some 22), .bin .sub (.t 20) (.t 21), none, []⟩,
    ⟨(some 11), .mov (.t 19), none, []⟩,
    ⟨(some 12), .mov (.t 22), none, []⟩])
  (.seq (.dreg [⟨(some 23), .mov (.t 3), none, []⟩,
    ⟨(some 24), .mov (.t 11), none, []⟩,
    ⟨(some 25), .mov (.t 12), none, []⟩,
    ⟨(some 26), .bin .quo (.t 24) (.t 25), none, [2, 1]⟩,
    ⟨(some 27), .bin .add (.t 23) (.t 26), none, [1, 2, 3, 0]⟩,
    ⟨(some 28), .mov (.t 11), none, []⟩,
    ⟨(some 29), .mov (.t 12), none, []⟩,
    ⟨(some 30), .bin .rem (.t 28) (.t 29), none, [6, 5]⟩,
    ⟨(some 31), .mov (.t 12), none, []⟩,
    ⟨(some 32), .build [.int .i64 0, .int .i64 0, .int .i64 0] [(0, 1, .t 27), (1, 1, .t 30), (2, 1, .t 31)], none, [5, 6, 0, 3, 2, 1, 8, 7, 4]⟩,
    ⟨none, .store 3 (.t 10) (.t 32), none, [8, 7, 6, 5, 4, 3, 2, 1, 0, 9]⟩])
  (.ret))), 33, [.cn 10 3]⟩
def xf111 : XFunc := ⟨.seq (.reg [⟨(some 1), .box 128 (.t 0), none, []⟩,
    ⟨(some 2), .mov (.c (.int .i64 0)), none, []⟩])
  (.seq (.seq (.reg [⟨(some 3), .faddr 1 (.t 1), none, []⟩,
    ⟨(some 4), .load1 (.t 3), none, []⟩,
    ⟨(some 5), .bin .gtr (.t 4) (.c (.int .i64 0)), none, []⟩])
  (.cond (.t 5)
    (.seq (.reg [⟨(some 6), .faddr 0 (.t 1), none, []⟩,
      ⟨(some 7), .load1 (.t 6), none, []⟩,
      ⟨(some 8), .bin .add (.t 7) (.c (.int .i64 1)), none, []⟩,
      ⟨(some 2), .mov (.t 8), none, []⟩])
    (.ret))
    (.skip)))
  (.seq (.reg [⟨(some 9), .faddr 0 (.t 1), none, []⟩,
    ⟨(some 10), .load1 (.t 9), none, []⟩,
    ⟨(some 2), .mov (.t 10), none, []⟩])
  (.ret))), 11, [.t 2]⟩
def xf112 : XFunc := ⟨.seq (.reg [⟨(some 2), .box 123 (.t 0), none, []⟩,
    ⟨(some 4), .mov (.c (.bool false)), none, []⟩])
  (.seq (.dreg [⟨(some 5), .mov (.t 1), none, []⟩,
    ⟨(some 6), .loadn 1 (.t 2), none, []⟩,
    ⟨(some 7), .call (.c (.fn 88 [] [])) [.t 6], none, [1]⟩,
    ⟨(some 8), .field 1 1 false (.t 7), none, [1, 2]⟩,
    ⟨(some 9), .loadn 1 (.t 2), none, []⟩,
    ⟨(some 10), .call (.c (.fn 87 [] [])) [.t 9], none, [1, 2, 4]⟩,
    ⟨(some 11), .field 1 1 false (.t 10), none, [4, 2, 1, 5]⟩,
    ⟨(some 12), .call (.c (.fn 96 [] [])) [.t 5, .t 8, .t 11], none, [4, 2, 1, 5, 6, 3, 0]⟩,
    ⟨(some 4), .mov (.t 12), none, [6, 5, 4, 3, 2, 1, 0, 7]⟩])
  (.ret)), 13, [.t 4]⟩
def xf113 : XFunc := ⟨.seq (.reg [⟨(some 2), .box 48 (.t 0), none, []⟩,
    ⟨(some 3), .mov (.c (.bool false)), none, []⟩])
  (.seq (.reg [⟨(some 4), .faddr 1 (.t 2), none, []⟩,
    ⟨(some 5), .load1 (.t 4), none, []⟩,
    ⟨(some 6), .load1 (.t 1), none, []⟩,
    ⟨(some 7), .bin .geq (.t 5) (.t 6), none, []⟩,
    ⟨(some 3), .mov (.t 7), none, []⟩])
  (.ret)), 8, [.t 3]⟩
def xf124l0 : XCode := .seq (.seq (.reg [⟨(some 5), .mov (.t 1), none, []⟩,
    ⟨(some 6), .bin .neq (.t 5) (.c (.int .i64 0)), none, []⟩])
  (.cond (.t 6)
    (.skip)
    (.exit 0)))
  (.block 1 (.dreg [⟨(some 7), .mov (.t 1), none, []⟩,
     ⟨(some 8), .mov (.t 0), none, []⟩,
     ⟨(some 9), .mov (.t 1), none, []⟩,
     ⟨(some 10), .bin .rem (.t 8) (.t 9), none, [2, 1]⟩,
     ⟨(some 0), .mov (.t 7), none, [1, 0]⟩,
     ⟨(some 1), .mov (.t 10), none, [2, 1, 0, 4, 3]⟩]))
def xf124 : XFunc := ⟨.seq (.reg [⟨(some 4), .mov (.c (.int .i64 0)), none, []⟩])
  (.seq (.block 0 (.loop xf124l0))
  (.seq (.reg [⟨(some 11), .mov (.t 0), none, []⟩,
    ⟨(some 12), .call (.c (.fn 149 [] [])) [.t 11], none, []⟩,
    ⟨(some 4), .mov (.t 12), none, []⟩])
  (.ret))), 13, [.t 4]⟩
structure TabCode (X : FuncId → Option XFunc) : Prop where
  sea : SeaCode X
  wide : WideCode X
  h12 : X 12 = some xf12
  h13 : X 13 = some xf13
  h14 : X 14 = some xf14
  h15 : X 15 = some xf15
  h16 : X 16 = some xf16
  h17 : X 17 = some xf17
  h18 : X 18 = some xf18
  h19 : X 19 = some xf19
  h20 : X 20 = some xf20
  h21 : X 21 = some xf21
  h22 : X 22 = some xf22
  h23 : X 23 = some xf23
  h24 : X 24 = some xf24
  h26 : X 26 = some xf26
  h61 : X 61 = some xf61
  h62 : X 62 = some xf62
  h63 : X 63 = some xf63
  h64 : X 64 = some xf64
  h65 : X 65 = some xf65
  h66 : X 66 = some xf66
  h67 : X 67 = some xf67
  h68 : X 68 = some xf68
  h69 : X 69 = some xf69
  h70 : X 70 = some xf70
  h71 : X 71 = some xf71
  h72 : X 72 = some xf72
  h74 : X 74 = some xf74
  h75 : X 75 = some xf75
  h76 : X 76 = some xf76
  h77 : X 77 = some xf77
  h78 : X 78 = some xf78
  h79 : X 79 = some xf79
  h80 : X 80 = some xf80
  h87 : X 87 = some xf87
  h88 : X 88 = some xf88
  h107 : X 107 = some xf107
  h108 : X 108 = some xf108
  h109 : X 109 = some xf109
  h110 : X 110 = some xf110
  h111 : X 111 = some xf111
  h112 : X 112 = some xf112
  h113 : X 113 = some xf113
  h124 : X 124 = some xf124
end Go.Proofs.Ytbpflcilndinfaa.Eng

/-
  CODE of LawA.
-/
namespace Go.Proofs.Ytbpflcilndinfaa.Eng
set_option linter.unusedSimpArgs false
set_option linter.unusedVariables false
def xf3 : XFunc := ⟨.seq (.reg [⟨(some 3), .box 24 (.t 0), none, []⟩,
    ⟨(some 6), .mov (.c (.bool false)), none, []⟩])
  (.seq (.seq (.reg [⟨(some 17), .call (.c (.fn 11 [] [])) [], none, []⟩,
    ⟨(some 18), .un .not (.t 17), none, []⟩])
  (.cond (.t 18)
    (.seq (.reg [⟨(some 6), .mov (.c (.bool false)), none, []⟩])
    (.ret))
    (.skip)))
  (.seq (.seq (.reg [⟨(some 19), .loadn 1 (.t 3), none, []⟩,
    ⟨(some 20), .call (.c (.fn 12 [] [])) [.t 19], none, []⟩,
    ⟨(some 21), .un .not (.t 20), none, []⟩])
  (.cond (.t 21)
    (.seq (.reg [⟨(some 6), .mov (.c (.bool true)), none, []⟩])
    (.ret))
    (.skip)))
  (.seq (.reg [⟨(some 23), .loadn 1 (.t 3), none, []⟩,
    ⟨(some 24), .call (.c (.fn 14 [] [])) [.t 23], none, []⟩,
    ⟨(some 25), .call (.c (.fn 13 [] [])) [.t 24], none, []⟩,
    ⟨(some 22), .mov (.t 25), none, []⟩,
    ⟨(some 26), .extract (.t 22) 0, none, []⟩,
    ⟨(some 27), .extract (.t 22) 1, none, []⟩,
    ⟨(some 7), .mov (.t 26), none, []⟩,
    ⟨(some 8), .mov (.t 27), none, []⟩])
  (.seq (.reg [⟨(some 29), .loadn 1 (.t 3), none, []⟩,
    ⟨(some 30), .call (.c (.fn 14 [] [])) [.t 29], none, []⟩,
    ⟨(some 31), .mov (.t 1), none, []⟩,
    ⟨(some 32), .call (.c (.fn 15 [] [])) [.t 30, .t 31], none, []⟩,
    ⟨(some 28), .mov (.t 32), none, []⟩,
    ⟨(some 33), .extract (.t 28) 0, none, []⟩,
    ⟨(some 34), .extract (.t 28) 1, none, []⟩,
    ⟨(some 9), .new 32 [.int .i64 0, .int .i64 0], none, []⟩,
    ⟨none, .store 2 (.t 9) (.t 33), none, []⟩,
    ⟨(some 10), .mov (.t 34), none, []⟩])
  (.seq (.reg [⟨(some 36), .loadn 1 (.t 3), none, []⟩,
    ⟨(some 37), .call (.c (.fn 14 [] [])) [.t 36], none, []⟩,
    ⟨(some 38), .mov (.t 2), none, []⟩,
    ⟨(some 39), .call (.c (.fn 16 [] [])) [.t 37, .t 38], none, []⟩,
    ⟨(some 35), .mov (.t 39), none, []⟩,
    ⟨(some 40), .extract (.t 35) 0, none, []⟩,
    ⟨(some 41), .extract (.t 35) 1, none, []⟩,
    ⟨(some 11), .new 32 [.int .i64 0, .int .i64 0], none, []⟩,
    ⟨none, .store 2 (.t 11) (.t 40), none, []⟩,
    ⟨(some 12), .mov (.t 41), none, []⟩])
  (.seq (.reg [⟨(some 43), .loadn 1 (.t 3), none, []⟩,
    ⟨(some 44), .call (.c (.fn 14 [] [])) [.t 43], none, []⟩,
    ⟨(some 45), .mov (.t 2), none, []⟩,
    ⟨(some 46), .call (.c (.fn 17 [] [])) [.t 44, .t 45], none, []⟩,
    ⟨(some 42), .mov (.t 46), none, []⟩,
    ⟨(some 47), .extract (.t 42) 0, none, []⟩,
    ⟨(some 48), .extract (.t 42) 1, none, []⟩,
    ⟨(some 13), .new 36 [.int .i64 0, .int .i64 0], none, []⟩,
    ⟨none, .store 2 (.t 13) (.t 47), none, []⟩,
    ⟨(some 14), .mov (.t 48), none, []⟩])
  (.seq (.reg [⟨(some 50), .loadn 1 (.t 3), none, []⟩,
    ⟨(some 51), .call (.c (.fn 18 [] [])) [.t 50], none, []⟩,
    ⟨(some 49), .mov (.t 51), none, []⟩,
    ⟨(some 52), .extract (.t 49) 0, none, []⟩,
    ⟨(some 53), .extract (.t 49) 1, none, []⟩,
    ⟨(some 15), .mov (.t 52), none, []⟩,
    ⟨(some 16), .mov (.t 53), none, []⟩])
  (.seq (.seq (.reg [⟨(some 54), .mov (.t 8), none, []⟩,
    ⟨(some 55), .mov (.t 16), none, []⟩,
    ⟨(some 56), .bin .neq (.t 54) (.t 55), none, []⟩,
    ⟨(some 57), .mov (.t 56), none, []⟩,
    ⟨(some 58), .mov (.t 7), (some (57, false)), []⟩,
    ⟨(some 59), .mov (.t 15), (some (57, false)), []⟩,
    ⟨(some 60), .bin .neq (.t 58) (.t 59), (some (57, false)), []⟩,
    ⟨(some 61), .pick (.t 57) (.c (.bool true)) (.t 60), none, []⟩])
  (.cond (.t 61)
    (.seq (.reg [⟨(some 6), .mov (.c (.bool false)), none, []⟩])
    (.ret))
    (.skip)))
  (.seq (.seq (.reg [⟨(some 62), .mov (.t 16), none, []⟩,
    ⟨(some 63), .bin .neq (.t 62) (.c (.int .i64 0)), none, []⟩])
  (.cond (.t 63)
    (.seq (.reg [⟨(some 64), .mov (.t 10), none, []⟩,
      ⟨(some 65), .mov (.t 16), none, []⟩,
      ⟨(some 66), .bin .eql (.t 64) (.t 65), none, []⟩,
      ⟨(some 67), .mov (.t 66), none, []⟩,
      ⟨(some 68), .mov (.t 12), (some (67, true)), []⟩,
      ⟨(some 69), .mov (.t 16), (some (67, true)), []⟩,
      ⟨(some 70), .bin .eql (.t 68) (.t 69), (some (67, true)), []⟩,
      ⟨(some 71), .pick (.t 67) (.t 70) (.c (.bool false)), none, []⟩,
      ⟨(some 72), .mov (.t 71), none, []⟩,
      ⟨(some 73), .mov (.t 14), (some (72, true)), []⟩,
      ⟨(some 74), .mov (.t 16), (some (72, true)), []⟩,
      ⟨(some 75), .bin .eql (.t 73) (.t 74), (some (72, true)), []⟩,
      ⟨(some 76), .pick (.t 72) (.t 75) (.c (.bool false)), none, []⟩,
      ⟨(some 77), .mov (.t 76), none, []⟩,
      ⟨(some 78), .loadn 2 (.t 9), (some (77, true)), []⟩,
      ⟨(some 79), .build [.int .i64 0, .int .i64 0] [], (some (77, true)), []⟩,
      ⟨(some 80), .eqA false (.s [(0, 1, false, .c 0), (1, 1, false, .c 0)]) (.t 78) (.t 79), (some (77, true)), []⟩,
      ⟨(some 81), .pick (.t 77) (.t 80) (.c (.bool false)), none, []⟩,
      ⟨(some 82), .mov (.t 81), none, []⟩,
      ⟨(some 83), .loadn 2 (.t 11), (some (82, true)), []⟩,
      ⟨(some 84), .build [.int .i64 0, .int .i64 0] [], (some (82, true)), []⟩,
      ⟨(some 85), .eqA false (.s [(0, 1, false, .c 0), (1, 1, false, .c 0)]) (.t 83) (.t 84), (some (82, true)), []⟩,
      ⟨(some 86), .pick (.t 82) (.t 85) (.c (.bool false)), none, []⟩,
      ⟨(some 87), .mov (.t 86), none, []⟩,
      ⟨(some 88), .loadn 2 (.t 13), (some (87, true)), []⟩,
      ⟨(some 89), .build [.int .i64 0, .int .i64 0] [], (some (87, true)), []⟩,
      ⟨(some 90), .eqA false (.s [(0, 1, false, .c 0), (1, 1, false, .c 0)]) (.t 88) (.t 89), (some (87, true)), []⟩,
      ⟨(some 91), .pick (.t 87) (.t 90) (.c (.bool false)), none, []⟩,
      ⟨(some 6), .mov (.t 91), none, []⟩])
    (.ret))
    (.skip)))
  (.seq (.seq (.dreg [⟨(some 92), .loadn 1 (.t 3), none, []⟩,
    ⟨(some 93), .mov (.t 1), none, []⟩,
    ⟨(some 94), .call (.c (.fn 19 [] [])) [.t 92, .t 93], none, [1, 0]⟩,
    ⟨(some 95), .mov (.t 94), none, [0, 1, 2]⟩,
    ⟨(some 96), .mov (.t 10), (some (95, true)), [2, 1, 0, 3]⟩,
    ⟨(some 97), .bin .neq (.t 96) (.c (.int .i64 0)), (some (95, true)), [0, 1, 2, 3, 4]⟩,
    ⟨(some 98), .mov (.t 97), (some (95, true)), [4, 2, 1, 0, 3, 5]⟩,
    ⟨(some 99), .loadn 2 (.t 9), (some (98, false)), [5, 3, 0, 1, 2, 4, 6]⟩,
    ⟨(some 100), .loadn 1 (.t 3), (some (98, false)), [5, 3, 0, 1, 2, 4, 6]⟩,
    ⟨(some 101), .mov (.t 1), (some (98, false)), [5, 3, 0, 1, 2, 4, 6]⟩,
    ⟨(some 102), .call (.c (.fn 20 [] [])) [.t 100, .t 101], (some (98, false)), [4, 2, 1, 0, 3, 5, 6, 9, 8]⟩,
    ⟨(some 103), .eqA true (.s [(0, 1, false, .c 0), (1, 1, false, .c 0)]) (.t 99) (.t 102), (some (98, false)), [8, 9, 4, 2, 1, 0, 3, 5, 6, 10, 7]⟩,
    ⟨(some 104), .pick (.t 98) (.c (.bool true)) (.t 103), (some (95, true)), [7, 10, 9, 8, 5, 0, 1, 2, 4, 3, 11, 6]⟩,
    ⟨(some 105), .pick (.t 95) (.t 104) (.c (.bool false)), none, [6, 11, 4, 5, 8, 9, 10, 7, 2, 1, 0, 12, 3]⟩,
    ⟨(some 106), .mov (.t 105), none, [3, 12, 0, 1, 2, 7, 9, 8, 5, 4, 11, 6, 10, 13]⟩,
    ⟨(some 107), .loadn 1 (.t 3), (some (106, false)), [13, 10, 6, 11, 4, 5, 8, 9, 7, 2, 1, 0, 12, 3, 14]⟩,
    ⟨(some 108), .mov (.t 1), (some (106, false)), [13, 10, 6, 11, 4, 5, 8, 9, 7, 2, 1, 0, 12, 3, 14]⟩,
    ⟨(some 109), .call (.c (.fn 19 [] [])) [.t 107, .t 108], (some (106, false)), [3, 12, 0, 1, 2, 7, 9, 8, 5, 4, 11, 6, 10, 13, 14, 16, 15]⟩,
    ⟨(some 110), .un .not (.t 109), (some (106, false)), [15, 16, 13, 10, 6, 11, 4, 5, 8, 9, 7, 2, 1, 0, 12, 3, 14, 17]⟩,
    ⟨(some 111), .mov (.t 110), (some (106, false)), [3, 12, 0, 1, 2, 7, 9, 8, 5, 4, 11, 6, 10, 13, 16, 15, 14, 17, 18]⟩,
    ⟨(some 112), .mov (.t 10), (some (111, true)), [18, 17, 14, 15, 16, 13, 10, 6, 11, 4, 5, 8, 9, 7, 2, 1, 0, 12, 3, 19]⟩,
    ⟨(some 113), .bin .neq (.t 112) (.c (.int .i64 2)), (some (111, true)), [3, 12, 0, 1, 2, 7, 9, 8, 5, 4, 11, 6, 10, 13, 16, 15, 14, 17, 18, 19, 20]⟩,
    ⟨(some 114), .mov (.t 113), (some (111, true)), [20, 18, 17, 14, 15, 16, 13, 10, 6, 11, 4, 5, 8, 9, 7, 2, 1, 0, 12, 3, 19, 21]⟩,
    ⟨(some 115), .loadn 2 (.t 9), (some (114, false)), [21, 19, 3, 12, 0, 1, 2, 7, 9, 8, 5, 4, 11, 6, 10, 13, 16, 15, 14, 17, 18, 20, 22]⟩,
    ⟨(some 116), .build [.int .i64 0, .int .i64 0] [], (some (114, false)), [21, 19, 3, 12, 0, 1, 2, 7, 9, 8, 5, 4, 11, 6, 10, 13, 16, 15, 14, 17, 18, 20, 22]⟩,
    ⟨(some 117), .eqA true (.s [(0, 1, false, .c 0), (1, 1, false, .c 0)]) (.t 115) (.t 116), (some (114, false)), [20, 18, 17, 14, 15, 16, 13, 10, 6, 11, 4, 5, 8, 9, 7, 2, 1, 0, 12, 3, 19, 21, 22, 24, 23]⟩,
    ⟨(some 118), .pick (.t 114) (.c (.bool true)) (.t 117), (some (111, true)), [23, 24, 21, 3, 12, 0, 1, 2, 7, 9, 8, 5, 4, 11, 6, 10, 13, 16, 15, 14, 17, 18, 20, 19, 25, 22]⟩,
    ⟨(some 119), .pick (.t 111) (.t 118) (.c (.bool false)), (some (106, false)), [22, 25, 20, 21, 24, 23, 18, 17, 15, 16, 13, 10, 6, 11, 4, 5, 8, 9, 7, 2, 1, 0, 12, 3, 14, 26, 19]⟩,
    ⟨(some 120), .pick (.t 106) (.c (.bool true)) (.t 119), none, [19, 26, 16, 15, 17, 18, 23, 24, 21, 20, 25, 22, 13, 10, 6, 11, 4, 5, 8, 9, 7, 2, 1, 0, 12, 3, 27, 14]⟩])
  (.cond (.t 120)
    (.seq (.reg [⟨(some 6), .mov (.c (.bool false)), none, []⟩])
    (.ret))
    (.skip)))
  (.seq (.seq (.reg [⟨(some 121), .loadn 1 (.t 3), none, []⟩,
    ⟨(some 122), .mov (.t 2), none, []⟩,
    ⟨(some 123), .call (.c (.fn 21 [] [])) [.t 121, .t 122], none, []⟩,
    ⟨(some 124), .un .not (.t 123), none, []⟩])
  (.cond (.t 124)
    (.seq (.reg [⟨(some 125), .mov (.t 12), none, []⟩,
      ⟨(some 126), .bin .eql (.t 125) (.c (.int .i64 2)), none, []⟩,
      ⟨(some 127), .mov (.t 126), none, []⟩,
      ⟨(some 128), .mov (.t 14), (some (127, true)), []⟩,
      ⟨(some 129), .bin .eql (.t 128) (.c (.int .i64 2)), (some (127, true)), []⟩,
      ⟨(some 130), .pick (.t 127) (.t 129) (.c (.bool false)), none, []⟩,
      ⟨(some 131), .mov (.t 130), none, []⟩,
      ⟨(some 132), .loadn 2 (.t 11), (some (131, true)), []⟩,
      ⟨(some 133), .build [.int .i64 0, .int .i64 0] [], (some (131, true)), []⟩,
      ⟨(some 134), .eqA false (.s [(0, 1, false, .c 0), (1, 1, false, .c 0)]) (.t 132) (.t 133), (some (131, true)), []⟩,
      ⟨(some 135), .pick (.t 131) (.t 134) (.c (.bool false)), none, []⟩,
      ⟨(some 136), .mov (.t 135), none, []⟩,
      ⟨(some 137), .loadn 2 (.t 13), (some (136, true)), []⟩,
      ⟨(some 138), .build [.int .i64 0, .int .i64 0] [], (some (136, true)), []⟩,
      ⟨(some 139), .eqA false (.s [(0, 1, false, .c 0), (1, 1, false, .c 0)]) (.t 137) (.t 138), (some (136, true)), []⟩,
      ⟨(some 140), .pick (.t 136) (.t 139) (.c (.bool false)), none, []⟩,
      ⟨(some 6), .mov (.t 140), none, []⟩])
    (.ret))
    (.skip)))
  (.seq (.dreg [⟨(some 141), .mov (.t 12), none, []⟩,
    ⟨(some 142), .bin .eql (.t 141) (.c (.int .i64 0)), none, [0]⟩,
    ⟨(some 143), .mov (.t 142), none, [0, 1]⟩,
    ⟨(some 144), .loadn 2 (.t 11), (some (143, true)), [1, 0, 2]⟩,
    ⟨(some 145), .loadn 1 (.t 3), (some (143, true)), [1, 0, 2]⟩,
    ⟨(some 146), .mov (.t 2), (some (143, true)), [1, 0, 2]⟩,
    ⟨(some 147), .call (.c (.fn 22 [] [])) [.t 145, .t 146], (some (143, true)), [0, 1, 2, 5, 4]⟩,
    ⟨(some 148), .eqA false (.s [(0, 1, false, .c 0), (1, 1, false, .c 0)]) (.t 144) (.t 147), (some (143, true)), [4, 5, 0, 1, 2, 6, 3]⟩,
    ⟨(some 149), .pick (.t 143) (.t 148) (.c (.bool false)), none, [3, 6, 5, 4, 1, 0, 7, 2]⟩,
    ⟨(some 150), .mov (.t 149), none, [2, 7, 0, 1, 4, 5, 3, 6, 8]⟩,
    ⟨(some 151), .mov (.t 14), (some (150, true)), [8, 6, 3, 5, 4, 1, 0, 7, 2, 9]⟩,
    ⟨(some 152), .bin .eql (.t 151) (.c (.int .i64 0)), (some (150, true)), [2, 7, 0, 1, 4, 5, 3, 6, 8, 9, 10]⟩,
    ⟨(some 153), .pick (.t 150) (.t 152) (.c (.bool false)), none, [10, 8, 6, 3, 5, 4, 1, 0, 7, 2, 11, 9]⟩,
    ⟨(some 154), .mov (.t 153), none, [11, 2, 7, 0, 1, 4, 5, 3, 6, 8, 10, 9, 12]⟩,
    ⟨(some 155), .loadn 2 (.t 13), (some (154, true)), [12, 9, 10, 8, 6, 3, 5, 4, 1, 0, 7, 2, 11, 13]⟩,
    ⟨(some 156), .loadn 1 (.t 3), (some (154, true)), [12, 9, 10, 8, 6, 3, 5, 4, 1, 0, 7, 2, 11, 13]⟩,
    ⟨(some 157), .mov (.t 2), (some (154, true)), [12, 9, 10, 8, 6, 3, 5, 4, 1, 0, 7, 2, 11, 13]⟩,
    ⟨(some 158), .call (.c (.fn 23 [] [])) [.t 156, .t 157], (some (154, true)), [11, 2, 7, 0, 1, 4, 5, 3, 6, 8, 10, 9, 12, 13, 16, 15]⟩,
    ⟨(some 159), .eqA false (.s [(0, 1, false, .c 0), (1, 1, false, .c 0)]) (.t 155) (.t 158), (some (154, true)), [15, 16, 11, 2, 7, 0, 1, 4, 5, 3, 6, 8, 10, 9, 12, 13, 17, 14]⟩,
    ⟨(some 160), .pick (.t 154) (.t 159) (.c (.bool false)), none, [14, 17, 16, 15, 12, 9, 10, 8, 6, 3, 5, 4, 1, 0, 7, 2, 11, 18, 13]⟩,
    ⟨(some 6), .mov (.t 160), none, [18, 16, 15, 14, 13, 12, 11, 10, 9, 8, 7, 6, 5, 4, 3, 2, 1, 0, 17, 19]⟩])
  (.ret))))))))))))), 161, [.t 6]⟩
def xf4l0 : XCode := .seq (.seq (.reg [⟨(some 113), .mov (.t 13), none, []⟩,
    ⟨(some 114), .faddr 0 (.t 3), none, []⟩,
    ⟨(some 115), .load1 (.t 114), none, []⟩,
    ⟨(some 116), .len (.t 115), none, []⟩,
    ⟨(some 117), .bin .lss (.t 113) (.t 116), none, []⟩])
  (.cond (.t 117)
    (.skip)
    (.exit 0)))
  (.seq (.block 1 (.seq (.reg [⟨(some 120), .faddr 0 (.t 3), none, []⟩,
     ⟨(some 121), .load1 (.t 120), none, []⟩,
     ⟨(some 122), .mov (.t 13), none, []⟩,
     ⟨(some 123), .iaddr 2 (.t 121) (.t 122), none, []⟩,
     ⟨(some 124), .loadn 2 (.t 123), none, []⟩,
     ⟨(some 14), .new 48 [.int .i64 0, .int .i64 0], none, []⟩,
     ⟨none, .store 2 (.t 14) (.t 124), none, []⟩])
   (.seq (.dreg [⟨(some 126), .loadn 1 (.t 3), none, []⟩,
     ⟨(some 127), .call (.c (.fn 14 [] [])) [.t 126], none, [0]⟩,
     ⟨(some 128), .faddr 1 (.t 14), none, []⟩,
     ⟨(some 129), .load1 (.t 128), none, [2]⟩,
     ⟨(some 130), .call (.c (.fn 16 [] [])) [.t 127, .t 129], none, [2, 0, 3, 1]⟩,
     ⟨(some 125), .mov (.t 130), none, [1, 3, 0, 2, 4]⟩,
     ⟨(some 131), .extract (.t 125) 0, none, [4, 2, 0, 3, 1, 5]⟩,
     ⟨(some 132), .extract (.t 125) 1, none, [4, 2, 0, 3, 1, 5]⟩,
     ⟨(some 15), .new 32 [.int .i64 0, .int .i64 0], none, []⟩,
     ⟨none, .store 2 (.t 15) (.t 131), none, [5, 3, 2, 1, 0, 4, 6, 8]⟩,
     ⟨(some 16), .mov (.t 132), none, [8, 6, 5, 4, 3, 2, 1, 0, 9, 7]⟩])
   (.seq (.dreg [⟨(some 134), .loadn 1 (.t 3), none, []⟩,
     ⟨(some 135), .call (.c (.fn 14 [] [])) [.t 134], none, [0]⟩,
     ⟨(some 136), .faddr 0 (.t 14), none, []⟩,
     ⟨(some 137), .load1 (.t 136), none, [2]⟩,
     ⟨(some 138), .call (.c (.fn 15 [] [])) [.t 135, .t 137], none, [2, 0, 3, 1]⟩,
     ⟨(some 133), .mov (.t 138), none, [1, 3, 0, 2, 4]⟩,
     ⟨(some 139), .extract (.t 133) 0, none, [4, 2, 0, 3, 1, 5]⟩,
     ⟨(some 140), .extract (.t 133) 1, none, [4, 2, 0, 3, 1, 5]⟩,
     ⟨(some 17), .new 32 [.int .i64 0, .int .i64 0], none, []⟩,
     ⟨none, .store 2 (.t 17) (.t 139), none, [5, 3, 2, 1, 0, 4, 6, 8]⟩,
     ⟨(some 18), .mov (.t 140), none, [8, 6, 5, 4, 3, 2, 1, 0, 9, 7]⟩])
   (.seq (.reg [⟨(some 141), .mov (.t 16), none, []⟩,
     ⟨(some 142), .bin .neq (.t 141) (.c (.int .i64 0)), none, []⟩,
     ⟨(some 143), .mov (.t 142), none, []⟩,
     ⟨(some 144), .mov (.t 18), (some (143, false)), []⟩,
     ⟨(some 145), .bin .neq (.t 144) (.c (.int .i64 0)), (some (143, false)), []⟩,
     ⟨(some 146), .pick (.t 143) (.c (.bool true)) (.t 145), none, []⟩,
     ⟨(some 147), .mov (.t 146), none, []⟩,
     ⟨(some 148), .loadn 2 (.t 15), (some (147, false)), []⟩,
     ⟨(some 149), .faddr 0 (.t 14), (some (147, false)), []⟩,
     ⟨(some 150), .load1 (.t 149), (some (147, false)), []⟩,
     ⟨(some 151), .faddr 0 (.t 14), (some (147, false)), []⟩,
     ⟨(some 152), .load1 (.t 151), (some (147, false)), []⟩,
     ⟨(some 153), .build [.int .i64 0, .int .i64 0] [(0, 1, .t 150), (1, 1, .t 152)], (some (147, false)), []⟩,
     ⟨(some 154), .eqA true (.s [(0, 1, false, .c 0), (1, 1, false, .c 0)]) (.t 148) (.t 153), (some (147, false)), []⟩,
     ⟨(some 155), .pick (.t 147) (.c (.bool true)) (.t 154), none, []⟩,
     ⟨(some 156), .mov (.t 155), none, []⟩,
     ⟨(some 157), .loadn 2 (.t 17), (some (156, false)), []⟩,
     ⟨(some 158), .faddr 1 (.t 14), (some (156, false)), []⟩,
     ⟨(some 159), .load1 (.t 158), (some (156, false)), []⟩,
     ⟨(some 160), .faddr 1 (.t 14), (some (156, false)), []⟩,
     ⟨(some 161), .load1 (.t 160), (some (156, false)), []⟩,
     ⟨(some 162), .build [.int .i64 0, .int .i64 0] [(0, 1, .t 159), (1, 1, .t 161)], (some (156, false)), []⟩,
     ⟨(some 163), .eqA true (.s [(0, 1, false, .c 0), (1, 1, false, .c 0)]) (.t 157) (.t 162), (some (156, false)), []⟩,
     ⟨(some 164), .pick (.t 156) (.c (.bool true)) (.t 163), none, []⟩])
   (.cond (.t 164)
     (.seq (.reg [⟨(some 6), .mov (.c (.bool false)), none, []⟩])
     (.ret))
     (.skip)))))))
  (.reg [⟨(some 118), .mov (.t 13), none, []⟩,
    ⟨(some 119), .bin .add (.t 118) (.c (.int .i64 1)), none, []⟩,
    ⟨(some 13), .mov (.t 119), none, []⟩]))
def xf4 : XFunc := ⟨.seq (.reg [⟨(some 3), .box 24 (.t 0), none, []⟩,
    ⟨(some 6), .mov (.c (.bool false)), none, []⟩])
  (.seq (.seq (.reg [⟨(some 26), .call (.c (.fn 11 [] [])) [], none, []⟩,
    ⟨(some 27), .un .not (.t 26), none, []⟩])
  (.cond (.t 27)
    (.seq (.reg [⟨(some 6), .mov (.c (.bool false)), none, []⟩])
    (.ret))
    (.skip)))
  (.seq (.seq (.reg [⟨(some 28), .loadn 1 (.t 3), none, []⟩,
    ⟨(some 29), .call (.c (.fn 12 [] [])) [.t 28], none, []⟩,
    ⟨(some 30), .un .not (.t 29), none, []⟩,
    ⟨(some 31), .mov (.t 30), none, []⟩,
    ⟨(some 32), .loadn 1 (.t 3), (some (31, false)), []⟩,
    ⟨(some 33), .call (.c (.fn 24 [] [])) [.t 32], (some (31, false)), []⟩,
    ⟨(some 34), .bin .neq (.t 33) (.c (.int .i64 0)), (some (31, false)), []⟩,
    ⟨(some 35), .pick (.t 31) (.c (.bool true)) (.t 34), none, []⟩,
    ⟨(some 36), .mov (.t 35), none, []⟩,
    ⟨(some 37), .loadn 1 (.t 3), (some (36, false)), []⟩,
    ⟨(some 38), .mov (.t 1), (some (36, false)), []⟩,
    ⟨(some 39), .call (.c (.fn 21 [] [])) [.t 37, .t 38], (some (36, false)), []⟩,
    ⟨(some 40), .un .not (.t 39), (some (36, false)), []⟩,
    ⟨(some 41), .pick (.t 36) (.c (.bool true)) (.t 40), none, []⟩,
    ⟨(some 42), .mov (.t 41), none, []⟩,
    ⟨(some 43), .mov (.t 2), (some (42, false)), []⟩,
    ⟨(some 44), .call (.c (.fn 25 [] [])) [.t 43, .c (.int .i64 0), .c (.int .i64 1000000000)], (some (42, false)), []⟩,
    ⟨(some 45), .un .not (.t 44), (some (42, false)), []⟩,
    ⟨(some 46), .pick (.t 42) (.c (.bool true)) (.t 45), none, []⟩])
  (.cond (.t 46)
    (.seq (.reg [⟨(some 6), .mov (.c (.bool true)), none, []⟩])
    (.ret))
    (.skip)))
  (.seq (.reg [⟨(some 48), .loadn 1 (.t 3), none, []⟩,
    ⟨(some 49), .call (.c (.fn 14 [] [])) [.t 48], none, []⟩,
    ⟨(some 50), .mov (.t 1), none, []⟩,
    ⟨(some 51), .call (.c (.fn 16 [] [])) [.t 49, .t 50], none, []⟩,
    ⟨(some 47), .mov (.t 51), none, []⟩,
    ⟨(some 52), .extract (.t 47) 0, none, []⟩,
    ⟨(some 53), .extract (.t 47) 1, none, []⟩,
    ⟨(some 7), .new 32 [.int .i64 0, .int .i64 0], none, []⟩,
    ⟨none, .store 2 (.t 7) (.t 52), none, []⟩,
    ⟨(some 8), .mov (.t 53), none, []⟩])
  (.seq (.seq (.reg [⟨(some 54), .mov (.t 8), none, []⟩,
    ⟨(some 55), .bin .neq (.t 54) (.c (.int .i64 0)), none, []⟩,
    ⟨(some 56), .mov (.t 55), none, []⟩,
    ⟨(some 57), .loadn 1 (.t 3), (some (56, false)), []⟩,
    ⟨(some 58), .faddr 0 (.t 7), (some (56, false)), []⟩,
    ⟨(some 59), .load1 (.t 58), (some (56, false)), []⟩,
    ⟨(some 60), .call (.c (.fn 19 [] [])) [.t 57, .t 59], (some (56, false)), []⟩,
    ⟨(some 61), .un .not (.t 60), (some (56, false)), []⟩,
    ⟨(some 62), .pick (.t 56) (.c (.bool true)) (.t 61), none, []⟩,
    ⟨(some 63), .mov (.t 62), none, []⟩,
    ⟨(some 64), .loadn 1 (.t 3), (some (63, false)), []⟩,
    ⟨(some 65), .faddr 1 (.t 7), (some (63, false)), []⟩,
    ⟨(some 66), .load1 (.t 65), (some (63, false)), []⟩,
    ⟨(some 67), .call (.c (.fn 19 [] [])) [.t 64, .t 66], (some (63, false)), []⟩,
    ⟨(some 68), .un .not (.t 67), (some (63, false)), []⟩,
    ⟨(some 69), .pick (.t 63) (.c (.bool true)) (.t 68), none, []⟩,
    ⟨(some 70), .mov (.t 69), none, []⟩,
    ⟨(some 71), .faddr 1 (.t 7), (some (70, false)), []⟩,
    ⟨(some 72), .load1 (.t 71), (some (70, false)), []⟩,
    ⟨(some 73), .faddr 0 (.t 7), (some (70, false)), []⟩,
    ⟨(some 74), .load1 (.t 73), (some (70, false)), []⟩,
    ⟨(some 75), .bin .sub (.t 72) (.t 74), (some (70, false)), []⟩,
    ⟨(some 76), .call (.c (.fn 25 [] [])) [.t 75, .c (.int .i64 0), .c (.int .i64 1)], (some (70, false)), []⟩,
    ⟨(some 77), .un .not (.t 76), (some (70, false)), []⟩,
    ⟨(some 78), .pick (.t 70) (.c (.bool true)) (.t 77), none, []⟩])
  (.cond (.t 78)
    (.seq (.reg [⟨(some 6), .mov (.c (.bool false)), none, []⟩])
    (.ret))
    (.skip)))
  (.seq (.dreg [⟨(some 80), .loadn 1 (.t 3), none, []⟩,
    ⟨(some 81), .call (.c (.fn 14 [] [])) [.t 80], none, [0]⟩,
    ⟨(some 82), .faddr 0 (.t 7), none, []⟩,
    ⟨(some 83), .load1 (.t 82), none, [2]⟩,
    ⟨(some 84), .call (.c (.fn 15 [] [])) [.t 81, .t 83], none, [2, 0, 3, 1]⟩,
    ⟨(some 79), .mov (.t 84), none, [1, 3, 0, 2, 4]⟩,
    ⟨(some 85), .extract (.t 79) 0, none, [4, 2, 0, 3, 1, 5]⟩,
    ⟨(some 86), .extract (.t 79) 1, none, [4, 2, 0, 3, 1, 5]⟩,
    ⟨(some 9), .new 32 [.int .i64 0, .int .i64 0], none, []⟩,
    ⟨none, .store 2 (.t 9) (.t 85), none, [5, 3, 2, 1, 0, 4, 6, 8]⟩,
    ⟨(some 10), .mov (.t 86), none, [8, 6, 5, 4, 3, 2, 1, 0, 9, 7]⟩])
  (.seq (.dreg [⟨(some 88), .loadn 1 (.t 3), none, []⟩,
    ⟨(some 89), .call (.c (.fn 14 [] [])) [.t 88], none, [0]⟩,
    ⟨(some 90), .faddr 1 (.t 7), none, []⟩,
    ⟨(some 91), .load1 (.t 90), none, [2]⟩,
    ⟨(some 92), .call (.c (.fn 15 [] [])) [.t 89, .t 91], none, [2, 0, 3, 1]⟩,
    ⟨(some 87), .mov (.t 92), none, [1, 3, 0, 2, 4]⟩,
    ⟨(some 93), .extract (.t 87) 0, none, [4, 2, 0, 3, 1, 5]⟩,
    ⟨(some 94), .extract (.t 87) 1, none, [4, 2, 0, 3, 1, 5]⟩,
    ⟨(some 11), .new 32 [.int .i64 0, .int .i64 0], none, []⟩,
    ⟨none, .store 2 (.t 11) (.t 93), none, [5, 3, 2, 1, 0, 4, 6, 8]⟩,
    ⟨(some 12), .mov (.t 94), none, [8, 6, 5, 4, 3, 2, 1, 0, 9, 7]⟩])
  (.seq (.seq (.reg [⟨(some 95), .mov (.t 10), none, []⟩,
    ⟨(some 96), .bin .neq (.t 95) (.c (.int .i64 0)), none, []⟩,
    ⟨(some 97), .mov (.t 96), none, []⟩,
    ⟨(some 98), .mov (.t 12), (some (97, false)), []⟩,
    ⟨(some 99), .bin .neq (.t 98) (.c (.int .i64 0)), (some (97, false)), []⟩,
    ⟨(some 100), .pick (.t 97) (.c (.bool true)) (.t 99), none, []⟩,
    ⟨(some 101), .mov (.t 100), none, []⟩,
    ⟨(some 102), .faddr 0 (.t 9), (some (101, false)), []⟩,
    ⟨(some 103), .load1 (.t 102), (some (101, false)), []⟩,
    ⟨(some 104), .mov (.t 1), (some (101, false)), []⟩,
    ⟨(some 105), .bin .gtr (.t 103) (.t 104), (some (101, false)), []⟩,
    ⟨(some 106), .pick (.t 101) (.c (.bool true)) (.t 105), none, []⟩,
    ⟨(some 107), .mov (.t 106), none, []⟩,
    ⟨(some 108), .faddr 1 (.t 11), (some (107, false)), []⟩,
    ⟨(some 109), .load1 (.t 108), (some (107, false)), []⟩,
    ⟨(some 110), .mov (.t 1), (some (107, false)), []⟩,
    ⟨(some 111), .bin .lss (.t 109) (.t 110), (some (107, false)), []⟩,
    ⟨(some 112), .pick (.t 107) (.c (.bool true)) (.t 111), none, []⟩])
  (.cond (.t 112)
    (.seq (.reg [⟨(some 6), .mov (.c (.bool false)), none, []⟩])
    (.ret))
    (.skip)))
  (.seq (.seq (.reg [⟨(some 13), .mov (.c (.int .i64 0)), none, []⟩])
  (.block 0 (.loop xf4l0)))
  (.seq (.reg [⟨(some 165), .mov (.t 1), none, []⟩,
    ⟨(some 166), .mov (.t 2), none, []⟩,
    ⟨(some 167), .bin .add (.t 165) (.t 166), none, []⟩,
    ⟨(some 168), .loadn 1 (.t 3), none, []⟩,
    ⟨(some 169), .call (.c (.fn 26 [] [])) [.t 168], none, []⟩,
    ⟨(some 170), .field 1 1 false (.t 169), none, []⟩,
    ⟨(some 171), .ext false (.t 167) [.t 170], none, []⟩,
    ⟨(some 19), .mov (.t 171), none, []⟩])
  (.seq (.reg [⟨(some 173), .loadn 1 (.t 3), none, []⟩,
    ⟨(some 174), .call (.c (.fn 14 [] [])) [.t 173], none, []⟩,
    ⟨(some 175), .mov (.t 19), none, []⟩,
    ⟨(some 176), .call (.c (.fn 16 [] [])) [.t 174, .t 175], none, []⟩,
    ⟨(some 172), .mov (.t 176), none, []⟩,
    ⟨(some 177), .extract (.t 172) 0, none, []⟩,
    ⟨(some 178), .extract (.t 172) 1, none, []⟩,
    ⟨(some 20), .new 32 [.int .i64 0, .int .i64 0], none, []⟩,
    ⟨none, .store 2 (.t 20) (.t 177), none, []⟩,
    ⟨(some 21), .mov (.t 178), none, []⟩])
  (.seq (.reg [⟨(some 180), .loadn 1 (.t 3), none, []⟩,
    ⟨(some 181), .call (.c (.fn 14 [] [])) [.t 180], none, []⟩,
    ⟨(some 182), .mov (.t 1), none, []⟩,
    ⟨(some 183), .call (.c (.fn 17 [] [])) [.t 181, .t 182], none, []⟩,
    ⟨(some 179), .mov (.t 183), none, []⟩,
    ⟨(some 184), .extract (.t 179) 0, none, []⟩,
    ⟨(some 185), .extract (.t 179) 1, none, []⟩,
    ⟨(some 22), .new 36 [.int .i64 0, .int .i64 0], none, []⟩,
    ⟨none, .store 2 (.t 22) (.t 184), none, []⟩,
    ⟨(some 23), .mov (.t 185), none, []⟩])
  (.seq (.reg [⟨(some 187), .loadn 1 (.t 3), none, []⟩,
    ⟨(some 188), .call (.c (.fn 14 [] [])) [.t 187], none, []⟩,
    ⟨(some 189), .mov (.t 19), none, []⟩,
    ⟨(some 190), .call (.c (.fn 17 [] [])) [.t 188, .t 189], none, []⟩,
    ⟨(some 186), .mov (.t 190), none, []⟩,
    ⟨(some 191), .extract (.t 186) 0, none, []⟩,
    ⟨(some 192), .extract (.t 186) 1, none, []⟩,
    ⟨(some 24), .new 36 [.int .i64 0, .int .i64 0], none, []⟩,
    ⟨none, .store 2 (.t 24) (.t 191), none, []⟩,
    ⟨(some 25), .mov (.t 192), none, []⟩])
  (.seq (.reg [⟨(some 193), .mov (.t 21), none, []⟩,
    ⟨(some 194), .bin .eql (.t 193) (.c (.int .i64 0)), none, []⟩,
    ⟨(some 195), .mov (.t 194), none, []⟩,
    ⟨(some 196), .faddr 0 (.t 20), (some (195, true)), []⟩,
    ⟨(some 197), .load1 (.t 196), (some (195, true)), []⟩,
    ⟨(some 198), .faddr 0 (.t 7), (some (195, true)), []⟩,
    ⟨(some 199), .load1 (.t 198), (some (195, true)), []⟩,
    ⟨(some 200), .bin .geq (.t 197) (.t 199), (some (195, true)), []⟩,
    ⟨(some 201), .pick (.t 195) (.t 200) (.c (.bool false)), none, []⟩,
    ⟨(some 202), .mov (.t 201), none, []⟩,
    ⟨(some 203), .faddr 1 (.t 20), (some (202, true)), []⟩,
    ⟨(some 204), .load1 (.t 203), (some (202, true)), []⟩,
    ⟨(some 205), .faddr 1 (.t 7), (some (202, true)), []⟩,
    ⟨(some 206), .load1 (.t 205), (some (202, true)), []⟩,
    ⟨(some 207), .bin .geq (.t 204) (.t 206), (some (202, true)), []⟩,
    ⟨(some 208), .pick (.t 202) (.t 207) (.c (.bool false)), none, []⟩,
    ⟨(some 209), .mov (.t 208), none, []⟩,
    ⟨(some 210), .mov (.t 23), (some (209, true)), []⟩,
    ⟨(some 211), .bin .eql (.t 210) (.c (.int .i64 0)), (some (209, true)), []⟩,
    ⟨(some 212), .pick (.t 209) (.t 211) (.c (.bool false)), none, []⟩,
    ⟨(some 213), .mov (.t 212), none, []⟩,
    ⟨(some 214), .mov (.t 25), (some (213, true)), []⟩,
    ⟨(some 215), .bin .eql (.t 214) (.c (.int .i64 0)), (some (213, true)), []⟩,
    ⟨(some 216), .pick (.t 213) (.t 215) (.c (.bool false)), none, []⟩,
    ⟨(some 217), .mov (.t 216), none, []⟩,
    ⟨(some 218), .loadn 2 (.t 22), (some (217, true)), []⟩,
    ⟨(some 219), .call (.c (.fn 27 [] [])) [.t 218], (some (217, true)), []⟩,
    ⟨(some 220), .pick (.t 217) (.t 219) (.c (.bool false)), none, []⟩,
    ⟨(some 221), .mov (.t 220), none, []⟩,
    ⟨(some 222), .loadn 2 (.t 24), (some (221, true)), []⟩,
    ⟨(some 223), .call (.c (.fn 27 [] [])) [.t 222], (some (221, true)), []⟩,
    ⟨(some 224), .pick (.t 221) (.t 223) (.c (.bool false)), none, []⟩,
    ⟨(some 225), .mov (.t 224), none, []⟩,
    ⟨(some 226), .loadn 2 (.t 22), (some (225, true)), []⟩,
    ⟨(some 227), .loadn 2 (.t 24), (some (225, true)), []⟩,
    ⟨(some 228), .call (.c (.fn 28 [] [])) [.t 226, .t 227], (some (225, true)), []⟩,
    ⟨(some 229), .bin .leq (.t 228) (.c (.int .i64 0)), (some (225, true)), []⟩,
    ⟨(some 230), .pick (.t 225) (.t 229) (.c (.bool false)), none, []⟩,
    ⟨(some 6), .mov (.t 230), none, []⟩])
  (.ret)))))))))))))), 231, [.t 6]⟩
def xf27 : XFunc := ⟨.seq (.reg [⟨(some 1), .box 36 (.t 0), none, []⟩,
    ⟨(some 2), .mov (.c (.bool false)), none, []⟩])
  (.seq (.reg [⟨(some 3), .loadn 2 (.t 1), none, []⟩,
    ⟨(some 4), .call (.c (.fn 81 [] [])) [.t 3], none, []⟩,
    ⟨(some 5), .mov (.t 4), none, []⟩,
    ⟨(some 6), .loadn 2 (.t 1), (some (5, true)), []⟩,
    ⟨(some 7), .call (.c (.fn 82 [] [])) [.t 6], (some (5, true)), []⟩,
    ⟨(some 8), .pick (.t 5) (.t 7) (.c (.bool false)), none, []⟩,
    ⟨(some 2), .mov (.t 8), none, []⟩])
  (.ret)), 9, [.t 2]⟩
def xf28 : XFunc := ⟨.seq (.reg [⟨(some 2), .box 36 (.t 0), none, []⟩,
    ⟨(some 3), .box 36 (.t 1), none, []⟩,
    ⟨(some 4), .mov (.c (.int .i64 0)), none, []⟩])
  (.seq (.dreg [⟨(some 7), .faddr 0 (.t 2), none, []⟩,
    ⟨(some 8), .load1 (.t 7), none, [0]⟩,
    ⟨(some 9), .faddr 1 (.t 3), none, []⟩,
    ⟨(some 10), .load1 (.t 9), none, [2]⟩,
    ⟨(some 11), .bin .mul (.t 8) (.t 10), none, [2, 0, 3, 1]⟩,
    ⟨(some 12), .faddr 0 (.t 3), none, []⟩,
    ⟨(some 13), .load1 (.t 12), none, [5]⟩,
    ⟨(some 14), .faddr 1 (.t 2), none, []⟩,
    ⟨(some 15), .load1 (.t 14), none, [7]⟩,
    ⟨(some 16), .bin .mul (.t 13) (.t 15), none, [7, 5, 8, 6]⟩,
    ⟨(some 5), .mov (.t 11), none, [3, 2, 1, 0, 4]⟩,
    ⟨(some 6), .mov (.t 16), none, [8, 7, 6, 5, 4, 3, 2, 1, 0, 10, 9]⟩])
  (.seq (.seq (.reg [⟨(some 17), .mov (.t 5), none, []⟩,
    ⟨(some 18), .mov (.t 6), none, []⟩,
    ⟨(some 19), .bin .lss (.t 17) (.t 18), none, []⟩])
  (.cond (.t 19)
    (.seq (.reg [⟨(some 4), .mov (.c (.int .i64 (-1))), none, []⟩])
    (.ret))
    (.skip)))
  (.seq (.seq (.reg [⟨(some 20), .mov (.t 5), none, []⟩,
    ⟨(some 21), .mov (.t 6), none, []⟩,
    ⟨(some 22), .bin .gtr (.t 20) (.t 21), none, []⟩])
  (.cond (.t 22)
    (.seq (.reg [⟨(some 4), .mov (.c (.int .i64 1)), none, []⟩])
    (.ret))
    (.skip)))
  (.seq (.reg [⟨(some 4), .mov (.c (.int .i64 0)), none, []⟩])
  (.ret))))), 23, [.t 4]⟩
def xf81 : XFunc := ⟨.seq (.reg [⟨(some 1), .box 36 (.t 0), none, []⟩,
    ⟨(some 2), .mov (.c (.bool false)), none, []⟩])
  (.seq (.reg [⟨(some 3), .faddr 1 (.t 1), none, []⟩,
    ⟨(some 4), .load1 (.t 3), none, []⟩,
    ⟨(some 5), .bin .gtr (.t 4) (.c (.int .i64 0)), none, []⟩,
    ⟨(some 6), .mov (.t 5), none, []⟩,
    ⟨(some 7), .faddr 0 (.t 1), (some (6, true)), []⟩,
    ⟨(some 8), .load1 (.t 7), (some (6, true)), []⟩,
    ⟨(some 9), .faddr 1 (.t 1), (some (6, true)), []⟩,
    ⟨(some 10), .load1 (.t 9), (some (6, true)), []⟩,
    ⟨(some 11), .call (.c (.fn 124 [] [])) [.t 8, .t 10], (some (6, true)), []⟩,
    ⟨(some 12), .bin .eql (.t 11) (.c (.int .i64 1)), (some (6, true)), []⟩,
    ⟨(some 13), .pick (.t 6) (.t 12) (.c (.bool false)), none, []⟩,
    ⟨(some 2), .mov (.t 13), none, []⟩])
  (.ret)), 14, [.t 2]⟩
def xf82 : XFunc := ⟨.seq (.reg [⟨(some 1), .box 36 (.t 0), none, []⟩,
    ⟨(some 2), .mov (.c (.bool false)), none, []⟩])
  (.seq (.reg [⟨(some 3), .faddr 0 (.t 1), none, []⟩,
    ⟨(some 4), .load1 (.t 3), none, []⟩,
    ⟨(some 5), .call (.c (.fn 25 [] [])) [.t 4, .c (.int .i64 (-1000000000)), .c (.int .i64 1000000000)], none, []⟩,
    ⟨(some 6), .mov (.t 5), none, []⟩,
    ⟨(some 7), .faddr 1 (.t 1), (some (6, true)), []⟩,
    ⟨(some 8), .load1 (.t 7), (some (6, true)), []⟩,
    ⟨(some 9), .call (.c (.fn 25 [] [])) [.t 8, .c (.int .i64 1), .c (.int .i64 1000000000)], (some (6, true)), []⟩,
    ⟨(some 10), .pick (.t 6) (.t 9) (.c (.bool false)), none, []⟩,
    ⟨(some 2), .mov (.t 10), none, []⟩])
  (.ret)), 11, [.t 2]⟩
structure LawACode (X : FuncId → Option XFunc) : Prop where
  tab : TabCode X
  h3 : X 3 = some xf3
  h4 : X 4 = some xf4
  h27 : X 27 = some xf27
  h28 : X 28 = some xf28
  h81 : X 81 = some xf81
  h82 : X 82 = some xf82
end Go.Proofs.Ytbpflcilndinfaa.Eng
