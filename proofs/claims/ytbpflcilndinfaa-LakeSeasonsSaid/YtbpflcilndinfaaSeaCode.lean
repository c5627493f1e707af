/-
  LAKE, code: what the functions of the seasons are, compiled.
-/
import Derived.Test.YtbpflcilndinfaaEngY
namespace Go.Proofs.Ytbpflcilndinfaa.Eng
set_option linter.unusedSimpArgs false
set_option linter.unusedVariables false
def xf8 : XFunc := ⟨.seq (.reg [⟨(some 4), .mov (.c (.bool false)), none, []⟩])
  (.seq (.seq (.reg [⟨(some 11), .call (.c (.fn 11 [] [])) [], none, []⟩,
    ⟨(some 12), .un .not (.t 11), none, []⟩])
  (.cond (.t 12)
    (.seq (.reg [⟨(some 4), .mov (.c (.bool false)), none, []⟩])
    (.ret))
    (.skip)))
  (.seq (.seq (.reg [⟨(some 13), .mov (.t 0), none, []⟩,
    ⟨(some 14), .len (.t 13), none, []⟩,
    ⟨(some 15), .bin .gtr (.t 14) (.c (.int .i64 14)), none, []⟩])
  (.cond (.t 15)
    (.seq (.reg [⟨(some 4), .mov (.c (.bool true)), none, []⟩])
    (.ret))
    (.skip)))
  (.seq (.reg [⟨(some 17), .mov (.t 0), none, []⟩,
    ⟨(some 18), .call (.c (.fn 46 [] [])) [.t 17], none, []⟩,
    ⟨(some 19), .mov (.t 1), none, []⟩,
    ⟨(some 20), .call (.c (.fn 45 [] [])) [.t 18, .t 19], none, []⟩,
    ⟨(some 16), .mov (.t 20), none, []⟩,
    ⟨(some 21), .extract (.t 16) 0, none, []⟩,
    ⟨(some 22), .extract (.t 16) 1, none, []⟩,
    ⟨(some 5), .mov (.t 21), none, []⟩,
    ⟨(some 6), .mov (.t 22), none, []⟩])
  (.seq (.reg [⟨(some 24), .mov (.t 0), none, []⟩,
    ⟨(some 25), .mov (.t 1), none, []⟩,
    ⟨(some 26), .call (.c (.fn 47 [] [])) [.t 24, .t 25], none, []⟩,
    ⟨(some 23), .mov (.t 26), none, []⟩,
    ⟨(some 27), .extract (.t 23) 0, none, []⟩,
    ⟨(some 28), .extract (.t 23) 1, none, []⟩,
    ⟨(some 7), .mov (.t 27), none, []⟩,
    ⟨(some 8), .mov (.t 28), none, []⟩])
  (.seq (.seq (.reg [⟨(some 29), .mov (.t 6), none, []⟩,
    ⟨(some 30), .mov (.t 8), none, []⟩,
    ⟨(some 31), .bin .neq (.t 29) (.t 30), none, []⟩,
    ⟨(some 32), .mov (.t 31), none, []⟩,
    ⟨(some 33), .mov (.t 5), (some (32, false)), []⟩,
    ⟨(some 34), .mov (.t 7), (some (32, false)), []⟩,
    ⟨(some 35), .bin .neq (.t 33) (.t 34), (some (32, false)), []⟩,
    ⟨(some 36), .pick (.t 32) (.c (.bool true)) (.t 35), none, []⟩])
  (.cond (.t 36)
    (.seq (.reg [⟨(some 4), .mov (.c (.bool false)), none, []⟩])
    (.ret))
    (.skip)))
  (.seq (.seq (.reg [⟨(some 37), .mov (.t 8), none, []⟩,
    ⟨(some 38), .bin .neq (.t 37) (.c (.int .i64 0)), none, []⟩,
    ⟨(some 39), .mov (.t 38), none, []⟩,
    ⟨(some 40), .mov (.t 1), (some (39, false)), []⟩,
    ⟨(some 41), .call (.c (.fn 25 [] [])) [.t 40, .c (.int .i64 0), .c (.int .i64 99635)], (some (39, false)), []⟩,
    ⟨(some 42), .un .not (.t 41), (some (39, false)), []⟩,
    ⟨(some 43), .pick (.t 39) (.c (.bool true)) (.t 42), none, []⟩])
  (.cond (.t 43)
    (.seq (.reg [⟨(some 4), .mov (.c (.bool true)), none, []⟩])
    (.ret))
    (.skip)))
  (.seq (.reg [⟨(some 45), .mov (.t 0), none, []⟩,
    ⟨(some 46), .call (.c (.fn 46 [] [])) [.t 45], none, []⟩,
    ⟨(some 47), .mov (.t 1), none, []⟩,
    ⟨(some 48), .bin .add (.t 47) (.c (.int .i64 365)), none, []⟩,
    ⟨(some 49), .call (.c (.fn 45 [] [])) [.t 46, .t 48], none, []⟩,
    ⟨(some 44), .mov (.t 49), none, []⟩,
    ⟨(some 50), .extract (.t 44) 0, none, []⟩,
    ⟨(some 51), .extract (.t 44) 1, none, []⟩,
    ⟨(some 9), .mov (.t 50), none, []⟩,
    ⟨(some 10), .mov (.t 51), none, []⟩])
  (.seq (.reg [⟨(some 52), .mov (.t 10), none, []⟩,
    ⟨(some 53), .bin .eql (.t 52) (.c (.int .i64 0)), none, []⟩,
    ⟨(some 54), .mov (.t 53), none, []⟩,
    ⟨(some 55), .mov (.t 9), (some (54, true)), []⟩,
    ⟨(some 56), .mov (.t 5), (some (54, true)), []⟩,
    ⟨(some 57), .bin .eql (.t 55) (.t 56), (some (54, true)), []⟩,
    ⟨(some 58), .pick (.t 54) (.t 57) (.c (.bool false)), none, []⟩,
    ⟨(some 4), .mov (.t 58), none, []⟩])
  (.ret))))))))), 59, [.t 4]⟩
def xf11 : XFunc := ⟨.seq (.reg [⟨(some 0), .mov (.c (.bool false)), none, []⟩])
  (.seq (.reg [⟨(some 11), .call (.c (.fn 56 [] [])) [], none, []⟩,
    ⟨(some 12), .call (.c (.fn 16 [] [])) [.t 11, .c (.int .i64 1501)], none, []⟩,
    ⟨(some 10), .mov (.t 12), none, []⟩,
    ⟨(some 13), .extract (.t 10) 0, none, []⟩,
    ⟨(some 14), .extract (.t 10) 1, none, []⟩,
    ⟨(some 1), .new 32 [.int .i64 0, .int .i64 0], none, []⟩,
    ⟨none, .store 2 (.t 1) (.t 13), none, []⟩,
    ⟨(some 2), .mov (.t 14), none, []⟩])
  (.seq (.reg [⟨(some 16), .call (.c (.fn 57 [] [])) [], none, []⟩,
    ⟨(some 17), .build [.int .i64 0, .int .i64 0] [(0, 1, .c (.int .i64 2950)), (1, 1, .c (.int .i64 500))], none, []⟩,
    ⟨(some 18), .build [.int .i64 0, .int .i64 0, .int .i64 0] [(2, 1, .c (.int .i64 200))], none, []⟩,
    ⟨(some 19), .call (.c (.fn 30 [] [])) [.t 16, .t 17, .t 18], none, []⟩,
    ⟨(some 15), .mov (.t 19), none, []⟩,
    ⟨(some 20), .extract (.t 15) 0, none, []⟩,
    ⟨(some 21), .extract (.t 15) 1, none, []⟩,
    ⟨(some 22), .extract (.t 15) 2, none, []⟩,
    ⟨(some 3), .new 55 [.int .i64 0, .int .i64 0], none, []⟩,
    ⟨(some 4), .new 60 [.int .i64 0, .int .i64 0], none, []⟩,
    ⟨none, .store 2 (.t 3) (.t 20), none, []⟩,
    ⟨none, .store 2 (.t 4) (.t 21), none, []⟩,
    ⟨(some 5), .mov (.t 22), none, []⟩])
  (.seq (.reg [⟨(some 24), .call (.c (.fn 57 [] [])) [], none, []⟩,
    ⟨(some 25), .build [.int .i64 0, .int .i64 0] [(0, 1, .c (.int .i64 2950)), (1, 1, .c (.int .i64 500))], none, []⟩,
    ⟨(some 26), .call (.c (.fn 32 [] [])) [.t 24, .t 25], none, []⟩,
    ⟨(some 23), .mov (.t 26), none, []⟩,
    ⟨(some 27), .extract (.t 23) 0, none, []⟩,
    ⟨(some 28), .extract (.t 23) 1, none, []⟩,
    ⟨(some 6), .new 55 [.int .i64 0, .int .i64 0], none, []⟩,
    ⟨none, .store 2 (.t 6) (.t 27), none, []⟩,
    ⟨(some 7), .mov (.t 28), none, []⟩])
  (.seq (.reg [⟨(some 30), .call (.c (.fn 56 [] [])) [], none, []⟩,
    ⟨(some 31), .buildSlice 3 1 2 false [.int .i64 0, .int .i64 0] [(0, 1, .c (.int .i64 10)), (1, 1, .c (.int .i64 20))], none, []⟩,
    ⟨(some 32), .build [.int .i64 0, .int .i64 0] [(0, 1, .c (.int .i64 50)), (1, 1, .c (.int .i64 52))], none, []⟩,
    ⟨(some 33), .build [.int .i64 0, .int .i64 0, .int .i64 0] [(1, 2, .t 32)], none, []⟩,
    ⟨(some 34), .build [.int .i64 0, .int .i64 0] [(0, 1, .c (.int .i64 54)), (1, 1, .c (.int .i64 55))], none, []⟩,
    ⟨(some 35), .build [.int .i64 0, .int .i64 0, .int .i64 0] [(0, 1, .c (.int .i64 2)), (1, 2, .t 34)], none, []⟩,
    ⟨(some 36), .buildSlice 100 3 2 true [.int .i64 0, .int .i64 0, .int .i64 0, .int .i64 0, .int .i64 0, .int .i64 0] [(0, 3, .t 33), (3, 3, .t 35)], none, []⟩,
    ⟨(some 37), .call (.c (.fn 49 [] [])) [.t 30, .t 31, .t 36], none, []⟩,
    ⟨(some 29), .mov (.t 37), none, []⟩,
    ⟨(some 38), .extract (.t 29) 0, none, []⟩,
    ⟨(some 39), .extract (.t 29) 1, none, []⟩,
    ⟨(some 8), .new 32 [.int .i64 0, .int .i64 0], none, []⟩,
    ⟨none, .store 2 (.t 8) (.t 38), none, []⟩,
    ⟨(some 9), .mov (.t 39), none, []⟩])
  (.seq (.reg [⟨(some 40), .mov (.t 2), none, []⟩,
    ⟨(some 41), .bin .eql (.t 40) (.c (.int .i64 0)), none, []⟩,
    ⟨(some 42), .mov (.t 41), none, []⟩,
    ⟨(some 43), .loadn 2 (.t 1), (some (42, true)), []⟩,
    ⟨(some 44), .build [.int .i64 0, .int .i64 0] [(0, 1, .c (.int .i64 125)), (1, 1, .c (.int .i64 126))], (some (42, true)), []⟩,
    ⟨(some 45), .eqA false (.s [(0, 1, false, .c 0), (1, 1, false, .c 0)]) (.t 43) (.t 44), (some (42, true)), []⟩,
    ⟨(some 46), .pick (.t 42) (.t 45) (.c (.bool false)), none, []⟩,
    ⟨(some 47), .mov (.t 46), none, []⟩,
    ⟨(some 48), .mov (.t 5), (some (47, true)), []⟩,
    ⟨(some 49), .bin .eql (.t 48) (.c (.int .i64 0)), (some (47, true)), []⟩,
    ⟨(some 50), .pick (.t 47) (.t 49) (.c (.bool false)), none, []⟩,
    ⟨(some 51), .mov (.t 50), none, []⟩,
    ⟨(some 52), .loadn 2 (.t 3), (some (51, true)), []⟩,
    ⟨(some 53), .build [.int .i64 0, .int .i64 0] [(0, 1, .c (.int .i64 3000)), (1, 1, .c (.int .i64 295))], (some (51, true)), []⟩,
    ⟨(some 54), .eqA false (.s [(0, 1, false, .c 0), (1, 1, false, .c 0)]) (.t 52) (.t 53), (some (51, true)), []⟩,
    ⟨(some 55), .pick (.t 51) (.t 54) (.c (.bool false)), none, []⟩,
    ⟨(some 56), .mov (.t 55), none, []⟩,
    ⟨(some 57), .loadn 2 (.t 4), (some (56, true)), []⟩,
    ⟨(some 58), .build [.int .i64 0, .int .i64 0] [(0, 1, .c (.int .i64 15)), (1, 1, .c (.int .i64 140))], (some (56, true)), []⟩,
    ⟨(some 59), .eqA false (.s [(0, 1, false, .c 0), (1, 1, false, .c 0)]) (.t 57) (.t 58), (some (56, true)), []⟩,
    ⟨(some 60), .pick (.t 56) (.t 59) (.c (.bool false)), none, []⟩,
    ⟨(some 61), .mov (.t 60), none, []⟩,
    ⟨(some 62), .mov (.t 7), (some (61, true)), []⟩,
    ⟨(some 63), .bin .eql (.t 62) (.c (.int .i64 0)), (some (61, true)), []⟩,
    ⟨(some 64), .pick (.t 61) (.t 63) (.c (.bool false)), none, []⟩,
    ⟨(some 65), .mov (.t 64), none, []⟩,
    ⟨(some 66), .loadn 2 (.t 6), (some (65, true)), []⟩,
    ⟨(some 67), .build [.int .i64 0, .int .i64 0] [(0, 1, .c (.int .i64 2500)), (1, 1, .c (.int .i64 50))], (some (65, true)), []⟩,
    ⟨(some 68), .eqA false (.s [(0, 1, false, .c 0), (1, 1, false, .c 0)]) (.t 66) (.t 67), (some (65, true)), []⟩,
    ⟨(some 69), .pick (.t 65) (.t 68) (.c (.bool false)), none, []⟩,
    ⟨(some 70), .mov (.t 69), none, []⟩,
    ⟨(some 71), .mov (.t 9), (some (70, true)), []⟩,
    ⟨(some 72), .bin .eql (.t 71) (.c (.int .i64 0)), (some (70, true)), []⟩,
    ⟨(some 73), .pick (.t 70) (.t 72) (.c (.bool false)), none, []⟩,
    ⟨(some 74), .mov (.t 73), none, []⟩,
    ⟨(some 75), .loadn 2 (.t 8), (some (74, true)), []⟩,
    ⟨(some 76), .build [.int .i64 0, .int .i64 0] [(0, 1, .c (.int .i64 510)), (1, 1, .c (.int .i64 520))], (some (74, true)), []⟩,
    ⟨(some 77), .eqA false (.s [(0, 1, false, .c 0), (1, 1, false, .c 0)]) (.t 75) (.t 76), (some (74, true)), []⟩,
    ⟨(some 78), .pick (.t 74) (.t 77) (.c (.bool false)), none, []⟩,
    ⟨(some 0), .mov (.t 78), none, []⟩])
  (.ret)))))), 79, [.t 0]⟩
def xf25 : XFunc := ⟨.seq (.reg [⟨(some 6), .mov (.c (.bool false)), none, []⟩])
  (.seq (.reg [⟨(some 7), .mov (.t 1), none, []⟩,
    ⟨(some 8), .mov (.t 0), none, []⟩,
    ⟨(some 9), .bin .leq (.t 7) (.t 8), none, []⟩,
    ⟨(some 10), .mov (.t 9), none, []⟩,
    ⟨(some 11), .mov (.t 0), (some (10, true)), []⟩,
    ⟨(some 12), .mov (.t 2), (some (10, true)), []⟩,
    ⟨(some 13), .bin .leq (.t 11) (.t 12), (some (10, true)), []⟩,
    ⟨(some 14), .pick (.t 10) (.t 13) (.c (.bool false)), none, []⟩,
    ⟨(some 6), .mov (.t 14), none, []⟩])
  (.ret)), 15, [.t 6]⟩
def xf45l0 : XCode := .seq (.reg [⟨(some 30), .bin .lss (.t 29) (.t 28), none, []⟩])
  (.seq (.cond (.t 30)
    (.skip)
    (.exit 0))
  (.seq (.block 1 (.seq (.reg [⟨(some 31), .iaddr 3 (.t 27) (.t 29), none, []⟩,
     ⟨(some 32), .loadn 3 (.t 31), none, []⟩,
     ⟨(some 9), .new 171 [.int .i64 0, .int .i64 0, .int .i64 0], none, []⟩,
     ⟨none, .store 3 (.t 9) (.t 32), none, []⟩])
   (.seq (.reg [⟨(some 33), .loadn 3 (.t 9), none, []⟩,
     ⟨(some 34), .mov (.t 1), none, []⟩,
     ⟨(some 35), .bin .rem (.t 34) (.c (.int .i64 365)), none, []⟩,
     ⟨(some 36), .call (.c (.fn 97 [] [])) [.t 33, .t 35], none, []⟩])
   (.cond (.t 36)
     (.reg [⟨(some 37), .mov (.t 7), none, []⟩,
       ⟨(some 38), .faddr 2 (.t 9), none, []⟩,
       ⟨(some 39), .load1 (.t 38), none, []⟩,
       ⟨(some 40), .ext true (.t 37) [.t 39], none, []⟩,
       ⟨(some 7), .mov (.t 40), none, []⟩])
     (.skip)))))
  (.reg [⟨(some 41), .bin .add (.t 29) (.c (.int .i64 1)), none, []⟩,
    ⟨(some 29), .mov (.t 41), none, []⟩])))
def xf45 : XFunc := ⟨.seq (.reg [⟨(some 2), .box 84 (.t 0), none, []⟩,
    ⟨(some 4), .mov (.c (.int .i64 0)), none, []⟩,
    ⟨(some 5), .mov (.c (.int .i64 0)), none, []⟩])
  (.seq (.dreg [⟨(some 10), .load1 (.t 2), none, []⟩,
    ⟨(some 11), .len (.t 10), none, [0]⟩,
    ⟨(some 12), .bin .gtr (.t 11) (.c (.int .i64 12)), none, [0, 1]⟩,
    ⟨(some 13), .call (.c (.fn 59 [] [])) [.t 12, .c (.int .i64 8)], none, [1, 0, 2]⟩,
    ⟨(some 14), .load1 (.t 2), none, []⟩,
    ⟨(some 15), .len (.t 14), none, [4]⟩,
    ⟨(some 16), .fn true 94 [] [.t 2], none, []⟩,
    ⟨(some 17), .call (.c (.fn 93 [] [])) [.t 15, .t 16], none, [2, 0, 1, 4, 3, 6, 5]⟩,
    ⟨(some 18), .mov (.t 1), none, []⟩,
    ⟨(some 19), .call (.c (.fn 96 [] [])) [.t 18, .c (.int .i64 0), .c (.int .i64 100000)], none, [5, 6, 3, 4, 1, 0, 2, 7, 8]⟩,
    ⟨(some 20), .un .not (.t 19), none, [8, 7, 2, 0, 1, 4, 3, 6, 5, 9]⟩,
    ⟨(some 21), .call (.c (.fn 59 [] [])) [.t 20, .c (.int .i64 2)], none, [5, 6, 3, 4, 1, 0, 2, 7, 8, 9, 10]⟩,
    ⟨(some 22), .buildSlice 117 1 3 false [.nilfn, .nilfn, .nilfn] [(0, 1, .t 13), (1, 1, .t 17), (2, 1, .t 21)], none, [10, 9, 8, 5, 6, 4, 2, 0, 1, 11, 7, 3]⟩,
    ⟨(some 23), .call (.c (.fn 58 [] [])) [.t 22], none, [3, 7, 1, 0, 2, 4, 6, 5, 8, 9, 10, 11, 12]⟩,
    ⟨(some 6), .mov (.t 23), none, [12, 11, 10, 9, 8, 7, 6, 5, 4, 3, 2, 1, 0, 13]⟩])
  (.seq (.seq (.reg [⟨(some 24), .mov (.t 6), none, []⟩,
    ⟨(some 25), .bin .neq (.t 24) (.c (.int .i64 0)), none, []⟩])
  (.cond (.t 25)
    (.seq (.reg [⟨(some 26), .mov (.t 6), none, []⟩,
      ⟨(some 4), .mov (.c (.int .i64 0)), none, []⟩,
      ⟨(some 5), .mov (.t 26), none, []⟩])
    (.ret))
    (.skip)))
  (.seq (.reg [⟨(some 7), .mov (.c (.int .i64 0)), none, []⟩])
  (.seq (.seq (.reg [⟨(some 27), .load1 (.t 2), none, []⟩,
    ⟨(some 28), .len (.t 27), none, []⟩,
    ⟨(some 29), .mov (.c (.int .i64 0)), none, []⟩])
  (.block 0 (.loop xf45l0)))
  (.seq (.reg [⟨(some 42), .mov (.t 7), none, []⟩,
    ⟨(some 4), .mov (.t 42), none, []⟩,
    ⟨(some 5), .mov (.c (.int .i64 0)), none, []⟩])
  (.ret)))))), 43, [.t 4, .t 5]⟩
def xf46 : XFunc := ⟨.seq (.reg [⟨(some 2), .mov (.c (.nils)), none, []⟩])
  (.seq (.reg [⟨(some 3), .buildSlice 171 3 0 true [] [], none, []⟩,
    ⟨(some 4), .mov (.t 0), none, []⟩,
    ⟨(some 5), .append 171 3 24 (.t 3) (.t 4), none, []⟩,
    ⟨(some 2), .mov (.t 5), none, []⟩])
  (.ret)), 6, [.t 2]⟩
def xf47l0 : XCode := .seq (.seq (.reg [⟨(some 14), .mov (.t 6), none, []⟩,
    ⟨(some 15), .mov (.t 0), none, []⟩,
    ⟨(some 16), .len (.t 15), none, []⟩,
    ⟨(some 17), .bin .lss (.t 14) (.t 16), none, []⟩])
  (.cond (.t 17)
    (.skip)
    (.exit 0)))
  (.seq (.block 1 (.seq (.reg [⟨(some 20), .mov (.t 0), none, []⟩,
     ⟨(some 21), .mov (.t 6), none, []⟩,
     ⟨(some 22), .iaddr 3 (.t 20) (.t 21), none, []⟩,
     ⟨(some 23), .faddr 0 (.t 22), none, []⟩,
     ⟨(some 24), .load1 (.t 23), none, []⟩,
     ⟨(some 25), .call (.c (.fn 25 [] [])) [.t 24, .c (.int .i64 0), .c (.int .i64 364)], none, []⟩,
     ⟨(some 26), .un .not (.t 25), none, []⟩,
     ⟨(some 27), .mov (.t 26), none, []⟩,
     ⟨(some 28), .mov (.t 0), (some (27, false)), []⟩,
     ⟨(some 29), .mov (.t 6), (some (27, false)), []⟩,
     ⟨(some 30), .iaddr 3 (.t 28) (.t 29), (some (27, false)), []⟩,
     ⟨(some 31), .faddr 1 (.t 30), (some (27, false)), []⟩,
     ⟨(some 32), .load1 (.t 31), (some (27, false)), []⟩,
     ⟨(some 33), .call (.c (.fn 25 [] [])) [.t 32, .c (.int .i64 0), .c (.int .i64 364)], (some (27, false)), []⟩,
     ⟨(some 34), .un .not (.t 33), (some (27, false)), []⟩,
     ⟨(some 35), .pick (.t 27) (.c (.bool true)) (.t 34), none, []⟩,
     ⟨(some 36), .mov (.t 35), none, []⟩,
     ⟨(some 37), .mov (.t 0), (some (36, false)), []⟩,
     ⟨(some 38), .mov (.t 6), (some (36, false)), []⟩,
     ⟨(some 39), .iaddr 3 (.t 37) (.t 38), (some (36, false)), []⟩,
     ⟨(some 40), .faddr 2 (.t 39), (some (36, false)), []⟩,
     ⟨(some 41), .load1 (.t 40), (some (36, false)), []⟩,
     ⟨(some 42), .call (.c (.fn 25 [] [])) [.t 41, .c (.int .i64 0), .c (.int .i64 1000000)], (some (36, false)), []⟩,
     ⟨(some 43), .un .not (.t 42), (some (36, false)), []⟩,
     ⟨(some 44), .pick (.t 36) (.c (.bool true)) (.t 43), none, []⟩])
   (.cond (.t 44)
     (.seq (.reg [⟨(some 4), .mov (.c (.int .i64 0)), none, []⟩,
       ⟨(some 5), .mov (.c (.int .i64 2)), none, []⟩])
     (.ret))
     (.skip))))
  (.reg [⟨(some 18), .mov (.t 6), none, []⟩,
    ⟨(some 19), .bin .add (.t 18) (.c (.int .i64 1)), none, []⟩,
    ⟨(some 6), .mov (.t 19), none, []⟩]))
def xf47l1 : XCode := .seq (.seq (.reg [⟨(some 50), .mov (.t 9), none, []⟩,
    ⟨(some 51), .mov (.t 0), none, []⟩,
    ⟨(some 52), .len (.t 51), none, []⟩,
    ⟨(some 53), .bin .lss (.t 50) (.t 52), none, []⟩])
  (.cond (.t 53)
    (.skip)
    (.exit 2)))
  (.seq (.block 3 (.seq (.dreg [⟨(some 56), .mov (.t 7), none, []⟩,
     ⟨(some 57), .mov (.t 0), none, []⟩,
     ⟨(some 58), .mov (.t 9), none, []⟩,
     ⟨(some 59), .iaddr 3 (.t 57) (.t 58), none, [2, 1]⟩,
     ⟨(some 60), .faddr 0 (.t 59), none, [1, 2, 3]⟩,
     ⟨(some 61), .load1 (.t 60), none, [3, 2, 1, 4]⟩,
     ⟨(some 62), .mov (.t 0), none, []⟩,
     ⟨(some 63), .mov (.t 9), none, []⟩,
     ⟨(some 64), .iaddr 3 (.t 62) (.t 63), none, [7, 6]⟩,
     ⟨(some 65), .faddr 1 (.t 64), none, [6, 7, 8]⟩,
     ⟨(some 66), .load1 (.t 65), none, [8, 7, 6, 9]⟩,
     ⟨(some 67), .call (.c (.fn 25 [] [])) [.t 56, .t 61, .t 66], none, [9, 6, 7, 8, 4, 1, 2, 3, 10, 5, 0]⟩,
     ⟨(some 10), .mov (.t 67), none, [10, 9, 8, 7, 6, 5, 4, 3, 2, 1, 0, 11]⟩])
   (.seq (.seq (.dreg [⟨(some 68), .mov (.t 0), none, []⟩,
     ⟨(some 69), .mov (.t 9), none, []⟩,
     ⟨(some 70), .iaddr 3 (.t 68) (.t 69), none, [1, 0]⟩,
     ⟨(some 71), .faddr 0 (.t 70), none, [0, 1, 2]⟩,
     ⟨(some 72), .load1 (.t 71), none, [2, 1, 0, 3]⟩,
     ⟨(some 73), .mov (.t 0), none, []⟩,
     ⟨(some 74), .mov (.t 9), none, []⟩,
     ⟨(some 75), .iaddr 3 (.t 73) (.t 74), none, [6, 5]⟩,
     ⟨(some 76), .faddr 1 (.t 75), none, [5, 6, 7]⟩,
     ⟨(some 77), .load1 (.t 76), none, [7, 6, 5, 8]⟩,
     ⟨(some 78), .bin .gtr (.t 72) (.t 77), none, [8, 5, 6, 7, 3, 0, 1, 2, 9, 4]⟩])
   (.cond (.t 78)
     (.reg [⟨(some 79), .mov (.t 7), none, []⟩,
       ⟨(some 80), .mov (.t 0), none, []⟩,
       ⟨(some 81), .mov (.t 9), none, []⟩,
       ⟨(some 82), .iaddr 3 (.t 80) (.t 81), none, []⟩,
       ⟨(some 83), .faddr 0 (.t 82), none, []⟩,
       ⟨(some 84), .load1 (.t 83), none, []⟩,
       ⟨(some 85), .bin .geq (.t 79) (.t 84), none, []⟩,
       ⟨(some 86), .mov (.t 85), none, []⟩,
       ⟨(some 87), .mov (.t 7), (some (86, false)), []⟩,
       ⟨(some 88), .mov (.t 0), (some (86, false)), []⟩,
       ⟨(some 89), .mov (.t 9), (some (86, false)), []⟩,
       ⟨(some 90), .iaddr 3 (.t 88) (.t 89), (some (86, false)), []⟩,
       ⟨(some 91), .faddr 1 (.t 90), (some (86, false)), []⟩,
       ⟨(some 92), .load1 (.t 91), (some (86, false)), []⟩,
       ⟨(some 93), .bin .leq (.t 87) (.t 92), (some (86, false)), []⟩,
       ⟨(some 94), .pick (.t 86) (.c (.bool true)) (.t 93), none, []⟩,
       ⟨(some 10), .mov (.t 94), none, []⟩])
     (.skip)))
   (.seq (.reg [⟨(some 95), .mov (.t 10), none, []⟩])
   (.cond (.t 95)
     (.reg [⟨(some 96), .mov (.t 8), none, []⟩,
       ⟨(some 97), .mov (.t 0), none, []⟩,
       ⟨(some 98), .mov (.t 9), none, []⟩,
       ⟨(some 99), .iaddr 3 (.t 97) (.t 98), none, []⟩,
       ⟨(some 100), .faddr 2 (.t 99), none, []⟩,
       ⟨(some 101), .load1 (.t 100), none, []⟩,
       ⟨(some 102), .ext true (.t 96) [.t 101], none, []⟩,
       ⟨(some 8), .mov (.t 102), none, []⟩])
     (.skip))))))
  (.reg [⟨(some 54), .mov (.t 9), none, []⟩,
    ⟨(some 55), .bin .add (.t 54) (.c (.int .i64 1)), none, []⟩,
    ⟨(some 9), .mov (.t 55), none, []⟩]))
def xf47 : XFunc := ⟨.seq (.reg [⟨(some 4), .mov (.c (.int .i64 0)), none, []⟩,
    ⟨(some 5), .mov (.c (.int .i64 0)), none, []⟩])
  (.seq (.seq (.reg [⟨(some 11), .mov (.t 0), none, []⟩,
    ⟨(some 12), .len (.t 11), none, []⟩,
    ⟨(some 13), .bin .gtr (.t 12) (.c (.int .i64 12)), none, []⟩])
  (.cond (.t 13)
    (.seq (.reg [⟨(some 4), .mov (.c (.int .i64 0)), none, []⟩,
      ⟨(some 5), .mov (.c (.int .i64 8)), none, []⟩])
    (.ret))
    (.skip)))
  (.seq (.seq (.reg [⟨(some 6), .mov (.c (.int .i64 0)), none, []⟩])
  (.block 0 (.loop xf47l0)))
  (.seq (.seq (.reg [⟨(some 45), .mov (.t 1), none, []⟩,
    ⟨(some 46), .call (.c (.fn 25 [] [])) [.t 45, .c (.int .i64 0), .c (.int .i64 100000)], none, []⟩,
    ⟨(some 47), .un .not (.t 46), none, []⟩])
  (.cond (.t 47)
    (.seq (.reg [⟨(some 4), .mov (.c (.int .i64 0)), none, []⟩,
      ⟨(some 5), .mov (.c (.int .i64 2)), none, []⟩])
    (.ret))
    (.skip)))
  (.seq (.reg [⟨(some 48), .mov (.t 1), none, []⟩,
    ⟨(some 49), .bin .rem (.t 48) (.c (.int .i64 365)), none, []⟩,
    ⟨(some 7), .mov (.t 49), none, []⟩,
    ⟨(some 8), .mov (.c (.int .i64 0)), none, []⟩])
  (.seq (.seq (.reg [⟨(some 9), .mov (.c (.int .i64 0)), none, []⟩])
  (.block 2 (.loop xf47l1)))
  (.seq (.reg [⟨(some 103), .mov (.t 8), none, []⟩,
    ⟨(some 4), .mov (.t 103), none, []⟩,
    ⟨(some 5), .mov (.c (.int .i64 0)), none, []⟩])
  (.ret))))))), 104, [.t 4, .t 5]⟩
def xf58l0 : XCode := .seq (.reg [⟨(some 9), .bin .lss (.t 8) (.t 7), none, []⟩])
  (.seq (.cond (.t 9)
    (.skip)
    (.exit 0))
  (.seq (.block 1 (.seq (.reg [⟨(some 10), .iaddr 1 (.t 6) (.t 8), none, []⟩,
     ⟨(some 11), .load1 (.t 10), none, []⟩,
     ⟨(some 4), .mov (.t 11), none, []⟩])
   (.seq (.reg [⟨(some 12), .mov (.t 4), none, []⟩,
     ⟨(some 13), .call (.t 12) [], none, []⟩,
     ⟨(some 5), .mov (.t 13), none, []⟩])
   (.seq (.reg [⟨(some 14), .mov (.t 5), none, []⟩,
     ⟨(some 15), .bin .neq (.t 14) (.c (.int .i64 0)), none, []⟩])
   (.cond (.t 15)
     (.seq (.reg [⟨(some 16), .mov (.t 5), none, []⟩,
       ⟨(some 2), .mov (.t 16), none, []⟩])
     (.ret))
     (.skip))))))
  (.reg [⟨(some 17), .bin .add (.t 8) (.c (.int .i64 1)), none, []⟩,
    ⟨(some 8), .mov (.t 17), none, []⟩])))
def xf58 : XFunc := ⟨.seq (.reg [⟨(some 2), .mov (.c (.int .i64 0)), none, []⟩])
  (.seq (.seq (.reg [⟨(some 6), .mov (.t 0), none, []⟩,
    ⟨(some 7), .len (.t 6), none, []⟩,
    ⟨(some 8), .mov (.c (.int .i64 0)), none, []⟩])
  (.block 0 (.loop xf58l0)))
  (.seq (.reg [⟨(some 2), .mov (.c (.int .i64 0)), none, []⟩])
  (.ret))), 18, [.t 2]⟩
def xf59 : XFunc := ⟨.seq (.reg [⟨(some 2), .box 4 (.t 0), none, []⟩,
    ⟨(some 3), .box 27 (.t 1), none, []⟩,
    ⟨(some 4), .mov (.c (.nilfn)), none, []⟩])
  (.seq (.reg [⟨(some 5), .fn true 106 [] [.t 2, .t 3], none, []⟩,
    ⟨(some 4), .mov (.t 5), none, []⟩])
  (.ret)), 6, [.t 4]⟩
def xf60l0 : XCode := .seq (.reg [⟨(some 10), .bin .lss (.t 9) (.t 8), none, []⟩])
  (.seq (.cond (.t 10)
    (.skip)
    (.exit 0))
  (.seq (.block 1 (.seq (.reg [⟨(some 11), .mov (.t 9), none, []⟩,
     ⟨(some 6), .mov (.t 11), none, []⟩])
   (.seq (.reg [⟨(some 12), .mov (.t 1), none, []⟩,
     ⟨(some 13), .mov (.t 6), none, []⟩,
     ⟨(some 14), .call (.t 12) [.t 13], none, []⟩,
     ⟨(some 7), .mov (.t 14), none, []⟩])
   (.seq (.reg [⟨(some 15), .mov (.t 7), none, []⟩,
     ⟨(some 16), .bin .neq (.t 15) (.c (.int .i64 0)), none, []⟩])
   (.cond (.t 16)
     (.seq (.reg [⟨(some 17), .mov (.t 6), none, []⟩,
       ⟨(some 18), .mov (.t 7), none, []⟩,
       ⟨(some 4), .mov (.t 17), none, []⟩,
       ⟨(some 5), .mov (.t 18), none, []⟩])
     (.ret))
     (.skip))))))
  (.reg [⟨(some 19), .bin .add (.t 9) (.c (.int .i64 1)), none, []⟩,
    ⟨(some 9), .mov (.t 19), none, []⟩])))
def xf60 : XFunc := ⟨.seq (.reg [⟨(some 4), .mov (.c (.int .i64 0)), none, []⟩,
    ⟨(some 5), .mov (.c (.int .i64 0)), none, []⟩])
  (.seq (.seq (.reg [⟨(some 8), .mov (.t 0), none, []⟩,
    ⟨(some 9), .mov (.c (.int .i64 0)), none, []⟩])
  (.block 0 (.loop xf60l0)))
  (.seq (.reg [⟨(some 4), .mov (.c (.int .i64 0)), none, []⟩,
    ⟨(some 5), .mov (.c (.int .i64 0)), none, []⟩])
  (.ret))), 20, [.t 4, .t 5]⟩
def xf93 : XFunc := ⟨.seq (.reg [⟨(some 2), .box 3 (.t 0), none, []⟩,
    ⟨(some 3), .box 121 (.t 1), none, []⟩,
    ⟨(some 4), .mov (.c (.nilfn)), none, []⟩])
  (.seq (.reg [⟨(some 5), .fn true 130 [] [.t 2, .t 3], none, []⟩,
    ⟨(some 4), .mov (.t 5), none, []⟩])
  (.ret)), 6, [.t 4]⟩
def xf94 : XFunc := ⟨.seq (.reg [⟨(some 3), .mov (.c (.int .i64 0)), none, []⟩])
  (.seq (.reg [⟨(some 4), .load1 (.t 1), none, []⟩,
    ⟨(some 5), .mov (.t 0), none, []⟩,
    ⟨(some 6), .iaddr 3 (.t 4) (.t 5), none, []⟩,
    ⟨(some 7), .loadn 3 (.t 6), none, []⟩,
    ⟨(some 8), .call (.c (.fn 95 [] [])) [.t 7], none, []⟩,
    ⟨(some 3), .mov (.t 8), none, []⟩])
  (.ret)), 9, [.t 3]⟩
def xf95 : XFunc := ⟨.seq (.reg [⟨(some 1), .box 171 (.t 0), none, []⟩,
    ⟨(some 2), .mov (.c (.int .i64 0)), none, []⟩])
  (.seq (.seq (.reg [⟨(some 3), .faddr 0 (.t 1), none, []⟩,
    ⟨(some 4), .load1 (.t 3), none, []⟩,
    ⟨(some 5), .call (.c (.fn 96 [] [])) [.t 4, .c (.int .i64 0), .c (.int .i64 364)], none, []⟩,
    ⟨(some 6), .un .not (.t 5), none, []⟩,
    ⟨(some 7), .mov (.t 6), none, []⟩,
    ⟨(some 8), .faddr 1 (.t 1), (some (7, false)), []⟩,
    ⟨(some 9), .load1 (.t 8), (some (7, false)), []⟩,
    ⟨(some 10), .call (.c (.fn 96 [] [])) [.t 9, .c (.int .i64 0), .c (.int .i64 364)], (some (7, false)), []⟩,
    ⟨(some 11), .un .not (.t 10), (some (7, false)), []⟩,
    ⟨(some 12), .pick (.t 7) (.c (.bool true)) (.t 11), none, []⟩,
    ⟨(some 13), .mov (.t 12), none, []⟩,
    ⟨(some 14), .faddr 2 (.t 1), (some (13, false)), []⟩,
    ⟨(some 15), .load1 (.t 14), (some (13, false)), []⟩,
    ⟨(some 16), .call (.c (.fn 96 [] [])) [.t 15, .c (.int .i64 0), .c (.int .i64 1000000)], (some (13, false)), []⟩,
    ⟨(some 17), .un .not (.t 16), (some (13, false)), []⟩,
    ⟨(some 18), .pick (.t 13) (.c (.bool true)) (.t 17), none, []⟩])
  (.cond (.t 18)
    (.seq (.reg [⟨(some 2), .mov (.c (.int .i64 2)), none, []⟩])
    (.ret))
    (.skip)))
  (.seq (.reg [⟨(some 2), .mov (.c (.int .i64 0)), none, []⟩])
  (.ret))), 19, [.t 2]⟩
def xf96 : XFunc := ⟨.seq (.reg [⟨(some 6), .mov (.c (.bool false)), none, []⟩])
  (.seq (.reg [⟨(some 7), .mov (.t 1), none, []⟩,
    ⟨(some 8), .mov (.t 0), none, []⟩,
    ⟨(some 9), .bin .leq (.t 7) (.t 8), none, []⟩,
    ⟨(some 10), .mov (.t 9), none, []⟩,
    ⟨(some 11), .mov (.t 0), (some (10, true)), []⟩,
    ⟨(some 12), .mov (.t 2), (some (10, true)), []⟩,
    ⟨(some 13), .bin .leq (.t 11) (.t 12), (some (10, true)), []⟩,
    ⟨(some 14), .pick (.t 10) (.t 13) (.c (.bool false)), none, []⟩,
    ⟨(some 6), .mov (.t 14), none, []⟩])
  (.ret)), 15, [.t 6]⟩
def xf97 : XFunc := ⟨.seq (.reg [⟨(some 2), .box 171 (.t 0), none, []⟩,
    ⟨(some 4), .mov (.c (.bool false)), none, []⟩])
  (.seq (.seq (.reg [⟨(some 5), .faddr 0 (.t 2), none, []⟩,
    ⟨(some 6), .load1 (.t 5), none, []⟩,
    ⟨(some 7), .faddr 1 (.t 2), none, []⟩,
    ⟨(some 8), .load1 (.t 7), none, []⟩,
    ⟨(some 9), .bin .leq (.t 6) (.t 8), none, []⟩])
  (.cond (.t 9)
    (.seq (.reg [⟨(some 10), .mov (.t 1), none, []⟩,
      ⟨(some 11), .faddr 0 (.t 2), none, []⟩,
      ⟨(some 12), .load1 (.t 11), none, []⟩,
      ⟨(some 13), .faddr 1 (.t 2), none, []⟩,
      ⟨(some 14), .load1 (.t 13), none, []⟩,
      ⟨(some 15), .call (.c (.fn 96 [] [])) [.t 10, .t 12, .t 14], none, []⟩,
      ⟨(some 4), .mov (.t 15), none, []⟩])
    (.ret))
    (.skip)))
  (.seq (.reg [⟨(some 16), .mov (.t 1), none, []⟩,
    ⟨(some 17), .faddr 0 (.t 2), none, []⟩,
    ⟨(some 18), .load1 (.t 17), none, []⟩,
    ⟨(some 19), .bin .geq (.t 16) (.t 18), none, []⟩,
    ⟨(some 20), .mov (.t 19), none, []⟩,
    ⟨(some 21), .mov (.t 1), (some (20, false)), []⟩,
    ⟨(some 22), .faddr 1 (.t 2), (some (20, false)), []⟩,
    ⟨(some 23), .load1 (.t 22), (some (20, false)), []⟩,
    ⟨(some 24), .bin .leq (.t 21) (.t 23), (some (20, false)), []⟩,
    ⟨(some 25), .pick (.t 20) (.c (.bool true)) (.t 24), none, []⟩,
    ⟨(some 4), .mov (.t 25), none, []⟩])
  (.ret))), 26, [.t 4]⟩
def xf106 : XFunc := ⟨.seq (.reg [⟨(some 2), .mov (.c (.int .i64 0)), none, []⟩])
  (.seq (.seq (.reg [⟨(some 3), .load1 (.t 0), none, []⟩])
  (.cond (.t 3)
    (.seq (.reg [⟨(some 4), .load1 (.t 1), none, []⟩,
      ⟨(some 2), .mov (.t 4), none, []⟩])
    (.ret))
    (.skip)))
  (.seq (.reg [⟨(some 2), .mov (.c (.int .i64 0)), none, []⟩])
  (.ret))), 5, [.t 2]⟩
def xf130 : XFunc := ⟨.seq (.reg [⟨(some 2), .mov (.c (.int .i64 0)), none, []⟩])
  (.seq (.reg [⟨(some 6), .load1 (.t 0), none, []⟩,
    ⟨(some 7), .load1 (.t 1), none, []⟩,
    ⟨(some 8), .call (.c (.fn 60 [] [])) [.t 6, .t 7], none, []⟩,
    ⟨(some 5), .mov (.t 8), none, []⟩,
    ⟨(some 9), .extract (.t 5) 0, none, []⟩,
    ⟨(some 10), .extract (.t 5) 1, none, []⟩,
    ⟨(some 3), .mov (.t 9), none, []⟩,
    ⟨(some 4), .mov (.t 10), none, []⟩])
  (.seq (.reg [⟨(some 11), .mov (.t 4), none, []⟩,
    ⟨(some 2), .mov (.t 11), none, []⟩])
  (.ret))), 12, [.t 2]⟩


/-- The code is known. -/
structure SeaCode (X : FuncId → Option XFunc) : Prop where
  h8 : X 8 = some xf8
  h11 : X 11 = some xf11
  h25 : X 25 = some xf25
  h45 : X 45 = some xf45
  h46 : X 46 = some xf46
  h47 : X 47 = some xf47
  h58 : X 58 = some xf58
  h59 : X 59 = some xf59
  h60 : X 60 = some xf60
  h93 : X 93 = some xf93
  h94 : X 94 = some xf94
  h95 : X 95 = some xf95
  h96 : X 96 = some xf96
  h97 : X 97 = some xf97
  h106 : X 106 = some xf106
  h130 : X 130 = some xf130
end Go.Proofs.Ytbpflcilndinfaa.Eng
