/-
  CODE of Pair.
-/
import Derived.Test.YtbpflcilndinfaaEngY
import Derived.Test.YtbpflcilndinfaaCode1
namespace Go.Proofs.Ytbpflcilndinfaa.Eng
set_option linter.unusedSimpArgs false
set_option linter.unusedVariables false
def xf89 : XFunc := ⟨.seq (.reg [⟨(some 1), .box 53 (.t 0), none, []⟩,
      ⟨(some 2), .new 147 [.nils, .nils, .int .i64 0], none, []⟩,
      ⟨(some 3), .mov (.c (.int .i64 0)), none, []⟩])
  (.seq (.reg [⟨(some 7), .faddr 0 (.t 1), none, []⟩,
      ⟨(some 8), .loadn 1 (.t 7), none, []⟩,
      ⟨(some 9), .faddr 1 (.t 1), none, []⟩,
      ⟨(some 10), .loadn 1 (.t 9), none, []⟩,
      ⟨(some 11), .build [.nils, .nils] [(0, 1, .t 8), (1, 1, .t 10)], none, []⟩,
      ⟨(some 4), .new 201 [.nils, .nils], none, []⟩,
      ⟨none, .store 2 (.t 4) (.t 11), none, []⟩])
  (.seq (.reg [⟨(some 12), .faddr 2 (.t 1), none, []⟩,
      ⟨(some 13), .load1 (.t 12), none, []⟩,
      ⟨(some 14), .build [.nils, .nils, .int .i64 0] [(2, 1, .t 13)], none, []⟩,
      ⟨(some 5), .new 147 [.nils, .nils, .int .i64 0], none, []⟩,
      ⟨none, .store 3 (.t 5) (.t 14), none, []⟩])
  (.seq (.dreg [⟨(some 15), .fn false 127 [] [.t 4, .t 5], none, []⟩,
      ⟨(some 16), .call (.c (.fn 93 [] [])) [.c (.int .i64 2), .t 15], none, [0]⟩,
      ⟨(some 17), .faddr 2 (.t 1), none, []⟩,
      ⟨(some 18), .load1 (.t 17), none, [2]⟩,
      ⟨(some 19), .call (.c (.fn 96 [] [])) [.t 18, .c (.int .i64 0), .c (.int .i64 1000)], none, [0, 2, 1, 3]⟩,
      ⟨(some 20), .un .not (.t 19), none, [3, 1, 2, 0, 4]⟩,
      ⟨(some 21), .call (.c (.fn 59 [] [])) [.t 20, .c (.int .i64 2)], none, [0, 2, 1, 3, 4, 5]⟩,
      ⟨(some 22), .buildSlice 117 1 2 false [.nilfn, .nilfn] [(0, 1, .t 16), (1, 1, .t 21)], none, [5, 4, 3, 2, 0, 6, 1]⟩,
      ⟨(some 23), .call (.c (.fn 58 [] [])) [.t 22], none, [1, 0, 2, 3, 4, 5, 6, 7]⟩,
      ⟨(some 6), .mov (.t 23), none, [7, 6, 5, 4, 3, 2, 1, 0, 8]⟩])
  (.seq (.reg [⟨(some 24), .loadn 3 (.t 5), none, []⟩,
      ⟨(some 25), .mov (.t 6), none, []⟩,
      ⟨none, .store 3 (.t 2) (.t 24), none, []⟩,
      ⟨(some 3), .mov (.t 25), none, []⟩])
  (.ret))))), 26, [.cn 2 3, .t 3]⟩
def xf127 : XFunc := ⟨.seq (.reg [⟨(some 4), .mov (.c (.int .i64 0)), none, []⟩])
  (.seq (.reg [⟨(some 8), .mov (.t 0), none, []⟩,
      ⟨(some 9), .iaddrA 1 2 (.t 1) (.t 8), none, []⟩,
      ⟨(some 10), .loadn 1 (.t 9), none, []⟩,
      ⟨(some 11), .call (.c (.fn 63 [] [])) [.t 10], none, []⟩,
      ⟨(some 7), .mov (.t 11), none, []⟩,
      ⟨(some 12), .extract (.t 7) 0, none, []⟩,
      ⟨(some 13), .extract (.t 7) 1, none, []⟩,
      ⟨(some 5), .new 123 [.nils], none, []⟩,
      ⟨none, .store 1 (.t 5) (.t 12), none, []⟩,
      ⟨(some 6), .mov (.t 13), none, []⟩])
  (.seq (.reg [⟨(some 14), .mov (.t 0), none, []⟩,
      ⟨(some 15), .loadn 1 (.t 5), none, []⟩,
      ⟨(some 16), .faddr 0 (.t 2), none, []⟩,
      ⟨(some 17), .iaddrA 1 2 (.t 16) (.t 14), none, []⟩,
      ⟨none, .store 1 (.t 17) (.t 15), none, []⟩])
  (.seq (.reg [⟨(some 18), .mov (.t 6), none, []⟩,
      ⟨(some 4), .mov (.t 18), none, []⟩])
  (.ret)))), 19, [.t 4]⟩
def xf83 : XFunc := ⟨.seq (.reg [⟨(some 2), .box 53 (.t 0), none, []⟩,
      ⟨(some 3), .box 55 (.t 1), none, []⟩,
      ⟨(some 4), .new 151 [.nils, .nils, .int .i64 0, .int .i64 0, .int .i64 0], none, []⟩,
      ⟨(some 5), .mov (.c (.int .i64 0)), none, []⟩])
  (.seq (.reg [⟨(some 10), .loadn 3 (.t 2), none, []⟩,
      ⟨(some 11), .call (.c (.fn 89 [] [])) [.t 10], none, []⟩,
      ⟨(some 9), .mov (.t 11), none, []⟩,
      ⟨(some 12), .extract (.t 9) 0, none, []⟩,
      ⟨(some 13), .extract (.t 9) 1, none, []⟩,
      ⟨(some 6), .new 147 [.nils, .nils, .int .i64 0], none, []⟩,
      ⟨none, .store 3 (.t 6) (.t 12), none, []⟩,
      ⟨(some 7), .mov (.t 13), none, []⟩])
  (.seq (.seq (.reg [⟨(some 14), .mov (.t 7), none, []⟩,
      ⟨(some 15), .bin .neq (.t 14) (.c (.int .i64 0)), none, []⟩])
  (.cond (.t 15) (.seq (.reg [⟨(some 16), .build [.nils, .nils, .int .i64 0, .int .i64 0, .int .i64 0] [], none, []⟩,
        ⟨(some 17), .mov (.t 7), none, []⟩,
        ⟨none, .store 5 (.t 4) (.t 16), none, []⟩,
        ⟨(some 5), .mov (.t 17), none, []⟩])
    (.ret)) .skip))
  (.seq (.reg [⟨(some 18), .faddr 0 (.t 3), none, []⟩,
      ⟨(some 19), .load1 (.t 18), none, []⟩,
      ⟨(some 20), .faddr 1 (.t 3), none, []⟩,
      ⟨(some 21), .load1 (.t 20), none, []⟩,
      ⟨(some 22), .build [.int .i64 0, .int .i64 0] [(0, 1, .t 19), (1, 1, .t 21)], none, []⟩,
      ⟨(some 8), .new 149 [.int .i64 0, .int .i64 0], none, []⟩,
      ⟨none, .store 2 (.t 8) (.t 22), none, []⟩])
  (.seq (.reg [⟨(some 24), .fn true 125 [] [.t 6, .t 8], none, []⟩,
      ⟨(some 25), .call (.c (.fn 60 [] [])) [.c (.int .i64 2), .t 24], none, []⟩,
      ⟨(some 23), .mov (.t 25), none, []⟩,
      ⟨(some 26), .extract (.t 23) 0, none, []⟩,
      ⟨(some 27), .extract (.t 23) 1, none, []⟩,
      ⟨(some 7), .mov (.t 27), none, []⟩])
  (.seq (.reg [⟨(some 28), .loadn 3 (.t 6), none, []⟩,
      ⟨(some 29), .loadn 2 (.t 8), none, []⟩,
      ⟨(some 30), .build [.nils, .nils, .int .i64 0, .int .i64 0, .int .i64 0] [(0, 3, .t 28), (3, 2, .t 29)], none, []⟩,
      ⟨(some 31), .mov (.t 7), none, []⟩,
      ⟨none, .store 5 (.t 4) (.t 30), none, []⟩,
      ⟨(some 5), .mov (.t 31), none, []⟩])
  (.ret)))))), 32, [.cn 4 5, .t 5]⟩
def xf125 : XFunc := ⟨.seq (.reg [⟨(some 4), .mov (.c (.int .i64 0)), none, []⟩])
  (.seq (.seq (.dreg [⟨(some 5), .mov (.t 0), none, []⟩,
      ⟨(some 6), .faddr 0 (.t 1), none, []⟩,
      ⟨(some 7), .iaddrA 1 2 (.t 6) (.t 5), none, [0, 1]⟩,
      ⟨(some 8), .loadn 1 (.t 7), none, [1, 0, 2]⟩,
      ⟨(some 9), .mov (.t 0), none, []⟩,
      ⟨(some 10), .iaddrA 1 2 (.t 2) (.t 9), none, [4]⟩,
      ⟨(some 11), .load1 (.t 10), none, [4, 5]⟩,
      ⟨(some 12), .call (.c (.fn 112 [] [])) [.t 8, .t 11], none, [5, 4, 2, 0, 1, 6, 3]⟩,
      ⟨(some 13), .un .not (.t 12), none, [3, 6, 1, 0, 2, 4, 5, 7]⟩])
  (.cond (.t 13) (.seq (.reg [⟨(some 4), .mov (.c (.int .i64 2)), none, []⟩])
    (.ret)) .skip))
  (.seq (.reg [⟨(some 4), .mov (.c (.int .i64 0)), none, []⟩])
  (.ret))), 14, [.t 4]⟩
def xf34 : XFunc := ⟨.seq (.reg [⟨(some 1), .box 53 (.t 0), none, []⟩,
      ⟨(some 2), .mov (.c (.int .i64 0)), none, []⟩])
  (.seq (.reg [⟨(some 6), .loadn 3 (.t 1), none, []⟩,
      ⟨(some 7), .call (.c (.fn 89 [] [])) [.t 6], none, []⟩,
      ⟨(some 5), .mov (.t 7), none, []⟩,
      ⟨(some 8), .extract (.t 5) 0, none, []⟩,
      ⟨(some 9), .extract (.t 5) 1, none, []⟩,
      ⟨(some 3), .new 147 [.nils, .nils, .int .i64 0], none, []⟩,
      ⟨none, .store 3 (.t 3) (.t 8), none, []⟩,
      ⟨(some 4), .mov (.t 9), none, []⟩])
  (.seq (.reg [⟨(some 10), .mov (.t 4), none, []⟩,
      ⟨(some 2), .mov (.t 10), none, []⟩])
  (.ret))), 11, [.t 2]⟩
def xf36 : XFunc := ⟨.seq (.reg [⟨(some 2), .box 53 (.t 0), none, []⟩,
      ⟨(some 3), .box 55 (.t 1), none, []⟩,
      ⟨(some 4), .mov (.c (.int .i64 0)), none, []⟩])
  (.seq (.reg [⟨(some 8), .loadn 3 (.t 2), none, []⟩,
      ⟨(some 9), .loadn 2 (.t 3), none, []⟩,
      ⟨(some 10), .call (.c (.fn 83 [] [])) [.t 8, .t 9], none, []⟩,
      ⟨(some 7), .mov (.t 10), none, []⟩,
      ⟨(some 11), .extract (.t 7) 0, none, []⟩,
      ⟨(some 12), .extract (.t 7) 1, none, []⟩,
      ⟨(some 5), .new 151 [.nils, .nils, .int .i64 0, .int .i64 0, .int .i64 0], none, []⟩,
      ⟨none, .store 5 (.t 5) (.t 11), none, []⟩,
      ⟨(some 6), .mov (.t 12), none, []⟩])
  (.seq (.reg [⟨(some 13), .mov (.t 6), none, []⟩,
      ⟨(some 4), .mov (.t 13), none, []⟩])
  (.ret))), 14, [.t 4]⟩
def xf29 : XFunc := ⟨.seq (.reg [⟨(some 1), .box 53 (.t 0), none, []⟩,
      ⟨(some 2), .mov (.c (.bool false)), none, []⟩])
  (.seq (.reg [⟨(some 3), .faddr 0 (.t 1), none, []⟩,
      ⟨(some 4), .loadn 1 (.t 3), none, []⟩,
      ⟨(some 5), .call (.c (.fn 12 [] [])) [.t 4], none, []⟩,
      ⟨(some 6), .mov (.t 5), none, []⟩,
      ⟨(some 7), .faddr 1 (.t 1), (some (6, true)), []⟩,
      ⟨(some 8), .loadn 1 (.t 7), (some (6, true)), []⟩,
      ⟨(some 9), .call (.c (.fn 12 [] [])) [.t 8], (some (6, true)), []⟩,
      ⟨(some 10), .pick (.t 6) (.t 9) (.c (.bool false)), none, []⟩,
      ⟨(some 2), .mov (.t 10), none, []⟩])
  (.ret)), 11, [.t 2]⟩
def xf31 : XFunc := ⟨.seq (.reg [⟨(some 1), .box 53 (.t 0), none, []⟩,
      ⟨(some 2), .new 53 [.nils, .nils, .int .i64 0], none, []⟩])
  (.seq (.dreg [⟨(some 3), .faddr 0 (.t 1), none, []⟩,
      ⟨(some 4), .loadn 1 (.t 3), none, [0]⟩,
      ⟨(some 5), .call (.c (.fn 14 [] [])) [.t 4], none, [0, 1]⟩,
      ⟨(some 6), .faddr 1 (.t 1), none, []⟩,
      ⟨(some 7), .loadn 1 (.t 6), none, [3]⟩,
      ⟨(some 8), .call (.c (.fn 14 [] [])) [.t 7], none, [1, 0, 3, 2, 4]⟩,
      ⟨(some 9), .faddr 2 (.t 1), none, []⟩,
      ⟨(some 10), .load1 (.t 9), none, [6]⟩,
      ⟨(some 11), .build [.nils, .nils, .int .i64 0] [(0, 1, .t 5), (1, 1, .t 8), (2, 1, .t 10)], none, [6, 4, 3, 1, 0, 7, 5, 2]⟩,
      ⟨none, .store 3 (.t 2) (.t 11), none, [7, 6, 4, 3, 2, 1, 0, 5, 8]⟩])
  (.ret)), 12, [.cn 2 3]⟩
def xf32l0 : XCode := .seq (.reg [⟨(some 27), .bin .lss (.t 26) (.c (.int .i64 2)), none, []⟩])
  (.seq (.cond (.t 27) .skip (.exit 0))
  (.seq (.block 1 (.seq (.reg [⟨(some 28), .mov (.t 26), none, []⟩,
        ⟨(some 29), .index 1 2 true (.t 25) (.t 26), none, []⟩,
        ⟨(some 10), .new 123 [.nils], none, []⟩,
        ⟨(some 9), .mov (.t 28), none, []⟩,
        ⟨none, .store 1 (.t 10) (.t 29), none, []⟩])
    (.seq (.reg [⟨(some 30), .mov (.t 9), none, []⟩,
        ⟨(some 31), .bin .sub (.c (.int .i64 1)) (.t 30), none, []⟩,
        ⟨(some 11), .mov (.t 31), none, []⟩])
    (.seq (.dreg [⟨(some 32), .mov (.t 11), none, []⟩,
        ⟨(some 33), .faddr 0 (.t 6), none, []⟩,
        ⟨(some 34), .faddr 0 (.t 33), none, [1]⟩,
        ⟨(some 35), .iaddrA 1 2 (.t 34) (.t 32), none, [1, 0, 2]⟩,
        ⟨(some 36), .loadn 1 (.t 35), none, [2, 0, 1, 3]⟩,
        ⟨(some 37), .call (.c (.fn 87 [] [])) [.t 36], none, [3, 1, 0, 2, 4]⟩,
        ⟨(some 38), .field 1 1 false (.t 37), none, [4, 2, 0, 1, 3, 5]⟩,
        ⟨(some 39), .mov (.t 11), none, []⟩,
        ⟨(some 40), .faddr 3 (.t 6), none, []⟩,
        ⟨(some 41), .iaddrA 1 2 (.t 40) (.t 39), none, [7, 8]⟩,
        ⟨(some 42), .load1 (.t 41), none, [8, 7, 9]⟩,
        ⟨(some 43), .bin .sub (.t 38) (.t 42), none, [9, 7, 8, 5, 3, 1, 0, 2, 4, 10, 6]⟩,
        ⟨(some 12), .mov (.t 43), none, [10, 9, 8, 7, 6, 4, 3, 2, 1, 0, 5, 11]⟩])
    (.dreg [⟨(some 44), .mov (.t 9), none, []⟩,
        ⟨(some 45), .mov (.t 9), none, []⟩,
        ⟨(some 46), .faddr 3 (.t 6), none, []⟩,
        ⟨(some 47), .iaddrA 1 2 (.t 46) (.t 45), none, [1, 2]⟩,
        ⟨(some 48), .load1 (.t 47), none, [2, 1, 3]⟩,
        ⟨(some 49), .loadn 1 (.t 10), none, []⟩,
        ⟨(some 50), .call (.c (.fn 88 [] [])) [.t 49], none, [5]⟩,
        ⟨(some 51), .field 1 1 false (.t 50), none, [5, 6]⟩,
        ⟨(some 52), .bin .sub (.t 48) (.t 51), none, [6, 5, 3, 1, 2, 7, 4]⟩,
        ⟨(some 53), .mov (.t 12), none, []⟩,
        ⟨(some 54), .ext false (.t 52) [.t 53], none, [4, 7, 2, 1, 3, 5, 6, 9, 8]⟩,
        ⟨(some 55), .iaddrA 1 2 (.t 8) (.t 44), none, [10, 9, 8, 7, 6, 5, 4, 3, 2, 1, 0]⟩,
        ⟨none, .store 1 (.t 55) (.t 54), none, [9, 8, 7, 5, 4, 3, 2, 1, 0, 6, 10, 11]⟩])))))
  (.reg [⟨(some 56), .bin .add (.t 26) (.c (.int .i64 1)), none, []⟩,
      ⟨(some 26), .mov (.t 56), none, []⟩])))
def xf32 : XFunc := ⟨.seq (.reg [⟨(some 2), .box 53 (.t 0), none, []⟩,
      ⟨(some 3), .box 55 (.t 1), none, []⟩,
      ⟨(some 4), .new 55 [.int .i64 0, .int .i64 0], none, []⟩,
      ⟨(some 5), .mov (.c (.int .i64 0)), none, []⟩])
  (.seq (.reg [⟨(some 14), .loadn 3 (.t 2), none, []⟩,
      ⟨(some 15), .loadn 2 (.t 3), none, []⟩,
      ⟨(some 16), .call (.c (.fn 83 [] [])) [.t 14, .t 15], none, []⟩,
      ⟨(some 13), .mov (.t 16), none, []⟩,
      ⟨(some 17), .extract (.t 13) 0, none, []⟩,
      ⟨(some 18), .extract (.t 13) 1, none, []⟩,
      ⟨(some 6), .new 151 [.nils, .nils, .int .i64 0, .int .i64 0, .int .i64 0], none, []⟩,
      ⟨none, .store 5 (.t 6) (.t 17), none, []⟩,
      ⟨(some 7), .mov (.t 18), none, []⟩])
  (.seq (.seq (.reg [⟨(some 19), .mov (.t 7), none, []⟩,
      ⟨(some 20), .bin .neq (.t 19) (.c (.int .i64 0)), none, []⟩])
  (.cond (.t 20) (.seq (.reg [⟨(some 21), .build [.int .i64 0, .int .i64 0] [], none, []⟩,
        ⟨(some 22), .mov (.t 7), none, []⟩,
        ⟨none, .store 2 (.t 4) (.t 21), none, []⟩,
        ⟨(some 5), .mov (.t 22), none, []⟩])
    (.ret)) .skip))
  (.seq (.reg [⟨(some 8), .new 149 [.int .i64 0, .int .i64 0], none, []⟩])
  (.seq (.seq (.reg [⟨(some 23), .faddr 0 (.t 6), none, []⟩,
      ⟨(some 24), .faddr 0 (.t 23), none, []⟩,
      ⟨(some 25), .loadn 2 (.t 24), none, []⟩,
      ⟨(some 26), .mov (.c (.int .i64 0)), none, []⟩])
  (.block 0 (.loop xf32l0)))
  (.seq (.reg [⟨(some 57), .loadn 2 (.t 8), none, []⟩,
      ⟨(some 58), .call (.c (.fn 86 [] [])) [.t 57], none, []⟩,
      ⟨none, .store 2 (.t 4) (.t 58), none, []⟩,
      ⟨(some 5), .mov (.c (.int .i64 0)), none, []⟩])
  (.ret)))))), 59, [.cn 4 2, .t 5]⟩
def xf30 : XFunc := ⟨.seq (.reg [⟨(some 3), .box 53 (.t 0), none, []⟩,
      ⟨(some 4), .box 55 (.t 1), none, []⟩,
      ⟨(some 5), .box 57 (.t 2), none, []⟩,
      ⟨(some 6), .new 55 [.int .i64 0, .int .i64 0], none, []⟩,
      ⟨(some 7), .new 60 [.int .i64 0, .int .i64 0], none, []⟩,
      ⟨(some 8), .mov (.c (.int .i64 0)), none, []⟩])
  (.seq (.reg [⟨(some 14), .loadn 3 (.t 3), none, []⟩,
      ⟨(some 15), .loadn 2 (.t 4), none, []⟩,
      ⟨(some 16), .call (.c (.fn 83 [] [])) [.t 14, .t 15], none, []⟩,
      ⟨(some 13), .mov (.t 16), none, []⟩,
      ⟨(some 17), .extract (.t 13) 0, none, []⟩,
      ⟨(some 18), .extract (.t 13) 1, none, []⟩,
      ⟨(some 9), .new 151 [.nils, .nils, .int .i64 0, .int .i64 0, .int .i64 0], none, []⟩,
      ⟨none, .store 5 (.t 9) (.t 17), none, []⟩,
      ⟨(some 10), .mov (.t 18), none, []⟩])
  (.seq (.seq (.reg [⟨(some 19), .mov (.t 10), none, []⟩,
      ⟨(some 20), .bin .neq (.t 19) (.c (.int .i64 0)), none, []⟩])
  (.cond (.t 20) (.seq (.reg [⟨(some 21), .build [.int .i64 0, .int .i64 0] [], none, []⟩,
        ⟨(some 22), .build [.int .i64 0, .int .i64 0] [], none, []⟩,
        ⟨(some 23), .mov (.t 10), none, []⟩,
        ⟨none, .store 2 (.t 6) (.t 21), none, []⟩,
        ⟨none, .store 2 (.t 7) (.t 22), none, []⟩,
        ⟨(some 8), .mov (.t 23), none, []⟩])
    (.ret)) .skip))
  (.seq (.seq (.reg [⟨(some 24), .loadn 3 (.t 5), none, []⟩,
      ⟨(some 25), .call (.c (.fn 84 [] [])) [.t 24], none, []⟩,
      ⟨(some 11), .mov (.t 25), none, []⟩])
  (.seq (.reg [⟨(some 26), .mov (.t 11), none, []⟩,
      ⟨(some 27), .bin .neq (.t 26) (.c (.int .i64 0)), none, []⟩])
  (.cond (.t 27) (.seq (.reg [⟨(some 28), .build [.int .i64 0, .int .i64 0] [], none, []⟩,
        ⟨(some 29), .build [.int .i64 0, .int .i64 0] [], none, []⟩,
        ⟨(some 30), .mov (.t 11), none, []⟩,
        ⟨none, .store 2 (.t 6) (.t 28), none, []⟩,
        ⟨none, .store 2 (.t 7) (.t 29), none, []⟩,
        ⟨(some 8), .mov (.t 30), none, []⟩])
    (.ret)) .skip)))
  (.seq (.reg [⟨(some 32), .faddr 0 (.t 9), none, []⟩,
      ⟨(some 33), .loadn 3 (.t 32), none, []⟩,
      ⟨(some 34), .faddr 3 (.t 9), none, []⟩,
      ⟨(some 35), .loadn 2 (.t 34), none, []⟩,
      ⟨(some 36), .loadn 3 (.t 5), none, []⟩,
      ⟨(some 37), .call (.c (.fn 85 [] [])) [.t 33, .t 35, .t 36], none, []⟩,
      ⟨(some 31), .mov (.t 37), none, []⟩,
      ⟨(some 38), .extract (.t 31) 0, none, []⟩,
      ⟨(some 39), .extract (.t 31) 1, none, []⟩,
      ⟨(some 12), .new 156 [.int .i64 0, .int .i64 0, .int .i64 0, .int .i64 0], none, []⟩,
      ⟨none, .store 4 (.t 12) (.t 38), none, []⟩,
      ⟨(some 10), .mov (.t 39), none, []⟩])
  (.seq (.dreg [⟨(some 40), .faddr 0 (.t 12), none, []⟩,
      ⟨(some 41), .loadn 2 (.t 40), none, [0]⟩,
      ⟨(some 42), .call (.c (.fn 86 [] [])) [.t 41], none, [0, 1]⟩,
      ⟨(some 43), .faddr 2 (.t 12), none, []⟩,
      ⟨(some 44), .loadn 2 (.t 43), none, [3]⟩,
      ⟨(some 45), .mov (.t 10), none, []⟩,
      ⟨none, .store 2 (.t 6) (.t 42), none, [1, 0, 2]⟩,
      ⟨none, .store 2 (.t 7) (.t 44), none, [3, 2, 1, 0, 6, 4]⟩,
      ⟨(some 8), .mov (.t 45), none, [6, 4, 3, 2, 1, 0, 7, 5]⟩])
  (.ret)))))), 46, [.cn 6 2, .cn 7 2, .t 8]⟩
def xf85l0 : XCode := .seq (.reg [⟨(some 28), .bin .lss (.t 27) (.c (.int .i64 2)), none, []⟩])
  (.seq (.cond (.t 28) .skip (.exit 0))
  (.seq (.block 1 (.seq (.reg [⟨(some 29), .mov (.t 27), none, []⟩,
        ⟨(some 30), .index 1 2 true (.t 26) (.t 27), none, []⟩,
        ⟨(some 11), .new 123 [.nils], none, []⟩,
        ⟨(some 10), .mov (.t 29), none, []⟩,
        ⟨none, .store 1 (.t 11) (.t 30), none, []⟩])
    (.seq (.dreg [⟨(some 31), .loadn 1 (.t 11), none, []⟩,
        ⟨(some 32), .mov (.t 10), none, []⟩,
        ⟨(some 33), .iaddrA 1 2 (.t 4) (.t 32), none, [1]⟩,
        ⟨(some 34), .load1 (.t 33), none, [1, 2]⟩,
        ⟨(some 35), .faddr 2 (.t 3), none, []⟩,
        ⟨(some 36), .load1 (.t 35), none, [4]⟩,
        ⟨(some 37), .call (.c (.fn 126 [] [])) [.t 31, .t 34, .t 36], none, [4, 2, 1, 5, 3, 0]⟩,
        ⟨(some 12), .mov (.t 37), none, [5, 4, 3, 2, 1, 0, 6]⟩])
    (.seq (.dreg [⟨(some 38), .mov (.t 10), none, []⟩,
        ⟨(some 39), .iaddrA 1 2 (.t 4) (.t 38), none, [0]⟩,
        ⟨(some 40), .load1 (.t 39), none, [0, 1]⟩,
        ⟨(some 41), .mov (.t 12), none, []⟩,
        ⟨(some 42), .bin .sub (.t 40) (.t 41), none, [1, 0, 3, 2]⟩,
        ⟨(some 43), .mov (.t 10), none, []⟩,
        ⟨(some 44), .iaddrA 1 2 (.t 8) (.t 43), none, [5]⟩,
        ⟨(some 45), .load1 (.t 44), none, [5, 6]⟩,
        ⟨(some 46), .bin .add (.t 42) (.t 45), none, [6, 5, 2, 3, 0, 1, 7, 4]⟩,
        ⟨(some 13), .mov (.t 46), none, [7, 6, 5, 4, 3, 2, 1, 0, 8]⟩])
    (.seq (.seq (.reg [⟨(some 47), .mov (.t 13), none, []⟩,
        ⟨(some 48), .loadn 1 (.t 11), none, []⟩,
        ⟨(some 49), .call (.c (.fn 88 [] [])) [.t 48], none, []⟩,
        ⟨(some 50), .field 1 1 false (.t 49), none, []⟩,
        ⟨(some 51), .bin .lss (.t 47) (.t 50), none, []⟩])
    (.cond (.t 51) (.seq (.reg [⟨(some 52), .build [.int .i64 0, .int .i64 0, .int .i64 0, .int .i64 0] [], none, []⟩,
          ⟨none, .store 4 (.t 6) (.t 52), none, []⟩,
          ⟨(some 7), .mov (.c (.int .i64 22)), none, []⟩])
      (.ret)) .skip))
    (.seq (.reg [⟨(some 53), .mov (.t 10), none, []⟩,
        ⟨(some 54), .mov (.t 13), none, []⟩,
        ⟨(some 55), .loadn 1 (.t 11), none, []⟩,
        ⟨(some 56), .call (.c (.fn 87 [] [])) [.t 55], none, []⟩,
        ⟨(some 57), .field 1 1 false (.t 56), none, []⟩,
        ⟨(some 58), .ext false (.t 54) [.t 57], none, []⟩,
        ⟨(some 59), .faddr 0 (.t 9), none, []⟩,
        ⟨(some 60), .iaddrA 1 2 (.t 59) (.t 53), none, []⟩,
        ⟨none, .store 1 (.t 60) (.t 58), none, []⟩])
    (.seq (.reg [⟨(some 61), .faddr 2 (.t 9), none, []⟩,
        ⟨(some 62), .faddr 0 (.t 61), none, []⟩,
        ⟨(some 63), .load1 (.t 62), none, []⟩,
        ⟨(some 64), .mov (.t 12), none, []⟩,
        ⟨(some 65), .bin .add (.t 63) (.t 64), none, []⟩,
        ⟨(some 66), .faddr 2 (.t 9), none, []⟩,
        ⟨(some 67), .faddr 0 (.t 66), none, []⟩,
        ⟨none, .store 1 (.t 67) (.t 65), none, []⟩])
    (.dreg [⟨(some 68), .faddr 2 (.t 9), none, []⟩,
        ⟨(some 69), .faddr 1 (.t 68), none, [0]⟩,
        ⟨(some 70), .load1 (.t 69), none, [0, 1]⟩,
        ⟨(some 71), .mov (.t 13), none, []⟩,
        ⟨(some 72), .mov (.t 10), none, []⟩,
        ⟨(some 73), .faddr 0 (.t 9), none, []⟩,
        ⟨(some 74), .iaddrA 1 2 (.t 73) (.t 72), none, [4, 5]⟩,
        ⟨(some 75), .load1 (.t 74), none, [5, 4, 6]⟩,
        ⟨(some 76), .bin .sub (.t 71) (.t 75), none, [6, 4, 5, 7, 3]⟩,
        ⟨(some 77), .bin .add (.t 70) (.t 76), none, [3, 7, 5, 4, 6, 1, 0, 8, 2]⟩,
        ⟨(some 78), .faddr 2 (.t 9), none, [9, 8, 7, 6, 5, 4, 3, 2, 1, 0]⟩,
        ⟨(some 79), .faddr 1 (.t 78), none, [9, 8, 7, 6, 5, 4, 3, 2, 1, 0, 10]⟩,
        ⟨none, .store 1 (.t 79) (.t 77), none, [10, 8, 7, 6, 5, 4, 3, 2, 1, 0, 9, 11]⟩]))))))))
  (.reg [⟨(some 80), .bin .add (.t 27) (.c (.int .i64 1)), none, []⟩,
      ⟨(some 27), .mov (.t 80), none, []⟩])))
def xf85 : XFunc := ⟨.seq (.reg [⟨(some 3), .box 147 (.t 0), none, []⟩,
      ⟨(some 4), .box 149 (.t 1), none, []⟩,
      ⟨(some 5), .box 57 (.t 2), none, []⟩,
      ⟨(some 6), .new 156 [.int .i64 0, .int .i64 0, .int .i64 0, .int .i64 0], none, []⟩,
      ⟨(some 7), .mov (.c (.int .i64 0)), none, []⟩])
  (.seq (.reg [⟨(some 14), .faddr 0 (.t 5), none, []⟩,
      ⟨(some 15), .load1 (.t 14), none, []⟩,
      ⟨(some 16), .faddr 2 (.t 5), none, []⟩,
      ⟨(some 17), .load1 (.t 16), none, []⟩,
      ⟨(some 18), .bin .add (.t 15) (.t 17), none, []⟩,
      ⟨(some 19), .faddr 1 (.t 5), none, []⟩,
      ⟨(some 20), .load1 (.t 19), none, []⟩,
      ⟨(some 21), .faddr 2 (.t 5), none, []⟩,
      ⟨(some 22), .load1 (.t 21), none, []⟩,
      ⟨(some 23), .bin .sub (.t 20) (.t 22), none, []⟩,
      ⟨(some 24), .build [.int .i64 0, .int .i64 0] [(0, 1, .t 18), (1, 1, .t 23)], none, []⟩,
      ⟨(some 8), .new 148 [.int .i64 0, .int .i64 0], none, []⟩,
      ⟨none, .store 2 (.t 8) (.t 24), none, []⟩])
  (.seq (.reg [⟨(some 9), .new 156 [.int .i64 0, .int .i64 0, .int .i64 0, .int .i64 0], none, []⟩])
  (.seq (.seq (.reg [⟨(some 25), .faddr 0 (.t 3), none, []⟩,
      ⟨(some 26), .loadn 2 (.t 25), none, []⟩,
      ⟨(some 27), .mov (.c (.int .i64 0)), none, []⟩])
  (.block 0 (.loop xf85l0)))
  (.seq (.reg [⟨(some 81), .loadn 4 (.t 9), none, []⟩,
      ⟨none, .store 4 (.t 6) (.t 81), none, []⟩,
      ⟨(some 7), .mov (.c (.int .i64 0)), none, []⟩])
  (.ret))))), 82, [.cn 6 4, .t 7]⟩
def xf84 : XFunc := ⟨.seq (.reg [⟨(some 1), .box 57 (.t 0), none, []⟩,
      ⟨(some 2), .mov (.c (.int .i64 0)), none, []⟩])
  (.seq (.seq (.reg [⟨(some 3), .faddr 0 (.t 1), none, []⟩,
      ⟨(some 4), .load1 (.t 3), none, []⟩,
      ⟨(some 5), .call (.c (.fn 96 [] [])) [.t 4, .c (.int .i64 0), .c (.int .i64 10000000)], none, []⟩,
      ⟨(some 6), .un .not (.t 5), none, []⟩,
      ⟨(some 7), .mov (.t 6), none, []⟩,
      ⟨(some 8), .faddr 1 (.t 1), (some (7, false)), []⟩,
      ⟨(some 9), .load1 (.t 8), (some (7, false)), []⟩,
      ⟨(some 10), .call (.c (.fn 96 [] [])) [.t 9, .c (.int .i64 0), .c (.int .i64 10000000)], (some (7, false)), []⟩,
      ⟨(some 11), .un .not (.t 10), (some (7, false)), []⟩,
      ⟨(some 12), .pick (.t 7) (.c (.bool true)) (.t 11), none, []⟩,
      ⟨(some 13), .mov (.t 12), none, []⟩,
      ⟨(some 14), .faddr 2 (.t 1), (some (13, false)), []⟩,
      ⟨(some 15), .load1 (.t 14), (some (13, false)), []⟩,
      ⟨(some 16), .call (.c (.fn 96 [] [])) [.t 15, .c (.int .i64 (-10000000)), .c (.int .i64 10000000)], (some (13, false)), []⟩,
      ⟨(some 17), .un .not (.t 16), (some (13, false)), []⟩,
      ⟨(some 18), .pick (.t 13) (.c (.bool true)) (.t 17), none, []⟩])
  (.cond (.t 18) (.seq (.reg [⟨(some 2), .mov (.c (.int .i64 2)), none, []⟩])
    (.ret)) .skip))
  (.seq (.reg [⟨(some 2), .mov (.c (.int .i64 0)), none, []⟩])
  (.ret))), 19, [.t 2]⟩
def xf86 : XFunc := ⟨.seq (.reg [⟨(some 1), .box 149 (.t 0), none, []⟩,
      ⟨(some 2), .new 55 [.int .i64 0, .int .i64 0], none, []⟩])
  (.seq (.reg [⟨(some 3), .iaddrA 1 2 (.t 1) (.c (.int .i64 0)), none, []⟩,
      ⟨(some 4), .load1 (.t 3), none, []⟩,
      ⟨(some 5), .iaddrA 1 2 (.t 1) (.c (.int .i64 1)), none, []⟩,
      ⟨(some 6), .load1 (.t 5), none, []⟩,
      ⟨(some 7), .build [.int .i64 0, .int .i64 0] [(0, 1, .t 4), (1, 1, .t 6)], none, []⟩,
      ⟨none, .store 2 (.t 2) (.t 7), none, []⟩])
  (.ret)), 8, [.cn 2 2]⟩
def xf126 : XFunc := ⟨.seq (.reg [⟨(some 3), .box 123 (.t 0), none, []⟩,
      ⟨(some 6), .mov (.c (.int .i64 0)), none, []⟩])
  (.seq (.reg [⟨(some 8), .loadn 1 (.t 3), none, []⟩,
      ⟨(some 9), .mov (.t 1), none, []⟩,
      ⟨(some 10), .call (.c (.fn 69 [] [])) [.t 8, .t 9], none, []⟩,
      ⟨(some 7), .new 133 [.int .i64 0, .int .i64 0, .int .i64 0, .int .i64 0], none, []⟩,
      ⟨none, .store 4 (.t 7) (.t 10), none, []⟩])
  (.seq (.dreg [⟨(some 11), .mov (.t 2), none, []⟩,
      ⟨(some 12), .loadn 4 (.t 7), none, []⟩,
      ⟨(some 13), .call (.c (.fn 71 [] [])) [.t 12], none, [1]⟩,
      ⟨(some 14), .bin .mul (.t 11) (.t 13), none, [1, 2, 0]⟩,
      ⟨(some 15), .loadn 4 (.t 7), none, []⟩,
      ⟨(some 16), .call (.c (.fn 72 [] [])) [.t 15], none, [1, 2, 4]⟩,
      ⟨(some 17), .bin .mul (.t 16) (.c (.int .i64 1000)), none, [4, 2, 1, 5]⟩,
      ⟨(some 18), .bin .quo (.t 14) (.t 17), none, [5, 4, 0, 2, 1, 6, 3]⟩,
      ⟨(some 19), .mov (.t 1), none, []⟩,
      ⟨(some 20), .loadn 1 (.t 3), none, []⟩,
      ⟨(some 21), .call (.c (.fn 88 [] [])) [.t 20], none, [4, 2, 1, 5, 9]⟩,
      ⟨(some 22), .field 1 1 false (.t 21), none, [9, 5, 1, 2, 4, 10]⟩,
      ⟨(some 23), .bin .sub (.t 19) (.t 22), none, [10, 4, 2, 1, 5, 9, 11, 8]⟩,
      ⟨(some 24), .ext false (.t 18) [.t 23], none, [8, 11, 9, 10, 3, 6, 1, 2, 0, 4, 5, 12, 7]⟩,
      ⟨(some 6), .mov (.t 24), none, [12, 11, 9, 8, 7, 6, 5, 4, 3, 2, 1, 0, 10, 13]⟩])
  (.ret))), 25, [.t 6]⟩
def xf35 : XFunc := ⟨.seq (.reg [⟨(some 1), .box 53 (.t 0), none, []⟩,
      ⟨(some 2), .mov (.c (.int .i64 0)), none, []⟩])
  (.seq (.seq (.reg [⟨(some 5), .faddr 0 (.t 1), none, []⟩,
      ⟨(some 6), .loadn 1 (.t 5), none, []⟩,
      ⟨(some 7), .call (.c (.fn 24 [] [])) [.t 6], none, []⟩,
      ⟨(some 3), .mov (.t 7), none, []⟩])
  (.seq (.reg [⟨(some 8), .mov (.t 3), none, []⟩,
      ⟨(some 9), .bin .neq (.t 8) (.c (.int .i64 0)), none, []⟩])
  (.cond (.t 9) (.seq (.reg [⟨(some 10), .mov (.t 3), none, []⟩,
        ⟨(some 2), .mov (.t 10), none, []⟩])
    (.ret)) .skip)))
  (.seq (.seq (.reg [⟨(some 11), .faddr 1 (.t 1), none, []⟩,
      ⟨(some 12), .loadn 1 (.t 11), none, []⟩,
      ⟨(some 13), .call (.c (.fn 24 [] [])) [.t 12], none, []⟩,
      ⟨(some 4), .mov (.t 13), none, []⟩])
  (.seq (.reg [⟨(some 14), .mov (.t 4), none, []⟩,
      ⟨(some 15), .bin .neq (.t 14) (.c (.int .i64 0)), none, []⟩])
  (.cond (.t 15) (.seq (.reg [⟨(some 16), .mov (.t 4), none, []⟩,
        ⟨(some 2), .mov (.t 16), none, []⟩])
    (.ret)) .skip)))
  (.seq (.seq (.reg [⟨(some 17), .faddr 2 (.t 1), none, []⟩,
      ⟨(some 18), .load1 (.t 17), none, []⟩,
      ⟨(some 19), .call (.c (.fn 25 [] [])) [.t 18, .c (.int .i64 0), .c (.int .i64 1000)], none, []⟩,
      ⟨(some 20), .un .not (.t 19), none, []⟩])
  (.cond (.t 20) (.seq (.reg [⟨(some 2), .mov (.c (.int .i64 2)), none, []⟩])
    (.ret)) .skip))
  (.seq (.reg [⟨(some 2), .mov (.c (.int .i64 0)), none, []⟩])
  (.ret))))), 21, [.t 2]⟩
def xf33 : XFunc := ⟨.seq (.reg [⟨(some 2), .box 53 (.t 0), none, []⟩,
      ⟨(some 3), .box 55 (.t 1), none, []⟩,
      ⟨(some 4), .mov (.c (.int .i64 0)), none, []⟩])
  (.seq (.seq (.reg [⟨(some 6), .loadn 3 (.t 2), none, []⟩,
      ⟨(some 7), .call (.c (.fn 35 [] [])) [.t 6], none, []⟩,
      ⟨(some 5), .mov (.t 7), none, []⟩])
  (.seq (.reg [⟨(some 8), .mov (.t 5), none, []⟩,
      ⟨(some 9), .bin .neq (.t 8) (.c (.int .i64 0)), none, []⟩])
  (.cond (.t 9) (.seq (.reg [⟨(some 10), .mov (.t 5), none, []⟩,
        ⟨(some 4), .mov (.t 10), none, []⟩])
    (.ret)) .skip)))
  (.seq (.reg [⟨(some 11), .loadn 3 (.t 2), none, []⟩,
      ⟨(some 12), .loadn 2 (.t 3), none, []⟩,
      ⟨(some 13), .call (.c (.fn 43 [] [])) [.t 11, .t 12], none, []⟩,
      ⟨(some 4), .mov (.t 13), none, []⟩])
  (.ret))), 14, [.t 4]⟩
def xf43 : XFunc := ⟨.seq (.reg [⟨(some 2), .box 53 (.t 0), none, []⟩,
      ⟨(some 3), .box 55 (.t 1), none, []⟩,
      ⟨(some 4), .mov (.c (.int .i64 0)), none, []⟩])
  (.seq (.seq (.reg [⟨(some 5), .faddr 0 (.t 2), none, []⟩,
      ⟨(some 6), .loadn 1 (.t 5), none, []⟩,
      ⟨(some 7), .faddr 0 (.t 3), none, []⟩,
      ⟨(some 8), .load1 (.t 7), none, []⟩,
      ⟨(some 9), .call (.c (.fn 21 [] [])) [.t 6, .t 8], none, []⟩,
      ⟨(some 10), .un .not (.t 9), none, []⟩,
      ⟨(some 11), .mov (.t 10), none, []⟩,
      ⟨(some 12), .faddr 1 (.t 2), (some (11, false)), []⟩,
      ⟨(some 13), .loadn 1 (.t 12), (some (11, false)), []⟩,
      ⟨(some 14), .faddr 1 (.t 3), (some (11, false)), []⟩,
      ⟨(some 15), .load1 (.t 14), (some (11, false)), []⟩,
      ⟨(some 16), .call (.c (.fn 21 [] [])) [.t 13, .t 15], (some (11, false)), []⟩,
      ⟨(some 17), .un .not (.t 16), (some (11, false)), []⟩,
      ⟨(some 18), .pick (.t 11) (.c (.bool true)) (.t 17), none, []⟩])
  (.cond (.t 18) (.seq (.reg [⟨(some 4), .mov (.c (.int .i64 2)), none, []⟩])
    (.ret)) .skip))
  (.seq (.reg [⟨(some 4), .mov (.c (.int .i64 0)), none, []⟩])
  (.ret))), 19, [.t 4]⟩
def xf37 : XFunc := ⟨.seq (.reg [⟨(some 2), .box 53 (.t 0), none, []⟩,
      ⟨(some 3), .box 55 (.t 1), none, []⟩,
      ⟨(some 4), .new 55 [.int .i64 0, .int .i64 0], none, []⟩])
  (.seq (.dreg [⟨(some 7), .faddr 0 (.t 2), none, []⟩,
      ⟨(some 8), .loadn 1 (.t 7), none, [0]⟩,
      ⟨(some 9), .call (.c (.fn 26 [] [])) [.t 8], none, [0, 1]⟩,
      ⟨(some 10), .field 1 1 false (.t 9), none, [1, 0, 2]⟩,
      ⟨(some 11), .faddr 0 (.t 3), none, []⟩,
      ⟨(some 12), .load1 (.t 11), none, [4]⟩,
      ⟨(some 13), .bin .sub (.t 10) (.t 12), none, [4, 2, 0, 1, 5, 3]⟩,
      ⟨(some 14), .faddr 1 (.t 2), none, []⟩,
      ⟨(some 15), .loadn 1 (.t 14), none, [7]⟩,
      ⟨(some 16), .call (.c (.fn 26 [] [])) [.t 15], none, [1, 0, 7, 2, 8]⟩,
      ⟨(some 17), .field 1 1 false (.t 16), none, [8, 2, 7, 0, 1, 9]⟩,
      ⟨(some 18), .faddr 1 (.t 3), none, []⟩,
      ⟨(some 19), .load1 (.t 18), none, [11]⟩,
      ⟨(some 20), .bin .sub (.t 17) (.t 19), none, [11, 9, 1, 0, 7, 2, 8, 12, 10]⟩,
      ⟨(some 5), .mov (.t 13), none, [8, 7, 5, 4, 3, 2, 1, 0, 9, 6]⟩,
      ⟨(some 6), .mov (.t 20), none, [12, 11, 10, 9, 8, 7, 6, 5, 4, 3, 2, 1, 0, 14, 13]⟩])
  (.seq (.dreg [⟨(some 21), .faddr 0 (.t 3), none, []⟩,
      ⟨(some 22), .load1 (.t 21), none, [0]⟩,
      ⟨(some 23), .faddr 0 (.t 2), none, []⟩,
      ⟨(some 24), .loadn 1 (.t 23), none, [2]⟩,
      ⟨(some 25), .call (.c (.fn 75 [] [])) [.t 24], none, [2, 3]⟩,
      ⟨(some 26), .field 1 1 false (.t 25), none, [3, 2, 4]⟩,
      ⟨(some 27), .bin .sub (.t 22) (.t 26), none, [4, 2, 3, 0, 5, 1]⟩,
      ⟨(some 28), .mov (.t 6), none, []⟩,
      ⟨(some 29), .ext false (.t 27) [.t 28], none, [1, 5, 0, 3, 2, 4, 7, 6]⟩,
      ⟨(some 30), .faddr 1 (.t 3), none, []⟩,
      ⟨(some 31), .load1 (.t 30), none, [9]⟩,
      ⟨(some 32), .faddr 1 (.t 2), none, []⟩,
      ⟨(some 33), .loadn 1 (.t 32), none, [11]⟩,
      ⟨(some 34), .call (.c (.fn 75 [] [])) [.t 33], none, [3, 2, 11, 4, 12]⟩,
      ⟨(some 35), .field 1 1 false (.t 34), none, [12, 4, 11, 2, 3, 13]⟩,
      ⟨(some 36), .bin .sub (.t 31) (.t 35), none, [13, 3, 2, 11, 4, 12, 9, 14, 10]⟩,
      ⟨(some 37), .mov (.t 5), none, []⟩,
      ⟨(some 38), .ext false (.t 36) [.t 37], none, [10, 14, 9, 12, 4, 11, 2, 3, 13, 16, 15]⟩,
      ⟨(some 39), .build [.int .i64 0, .int .i64 0] [(0, 1, .t 29), (1, 1, .t 38)], none, [15, 16, 13, 11, 12, 9, 14, 10, 6, 7, 4, 2, 3, 0, 5, 1, 17, 8]⟩,
      ⟨none, .store 2 (.t 4) (.t 39), none, [17, 16, 15, 14, 12, 11, 10, 9, 8, 7, 6, 5, 4, 3, 2, 1, 0, 13, 18]⟩])
  (.ret))), 40, [.cn 4 2]⟩
def xf38 : XFunc := ⟨.seq (.reg [⟨(some 1), .box 57 (.t 0), none, []⟩,
      ⟨(some 2), .mov (.c (.int .i64 0)), none, []⟩])
  (.seq (.seq (.reg [⟨(some 3), .faddr 0 (.t 1), none, []⟩,
      ⟨(some 4), .load1 (.t 3), none, []⟩,
      ⟨(some 5), .call (.c (.fn 25 [] [])) [.t 4, .c (.int .i64 0), .c (.int .i64 10000000)], none, []⟩,
      ⟨(some 6), .un .not (.t 5), none, []⟩,
      ⟨(some 7), .mov (.t 6), none, []⟩,
      ⟨(some 8), .faddr 1 (.t 1), (some (7, false)), []⟩,
      ⟨(some 9), .load1 (.t 8), (some (7, false)), []⟩,
      ⟨(some 10), .call (.c (.fn 25 [] [])) [.t 9, .c (.int .i64 0), .c (.int .i64 10000000)], (some (7, false)), []⟩,
      ⟨(some 11), .un .not (.t 10), (some (7, false)), []⟩,
      ⟨(some 12), .pick (.t 7) (.c (.bool true)) (.t 11), none, []⟩,
      ⟨(some 13), .mov (.t 12), none, []⟩,
      ⟨(some 14), .faddr 2 (.t 1), (some (13, false)), []⟩,
      ⟨(some 15), .load1 (.t 14), (some (13, false)), []⟩,
      ⟨(some 16), .call (.c (.fn 25 [] [])) [.t 15, .c (.int .i64 (-10000000)), .c (.int .i64 10000000)], (some (13, false)), []⟩,
      ⟨(some 17), .un .not (.t 16), (some (13, false)), []⟩,
      ⟨(some 18), .pick (.t 13) (.c (.bool true)) (.t 17), none, []⟩])
  (.cond (.t 18) (.seq (.reg [⟨(some 2), .mov (.c (.int .i64 2)), none, []⟩])
    (.ret)) .skip))
  (.seq (.reg [⟨(some 2), .mov (.c (.int .i64 0)), none, []⟩])
  (.ret))), 19, [.t 2]⟩
def xf39 : XFunc := ⟨.seq (.reg [⟨(some 3), .box 53 (.t 0), none, []⟩,
      ⟨(some 4), .box 55 (.t 1), none, []⟩,
      ⟨(some 5), .box 57 (.t 2), none, []⟩,
      ⟨(some 6), .new 55 [.int .i64 0, .int .i64 0], none, []⟩,
      ⟨(some 7), .new 60 [.int .i64 0, .int .i64 0], none, []⟩,
      ⟨(some 8), .mov (.c (.bool false)), none, []⟩])
  (.seq (.dreg [⟨(some 15), .faddr 0 (.t 3), none, []⟩,
      ⟨(some 16), .loadn 1 (.t 15), none, [0]⟩,
      ⟨(some 17), .faddr 2 (.t 3), none, []⟩,
      ⟨(some 18), .load1 (.t 17), none, [2]⟩,
      ⟨(some 19), .faddr 0 (.t 4), none, []⟩,
      ⟨(some 20), .load1 (.t 19), none, [4]⟩,
      ⟨(some 21), .call (.c (.fn 90 [] [])) [.t 16, .t 18, .t 20], none, [4, 2, 0, 5, 3, 1]⟩,
      ⟨(some 22), .faddr 1 (.t 3), none, []⟩,
      ⟨(some 23), .loadn 1 (.t 22), none, [7]⟩,
      ⟨(some 24), .faddr 2 (.t 3), none, []⟩,
      ⟨(some 25), .load1 (.t 24), none, [9]⟩,
      ⟨(some 26), .faddr 1 (.t 4), none, []⟩,
      ⟨(some 27), .load1 (.t 26), none, [11]⟩,
      ⟨(some 28), .call (.c (.fn 90 [] [])) [.t 23, .t 25, .t 27], none, [1, 3, 5, 0, 2, 4, 11, 9, 7, 6, 12, 10, 8]⟩,
      ⟨(some 9), .mov (.t 21), none, [8, 10, 12, 7, 9, 11, 5, 4, 3, 2, 1, 0, 13, 6]⟩,
      ⟨(some 10), .mov (.t 28), none, [12, 11, 10, 9, 8, 7, 6, 5, 4, 3, 2, 1, 0, 14, 13]⟩])
  (.seq (.dreg [⟨(some 29), .faddr 0 (.t 4), none, []⟩,
      ⟨(some 30), .load1 (.t 29), none, [0]⟩,
      ⟨(some 31), .mov (.t 9), none, []⟩,
      ⟨(some 32), .bin .sub (.t 30) (.t 31), none, [0, 2, 1]⟩,
      ⟨(some 33), .faddr 0 (.t 5), none, []⟩,
      ⟨(some 34), .load1 (.t 33), none, [4]⟩,
      ⟨(some 35), .bin .add (.t 32) (.t 34), none, [4, 1, 2, 0, 5, 3]⟩,
      ⟨(some 36), .faddr 2 (.t 5), none, []⟩,
      ⟨(some 37), .load1 (.t 36), none, [7]⟩,
      ⟨(some 38), .bin .add (.t 35) (.t 37), none, [7, 3, 5, 0, 2, 1, 4, 8, 6]⟩,
      ⟨(some 39), .faddr 1 (.t 4), none, []⟩,
      ⟨(some 40), .load1 (.t 39), none, [10]⟩,
      ⟨(some 41), .mov (.t 10), none, []⟩,
      ⟨(some 42), .bin .sub (.t 40) (.t 41), none, [10, 12, 11]⟩,
      ⟨(some 43), .faddr 1 (.t 5), none, []⟩,
      ⟨(some 44), .load1 (.t 43), none, [14]⟩,
      ⟨(some 45), .bin .add (.t 42) (.t 44), none, [14, 11, 12, 10, 15, 13]⟩,
      ⟨(some 46), .faddr 2 (.t 5), none, []⟩,
      ⟨(some 47), .load1 (.t 46), none, [17]⟩,
      ⟨(some 48), .bin .sub (.t 45) (.t 47), none, [17, 13, 15, 10, 12, 11, 14, 18, 16]⟩,
      ⟨(some 11), .mov (.t 38), none, [8, 7, 6, 5, 4, 3, 2, 1, 0, 9]⟩,
      ⟨(some 12), .mov (.t 48), none, [18, 17, 16, 15, 14, 13, 12, 11, 10, 9, 8, 7, 6, 5, 4, 3, 2, 1, 0, 20, 19]⟩])
  (.seq (.seq (.reg [⟨(some 49), .mov (.t 11), none, []⟩,
      ⟨(some 50), .faddr 0 (.t 3), none, []⟩,
      ⟨(some 51), .loadn 1 (.t 50), none, []⟩,
      ⟨(some 52), .call (.c (.fn 75 [] [])) [.t 51], none, []⟩,
      ⟨(some 53), .field 1 1 false (.t 52), none, []⟩,
      ⟨(some 54), .bin .lss (.t 49) (.t 53), none, []⟩,
      ⟨(some 55), .mov (.t 54), none, []⟩,
      ⟨(some 56), .mov (.t 12), (some (55, false)), []⟩,
      ⟨(some 57), .faddr 1 (.t 3), (some (55, false)), []⟩,
      ⟨(some 58), .loadn 1 (.t 57), (some (55, false)), []⟩,
      ⟨(some 59), .call (.c (.fn 75 [] [])) [.t 58], (some (55, false)), []⟩,
      ⟨(some 60), .field 1 1 false (.t 59), (some (55, false)), []⟩,
      ⟨(some 61), .bin .lss (.t 56) (.t 60), (some (55, false)), []⟩,
      ⟨(some 62), .pick (.t 55) (.c (.bool true)) (.t 61), none, []⟩])
  (.cond (.t 62) (.seq (.reg [⟨(some 63), .build [.int .i64 0, .int .i64 0] [], none, []⟩,
        ⟨(some 64), .build [.int .i64 0, .int .i64 0] [], none, []⟩,
        ⟨none, .store 2 (.t 6) (.t 63), none, []⟩,
        ⟨none, .store 2 (.t 7) (.t 64), none, []⟩,
        ⟨(some 8), .mov (.c (.bool false)), none, []⟩])
    (.ret)) .skip))
  (.seq (.dreg [⟨(some 65), .mov (.t 11), none, []⟩,
      ⟨(some 66), .faddr 0 (.t 3), none, []⟩,
      ⟨(some 67), .loadn 1 (.t 66), none, [1]⟩,
      ⟨(some 68), .call (.c (.fn 26 [] [])) [.t 67], none, [1, 2]⟩,
      ⟨(some 69), .field 1 1 false (.t 68), none, [2, 1, 3]⟩,
      ⟨(some 70), .bin .sub (.t 65) (.t 69), none, [3, 1, 2, 4, 0]⟩,
      ⟨(some 71), .ext true (.c (.int .i64 0)) [.t 70], none, [0, 4, 2, 1, 3, 5]⟩,
      ⟨(some 72), .mov (.t 12), none, []⟩,
      ⟨(some 73), .faddr 1 (.t 3), none, []⟩,
      ⟨(some 74), .loadn 1 (.t 73), none, [8]⟩,
      ⟨(some 75), .call (.c (.fn 26 [] [])) [.t 74], none, [2, 1, 8, 3, 9]⟩,
      ⟨(some 76), .field 1 1 false (.t 75), none, [9, 3, 8, 1, 2, 10]⟩,
      ⟨(some 77), .bin .sub (.t 72) (.t 76), none, [10, 2, 1, 8, 3, 9, 11, 7]⟩,
      ⟨(some 78), .ext true (.c (.int .i64 0)) [.t 77], none, [7, 11, 9, 3, 8, 1, 2, 10, 12]⟩,
      ⟨(some 13), .mov (.t 71), none, [9, 8, 5, 4, 3, 2, 1, 0, 10, 6]⟩,
      ⟨(some 14), .mov (.t 78), none, [12, 11, 10, 9, 8, 7, 6, 5, 4, 3, 2, 1, 0, 14, 13]⟩])
  (.seq (.reg [⟨(some 79), .mov (.t 11), none, []⟩,
      ⟨(some 80), .mov (.t 13), none, []⟩,
      ⟨(some 81), .bin .sub (.t 79) (.t 80), none, []⟩,
      ⟨(some 82), .mov (.t 12), none, []⟩,
      ⟨(some 83), .mov (.t 14), none, []⟩,
      ⟨(some 84), .bin .sub (.t 82) (.t 83), none, []⟩,
      ⟨(some 85), .build [.int .i64 0, .int .i64 0] [(0, 1, .t 81), (1, 1, .t 84)], none, []⟩,
      ⟨(some 86), .mov (.t 9), none, []⟩,
      ⟨(some 87), .mov (.t 10), none, []⟩,
      ⟨(some 88), .bin .add (.t 86) (.t 87), none, []⟩,
      ⟨(some 89), .mov (.t 13), none, []⟩,
      ⟨(some 90), .mov (.t 14), none, []⟩,
      ⟨(some 91), .bin .add (.t 89) (.t 90), none, []⟩,
      ⟨(some 92), .build [.int .i64 0, .int .i64 0] [(0, 1, .t 88), (1, 1, .t 91)], none, []⟩,
      ⟨none, .store 2 (.t 6) (.t 85), none, []⟩,
      ⟨none, .store 2 (.t 7) (.t 92), none, []⟩,
      ⟨(some 8), .mov (.c (.bool true)), none, []⟩])
  (.ret)))))), 93, [.cn 6 2, .cn 7 2, .t 8]⟩
def xf90 : XFunc := ⟨.seq (.reg [⟨(some 3), .box 24 (.t 0), none, []⟩,
      ⟨(some 6), .mov (.c (.int .i64 0)), none, []⟩])
  (.seq (.reg [⟨(some 9), .loadn 1 (.t 3), none, []⟩,
      ⟨(some 10), .mov (.t 2), none, []⟩,
      ⟨(some 11), .call (.c (.fn 79 [] [])) [.t 9, .t 10], none, []⟩,
      ⟨(some 7), .mov (.t 11), none, []⟩])
  (.seq (.dreg [⟨(some 12), .mov (.t 1), none, []⟩,
      ⟨(some 13), .call (.c (.fn 121 [] [])) [.t 12], none, [0]⟩,
      ⟨(some 14), .loadn 1 (.t 3), none, []⟩,
      ⟨(some 15), .mov (.t 7), none, []⟩,
      ⟨(some 16), .call (.c (.fn 74 [] [])) [.t 14, .t 15], none, [0, 1, 3, 2]⟩,
      ⟨(some 17), .call (.c (.fn 122 [] [])) [.t 13, .t 16], none, [2, 3, 0, 4, 1]⟩,
      ⟨(some 18), .call (.c (.fn 121 [] [])) [.c (.int .i64 1000)], none, [1, 4, 0, 3, 2, 5]⟩,
      ⟨(some 19), .call (.c (.fn 123 [] [])) [.t 17, .t 18], none, [1, 4, 0, 3, 2, 6, 5]⟩,
      ⟨(some 20), .call (.c (.fn 76 [] [])) [.t 19], none, [5, 6, 2, 3, 0, 4, 1, 7]⟩,
      ⟨(some 8), .new 32 [.int .i64 0, .int .i64 0], none, []⟩,
      ⟨none, .store 2 (.t 8) (.t 20), none, [7, 6, 5, 4, 3, 2, 1, 0, 8, 9]⟩])
  (.seq (.dreg [⟨(some 21), .faddr 0 (.t 8), none, []⟩,
      ⟨(some 22), .load1 (.t 21), none, [0]⟩,
      ⟨(some 23), .mov (.t 2), none, []⟩,
      ⟨(some 24), .loadn 1 (.t 3), none, []⟩,
      ⟨(some 25), .call (.c (.fn 75 [] [])) [.t 24], none, [3]⟩,
      ⟨(some 26), .field 1 1 false (.t 25), none, [3, 4]⟩,
      ⟨(some 27), .bin .sub (.t 23) (.t 26), none, [4, 3, 5, 2]⟩,
      ⟨(some 28), .ext false (.t 22) [.t 27], none, [2, 5, 3, 4, 0, 6, 1]⟩,
      ⟨(some 6), .mov (.t 28), none, [6, 5, 3, 2, 1, 0, 4, 7]⟩])
  (.ret)))), 29, [.t 6]⟩
structure PairCode (X : FuncId → Option XFunc) : Prop where
  tab : TabCode X
  h89 : X 89 = some xf89
  h127 : X 127 = some xf127
  h83 : X 83 = some xf83
  h125 : X 125 = some xf125
  h34 : X 34 = some xf34
  h36 : X 36 = some xf36
  h29 : X 29 = some xf29
  h31 : X 31 = some xf31
  h32 : X 32 = some xf32
  h30 : X 30 = some xf30
  h85 : X 85 = some xf85
  h84 : X 84 = some xf84
  h86 : X 86 = some xf86
  h126 : X 126 = some xf126
  h35 : X 35 = some xf35
  h33 : X 33 = some xf33
  h43 : X 43 = some xf43
  h37 : X 37 = some xf37
  h38 : X 38 = some xf38
  h39 : X 39 = some xf39
  h90 : X 90 = some xf90
end Go.Proofs.Ytbpflcilndinfaa.Eng

/-
  CODE of LawB.
-/
namespace Go.Proofs.Ytbpflcilndinfaa.Eng
set_option linter.unusedSimpArgs false
set_option linter.unusedVariables false
def xf5 : XFunc := ⟨.seq (.reg [⟨(some 3), .box 53 (.t 0), none, []⟩,
      ⟨(some 4), .box 55 (.t 1), none, []⟩,
      ⟨(some 5), .box 57 (.t 2), none, []⟩,
      ⟨(some 6), .mov (.c (.bool false)), none, []⟩])
  (.seq (.seq (.reg [⟨(some 17), .call (.c (.fn 11 [] [])) [], none, []⟩,
      ⟨(some 18), .un .not (.t 17), none, []⟩])
  (.cond (.t 18) (.seq (.reg [⟨(some 6), .mov (.c (.bool false)), none, []⟩])
    (.ret)) .skip))
  (.seq (.seq (.reg [⟨(some 19), .loadn 3 (.t 3), none, []⟩,
      ⟨(some 20), .call (.c (.fn 29 [] [])) [.t 19], none, []⟩,
      ⟨(some 21), .un .not (.t 20), none, []⟩])
  (.cond (.t 21) (.seq (.reg [⟨(some 6), .mov (.c (.bool true)), none, []⟩])
    (.ret)) .skip))
  (.seq (.dreg [⟨(some 23), .loadn 3 (.t 3), none, []⟩,
      ⟨(some 24), .call (.c (.fn 31 [] [])) [.t 23], none, [0]⟩,
      ⟨(some 25), .loadn 2 (.t 4), none, []⟩,
      ⟨(some 26), .loadn 3 (.t 5), none, []⟩,
      ⟨(some 27), .call (.c (.fn 30 [] [])) [.t 24, .t 25, .t 26], none, [0, 3, 2, 1]⟩,
      ⟨(some 22), .mov (.t 27), none, [1, 2, 3, 0, 4]⟩,
      ⟨(some 28), .extract (.t 22) 0, none, [4, 0, 3, 2, 1, 5]⟩,
      ⟨(some 29), .extract (.t 22) 1, none, [4, 0, 3, 2, 1, 5]⟩,
      ⟨(some 30), .extract (.t 22) 2, none, [4, 0, 3, 2, 1, 5]⟩,
      ⟨(some 7), .new 55 [.int .i64 0, .int .i64 0], none, []⟩,
      ⟨(some 8), .new 60 [.int .i64 0, .int .i64 0], none, []⟩,
      ⟨none, .store 2 (.t 7) (.t 28), none, [10, 5, 3, 2, 1, 0, 4, 6, 9]⟩,
      ⟨none, .store 2 (.t 8) (.t 29), none, [9, 6, 5, 4, 3, 2, 1, 0, 11, 7, 10]⟩,
      ⟨(some 9), .mov (.t 30), none, [11, 10, 9, 7, 6, 5, 4, 3, 2, 1, 0, 12, 8]⟩])
  (.seq (.dreg [⟨(some 32), .loadn 3 (.t 3), none, []⟩,
      ⟨(some 33), .call (.c (.fn 31 [] [])) [.t 32], none, [0]⟩,
      ⟨(some 34), .loadn 2 (.t 4), none, []⟩,
      ⟨(some 35), .call (.c (.fn 32 [] [])) [.t 33, .t 34], none, [0, 2, 1]⟩,
      ⟨(some 31), .mov (.t 35), none, [1, 2, 0, 3]⟩,
      ⟨(some 36), .extract (.t 31) 0, none, [3, 0, 2, 1, 4]⟩,
      ⟨(some 37), .extract (.t 31) 1, none, [3, 0, 2, 1, 4]⟩,
      ⟨(some 10), .new 55 [.int .i64 0, .int .i64 0], none, []⟩,
      ⟨none, .store 2 (.t 10) (.t 36), none, [4, 2, 1, 0, 3, 5, 7]⟩,
      ⟨(some 11), .mov (.t 37), none, [7, 5, 4, 3, 2, 1, 0, 8, 6]⟩])
  (.seq (.reg [⟨(some 38), .loadn 3 (.t 3), none, []⟩,
      ⟨(some 39), .loadn 2 (.t 4), none, []⟩,
      ⟨(some 40), .call (.c (.fn 33 [] [])) [.t 38, .t 39], none, []⟩,
      ⟨(some 12), .mov (.t 40), none, []⟩])
  (.seq (.seq (.dreg [⟨(some 41), .loadn 3 (.t 3), none, []⟩,
      ⟨(some 42), .call (.c (.fn 31 [] [])) [.t 41], none, [0]⟩,
      ⟨(some 43), .call (.c (.fn 34 [] [])) [.t 42], none, [0, 1]⟩,
      ⟨(some 44), .loadn 3 (.t 3), none, []⟩,
      ⟨(some 45), .call (.c (.fn 35 [] [])) [.t 44], none, [1, 0, 2, 3]⟩,
      ⟨(some 46), .bin .neq (.t 43) (.t 45), none, [3, 1, 0, 4, 2]⟩,
      ⟨(some 47), .mov (.t 46), none, [2, 0, 1, 3, 4, 5]⟩,
      ⟨(some 48), .loadn 3 (.t 3), (some (47, false)), [5, 4, 3, 1, 0, 2, 6]⟩,
      ⟨(some 49), .call (.c (.fn 31 [] [])) [.t 48], (some (47, false)), [2, 0, 1, 3, 4, 5, 6, 7]⟩,
      ⟨(some 50), .loadn 2 (.t 4), (some (47, false)), [5, 4, 3, 1, 0, 2, 6]⟩,
      ⟨(some 51), .call (.c (.fn 36 [] [])) [.t 49, .t 50], (some (47, false)), [7, 5, 4, 3, 1, 0, 2, 6, 9, 8]⟩,
      ⟨(some 52), .mov (.t 12), (some (47, false)), [5, 4, 3, 1, 0, 2, 6]⟩,
      ⟨(some 53), .bin .neq (.t 51) (.t 52), (some (47, false)), [8, 9, 2, 0, 1, 3, 4, 5, 7, 6, 11, 10]⟩,
      ⟨(some 54), .pick (.t 47) (.c (.bool true)) (.t 53), none, [10, 11, 7, 9, 8, 5, 4, 3, 1, 0, 2, 12, 6]⟩])
  (.cond (.t 54) (.seq (.reg [⟨(some 6), .mov (.c (.bool false)), none, []⟩])
    (.ret)) .skip))
  (.seq (.reg [⟨(some 55), .build [.int .i64 0, .int .i64 0] [], none, []⟩,
      ⟨(some 13), .new 55 [.int .i64 0, .int .i64 0], none, []⟩,
      ⟨none, .store 2 (.t 13) (.t 55), none, []⟩])
  (.seq (.seq (.reg [⟨(some 56), .mov (.t 12), none, []⟩,
      ⟨(some 57), .bin .neq (.t 56) (.c (.int .i64 0)), none, []⟩])
  (.cond (.t 57) (.seq (.reg [⟨(some 58), .mov (.t 9), none, []⟩,
        ⟨(some 59), .mov (.t 12), none, []⟩,
        ⟨(some 60), .bin .eql (.t 58) (.t 59), none, []⟩,
        ⟨(some 61), .mov (.t 60), none, []⟩,
        ⟨(some 62), .mov (.t 11), (some (61, true)), []⟩,
        ⟨(some 63), .mov (.t 12), (some (61, true)), []⟩,
        ⟨(some 64), .bin .eql (.t 62) (.t 63), (some (61, true)), []⟩,
        ⟨(some 65), .pick (.t 61) (.t 64) (.c (.bool false)), none, []⟩,
        ⟨(some 66), .mov (.t 65), none, []⟩,
        ⟨(some 67), .loadn 2 (.t 7), (some (66, true)), []⟩,
        ⟨(some 68), .loadn 2 (.t 13), (some (66, true)), []⟩,
        ⟨(some 69), .eqA false (.s [(0, 1, false, .c 0), (1, 1, false, .c 0)]) (.t 67) (.t 68), (some (66, true)), []⟩,
        ⟨(some 70), .pick (.t 66) (.t 69) (.c (.bool false)), none, []⟩,
        ⟨(some 71), .mov (.t 70), none, []⟩,
        ⟨(some 72), .loadn 2 (.t 8), (some (71, true)), []⟩,
        ⟨(some 73), .build [.int .i64 0, .int .i64 0] [], (some (71, true)), []⟩,
        ⟨(some 74), .eqA false (.s [(0, 1, false, .c 0), (1, 1, false, .c 0)]) (.t 72) (.t 73), (some (71, true)), []⟩,
        ⟨(some 75), .pick (.t 71) (.t 74) (.c (.bool false)), none, []⟩,
        ⟨(some 76), .mov (.t 75), none, []⟩,
        ⟨(some 77), .loadn 2 (.t 10), (some (76, true)), []⟩,
        ⟨(some 78), .loadn 2 (.t 13), (some (76, true)), []⟩,
        ⟨(some 79), .eqA false (.s [(0, 1, false, .c 0), (1, 1, false, .c 0)]) (.t 77) (.t 78), (some (76, true)), []⟩,
        ⟨(some 80), .pick (.t 76) (.t 79) (.c (.bool false)), none, []⟩,
        ⟨(some 6), .mov (.t 80), none, []⟩])
    (.ret)) .skip))
  (.seq (.seq (.dreg [⟨(some 81), .mov (.t 11), none, []⟩,
      ⟨(some 82), .bin .neq (.t 81) (.c (.int .i64 0)), none, [0]⟩,
      ⟨(some 83), .mov (.t 82), none, [0, 1]⟩,
      ⟨(some 84), .loadn 2 (.t 10), (some (83, false)), [1, 0, 2]⟩,
      ⟨(some 85), .loadn 3 (.t 3), (some (83, false)), [1, 0, 2]⟩,
      ⟨(some 86), .loadn 2 (.t 4), (some (83, false)), [1, 0, 2]⟩,
      ⟨(some 87), .call (.c (.fn 37 [] [])) [.t 85, .t 86], (some (83, false)), [0, 1, 2, 5, 4]⟩,
      ⟨(some 88), .eqA true (.s [(0, 1, false, .c 0), (1, 1, false, .c 0)]) (.t 84) (.t 87), (some (83, false)), [4, 5, 0, 1, 2, 6, 3]⟩,
      ⟨(some 89), .pick (.t 83) (.c (.bool true)) (.t 88), none, [3, 6, 5, 4, 1, 0, 7, 2]⟩])
  (.cond (.t 89) (.seq (.reg [⟨(some 6), .mov (.c (.bool false)), none, []⟩])
    (.ret)) .skip))
  (.seq (.seq (.reg [⟨(some 90), .loadn 3 (.t 5), none, []⟩,
      ⟨(some 91), .call (.c (.fn 38 [] [])) [.t 90], none, []⟩,
      ⟨(some 12), .mov (.t 91), none, []⟩])
  (.seq (.reg [⟨(some 92), .mov (.t 12), none, []⟩,
      ⟨(some 93), .bin .neq (.t 92) (.c (.int .i64 0)), none, []⟩])
  (.cond (.t 93) (.seq (.reg [⟨(some 94), .mov (.t 9), none, []⟩,
        ⟨(some 95), .mov (.t 12), none, []⟩,
        ⟨(some 96), .bin .eql (.t 94) (.t 95), none, []⟩,
        ⟨(some 97), .mov (.t 96), none, []⟩,
        ⟨(some 98), .loadn 2 (.t 7), (some (97, true)), []⟩,
        ⟨(some 99), .loadn 2 (.t 13), (some (97, true)), []⟩,
        ⟨(some 100), .eqA false (.s [(0, 1, false, .c 0), (1, 1, false, .c 0)]) (.t 98) (.t 99), (some (97, true)), []⟩,
        ⟨(some 101), .pick (.t 97) (.t 100) (.c (.bool false)), none, []⟩,
        ⟨(some 102), .mov (.t 101), none, []⟩,
        ⟨(some 103), .loadn 2 (.t 8), (some (102, true)), []⟩,
        ⟨(some 104), .build [.int .i64 0, .int .i64 0] [], (some (102, true)), []⟩,
        ⟨(some 105), .eqA false (.s [(0, 1, false, .c 0), (1, 1, false, .c 0)]) (.t 103) (.t 104), (some (102, true)), []⟩,
        ⟨(some 106), .pick (.t 102) (.t 105) (.c (.bool false)), none, []⟩,
        ⟨(some 6), .mov (.t 106), none, []⟩])
    (.ret)) .skip)))
  (.seq (.reg [⟨(some 108), .loadn 3 (.t 3), none, []⟩,
      ⟨(some 109), .loadn 2 (.t 4), none, []⟩,
      ⟨(some 110), .loadn 3 (.t 5), none, []⟩,
      ⟨(some 111), .call (.c (.fn 39 [] [])) [.t 108, .t 109, .t 110], none, []⟩,
      ⟨(some 107), .mov (.t 111), none, []⟩,
      ⟨(some 112), .extract (.t 107) 0, none, []⟩,
      ⟨(some 113), .extract (.t 107) 1, none, []⟩,
      ⟨(some 114), .extract (.t 107) 2, none, []⟩,
      ⟨(some 14), .new 55 [.int .i64 0, .int .i64 0], none, []⟩,
      ⟨(some 15), .new 60 [.int .i64 0, .int .i64 0], none, []⟩,
      ⟨none, .store 2 (.t 14) (.t 112), none, []⟩,
      ⟨none, .store 2 (.t 15) (.t 113), none, []⟩,
      ⟨(some 16), .mov (.t 114), none, []⟩])
  (.seq (.seq (.reg [⟨(some 115), .mov (.t 16), none, []⟩,
      ⟨(some 116), .un .not (.t 115), none, []⟩])
  (.cond (.t 116) (.seq (.reg [⟨(some 117), .mov (.t 9), none, []⟩,
        ⟨(some 118), .bin .eql (.t 117) (.c (.int .i64 22)), none, []⟩,
        ⟨(some 119), .mov (.t 118), none, []⟩,
        ⟨(some 120), .loadn 2 (.t 7), (some (119, true)), []⟩,
        ⟨(some 121), .loadn 2 (.t 13), (some (119, true)), []⟩,
        ⟨(some 122), .eqA false (.s [(0, 1, false, .c 0), (1, 1, false, .c 0)]) (.t 120) (.t 121), (some (119, true)), []⟩,
        ⟨(some 123), .pick (.t 119) (.t 122) (.c (.bool false)), none, []⟩,
        ⟨(some 124), .mov (.t 123), none, []⟩,
        ⟨(some 125), .loadn 2 (.t 8), (some (124, true)), []⟩,
        ⟨(some 126), .build [.int .i64 0, .int .i64 0] [], (some (124, true)), []⟩,
        ⟨(some 127), .eqA false (.s [(0, 1, false, .c 0), (1, 1, false, .c 0)]) (.t 125) (.t 126), (some (124, true)), []⟩,
        ⟨(some 128), .pick (.t 124) (.t 127) (.c (.bool false)), none, []⟩,
        ⟨(some 6), .mov (.t 128), none, []⟩])
    (.ret)) .skip))
  (.seq (.reg [⟨(some 129), .mov (.t 9), none, []⟩,
      ⟨(some 130), .bin .eql (.t 129) (.c (.int .i64 0)), none, []⟩,
      ⟨(some 131), .mov (.t 130), none, []⟩,
      ⟨(some 132), .loadn 2 (.t 7), (some (131, true)), []⟩,
      ⟨(some 133), .loadn 2 (.t 14), (some (131, true)), []⟩,
      ⟨(some 134), .eqA false (.s [(0, 1, false, .c 0), (1, 1, false, .c 0)]) (.t 132) (.t 133), (some (131, true)), []⟩,
      ⟨(some 135), .pick (.t 131) (.t 134) (.c (.bool false)), none, []⟩,
      ⟨(some 136), .mov (.t 135), none, []⟩,
      ⟨(some 137), .loadn 2 (.t 8), (some (136, true)), []⟩,
      ⟨(some 138), .loadn 2 (.t 15), (some (136, true)), []⟩,
      ⟨(some 139), .eqA false (.s [(0, 1, false, .c 0), (1, 1, false, .c 0)]) (.t 137) (.t 138), (some (136, true)), []⟩,
      ⟨(some 140), .pick (.t 136) (.t 139) (.c (.bool false)), none, []⟩,
      ⟨(some 6), .mov (.t 140), none, []⟩])
  (.ret)))))))))))))), 141, [.t 6]⟩
def xf7 : XFunc := ⟨.seq (.reg [⟨(some 3), .box 53 (.t 0), none, []⟩,
      ⟨(some 4), .box 55 (.t 1), none, []⟩,
      ⟨(some 6), .mov (.c (.bool false)), none, []⟩])
  (.seq (.seq (.reg [⟨(some 17), .call (.c (.fn 11 [] [])) [], none, []⟩,
      ⟨(some 18), .un .not (.t 17), none, []⟩])
  (.cond (.t 18) (.seq (.reg [⟨(some 6), .mov (.c (.bool false)), none, []⟩])
    (.ret)) .skip))
  (.seq (.seq (.reg [⟨(some 19), .loadn 3 (.t 3), none, []⟩,
      ⟨(some 20), .call (.c (.fn 29 [] [])) [.t 19], none, []⟩,
      ⟨(some 21), .un .not (.t 20), none, []⟩,
      ⟨(some 22), .mov (.t 21), none, []⟩,
      ⟨(some 23), .loadn 3 (.t 3), (some (22, false)), []⟩,
      ⟨(some 24), .loadn 2 (.t 4), (some (22, false)), []⟩,
      ⟨(some 25), .call (.c (.fn 33 [] [])) [.t 23, .t 24], (some (22, false)), []⟩,
      ⟨(some 26), .bin .neq (.t 25) (.c (.int .i64 0)), (some (22, false)), []⟩,
      ⟨(some 27), .pick (.t 22) (.c (.bool true)) (.t 26), none, []⟩,
      ⟨(some 28), .mov (.t 27), none, []⟩,
      ⟨(some 29), .mov (.t 2), (some (28, false)), []⟩,
      ⟨(some 30), .call (.c (.fn 25 [] [])) [.t 29, .c (.int .i64 (-10000000)), .c (.int .i64 10000000)], (some (28, false)), []⟩,
      ⟨(some 31), .un .not (.t 30), (some (28, false)), []⟩,
      ⟨(some 32), .pick (.t 28) (.c (.bool true)) (.t 31), none, []⟩])
  (.cond (.t 32) (.seq (.reg [⟨(some 6), .mov (.c (.bool true)), none, []⟩])
    (.ret)) .skip))
  (.seq (.reg [⟨(some 33), .loadn 3 (.t 3), none, []⟩,
      ⟨(some 34), .call (.c (.fn 31 [] [])) [.t 33], none, []⟩,
      ⟨(some 7), .new 53 [.nils, .nils, .int .i64 0], none, []⟩,
      ⟨none, .store 3 (.t 7) (.t 34), none, []⟩])
  (.seq (.reg [⟨(some 35), .faddr 2 (.t 7), none, []⟩,
      ⟨none, .store 1 (.t 35) (.c (.int .i64 0)), none, []⟩])
  (.seq (.dreg [⟨(some 37), .loadn 3 (.t 7), none, []⟩,
      ⟨(some 38), .call (.c (.fn 31 [] [])) [.t 37], none, [0]⟩,
      ⟨(some 39), .loadn 2 (.t 4), none, []⟩,
      ⟨(some 40), .call (.c (.fn 32 [] [])) [.t 38, .t 39], none, [0, 2, 1]⟩,
      ⟨(some 36), .mov (.t 40), none, [1, 2, 0, 3]⟩,
      ⟨(some 41), .extract (.t 36) 0, none, [3, 0, 2, 1, 4]⟩,
      ⟨(some 42), .extract (.t 36) 1, none, [3, 0, 2, 1, 4]⟩,
      ⟨(some 8), .new 55 [.int .i64 0, .int .i64 0], none, []⟩,
      ⟨none, .store 2 (.t 8) (.t 41), none, [4, 2, 1, 0, 3, 5, 7]⟩,
      ⟨(some 9), .mov (.t 42), none, [7, 5, 4, 3, 2, 1, 0, 8, 6]⟩])
  (.seq (.seq (.reg [⟨(some 43), .mov (.t 9), none, []⟩,
      ⟨(some 44), .bin .neq (.t 43) (.c (.int .i64 0)), none, []⟩,
      ⟨(some 45), .mov (.t 44), none, []⟩,
      ⟨(some 46), .faddr 0 (.t 8), (some (45, false)), []⟩,
      ⟨(some 47), .load1 (.t 46), (some (45, false)), []⟩,
      ⟨(some 48), .call (.c (.fn 25 [] [])) [.t 47, .c (.int .i64 0), .c (.int .i64 1000000000)], (some (45, false)), []⟩,
      ⟨(some 49), .un .not (.t 48), (some (45, false)), []⟩,
      ⟨(some 50), .pick (.t 45) (.c (.bool true)) (.t 49), none, []⟩,
      ⟨(some 51), .mov (.t 50), none, []⟩,
      ⟨(some 52), .faddr 1 (.t 8), (some (51, false)), []⟩,
      ⟨(some 53), .load1 (.t 52), (some (51, false)), []⟩,
      ⟨(some 54), .call (.c (.fn 25 [] [])) [.t 53, .c (.int .i64 0), .c (.int .i64 1000000000)], (some (51, false)), []⟩,
      ⟨(some 55), .un .not (.t 54), (some (51, false)), []⟩,
      ⟨(some 56), .pick (.t 51) (.c (.bool true)) (.t 55), none, []⟩])
  (.cond (.t 56) (.seq (.reg [⟨(some 6), .mov (.c (.bool false)), none, []⟩])
    (.ret)) .skip))
  (.seq (.dreg [⟨(some 58), .loadn 3 (.t 7), none, []⟩,
      ⟨(some 59), .call (.c (.fn 31 [] [])) [.t 58], none, [0]⟩,
      ⟨(some 60), .loadn 2 (.t 4), none, []⟩,
      ⟨(some 61), .mov (.t 2), none, []⟩,
      ⟨(some 62), .build [.int .i64 0, .int .i64 0, .int .i64 0] [(2, 1, .t 61)], none, [3]⟩,
      ⟨(some 63), .call (.c (.fn 30 [] [])) [.t 59, .t 60, .t 62], none, [3, 0, 4, 2, 1]⟩,
      ⟨(some 57), .mov (.t 63), none, [1, 2, 4, 0, 3, 5]⟩,
      ⟨(some 64), .extract (.t 57) 0, none, [5, 3, 0, 4, 2, 1, 6]⟩,
      ⟨(some 65), .extract (.t 57) 1, none, [5, 3, 0, 4, 2, 1, 6]⟩,
      ⟨(some 66), .extract (.t 57) 2, none, [5, 3, 0, 4, 2, 1, 6]⟩,
      ⟨(some 10), .new 55 [.int .i64 0, .int .i64 0], none, []⟩,
      ⟨(some 11), .new 60 [.int .i64 0, .int .i64 0], none, []⟩,
      ⟨none, .store 2 (.t 10) (.t 64), none, [11, 6, 4, 3, 2, 1, 0, 5, 7, 10]⟩,
      ⟨none, .store 2 (.t 11) (.t 65), none, [10, 7, 6, 5, 4, 3, 2, 1, 0, 12, 8, 11]⟩,
      ⟨(some 12), .mov (.t 66), none, [12, 11, 10, 8, 7, 6, 5, 4, 3, 2, 1, 0, 13, 9]⟩])
  (.seq (.seq (.reg [⟨(some 67), .mov (.t 12), none, []⟩,
      ⟨(some 68), .bin .neq (.t 67) (.c (.int .i64 0)), none, []⟩,
      ⟨(some 69), .mov (.t 68), none, []⟩,
      ⟨(some 70), .mov (.t 12), (some (69, true)), []⟩,
      ⟨(some 71), .bin .neq (.t 70) (.c (.int .i64 22)), (some (69, true)), []⟩,
      ⟨(some 72), .pick (.t 69) (.t 71) (.c (.bool false)), none, []⟩])
  (.cond (.t 72) (.seq (.reg [⟨(some 6), .mov (.c (.bool false)), none, []⟩])
    (.ret)) .skip))
  (.seq (.reg [⟨(some 73), .mov (.t 12), none, []⟩,
      ⟨(some 74), .bin .eql (.t 73) (.c (.int .i64 0)), none, []⟩,
      ⟨(some 75), .mov (.t 74), none, []⟩,
      ⟨(some 76), .loadn 2 (.t 11), (some (75, true)), []⟩,
      ⟨(some 77), .build [.int .i64 0, .int .i64 0] [], (some (75, true)), []⟩,
      ⟨(some 78), .eqA false (.s [(0, 1, false, .c 0), (1, 1, false, .c 0)]) (.t 76) (.t 77), (some (75, true)), []⟩,
      ⟨(some 79), .pick (.t 75) (.t 78) (.c (.bool false)), none, []⟩,
      ⟨(some 13), .mov (.t 79), none, []⟩])
  (.seq (.seq (.reg [⟨(some 80), .mov (.t 13), none, []⟩,
      ⟨(some 81), .mov (.t 2), none, []⟩,
      ⟨(some 82), .faddr 0 (.t 8), none, []⟩,
      ⟨(some 83), .load1 (.t 82), none, []⟩,
      ⟨(some 84), .un .neg (.t 83), none, []⟩,
      ⟨(some 85), .faddr 1 (.t 8), none, []⟩,
      ⟨(some 86), .load1 (.t 85), none, []⟩,
      ⟨(some 87), .call (.c (.fn 25 [] [])) [.t 81, .t 84, .t 86], none, []⟩,
      ⟨(some 88), .eqb true (.t 80) (.t 87), none, []⟩])
  (.cond (.t 88) (.seq (.reg [⟨(some 6), .mov (.c (.bool false)), none, []⟩])
    (.ret)) .skip))
  (.seq (.seq (.reg [⟨(some 89), .mov (.t 13), none, []⟩,
      ⟨(some 90), .un .not (.t 89), none, []⟩])
  (.cond (.t 90) (.seq (.reg [⟨(some 6), .mov (.c (.bool true)), none, []⟩])
    (.ret)) .skip))
  (.seq (.reg [⟨(some 92), .loadn 3 (.t 7), none, []⟩,
      ⟨(some 93), .loadn 2 (.t 10), none, []⟩,
      ⟨(some 94), .mov (.t 2), none, []⟩,
      ⟨(some 95), .un .neg (.t 94), none, []⟩,
      ⟨(some 96), .build [.int .i64 0, .int .i64 0, .int .i64 0] [(2, 1, .t 95)], none, []⟩,
      ⟨(some 97), .call (.c (.fn 30 [] [])) [.t 92, .t 93, .t 96], none, []⟩,
      ⟨(some 91), .mov (.t 97), none, []⟩,
      ⟨(some 98), .extract (.t 91) 0, none, []⟩,
      ⟨(some 99), .extract (.t 91) 1, none, []⟩,
      ⟨(some 100), .extract (.t 91) 2, none, []⟩,
      ⟨(some 14), .new 55 [.int .i64 0, .int .i64 0], none, []⟩,
      ⟨(some 15), .new 60 [.int .i64 0, .int .i64 0], none, []⟩,
      ⟨none, .store 2 (.t 14) (.t 98), none, []⟩,
      ⟨none, .store 2 (.t 15) (.t 99), none, []⟩,
      ⟨(some 16), .mov (.t 100), none, []⟩])
  (.seq (.reg [⟨(some 101), .mov (.t 16), none, []⟩,
      ⟨(some 102), .bin .eql (.t 101) (.c (.int .i64 0)), none, []⟩,
      ⟨(some 103), .mov (.t 102), none, []⟩,
      ⟨(some 104), .loadn 2 (.t 14), (some (103, true)), []⟩,
      ⟨(some 105), .loadn 2 (.t 4), (some (103, true)), []⟩,
      ⟨(some 106), .eqA false (.s [(0, 1, false, .c 0), (1, 1, false, .c 0)]) (.t 104) (.t 105), (some (103, true)), []⟩,
      ⟨(some 107), .pick (.t 103) (.t 106) (.c (.bool false)), none, []⟩,
      ⟨(some 108), .mov (.t 107), none, []⟩,
      ⟨(some 109), .loadn 2 (.t 15), (some (108, true)), []⟩,
      ⟨(some 110), .build [.int .i64 0, .int .i64 0] [], (some (108, true)), []⟩,
      ⟨(some 111), .eqA false (.s [(0, 1, false, .c 0), (1, 1, false, .c 0)]) (.t 109) (.t 110), (some (108, true)), []⟩,
      ⟨(some 112), .pick (.t 108) (.t 111) (.c (.bool false)), none, []⟩,
      ⟨(some 6), .mov (.t 112), none, []⟩])
  (.ret)))))))))))))), 113, [.t 6]⟩
structure LawBCode (X : FuncId → Option XFunc) : Prop where
  pair : PairCode X
  h5 : X 5 = some xf5
  h7 : X 7 = some xf7
end Go.Proofs.Ytbpflcilndinfaa.Eng

/-
  CODE of Read.
-/
namespace Go.Proofs.Ytbpflcilndinfaa.Eng
set_option linter.unusedSimpArgs false
set_option linter.unusedVariables false
def xf98l0 : XCode := .seq (.seq (.reg [⟨(some 7), .mov (.t 3), none, []⟩,
      ⟨(some 8), .mov (.t 0), none, []⟩,
      ⟨(some 9), .len (.t 8), none, []⟩,
      ⟨(some 10), .bin .lss (.t 7) (.t 9), none, []⟩])
  (.cond (.t 10) .skip (.exit 0)))
  (.seq (.block 1 (.seq (.reg [⟨(some 13), .mov (.t 0), none, []⟩,
        ⟨(some 14), .mov (.t 3), none, []⟩,
        ⟨(some 15), .iaddr 1 (.t 13) (.t 14), none, []⟩,
        ⟨(some 16), .load1 (.t 15), none, []⟩,
        ⟨(some 17), .call (.c (.fn 25 [] [])) [.t 16, .c (.int .i64 (-10000000)), .c (.int .i64 10000000)], none, []⟩,
        ⟨(some 18), .un .not (.t 17), none, []⟩])
    (.cond (.t 18) (.seq (.reg [⟨(some 2), .mov (.c (.int .i64 2)), none, []⟩])
      (.ret)) .skip)))
  (.reg [⟨(some 11), .mov (.t 3), none, []⟩,
      ⟨(some 12), .bin .add (.t 11) (.c (.int .i64 1)), none, []⟩,
      ⟨(some 3), .mov (.t 12), none, []⟩]))
def xf98 : XFunc := ⟨.seq (.reg [⟨(some 2), .mov (.c (.int .i64 0)), none, []⟩])
  (.seq (.seq (.reg [⟨(some 4), .mov (.t 0), none, []⟩,
      ⟨(some 5), .len (.t 4), none, []⟩,
      ⟨(some 6), .bin .gtr (.t 5) (.c (.int .i64 200)), none, []⟩])
  (.cond (.t 6) (.seq (.reg [⟨(some 2), .mov (.c (.int .i64 8)), none, []⟩])
    (.ret)) .skip))
  (.seq (.seq (.reg [⟨(some 3), .mov (.c (.int .i64 0)), none, []⟩])
  (.block 0 (.loop xf98l0)))
  (.seq (.reg [⟨(some 2), .mov (.c (.int .i64 0)), none, []⟩])
  (.ret)))), 19, [.t 2]⟩
def xf99l0 : XCode := .seq (.seq (.reg [⟨(some 14), .mov (.t 7), none, []⟩,
      ⟨(some 15), .mov (.t 2), none, []⟩,
      ⟨(some 16), .len (.t 15), none, []⟩,
      ⟨(some 17), .bin .lss (.t 14) (.t 16), none, []⟩])
  (.cond (.t 17) .skip (.exit 0)))
  (.seq (.block 1 (.seq (.seq (.dreg [⟨(some 20), .mov (.t 2), none, []⟩,
        ⟨(some 21), .mov (.t 7), none, []⟩,
        ⟨(some 22), .iaddr 3 (.t 20) (.t 21), none, [1, 0]⟩,
        ⟨(some 23), .faddr 0 (.t 22), none, [0, 1, 2]⟩,
        ⟨(some 24), .load1 (.t 23), none, [2, 1, 0, 3]⟩,
        ⟨(some 25), .mov (.t 1), none, []⟩,
        ⟨(some 26), .len (.t 25), none, [5]⟩,
        ⟨(some 27), .call (.c (.fn 25 [] [])) [.t 24, .c (.int .i64 0), .t 26], none, [5, 3, 0, 1, 2, 6, 4]⟩,
        ⟨(some 28), .un .not (.t 27), none, [4, 6, 2, 1, 0, 3, 5, 7]⟩,
        ⟨(some 29), .mov (.t 28), none, [5, 3, 0, 1, 2, 6, 4, 7, 8]⟩,
        ⟨(some 30), .loadn 1 (.t 3), (some (29, false)), [8, 7, 4, 6, 2, 1, 0, 3, 5, 9]⟩,
        ⟨(some 31), .mov (.t 2), (some (29, false)), [8, 7, 4, 6, 2, 1, 0, 3, 5, 9]⟩,
        ⟨(some 32), .mov (.t 7), (some (29, false)), [8, 7, 4, 6, 2, 1, 0, 3, 5, 9]⟩,
        ⟨(some 33), .iaddr 3 (.t 31) (.t 32), (some (29, false)), [5, 3, 0, 1, 2, 6, 4, 7, 8, 9, 12, 11]⟩,
        ⟨(some 34), .faddr 1 (.t 33), (some (29, false)), [11, 12, 8, 7, 4, 6, 2, 1, 0, 3, 5, 9, 13]⟩,
        ⟨(some 35), .faddr 0 (.t 34), (some (29, false)), [13, 5, 3, 0, 1, 2, 6, 4, 7, 8, 12, 11, 9, 14]⟩,
        ⟨(some 36), .load1 (.t 35), (some (29, false)), [14, 11, 12, 8, 7, 4, 6, 2, 1, 0, 3, 5, 13, 9, 15]⟩,
        ⟨(some 37), .call (.c (.fn 19 [] [])) [.t 30, .t 36], (some (29, false)), [15, 13, 12, 11, 14, 5, 3, 0, 1, 2, 6, 4, 7, 8, 9, 16, 10]⟩,
        ⟨(some 38), .un .not (.t 37), (some (29, false)), [10, 16, 8, 7, 4, 6, 2, 1, 0, 3, 5, 14, 11, 12, 13, 15, 9, 17]⟩,
        ⟨(some 39), .pick (.t 29) (.c (.bool true)) (.t 38), none, [17, 15, 13, 12, 11, 14, 16, 10, 8, 7, 4, 6, 2, 1, 0, 3, 5, 18, 9]⟩,
        ⟨(some 40), .mov (.t 39), none, [9, 18, 5, 3, 0, 1, 2, 6, 4, 7, 8, 10, 16, 14, 11, 12, 13, 15, 17, 19]⟩,
        ⟨(some 41), .loadn 1 (.t 3), (some (40, false)), [19, 17, 15, 13, 12, 11, 14, 16, 10, 8, 7, 4, 6, 2, 1, 0, 3, 5, 18, 9, 20]⟩,
        ⟨(some 42), .mov (.t 2), (some (40, false)), [19, 17, 15, 13, 12, 11, 14, 16, 10, 8, 7, 4, 6, 2, 1, 0, 3, 5, 18, 9, 20]⟩,
        ⟨(some 43), .mov (.t 7), (some (40, false)), [19, 17, 15, 13, 12, 11, 14, 16, 10, 8, 7, 4, 6, 2, 1, 0, 3, 5, 18, 9, 20]⟩,
        ⟨(some 44), .iaddr 3 (.t 42) (.t 43), (some (40, false)), [9, 18, 5, 3, 0, 1, 2, 6, 4, 7, 8, 10, 16, 14, 11, 12, 13, 15, 17, 19, 20, 23, 22]⟩,
        ⟨(some 45), .faddr 1 (.t 44), (some (40, false)), [22, 23, 19, 17, 15, 13, 12, 11, 14, 16, 10, 8, 7, 4, 6, 2, 1, 0, 3, 5, 18, 9, 20, 24]⟩,
        ⟨(some 46), .faddr 1 (.t 45), (some (40, false)), [24, 9, 18, 5, 3, 0, 1, 2, 6, 4, 7, 8, 10, 16, 14, 11, 12, 13, 15, 17, 19, 23, 22, 20, 25]⟩,
        ⟨(some 47), .load1 (.t 46), (some (40, false)), [25, 22, 23, 19, 17, 15, 13, 12, 11, 14, 16, 10, 8, 7, 4, 6, 2, 1, 0, 3, 5, 18, 9, 24, 20, 26]⟩,
        ⟨(some 48), .call (.c (.fn 19 [] [])) [.t 41, .t 47], (some (40, false)), [26, 24, 23, 22, 25, 9, 18, 5, 3, 0, 1, 2, 6, 4, 7, 8, 10, 16, 14, 11, 12, 13, 15, 17, 19, 20, 27, 21]⟩,
        ⟨(some 49), .un .not (.t 48), (some (40, false)), [21, 27, 19, 17, 15, 13, 12, 11, 14, 16, 10, 8, 7, 4, 6, 2, 1, 0, 3, 5, 18, 9, 25, 22, 23, 24, 26, 20, 28]⟩,
        ⟨(some 50), .pick (.t 40) (.c (.bool true)) (.t 49), none, [28, 26, 24, 23, 22, 25, 27, 21, 19, 17, 15, 13, 12, 11, 14, 16, 10, 8, 7, 4, 6, 2, 1, 0, 3, 5, 18, 9, 29, 20]⟩])
    (.cond (.t 50) (.seq (.reg [⟨(some 6), .mov (.c (.int .i64 2)), none, []⟩])
      (.ret)) .skip))
    (.seq (.dreg [⟨(some 51), .mov (.t 2), none, []⟩,
        ⟨(some 52), .mov (.t 7), none, []⟩,
        ⟨(some 53), .iaddr 3 (.t 51) (.t 52), none, [1, 0]⟩,
        ⟨(some 54), .faddr 1 (.t 53), none, [0, 1, 2]⟩,
        ⟨(some 55), .faddr 0 (.t 54), none, [2, 1, 0, 3]⟩,
        ⟨(some 56), .load1 (.t 55), none, [3, 0, 1, 2, 4]⟩,
        ⟨(some 57), .mov (.t 2), none, []⟩,
        ⟨(some 58), .mov (.t 7), none, []⟩,
        ⟨(some 59), .iaddr 3 (.t 57) (.t 58), none, [7, 6]⟩,
        ⟨(some 60), .faddr 1 (.t 59), none, [6, 7, 8]⟩,
        ⟨(some 61), .faddr 1 (.t 60), none, [8, 7, 6, 9]⟩,
        ⟨(some 62), .load1 (.t 61), none, [9, 6, 7, 8, 10]⟩,
        ⟨(some 63), .bin .gtr (.t 56) (.t 62), none, [10, 8, 7, 6, 9, 4, 2, 1, 0, 3, 11, 5]⟩])
    (.cond (.t 63) (.seq (.reg [⟨(some 6), .mov (.c (.int .i64 9)), none, []⟩])
      (.ret)) .skip))))
  (.reg [⟨(some 18), .mov (.t 7), none, []⟩,
      ⟨(some 19), .bin .add (.t 18) (.c (.int .i64 1)), none, []⟩,
      ⟨(some 7), .mov (.t 19), none, []⟩]))
def xf99 : XFunc := ⟨.seq (.reg [⟨(some 3), .box 24 (.t 0), none, []⟩,
      ⟨(some 6), .mov (.c (.int .i64 0)), none, []⟩])
  (.seq (.seq (.reg [⟨(some 8), .mov (.t 2), none, []⟩,
      ⟨(some 9), .len (.t 8), none, []⟩,
      ⟨(some 10), .bin .eql (.t 9) (.c (.int .i64 0)), none, []⟩])
  (.cond (.t 10) (.seq (.reg [⟨(some 6), .mov (.c (.int .i64 10)), none, []⟩])
    (.ret)) .skip))
  (.seq (.seq (.reg [⟨(some 11), .mov (.t 2), none, []⟩,
      ⟨(some 12), .len (.t 11), none, []⟩,
      ⟨(some 13), .bin .gtr (.t 12) (.c (.int .i64 10)), none, []⟩])
  (.cond (.t 13) (.seq (.reg [⟨(some 6), .mov (.c (.int .i64 8)), none, []⟩])
    (.ret)) .skip))
  (.seq (.seq (.reg [⟨(some 7), .mov (.c (.int .i64 0)), none, []⟩])
  (.block 0 (.loop xf99l0)))
  (.seq (.reg [⟨(some 6), .mov (.c (.int .i64 0)), none, []⟩])
  (.ret))))), 64, [.t 6]⟩
def xf48 : XFunc := ⟨.seq (.reg [⟨(some 3), .box 24 (.t 0), none, []⟩,
      ⟨(some 6), .mov (.c (.int .i64 0)), none, []⟩])
  (.seq (.seq (.reg [⟨(some 9), .loadn 1 (.t 3), none, []⟩,
      ⟨(some 10), .call (.c (.fn 24 [] [])) [.t 9], none, []⟩,
      ⟨(some 7), .mov (.t 10), none, []⟩])
  (.seq (.reg [⟨(some 11), .mov (.t 7), none, []⟩,
      ⟨(some 12), .bin .neq (.t 11) (.c (.int .i64 0)), none, []⟩])
  (.cond (.t 12) (.seq (.reg [⟨(some 13), .mov (.t 7), none, []⟩,
        ⟨(some 6), .mov (.t 13), none, []⟩])
    (.ret)) .skip)))
  (.seq (.seq (.reg [⟨(some 14), .mov (.t 1), none, []⟩,
      ⟨(some 15), .call (.c (.fn 98 [] [])) [.t 14], none, []⟩,
      ⟨(some 8), .mov (.t 15), none, []⟩])
  (.seq (.reg [⟨(some 16), .mov (.t 8), none, []⟩,
      ⟨(some 17), .bin .neq (.t 16) (.c (.int .i64 0)), none, []⟩])
  (.cond (.t 17) (.seq (.reg [⟨(some 18), .mov (.t 8), none, []⟩,
        ⟨(some 6), .mov (.t 18), none, []⟩])
    (.ret)) .skip)))
  (.seq (.reg [⟨(some 19), .loadn 1 (.t 3), none, []⟩,
      ⟨(some 20), .mov (.t 1), none, []⟩,
      ⟨(some 21), .mov (.t 2), none, []⟩,
      ⟨(some 22), .call (.c (.fn 99 [] [])) [.t 19, .t 20, .t 21], none, []⟩,
      ⟨(some 6), .mov (.t 22), none, []⟩])
  (.ret)))), 23, [.t 6]⟩
def xf132 : XFunc := ⟨.seq (.reg [⟨(some 2), .mov (.c (.int .i64 0)), none, []⟩])
  (.seq (.seq (.reg [⟨(some 3), .mov (.t 0), none, []⟩,
      ⟨(some 4), .call (.c (.fn 96 [] [])) [.t 3, .c (.int .i64 (-10000000)), .c (.int .i64 10000000)], none, []⟩,
      ⟨(some 5), .un .not (.t 4), none, []⟩])
  (.cond (.t 5) (.seq (.reg [⟨(some 2), .mov (.c (.int .i64 2)), none, []⟩])
    (.ret)) .skip))
  (.seq (.reg [⟨(some 2), .mov (.c (.int .i64 0)), none, []⟩])
  (.ret))), 6, [.t 2]⟩
def xf131 : XFunc := ⟨.seq (.reg [⟨(some 3), .mov (.c (.int .i64 0)), none, []⟩])
  (.seq (.reg [⟨(some 4), .load1 (.t 1), none, []⟩,
      ⟨(some 5), .mov (.t 0), none, []⟩,
      ⟨(some 6), .iaddr 1 (.t 4) (.t 5), none, []⟩,
      ⟨(some 7), .load1 (.t 6), none, []⟩,
      ⟨(some 8), .call (.c (.fn 132 [] [])) [.t 7], none, []⟩,
      ⟨(some 3), .mov (.t 8), none, []⟩])
  (.ret)), 9, [.t 3]⟩
def xf134 : XFunc := ⟨.seq (.reg [⟨(some 3), .box 123 (.t 0), none, []⟩,
      ⟨(some 4), .box 100 (.t 1), none, []⟩,
      ⟨(some 6), .mov (.c (.int .i64 0)), none, []⟩])
  (.seq (.dreg [⟨(some 7), .faddr 0 (.t 4), none, []⟩,
      ⟨(some 8), .load1 (.t 7), none, [0]⟩,
      ⟨(some 9), .mov (.t 2), none, []⟩,
      ⟨(some 10), .call (.c (.fn 96 [] [])) [.t 8, .c (.int .i64 0), .t 9], none, [0, 2, 1]⟩,
      ⟨(some 11), .un .not (.t 10), none, [1, 2, 0, 3]⟩,
      ⟨(some 12), .call (.c (.fn 59 [] [])) [.t 11, .c (.int .i64 2)], none, [0, 2, 1, 3, 4]⟩,
      ⟨(some 13), .loadn 1 (.t 3), none, []⟩,
      ⟨(some 14), .faddr 1 (.t 4), none, []⟩,
      ⟨(some 15), .faddr 0 (.t 14), none, [7]⟩,
      ⟨(some 16), .load1 (.t 15), none, [7, 8]⟩,
      ⟨(some 17), .call (.c (.fn 64 [] [])) [.t 13, .t 16], none, [4, 3, 1, 2, 0, 8, 7, 5, 9, 6]⟩,
      ⟨(some 18), .un .not (.t 17), none, [6, 9, 5, 7, 8, 0, 2, 1, 3, 4, 10]⟩,
      ⟨(some 19), .mov (.t 18), none, [4, 3, 1, 2, 0, 8, 7, 5, 9, 6, 10, 11]⟩,
      ⟨(some 20), .loadn 1 (.t 3), (some (19, false)), [11, 10, 6, 9, 5, 7, 8, 0, 2, 1, 3, 4, 12]⟩,
      ⟨(some 21), .faddr 1 (.t 4), (some (19, false)), [11, 10, 6, 9, 5, 7, 8, 0, 2, 1, 3, 4, 12]⟩,
      ⟨(some 22), .faddr 1 (.t 21), (some (19, false)), [4, 3, 1, 2, 0, 8, 7, 5, 9, 6, 10, 11, 12, 14]⟩,
      ⟨(some 23), .load1 (.t 22), (some (19, false)), [14, 11, 10, 6, 9, 5, 7, 8, 0, 2, 1, 3, 4, 12, 15]⟩,
      ⟨(some 24), .call (.c (.fn 64 [] [])) [.t 20, .t 23], (some (19, false)), [15, 14, 4, 3, 1, 2, 0, 8, 7, 5, 9, 6, 10, 11, 12, 16, 13]⟩,
      ⟨(some 25), .un .not (.t 24), (some (19, false)), [13, 16, 11, 10, 6, 9, 5, 7, 8, 0, 2, 1, 3, 4, 14, 15, 12, 17]⟩,
      ⟨(some 26), .pick (.t 19) (.c (.bool true)) (.t 25), none, [17, 15, 14, 16, 13, 11, 10, 6, 9, 5, 7, 8, 0, 2, 1, 3, 4, 18, 12]⟩,
      ⟨(some 27), .call (.c (.fn 59 [] [])) [.t 26, .c (.int .i64 2)], none, [12, 18, 4, 3, 1, 2, 0, 8, 7, 5, 9, 6, 10, 11, 13, 16, 14, 15, 17, 19]⟩,
      ⟨(some 28), .faddr 1 (.t 4), none, []⟩,
      ⟨(some 29), .faddr 0 (.t 28), none, [21]⟩,
      ⟨(some 30), .load1 (.t 29), none, [21, 22]⟩,
      ⟨(some 31), .faddr 1 (.t 4), none, []⟩,
      ⟨(some 32), .faddr 1 (.t 31), none, [24]⟩,
      ⟨(some 33), .load1 (.t 32), none, [24, 25]⟩,
      ⟨(some 34), .bin .gtr (.t 30) (.t 33), none, [25, 24, 22, 21, 26, 23]⟩,
      ⟨(some 35), .call (.c (.fn 59 [] [])) [.t 34, .c (.int .i64 9)], none, [19, 17, 15, 14, 16, 13, 11, 10, 6, 9, 5, 7, 8, 0, 2, 1, 3, 4, 18, 12, 23, 26, 21, 22, 24, 25, 20, 27]⟩,
      ⟨(some 36), .buildSlice 117 1 3 false [.nilfn, .nilfn, .nilfn] [(0, 1, .t 12), (1, 1, .t 27), (2, 1, .t 35)], none, [27, 25, 24, 22, 21, 26, 23, 19, 17, 15, 14, 16, 13, 11, 10, 6, 9, 7, 8, 18, 12, 4, 3, 1, 2, 0, 28, 20, 5]⟩,
      ⟨(some 37), .call (.c (.fn 58 [] [])) [.t 36], none, [5, 20, 0, 2, 1, 3, 4, 12, 18, 8, 7, 9, 6, 10, 11, 13, 16, 14, 15, 17, 19, 23, 26, 21, 22, 24, 25, 27, 28, 29]⟩,
      ⟨(some 6), .mov (.t 37), none, [29, 28, 27, 26, 25, 24, 23, 22, 21, 20, 19, 18, 17, 16, 15, 14, 13, 12, 11, 10, 9, 8, 7, 6, 5, 4, 3, 2, 1, 0, 30]⟩])
  (.ret)), 38, [.t 6]⟩
def xf133 : XFunc := ⟨.seq (.reg [⟨(some 5), .mov (.c (.int .i64 0)), none, []⟩])
  (.seq (.dreg [⟨(some 6), .loadn 1 (.t 1), none, []⟩,
      ⟨(some 7), .load1 (.t 2), none, []⟩,
      ⟨(some 8), .mov (.t 0), none, []⟩,
      ⟨(some 9), .iaddr 3 (.t 7) (.t 8), none, [2, 1]⟩,
      ⟨(some 10), .loadn 3 (.t 9), none, [1, 2, 3]⟩,
      ⟨(some 11), .load1 (.t 3), none, []⟩,
      ⟨(some 12), .len (.t 11), none, [5]⟩,
      ⟨(some 13), .call (.c (.fn 134 [] [])) [.t 6, .t 10, .t 12], none, [5, 3, 2, 1, 6, 4, 0]⟩,
      ⟨(some 5), .mov (.t 13), none, [6, 5, 4, 3, 2, 1, 0, 7]⟩])
  (.ret)), 14, [.t 5]⟩
def xf135l0 : XCode := .seq (.reg [⟨(some 18), .bin .lss (.t 17) (.t 16), none, []⟩])
  (.seq (.cond (.t 18) .skip (.exit 0))
  (.seq (.block 1 (.seq (.reg [⟨(some 19), .iaddr 1 (.t 15) (.t 17), none, []⟩,
        ⟨(some 20), .load1 (.t 19), none, []⟩,
        ⟨(some 9), .mov (.t 20), none, []⟩])
    (.reg [⟨(some 21), .mov (.t 7), none, []⟩,
        ⟨(some 22), .mov (.t 9), none, []⟩,
        ⟨(some 23), .bin .add (.t 21) (.t 22), none, []⟩,
        ⟨(some 7), .mov (.t 23), none, []⟩])))
  (.reg [⟨(some 24), .bin .add (.t 17) (.c (.int .i64 1)), none, []⟩,
      ⟨(some 17), .mov (.t 24), none, []⟩])))
def xf135 : XFunc := ⟨.seq (.reg [⟨(some 3), .box 123 (.t 0), none, []⟩,
      ⟨(some 4), .box 100 (.t 1), none, []⟩,
      ⟨(some 6), .new 32 [.int .i64 0, .int .i64 0], none, []⟩])
  (.seq (.reg [⟨(some 7), .mov (.c (.int .i64 0)), none, []⟩])
  (.seq (.seq (.reg [⟨(some 12), .mov (.t 2), none, []⟩,
      ⟨(some 13), .faddr 0 (.t 4), none, []⟩,
      ⟨(some 14), .load1 (.t 13), none, []⟩,
      ⟨(some 15), .slice 1 (.t 12) none (some (.t 14)), none, []⟩,
      ⟨(some 16), .len (.t 15), none, []⟩,
      ⟨(some 17), .mov (.c (.int .i64 0)), none, []⟩])
  (.block 0 (.loop xf135l0)))
  (.seq (.dreg [⟨(some 25), .loadn 1 (.t 3), none, []⟩,
      ⟨(some 26), .faddr 1 (.t 4), none, []⟩,
      ⟨(some 27), .faddr 0 (.t 26), none, [1]⟩,
      ⟨(some 28), .load1 (.t 27), none, [1, 2]⟩,
      ⟨(some 29), .call (.c (.fn 65 [] [])) [.t 25, .t 28], none, [2, 1, 3, 0]⟩,
      ⟨(some 30), .loadn 1 (.t 3), none, []⟩,
      ⟨(some 31), .faddr 1 (.t 4), none, []⟩,
      ⟨(some 32), .faddr 1 (.t 31), none, [6]⟩,
      ⟨(some 33), .load1 (.t 32), none, [6, 7]⟩,
      ⟨(some 34), .call (.c (.fn 65 [] [])) [.t 30, .t 33], none, [0, 3, 1, 2, 7, 6, 4, 8, 5]⟩,
      ⟨(some 10), .new 128 [.int .i64 0, .int .i64 0, .int .i64 0], none, []⟩,
      ⟨(some 11), .new 128 [.int .i64 0, .int .i64 0, .int .i64 0], none, []⟩,
      ⟨none, .store 3 (.t 10) (.t 29), none, [5, 8, 6, 7, 11, 3, 2, 1, 0, 9, 4, 10]⟩,
      ⟨none, .store 3 (.t 11) (.t 34), none, [10, 8, 7, 6, 5, 4, 3, 2, 1, 0, 12, 9, 11]⟩])
  (.seq (.dreg [⟨(some 35), .loadn 3 (.t 10), none, []⟩,
      ⟨(some 36), .call (.c (.fn 111 [] [])) [.t 35], none, [0]⟩,
      ⟨(some 37), .mov (.t 7), none, []⟩,
      ⟨(some 38), .bin .sub (.t 36) (.t 37), none, [0, 2, 1]⟩,
      ⟨(some 39), .faddr 0 (.t 11), none, []⟩,
      ⟨(some 40), .load1 (.t 39), none, [4]⟩,
      ⟨(some 41), .mov (.t 7), none, []⟩,
      ⟨(some 42), .bin .sub (.t 40) (.t 41), none, [4, 6, 5]⟩,
      ⟨(some 43), .build [.int .i64 0, .int .i64 0] [(0, 1, .t 38), (1, 1, .t 42)], none, [5, 6, 4, 1, 2, 0, 7, 3]⟩,
      ⟨none, .store 2 (.t 6) (.t 43), none, [7, 6, 5, 4, 3, 2, 0, 1, 8]⟩])
  (.ret))))), 44, [.cn 6 2]⟩
def xf100l0 : XCode := .seq (.reg [⟨(some 49), .bin .lss (.t 48) (.t 47), none, []⟩])
  (.seq (.cond (.t 49) .skip (.exit 0))
  (.seq (.block 1 (.seq (.reg [⟨(some 50), .iaddr 3 (.t 46) (.t 48), none, []⟩,
        ⟨(some 51), .loadn 3 (.t 50), none, []⟩,
        ⟨(some 12), .new 100 [.int .i64 0, .int .i64 0, .int .i64 0], none, []⟩,
        ⟨none, .store 3 (.t 12) (.t 51), none, []⟩])
    (.reg [⟨(some 52), .mov (.t 10), none, []⟩,
        ⟨(some 53), .loadn 1 (.t 8), none, []⟩,
        ⟨(some 54), .loadn 3 (.t 12), none, []⟩,
        ⟨(some 55), .load1 (.t 4), none, []⟩,
        ⟨(some 56), .call (.c (.fn 135 [] [])) [.t 53, .t 54, .t 55], none, []⟩,
        ⟨(some 57), .buildSlice 32 2 1 true [.int .i64 0, .int .i64 0] [(0, 2, .t 56)], none, []⟩,
        ⟨(some 58), .append 32 2 16 (.t 52) (.t 57), none, []⟩,
        ⟨(some 10), .mov (.t 58), none, []⟩])))
  (.reg [⟨(some 59), .bin .add (.t 48) (.c (.int .i64 1)), none, []⟩,
      ⟨(some 48), .mov (.t 59), none, []⟩])))
def xf100 : XFunc := ⟨.seq (.reg [⟨(some 3), .box 24 (.t 0), none, []⟩,
      ⟨(some 4), .box 89 (.t 1), none, []⟩,
      ⟨(some 5), .box 90 (.t 2), none, []⟩,
      ⟨(some 6), .mov (.c .nils), none, []⟩,
      ⟨(some 7), .mov (.c (.int .i64 0)), none, []⟩])
  (.seq (.reg [⟨(some 14), .loadn 1 (.t 3), none, []⟩,
      ⟨(some 15), .call (.c (.fn 63 [] [])) [.t 14], none, []⟩,
      ⟨(some 13), .mov (.t 15), none, []⟩,
      ⟨(some 16), .extract (.t 13) 0, none, []⟩,
      ⟨(some 17), .extract (.t 13) 1, none, []⟩,
      ⟨(some 8), .new 123 [.nils], none, []⟩,
      ⟨none, .store 1 (.t 8) (.t 16), none, []⟩,
      ⟨(some 9), .mov (.t 17), none, []⟩])
  (.seq (.seq (.reg [⟨(some 18), .mov (.t 9), none, []⟩,
      ⟨(some 19), .bin .neq (.t 18) (.c (.int .i64 0)), none, []⟩])
  (.cond (.t 19) (.seq (.reg [⟨(some 20), .mov (.t 9), none, []⟩,
        ⟨(some 6), .mov (.c .nils), none, []⟩,
        ⟨(some 7), .mov (.t 20), none, []⟩])
    (.ret)) .skip))
  (.seq (.dreg [⟨(some 21), .load1 (.t 4), none, []⟩,
      ⟨(some 22), .len (.t 21), none, [0]⟩,
      ⟨(some 23), .bin .gtr (.t 22) (.c (.int .i64 200)), none, [0, 1]⟩,
      ⟨(some 24), .call (.c (.fn 59 [] [])) [.t 23, .c (.int .i64 8)], none, [1, 0, 2]⟩,
      ⟨(some 25), .load1 (.t 4), none, []⟩,
      ⟨(some 26), .len (.t 25), none, [4]⟩,
      ⟨(some 27), .fn true 131 [] [.t 4], none, []⟩,
      ⟨(some 28), .call (.c (.fn 93 [] [])) [.t 26, .t 27], none, [2, 0, 1, 4, 3, 6, 5]⟩,
      ⟨(some 29), .load1 (.t 5), none, []⟩,
      ⟨(some 30), .len (.t 29), none, [8]⟩,
      ⟨(some 31), .bin .eql (.t 30) (.c (.int .i64 0)), none, [8, 9]⟩,
      ⟨(some 32), .call (.c (.fn 59 [] [])) [.t 31, .c (.int .i64 10)], none, [5, 6, 3, 4, 1, 0, 2, 9, 8, 7, 10]⟩,
      ⟨(some 33), .load1 (.t 5), none, []⟩,
      ⟨(some 34), .len (.t 33), none, [12]⟩,
      ⟨(some 35), .bin .gtr (.t 34) (.c (.int .i64 10)), none, [12, 13]⟩,
      ⟨(some 36), .call (.c (.fn 59 [] [])) [.t 35, .c (.int .i64 8)], none, [10, 7, 8, 9, 2, 0, 1, 4, 3, 6, 5, 13, 12, 11, 14]⟩,
      ⟨(some 37), .load1 (.t 5), none, []⟩,
      ⟨(some 38), .len (.t 37), none, [16]⟩,
      ⟨(some 39), .fn true 133 [] [.t 8, .t 5, .t 4], none, []⟩,
      ⟨(some 40), .call (.c (.fn 93 [] [])) [.t 38, .t 39], none, [14, 11, 12, 13, 5, 6, 3, 4, 1, 0, 2, 9, 8, 7, 10, 16, 15, 18, 17]⟩,
      ⟨(some 41), .buildSlice 117 1 5 false [.nilfn, .nilfn, .nilfn, .nilfn, .nilfn] [(0, 1, .t 24), (1, 1, .t 28), (2, 1, .t 32), (3, 1, .t 36), (4, 1, .t 40)], none, [17, 18, 16, 14, 12, 13, 10, 8, 9, 5, 6, 4, 2, 0, 1, 19, 15, 11, 7, 3]⟩,
      ⟨(some 42), .call (.c (.fn 58 [] [])) [.t 41], none, [3, 7, 11, 15, 1, 0, 2, 4, 6, 5, 9, 8, 10, 13, 12, 14, 16, 18, 17, 19, 20]⟩,
      ⟨(some 9), .mov (.t 42), none, [20, 19, 18, 17, 16, 15, 14, 13, 12, 11, 10, 9, 8, 7, 6, 5, 4, 3, 2, 1, 0, 21]⟩])
  (.seq (.seq (.reg [⟨(some 43), .mov (.t 9), none, []⟩,
      ⟨(some 44), .bin .neq (.t 43) (.c (.int .i64 0)), none, []⟩])
  (.cond (.t 44) (.seq (.reg [⟨(some 45), .mov (.t 9), none, []⟩,
        ⟨(some 6), .mov (.c .nils), none, []⟩,
        ⟨(some 7), .mov (.t 45), none, []⟩])
    (.ret)) .skip))
  (.seq (.reg [⟨(some 10), .mov (.c .nils), none, []⟩])
  (.seq (.seq (.reg [⟨(some 46), .load1 (.t 5), none, []⟩,
      ⟨(some 47), .len (.t 46), none, []⟩,
      ⟨(some 48), .mov (.c (.int .i64 0)), none, []⟩])
  (.block 0 (.loop xf100l0)))
  (.seq (.reg [⟨(some 60), .mov (.t 10), none, []⟩,
      ⟨(some 6), .mov (.t 60), none, []⟩,
      ⟨(some 7), .mov (.c (.int .i64 0)), none, []⟩])
  (.ret)))))))), 61, [.t 6, .t 7]⟩
def xf101l0 : XCode := .seq (.reg [⟨(some 12), .bin .lss (.t 11) (.t 10), none, []⟩])
  (.seq (.cond (.t 12) .skip (.exit 0))
  (.seq (.block 1 (.seq (.reg [⟨(some 13), .iaddr 2 (.t 9) (.t 11), none, []⟩,
        ⟨(some 14), .loadn 2 (.t 13), none, []⟩,
        ⟨(some 5), .new 32 [.int .i64 0, .int .i64 0], none, []⟩,
        ⟨none, .store 2 (.t 5) (.t 14), none, []⟩])
    (.reg [⟨(some 15), .faddr 0 (.t 3), none, []⟩,
        ⟨(some 16), .load1 (.t 15), none, []⟩,
        ⟨(some 17), .faddr 0 (.t 5), none, []⟩,
        ⟨(some 18), .load1 (.t 17), none, []⟩,
        ⟨(some 19), .ext true (.t 16) [.t 18], none, []⟩,
        ⟨(some 20), .faddr 1 (.t 3), none, []⟩,
        ⟨(some 21), .load1 (.t 20), none, []⟩,
        ⟨(some 22), .faddr 1 (.t 5), none, []⟩,
        ⟨(some 23), .load1 (.t 22), none, []⟩,
        ⟨(some 24), .ext false (.t 21) [.t 23], none, []⟩,
        ⟨(some 25), .build [.int .i64 0, .int .i64 0] [(0, 1, .t 19), (1, 1, .t 24)], none, []⟩,
        ⟨none, .store 2 (.t 3) (.t 25), none, []⟩])))
  (.reg [⟨(some 26), .bin .add (.t 11) (.c (.int .i64 1)), none, []⟩,
      ⟨(some 11), .mov (.t 26), none, []⟩])))
def xf101 : XFunc := ⟨.seq (.reg [⟨(some 2), .new 32 [.int .i64 0, .int .i64 0], none, []⟩])
  (.seq (.reg [⟨(some 6), .mov (.t 0), none, []⟩,
      ⟨(some 7), .iaddr 2 (.t 6) (.c (.int .i64 0)), none, []⟩,
      ⟨(some 8), .loadn 2 (.t 7), none, []⟩,
      ⟨(some 3), .new 32 [.int .i64 0, .int .i64 0], none, []⟩,
      ⟨none, .store 2 (.t 3) (.t 8), none, []⟩])
  (.seq (.seq (.reg [⟨(some 9), .mov (.t 0), none, []⟩,
      ⟨(some 10), .len (.t 9), none, []⟩,
      ⟨(some 11), .mov (.c (.int .i64 0)), none, []⟩])
  (.block 0 (.loop xf101l0)))
  (.seq (.reg [⟨(some 27), .loadn 2 (.t 3), none, []⟩,
      ⟨none, .store 2 (.t 2) (.t 27), none, []⟩])
  (.ret)))), 28, [.cn 2 2]⟩
def xf102 : XFunc := ⟨.seq (.reg [⟨(some 1), .box 32 (.t 0), none, []⟩,
      ⟨(some 2), .mov (.c (.bool false)), none, []⟩])
  (.seq (.reg [⟨(some 3), .faddr 0 (.t 1), none, []⟩,
      ⟨(some 4), .load1 (.t 3), none, []⟩,
      ⟨(some 5), .faddr 1 (.t 1), none, []⟩,
      ⟨(some 6), .load1 (.t 5), none, []⟩,
      ⟨(some 7), .bin .gtr (.t 4) (.t 6), none, []⟩,
      ⟨(some 2), .mov (.t 7), none, []⟩])
  (.ret)), 8, [.t 2]⟩
def xf49 : XFunc := ⟨.seq (.reg [⟨(some 3), .box 24 (.t 0), none, []⟩,
      ⟨(some 6), .new 32 [.int .i64 0, .int .i64 0], none, []⟩,
      ⟨(some 7), .mov (.c (.int .i64 0)), none, []⟩])
  (.seq (.reg [⟨(some 12), .loadn 1 (.t 3), none, []⟩,
      ⟨(some 13), .mov (.t 1), none, []⟩,
      ⟨(some 14), .mov (.t 2), none, []⟩,
      ⟨(some 15), .call (.c (.fn 100 [] [])) [.t 12, .t 13, .t 14], none, []⟩,
      ⟨(some 11), .mov (.t 15), none, []⟩,
      ⟨(some 16), .extract (.t 11) 0, none, []⟩,
      ⟨(some 17), .extract (.t 11) 1, none, []⟩,
      ⟨(some 8), .mov (.t 16), none, []⟩,
      ⟨(some 9), .mov (.t 17), none, []⟩])
  (.seq (.seq (.reg [⟨(some 18), .mov (.t 9), none, []⟩,
      ⟨(some 19), .bin .neq (.t 18) (.c (.int .i64 0)), none, []⟩])
  (.cond (.t 19) (.seq (.reg [⟨(some 20), .build [.int .i64 0, .int .i64 0] [], none, []⟩,
        ⟨(some 21), .mov (.t 9), none, []⟩,
        ⟨none, .store 2 (.t 6) (.t 20), none, []⟩,
        ⟨(some 7), .mov (.t 21), none, []⟩])
    (.ret)) .skip))
  (.seq (.reg [⟨(some 22), .mov (.t 8), none, []⟩,
      ⟨(some 23), .call (.c (.fn 101 [] [])) [.t 22], none, []⟩,
      ⟨(some 10), .new 32 [.int .i64 0, .int .i64 0], none, []⟩,
      ⟨none, .store 2 (.t 10) (.t 23), none, []⟩])
  (.seq (.seq (.reg [⟨(some 24), .loadn 2 (.t 10), none, []⟩,
      ⟨(some 25), .call (.c (.fn 102 [] [])) [.t 24], none, []⟩])
  (.cond (.t 25) (.seq (.reg [⟨(some 26), .build [.int .i64 0, .int .i64 0] [], none, []⟩,
        ⟨none, .store 2 (.t 6) (.t 26), none, []⟩,
        ⟨(some 7), .mov (.c (.int .i64 13)), none, []⟩])
    (.ret)) .skip))
  (.seq (.reg [⟨(some 27), .loadn 2 (.t 10), none, []⟩,
      ⟨none, .store 2 (.t 6) (.t 27), none, []⟩,
      ⟨(some 7), .mov (.c (.int .i64 0)), none, []⟩])
  (.ret)))))), 28, [.cn 6 2, .t 7]⟩
def xf52l0 : XCode := .seq (.reg [⟨(some 28), .bin .lss (.t 27) (.t 26), none, []⟩])
  (.seq (.cond (.t 28) .skip (.exit 0))
  (.seq (.block 1 (.seq (.reg [⟨(some 29), .mov (.t 27), none, []⟩,
        ⟨(some 30), .iaddr 2 (.t 25) (.t 27), none, []⟩,
        ⟨(some 31), .loadn 2 (.t 30), none, []⟩,
        ⟨(some 11), .new 32 [.int .i64 0, .int .i64 0], none, []⟩,
        ⟨(some 10), .mov (.t 29), none, []⟩,
        ⟨none, .store 2 (.t 11) (.t 31), none, []⟩])
    (.seq (.reg [⟨(some 32), .loadn 2 (.t 11), none, []⟩,
        ⟨(some 33), .call (.c (.fn 102 [] [])) [.t 32], none, []⟩])
    (.cond (.t 33) (.seq (.reg [⟨(some 34), .mov (.t 10), none, []⟩,
          ⟨(some 35), .buildSlice 3 1 1 false [.int .i64 0] [(0, 1, .t 34)], none, []⟩,
          ⟨(some 6), .mov (.t 35), none, []⟩,
          ⟨(some 7), .mov (.c (.int .i64 0)), none, []⟩])
      (.ret)) .skip))))
  (.reg [⟨(some 36), .bin .add (.t 27) (.c (.int .i64 1)), none, []⟩,
      ⟨(some 27), .mov (.t 36), none, []⟩])))
def xf52l1 : XCode := .seq (.seq (.reg [⟨(some 46), .mov (.t 14), none, []⟩,
      ⟨(some 47), .mov (.t 8), none, []⟩,
      ⟨(some 48), .len (.t 47), none, []⟩,
      ⟨(some 49), .bin .lss (.t 46) (.t 48), none, []⟩])
  (.cond (.t 49) .skip (.exit 4)))
  (.seq (.block 5 (.seq (.dreg [⟨(some 52), .loadn 2 (.t 13), none, []⟩,
        ⟨(some 53), .mov (.t 8), none, []⟩,
        ⟨(some 54), .mov (.t 14), none, []⟩,
        ⟨(some 55), .iaddr 2 (.t 53) (.t 54), none, [2, 1]⟩,
        ⟨(some 56), .loadn 2 (.t 55), none, [1, 2, 3]⟩,
        ⟨(some 57), .buildSlice 32 2 2 true [.int .i64 0, .int .i64 0, .int .i64 0, .int .i64 0] [(0, 2, .t 52), (2, 2, .t 56)], none, [3, 2, 1, 4, 0]⟩,
        ⟨(some 58), .call (.c (.fn 101 [] [])) [.t 57], none, [0, 4, 1, 2, 3, 5]⟩,
        ⟨(some 59), .call (.c (.fn 102 [] [])) [.t 58], none, [5, 3, 2, 1, 4, 0, 6]⟩])
    (.cond (.t 59) (.seq (.reg [⟨(some 60), .mov (.t 12), none, []⟩,
          ⟨(some 61), .mov (.t 14), none, []⟩,
          ⟨(some 62), .buildSlice 3 1 2 false [.int .i64 0, .int .i64 0] [(0, 1, .t 60), (1, 1, .t 61)], none, []⟩,
          ⟨(some 6), .mov (.t 62), none, []⟩,
          ⟨(some 7), .mov (.c (.int .i64 0)), none, []⟩])
      (.ret)) .skip)))
  (.reg [⟨(some 50), .mov (.t 14), none, []⟩,
      ⟨(some 51), .bin .add (.t 50) (.c (.int .i64 1)), none, []⟩,
      ⟨(some 14), .mov (.t 51), none, []⟩]))
def xf52l2 : XCode := .seq (.reg [⟨(some 40), .bin .lss (.t 39) (.t 38), none, []⟩])
  (.seq (.cond (.t 40) .skip (.exit 2))
  (.seq (.block 3 (.seq (.reg [⟨(some 41), .mov (.t 39), none, []⟩,
        ⟨(some 42), .iaddr 2 (.t 37) (.t 39), none, []⟩,
        ⟨(some 43), .loadn 2 (.t 42), none, []⟩,
        ⟨(some 13), .new 32 [.int .i64 0, .int .i64 0], none, []⟩,
        ⟨(some 12), .mov (.t 41), none, []⟩,
        ⟨none, .store 2 (.t 13) (.t 43), none, []⟩])
    (.seq (.reg [⟨(some 44), .mov (.t 12), none, []⟩,
        ⟨(some 45), .bin .add (.t 44) (.c (.int .i64 1)), none, []⟩,
        ⟨(some 14), .mov (.t 45), none, []⟩])
    (.block 4 (.loop xf52l1)))))
  (.reg [⟨(some 63), .bin .add (.t 39) (.c (.int .i64 1)), none, []⟩,
      ⟨(some 39), .mov (.t 63), none, []⟩])))
def xf52 : XFunc := ⟨.seq (.reg [⟨(some 3), .box 24 (.t 0), none, []⟩,
      ⟨(some 6), .mov (.c .nils), none, []⟩,
      ⟨(some 7), .mov (.c (.int .i64 0)), none, []⟩])
  (.seq (.reg [⟨(some 16), .loadn 1 (.t 3), none, []⟩,
      ⟨(some 17), .mov (.t 1), none, []⟩,
      ⟨(some 18), .mov (.t 2), none, []⟩,
      ⟨(some 19), .call (.c (.fn 100 [] [])) [.t 16, .t 17, .t 18], none, []⟩,
      ⟨(some 15), .mov (.t 19), none, []⟩,
      ⟨(some 20), .extract (.t 15) 0, none, []⟩,
      ⟨(some 21), .extract (.t 15) 1, none, []⟩,
      ⟨(some 8), .mov (.t 20), none, []⟩,
      ⟨(some 9), .mov (.t 21), none, []⟩])
  (.seq (.seq (.reg [⟨(some 22), .mov (.t 9), none, []⟩,
      ⟨(some 23), .bin .neq (.t 22) (.c (.int .i64 0)), none, []⟩])
  (.cond (.t 23) (.seq (.reg [⟨(some 24), .mov (.t 9), none, []⟩,
        ⟨(some 6), .mov (.c .nils), none, []⟩,
        ⟨(some 7), .mov (.t 24), none, []⟩])
    (.ret)) .skip))
  (.seq (.seq (.reg [⟨(some 25), .mov (.t 8), none, []⟩,
      ⟨(some 26), .len (.t 25), none, []⟩,
      ⟨(some 27), .mov (.c (.int .i64 0)), none, []⟩])
  (.block 0 (.loop xf52l0)))
  (.seq (.seq (.reg [⟨(some 37), .mov (.t 8), none, []⟩,
      ⟨(some 38), .len (.t 37), none, []⟩,
      ⟨(some 39), .mov (.c (.int .i64 0)), none, []⟩])
  (.block 2 (.loop xf52l2)))
  (.seq (.reg [⟨(some 6), .mov (.c .nils), none, []⟩,
      ⟨(some 7), .mov (.c (.int .i64 12)), none, []⟩])
  (.ret)))))), 64, [.t 6, .t 7]⟩
def xf50 : XFunc := ⟨.seq (.reg [⟨(some 2), .mov (.c .nils), none, []⟩])
  (.seq (.reg [⟨(some 3), .buildSlice 3 1 0 false [] [], none, []⟩,
      ⟨(some 4), .mov (.t 0), none, []⟩,
      ⟨(some 5), .append 3 1 8 (.t 3) (.t 4), none, []⟩,
      ⟨(some 2), .mov (.t 5), none, []⟩])
  (.ret)), 6, [.t 2]⟩
def xf51 : XFunc := ⟨.seq (.reg [⟨(some 2), .mov (.c .nils), none, []⟩])
  (.seq (.reg [⟨(some 3), .buildSlice 100 3 0 true [] [], none, []⟩,
      ⟨(some 4), .mov (.t 0), none, []⟩,
      ⟨(some 5), .append 100 3 24 (.t 3) (.t 4), none, []⟩,
      ⟨(some 2), .mov (.t 5), none, []⟩])
  (.ret)), 6, [.t 2]⟩
structure ReadCode (X : FuncId → Option XFunc) : Prop where
  tab : TabCode X
  h98 : X 98 = some xf98
  h99 : X 99 = some xf99
  h48 : X 48 = some xf48
  h132 : X 132 = some xf132
  h131 : X 131 = some xf131
  h134 : X 134 = some xf134
  h133 : X 133 = some xf133
  h135 : X 135 = some xf135
  h100 : X 100 = some xf100
  h101 : X 101 = some xf101
  h102 : X 102 = some xf102
  h49 : X 49 = some xf49
  h52 : X 52 = some xf52
  h50 : X 50 = some xf50
  h51 : X 51 = some xf51
end Go.Proofs.Ytbpflcilndinfaa.Eng

/-
  CODE of LawC.
-/
namespace Go.Proofs.Ytbpflcilndinfaa.Eng
set_option linter.unusedSimpArgs false
set_option linter.unusedVariables false
def xf9l0 : XCode := .seq (.seq (.reg [⟨(some 89), .mov (.t 12), none, []⟩,
      ⟨(some 90), .mov (.t 9), none, []⟩,
      ⟨(some 91), .len (.t 90), none, []⟩,
      ⟨(some 92), .bin .lss (.t 89) (.t 91), none, []⟩])
  (.cond (.t 92) .skip (.exit 0)))
  (.seq (.block 1 (.seq (.seq (.dreg [⟨(some 95), .mov (.t 9), none, []⟩,
        ⟨(some 96), .mov (.t 12), none, []⟩,
        ⟨(some 97), .iaddr 1 (.t 95) (.t 96), none, [1, 0]⟩,
        ⟨(some 98), .load1 (.t 97), none, [0, 1, 2]⟩,
        ⟨(some 99), .faddr 0 (.t 5), none, []⟩,
        ⟨(some 100), .load1 (.t 99), none, [4]⟩,
        ⟨(some 101), .len (.t 100), none, [4, 5]⟩,
        ⟨(some 102), .bin .sub (.t 101) (.c (.int .i64 1)), none, [5, 4, 6]⟩,
        ⟨(some 103), .call (.c (.fn 25 [] [])) [.t 98, .c (.int .i64 0), .t 102], none, [6, 4, 5, 2, 1, 0, 7, 3]⟩,
        ⟨(some 104), .un .not (.t 103), none, [3, 7, 0, 1, 2, 5, 4, 6, 8]⟩,
        ⟨(some 105), .mov (.t 104), none, [6, 4, 5, 2, 1, 0, 7, 3, 8, 9]⟩,
        ⟨(some 106), .mov (.t 12), (some (105, false)), [9, 8, 3, 7, 0, 1, 2, 5, 4, 6, 10]⟩,
        ⟨(some 107), .bin .gtr (.t 106) (.c (.int .i64 0)), (some (105, false)), [6, 4, 5, 2, 1, 0, 7, 3, 8, 9, 10, 11]⟩,
        ⟨(some 108), .mov (.t 107), (some (105, false)), [11, 9, 8, 3, 7, 0, 1, 2, 5, 4, 6, 10, 12]⟩,
        ⟨(some 109), .mov (.t 9), (some (108, true)), [12, 10, 6, 4, 5, 2, 1, 0, 7, 3, 8, 9, 11, 13]⟩,
        ⟨(some 110), .mov (.t 12), (some (108, true)), [12, 10, 6, 4, 5, 2, 1, 0, 7, 3, 8, 9, 11, 13]⟩,
        ⟨(some 111), .iaddr 1 (.t 109) (.t 110), (some (108, true)), [11, 9, 8, 3, 7, 0, 1, 2, 5, 4, 6, 10, 12, 13, 15, 14]⟩,
        ⟨(some 112), .load1 (.t 111), (some (108, true)), [14, 15, 12, 10, 6, 4, 5, 2, 1, 0, 7, 3, 8, 9, 11, 13, 16]⟩,
        ⟨(some 113), .mov (.t 9), (some (108, true)), [12, 10, 6, 4, 5, 2, 1, 0, 7, 3, 8, 9, 11, 13]⟩,
        ⟨(some 114), .mov (.t 12), (some (108, true)), [12, 10, 6, 4, 5, 2, 1, 0, 7, 3, 8, 9, 11, 13]⟩,
        ⟨(some 115), .bin .sub (.t 114) (.c (.int .i64 1)), (some (108, true)), [11, 9, 8, 3, 7, 0, 1, 2, 5, 4, 6, 10, 12, 13, 19]⟩,
        ⟨(some 116), .iaddr 1 (.t 113) (.t 115), (some (108, true)), [19, 11, 9, 8, 3, 7, 0, 1, 2, 5, 4, 6, 10, 12, 13, 20, 18]⟩,
        ⟨(some 117), .load1 (.t 116), (some (108, true)), [18, 20, 12, 10, 6, 4, 5, 2, 1, 0, 7, 3, 8, 9, 11, 19, 13, 21]⟩,
        ⟨(some 118), .bin .leq (.t 112) (.t 117), (some (108, true)), [21, 19, 20, 18, 16, 11, 9, 8, 3, 7, 0, 1, 2, 5, 4, 6, 10, 12, 15, 14, 13, 22, 17]⟩,
        ⟨(some 119), .pick (.t 108) (.t 118) (.c (.bool false)), (some (105, false)), [17, 22, 14, 15, 16, 18, 20, 19, 21, 12, 6, 4, 5, 2, 1, 0, 7, 3, 8, 9, 11, 10, 23, 13]⟩,
        ⟨(some 120), .pick (.t 105) (.c (.bool true)) (.t 119), none, [13, 23, 11, 12, 21, 19, 20, 18, 16, 15, 14, 22, 17, 9, 8, 3, 7, 0, 1, 2, 5, 4, 6, 24, 10]⟩])
    (.cond (.t 120) (.seq (.reg [⟨(some 6), .mov (.c (.bool false)), none, []⟩])
      (.ret)) .skip))
    (.seq (.dreg [⟨(some 121), .mov (.t 11), none, []⟩,
        ⟨(some 122), .faddr 0 (.t 5), none, []⟩,
        ⟨(some 123), .load1 (.t 122), none, [1]⟩,
        ⟨(some 124), .mov (.t 9), none, []⟩,
        ⟨(some 125), .mov (.t 12), none, []⟩,
        ⟨(some 126), .iaddr 1 (.t 124) (.t 125), none, [4, 3]⟩,
        ⟨(some 127), .load1 (.t 126), none, [3, 4, 5]⟩,
        ⟨(some 128), .iaddr 3 (.t 123) (.t 127), none, [5, 4, 3, 1, 6, 2]⟩,
        ⟨(some 129), .loadn 3 (.t 128), none, [2, 6, 1, 3, 4, 5, 7]⟩,
        ⟨(some 130), .buildSlice 100 3 1 true [.int .i64 0, .int .i64 0, .int .i64 0] [(0, 3, .t 129)], none, [7, 5, 4, 3, 1, 6, 2, 8]⟩,
        ⟨(some 131), .append 100 3 24 (.t 121) (.t 130), none, [8, 2, 6, 1, 3, 4, 5, 7, 9, 0]⟩,
        ⟨(some 11), .mov (.t 131), none, [9, 8, 7, 6, 5, 4, 3, 2, 1, 0, 10]⟩])
    (.seq (.dreg [⟨(some 133), .loadn 1 (.t 3), none, []⟩,
        ⟨(some 134), .call (.c (.fn 14 [] [])) [.t 133], none, [0]⟩,
        ⟨(some 135), .mov (.t 1), none, []⟩,
        ⟨(some 136), .call (.c (.fn 50 [] [])) [.t 135], none, [0, 1, 2]⟩,
        ⟨(some 137), .faddr 0 (.t 5), none, []⟩,
        ⟨(some 138), .load1 (.t 137), none, [4]⟩,
        ⟨(some 139), .mov (.t 9), none, []⟩,
        ⟨(some 140), .mov (.t 12), none, []⟩,
        ⟨(some 141), .iaddr 1 (.t 139) (.t 140), none, [7, 6]⟩,
        ⟨(some 142), .load1 (.t 141), none, [6, 7, 8]⟩,
        ⟨(some 143), .iaddr 3 (.t 138) (.t 142), none, [8, 7, 6, 4, 9, 5]⟩,
        ⟨(some 144), .loadn 3 (.t 143), none, [5, 9, 4, 6, 7, 8, 10]⟩,
        ⟨(some 145), .buildSlice 100 3 1 true [.int .i64 0, .int .i64 0, .int .i64 0] [(0, 3, .t 144)], none, [10, 8, 7, 6, 4, 9, 5, 11]⟩,
        ⟨(some 146), .call (.c (.fn 49 [] [])) [.t 134, .t 136, .t 145], none, [11, 5, 9, 4, 6, 7, 8, 10, 2, 0, 12, 3, 1]⟩,
        ⟨(some 132), .mov (.t 146), none, [1, 3, 12, 0, 2, 10, 8, 7, 6, 4, 9, 5, 11, 13]⟩,
        ⟨(some 147), .extract (.t 132) 0, none, [13, 11, 5, 9, 4, 6, 7, 8, 10, 2, 0, 12, 3, 1, 14]⟩,
        ⟨(some 148), .extract (.t 132) 1, none, [13, 11, 5, 9, 4, 6, 7, 8, 10, 2, 0, 12, 3, 1, 14]⟩,
        ⟨(some 13), .new 32 [.int .i64 0, .int .i64 0], none, []⟩,
        ⟨none, .store 2 (.t 13) (.t 147), none, [14, 12, 11, 10, 9, 8, 7, 6, 5, 4, 3, 2, 1, 0, 13, 15, 17]⟩,
        ⟨(some 14), .mov (.t 148), none, [17, 15, 14, 13, 12, 11, 10, 9, 8, 7, 6, 5, 4, 3, 2, 1, 0, 18, 16]⟩])
    (.seq (.reg [⟨(some 149), .mov (.t 14), none, []⟩,
        ⟨(some 150), .bin .eql (.t 149) (.c (.int .i64 13)), none, []⟩,
        ⟨(some 151), .mov (.t 9), none, []⟩,
        ⟨(some 152), .len (.t 151), none, []⟩,
        ⟨(some 153), .bin .eql (.t 152) (.c (.int .i64 1)), none, []⟩,
        ⟨(some 154), .eqb true (.t 150) (.t 153), none, []⟩])
    (.cond (.t 154) (.seq (.reg [⟨(some 6), .mov (.c (.bool false)), none, []⟩])
      (.ret)) .skip))))))
  (.reg [⟨(some 93), .mov (.t 12), none, []⟩,
      ⟨(some 94), .bin .add (.t 93) (.c (.int .i64 1)), none, []⟩,
      ⟨(some 12), .mov (.t 94), none, []⟩]))
def xf9l1 : XCode := .seq (.seq (.reg [⟨(some 184), .mov (.t 20), none, []⟩,
      ⟨(some 185), .faddr 0 (.t 5), none, []⟩,
      ⟨(some 186), .load1 (.t 185), none, []⟩,
      ⟨(some 187), .mov (.t 18), none, []⟩,
      ⟨(some 188), .iaddr 3 (.t 186) (.t 187), none, []⟩,
      ⟨(some 189), .faddr 0 (.t 188), none, []⟩,
      ⟨(some 190), .load1 (.t 189), none, []⟩,
      ⟨(some 191), .bin .lss (.t 184) (.t 190), none, []⟩])
  (.cond (.t 191) .skip (.exit 4)))
  (.seq (.block 5 (.reg [⟨(some 194), .mov (.t 19), none, []⟩,
        ⟨(some 195), .mov (.t 1), none, []⟩,
        ⟨(some 196), .mov (.t 20), none, []⟩,
        ⟨(some 197), .iaddr 1 (.t 195) (.t 196), none, []⟩,
        ⟨(some 198), .load1 (.t 197), none, []⟩,
        ⟨(some 199), .bin .add (.t 194) (.t 198), none, []⟩,
        ⟨(some 19), .mov (.t 199), none, []⟩]))
  (.reg [⟨(some 192), .mov (.t 20), none, []⟩,
      ⟨(some 193), .bin .add (.t 192) (.c (.int .i64 1)), none, []⟩,
      ⟨(some 20), .mov (.t 193), none, []⟩]))
def xf9l2 : XCode := .seq (.seq (.reg [⟨(some 175), .mov (.t 18), none, []⟩,
      ⟨(some 176), .faddr 0 (.t 5), none, []⟩,
      ⟨(some 177), .load1 (.t 176), none, []⟩,
      ⟨(some 178), .len (.t 177), none, []⟩,
      ⟨(some 179), .bin .lss (.t 175) (.t 178), none, []⟩])
  (.cond (.t 179) .skip (.exit 2)))
  (.seq (.block 3 (.seq (.reg [⟨(some 182), .faddr 1 (.t 5), none, []⟩,
        ⟨(some 183), .load1 (.t 182), none, []⟩,
        ⟨(some 19), .mov (.t 183), none, []⟩])
    (.seq (.seq (.reg [⟨(some 20), .mov (.c (.int .i64 0)), none, []⟩])
    (.block 4 (.loop xf9l1)))
    (.seq (.reg [⟨(some 201), .loadn 1 (.t 3), none, []⟩,
        ⟨(some 202), .call (.c (.fn 14 [] [])) [.t 201], none, []⟩,
        ⟨(some 203), .mov (.t 19), none, []⟩,
        ⟨(some 204), .call (.c (.fn 16 [] [])) [.t 202, .t 203], none, []⟩,
        ⟨(some 200), .mov (.t 204), none, []⟩,
        ⟨(some 205), .extract (.t 200) 0, none, []⟩,
        ⟨(some 206), .extract (.t 200) 1, none, []⟩,
        ⟨(some 21), .new 32 [.int .i64 0, .int .i64 0], none, []⟩,
        ⟨none, .store 2 (.t 21) (.t 205), none, []⟩,
        ⟨(some 22), .mov (.t 206), none, []⟩])
    (.seq (.seq (.reg [⟨(some 207), .mov (.t 22), none, []⟩,
        ⟨(some 208), .bin .neq (.t 207) (.c (.int .i64 0)), none, []⟩,
        ⟨(some 209), .mov (.t 208), none, []⟩,
        ⟨(some 210), .mov (.t 22), (some (209, true)), []⟩,
        ⟨(some 211), .bin .neq (.t 210) (.c (.int .i64 2)), (some (209, true)), []⟩,
        ⟨(some 212), .pick (.t 209) (.t 211) (.c (.bool false)), none, []⟩])
    (.cond (.t 212) (.seq (.reg [⟨(some 6), .mov (.c (.bool false)), none, []⟩])
      (.ret)) .skip))
    (.dreg [⟨(some 213), .mov (.t 17), none, []⟩,
        ⟨(some 214), .mov (.t 213), none, [0]⟩,
        ⟨(some 215), .mov (.t 22), (some (214, true)), [0, 1]⟩,
        ⟨(some 216), .bin .eql (.t 215) (.c (.int .i64 0)), (some (214, true)), [0, 1, 2]⟩,
        ⟨(some 217), .pick (.t 214) (.t 216) (.c (.bool false)), none, [2, 0, 3, 1]⟩,
        ⟨(some 218), .mov (.t 217), none, [3, 0, 2, 1, 4]⟩,
        ⟨(some 219), .faddr 0 (.t 21), (some (218, true)), [4, 1, 2, 0, 3, 5]⟩,
        ⟨(some 220), .load1 (.t 219), (some (218, true)), [3, 0, 2, 1, 4, 5, 6]⟩,
        ⟨(some 221), .faddr 0 (.t 5), (some (218, true)), [4, 1, 2, 0, 3, 5]⟩,
        ⟨(some 222), .load1 (.t 221), (some (218, true)), [3, 0, 2, 1, 4, 5, 8]⟩,
        ⟨(some 223), .mov (.t 18), (some (218, true)), [4, 1, 2, 0, 3, 5]⟩,
        ⟨(some 224), .iaddr 3 (.t 222) (.t 223), (some (218, true)), [8, 4, 1, 2, 0, 3, 5, 10, 9]⟩,
        ⟨(some 225), .faddr 1 (.t 224), (some (218, true)), [9, 10, 3, 0, 2, 1, 4, 8, 5, 11]⟩,
        ⟨(some 226), .faddr 0 (.t 225), (some (218, true)), [11, 8, 4, 1, 2, 0, 3, 10, 9, 5, 12]⟩,
        ⟨(some 227), .load1 (.t 226), (some (218, true)), [12, 9, 10, 3, 0, 2, 1, 4, 8, 11, 5, 13]⟩,
        ⟨(some 228), .bin .geq (.t 220) (.t 227), (some (218, true)), [13, 11, 8, 10, 9, 12, 6, 4, 1, 2, 0, 3, 5, 14, 7]⟩,
        ⟨(some 229), .pick (.t 218) (.t 228) (.c (.bool false)), none, [7, 14, 6, 12, 9, 10, 8, 11, 13, 4, 1, 2, 0, 3, 15, 5]⟩,
        ⟨(some 230), .mov (.t 229), none, [15, 3, 0, 2, 1, 4, 13, 11, 8, 10, 9, 12, 6, 14, 7, 5, 16]⟩,
        ⟨(some 231), .faddr 1 (.t 21), (some (230, true)), [16, 5, 7, 14, 6, 12, 9, 10, 8, 11, 13, 4, 1, 2, 0, 3, 15, 17]⟩,
        ⟨(some 232), .load1 (.t 231), (some (230, true)), [15, 3, 0, 2, 1, 4, 13, 11, 8, 10, 9, 12, 6, 14, 7, 5, 16, 17, 18]⟩,
        ⟨(some 233), .faddr 0 (.t 5), (some (230, true)), [16, 5, 7, 14, 6, 12, 9, 10, 8, 11, 13, 4, 1, 2, 0, 3, 15, 17]⟩,
        ⟨(some 234), .load1 (.t 233), (some (230, true)), [15, 3, 0, 2, 1, 4, 13, 11, 8, 10, 9, 12, 6, 14, 7, 5, 16, 17, 20]⟩,
        ⟨(some 235), .mov (.t 18), (some (230, true)), [16, 5, 7, 14, 6, 12, 9, 10, 8, 11, 13, 4, 1, 2, 0, 3, 15, 17]⟩,
        ⟨(some 236), .iaddr 3 (.t 234) (.t 235), (some (230, true)), [20, 16, 5, 7, 14, 6, 12, 9, 10, 8, 11, 13, 4, 1, 2, 0, 3, 15, 17, 22, 21]⟩,
        ⟨(some 237), .faddr 1 (.t 236), (some (230, true)), [21, 22, 15, 3, 0, 2, 1, 4, 13, 11, 8, 10, 9, 12, 6, 14, 7, 5, 16, 20, 17, 23]⟩,
        ⟨(some 238), .faddr 1 (.t 237), (some (230, true)), [23, 20, 16, 5, 7, 14, 6, 12, 9, 10, 8, 11, 13, 4, 1, 2, 0, 3, 15, 22, 21, 17, 24]⟩,
        ⟨(some 239), .load1 (.t 238), (some (230, true)), [24, 21, 22, 15, 3, 0, 2, 1, 4, 13, 11, 8, 10, 9, 12, 6, 14, 7, 5, 16, 20, 23, 17, 25]⟩,
        ⟨(some 240), .bin .leq (.t 232) (.t 239), (some (230, true)), [25, 23, 20, 22, 21, 24, 18, 16, 5, 7, 14, 6, 12, 9, 10, 8, 11, 13, 4, 1, 2, 0, 3, 15, 17, 26, 19]⟩,
        ⟨(some 241), .pick (.t 230) (.t 240) (.c (.bool false)), none, [19, 26, 18, 24, 21, 22, 20, 23, 25, 16, 5, 7, 14, 6, 12, 9, 10, 8, 11, 13, 4, 1, 2, 0, 3, 15, 27, 17]⟩,
        ⟨(some 17), .mov (.t 241), none, [27, 26, 25, 24, 23, 22, 21, 20, 19, 18, 16, 15, 14, 13, 12, 11, 10, 9, 8, 7, 6, 5, 4, 3, 2, 1, 0, 17, 28]⟩]))))))
  (.reg [⟨(some 180), .mov (.t 18), none, []⟩,
      ⟨(some 181), .bin .add (.t 180) (.c (.int .i64 1)), none, []⟩,
      ⟨(some 18), .mov (.t 181), none, []⟩]))
def xf9 : XFunc := ⟨.seq (.reg [⟨(some 3), .box 24 (.t 0), none, []⟩,
      ⟨(some 5), .box 92 (.t 2), none, []⟩,
      ⟨(some 6), .mov (.c (.bool false)), none, []⟩])
  (.seq (.seq (.reg [⟨(some 23), .call (.c (.fn 11 [] [])) [], none, []⟩,
      ⟨(some 24), .un .not (.t 23), none, []⟩])
  (.cond (.t 24) (.seq (.reg [⟨(some 6), .mov (.c (.bool false)), none, []⟩])
    (.ret)) .skip))
  (.seq (.seq (.reg [⟨(some 25), .loadn 1 (.t 3), none, []⟩,
      ⟨(some 26), .call (.c (.fn 12 [] [])) [.t 25], none, []⟩,
      ⟨(some 27), .un .not (.t 26), none, []⟩,
      ⟨(some 28), .mov (.t 27), none, []⟩,
      ⟨(some 29), .mov (.t 1), (some (28, false)), []⟩,
      ⟨(some 30), .len (.t 29), (some (28, false)), []⟩,
      ⟨(some 31), .bin .gtr (.t 30) (.c (.int .i64 24)), (some (28, false)), []⟩,
      ⟨(some 32), .pick (.t 28) (.c (.bool true)) (.t 31), none, []⟩,
      ⟨(some 33), .mov (.t 32), none, []⟩,
      ⟨(some 34), .faddr 0 (.t 5), (some (33, false)), []⟩,
      ⟨(some 35), .load1 (.t 34), (some (33, false)), []⟩,
      ⟨(some 36), .len (.t 35), (some (33, false)), []⟩,
      ⟨(some 37), .bin .gtr (.t 36) (.c (.int .i64 10)), (some (33, false)), []⟩,
      ⟨(some 38), .pick (.t 33) (.c (.bool true)) (.t 37), none, []⟩,
      ⟨(some 39), .mov (.t 38), none, []⟩,
      ⟨(some 40), .loadn 1 (.t 3), (some (39, false)), []⟩,
      ⟨(some 41), .mov (.t 1), (some (39, false)), []⟩,
      ⟨(some 42), .faddr 0 (.t 5), (some (39, false)), []⟩,
      ⟨(some 43), .load1 (.t 42), (some (39, false)), []⟩,
      ⟨(some 44), .call (.c (.fn 48 [] [])) [.t 40, .t 41, .t 43], (some (39, false)), []⟩,
      ⟨(some 45), .bin .neq (.t 44) (.c (.int .i64 0)), (some (39, false)), []⟩,
      ⟨(some 46), .pick (.t 39) (.c (.bool true)) (.t 45), none, []⟩,
      ⟨(some 47), .mov (.t 46), none, []⟩,
      ⟨(some 48), .faddr 1 (.t 5), (some (47, false)), []⟩,
      ⟨(some 49), .load1 (.t 48), (some (47, false)), []⟩,
      ⟨(some 50), .call (.c (.fn 25 [] [])) [.t 49, .c (.int .i64 (-1000000000)), .c (.int .i64 2000000000)], (some (47, false)), []⟩,
      ⟨(some 51), .un .not (.t 50), (some (47, false)), []⟩,
      ⟨(some 52), .pick (.t 47) (.c (.bool true)) (.t 51), none, []⟩])
  (.cond (.t 52) (.seq (.reg [⟨(some 6), .mov (.c (.bool true)), none, []⟩])
    (.ret)) .skip))
  (.seq (.dreg [⟨(some 54), .loadn 1 (.t 3), none, []⟩,
      ⟨(some 55), .call (.c (.fn 14 [] [])) [.t 54], none, [0]⟩,
      ⟨(some 56), .mov (.t 1), none, []⟩,
      ⟨(some 57), .call (.c (.fn 50 [] [])) [.t 56], none, [0, 1, 2]⟩,
      ⟨(some 58), .faddr 0 (.t 5), none, []⟩,
      ⟨(some 59), .load1 (.t 58), none, [4]⟩,
      ⟨(some 60), .call (.c (.fn 51 [] [])) [.t 59], none, [2, 1, 0, 4, 3, 5]⟩,
      ⟨(some 61), .call (.c (.fn 49 [] [])) [.t 55, .t 57, .t 60], none, [5, 4, 2, 0, 6, 3, 1]⟩,
      ⟨(some 53), .mov (.t 61), none, [1, 3, 6, 0, 2, 4, 5, 7]⟩,
      ⟨(some 62), .extract (.t 53) 0, none, [7, 5, 4, 2, 0, 6, 3, 1, 8]⟩,
      ⟨(some 63), .extract (.t 53) 1, none, [7, 5, 4, 2, 0, 6, 3, 1, 8]⟩,
      ⟨(some 7), .new 32 [.int .i64 0, .int .i64 0], none, []⟩,
      ⟨none, .store 2 (.t 7) (.t 62), none, [8, 6, 5, 4, 3, 2, 1, 0, 7, 9, 11]⟩,
      ⟨(some 8), .mov (.t 63), none, [11, 9, 8, 7, 6, 5, 4, 3, 2, 1, 0, 12, 10]⟩])
  (.seq (.dreg [⟨(some 65), .loadn 1 (.t 3), none, []⟩,
      ⟨(some 66), .call (.c (.fn 14 [] [])) [.t 65], none, [0]⟩,
      ⟨(some 67), .mov (.t 1), none, []⟩,
      ⟨(some 68), .call (.c (.fn 50 [] [])) [.t 67], none, [0, 1, 2]⟩,
      ⟨(some 69), .faddr 0 (.t 5), none, []⟩,
      ⟨(some 70), .load1 (.t 69), none, [4]⟩,
      ⟨(some 71), .call (.c (.fn 51 [] [])) [.t 70], none, [2, 1, 0, 4, 3, 5]⟩,
      ⟨(some 72), .call (.c (.fn 52 [] [])) [.t 66, .t 68, .t 71], none, [5, 4, 2, 0, 6, 3, 1]⟩,
      ⟨(some 64), .mov (.t 72), none, [1, 3, 6, 0, 2, 4, 5, 7]⟩,
      ⟨(some 73), .extract (.t 64) 0, none, [7, 5, 4, 2, 0, 6, 3, 1, 8]⟩,
      ⟨(some 74), .extract (.t 64) 1, none, [7, 5, 4, 2, 0, 6, 3, 1, 8]⟩,
      ⟨(some 9), .mov (.t 73), none, [8, 6, 5, 4, 3, 2, 1, 0, 7, 9]⟩,
      ⟨(some 10), .mov (.t 74), none, [9, 8, 7, 6, 5, 4, 3, 2, 1, 0, 11, 10]⟩])
  (.seq (.seq (.reg [⟨(some 75), .mov (.t 8), none, []⟩,
      ⟨(some 76), .bin .neq (.t 75) (.c (.int .i64 0)), none, []⟩])
  (.cond (.t 76) (.seq (.seq (.reg [⟨(some 77), .mov (.t 8), none, []⟩,
        ⟨(some 78), .bin .neq (.t 77) (.c (.int .i64 13)), none, []⟩,
        ⟨(some 79), .mov (.t 78), none, []⟩,
        ⟨(some 80), .mov (.t 10), (some (79, false)), []⟩,
        ⟨(some 81), .bin .neq (.t 80) (.c (.int .i64 0)), (some (79, false)), []⟩,
        ⟨(some 82), .pick (.t 79) (.c (.bool true)) (.t 81), none, []⟩,
        ⟨(some 83), .mov (.t 82), none, []⟩,
        ⟨(some 84), .mov (.t 9), (some (83, false)), []⟩,
        ⟨(some 85), .len (.t 84), (some (83, false)), []⟩,
        ⟨(some 86), .call (.c (.fn 25 [] [])) [.t 85, .c (.int .i64 1), .c (.int .i64 2)], (some (83, false)), []⟩,
        ⟨(some 87), .un .not (.t 86), (some (83, false)), []⟩,
        ⟨(some 88), .pick (.t 83) (.c (.bool true)) (.t 87), none, []⟩])
    (.cond (.t 88) (.seq (.reg [⟨(some 6), .mov (.c (.bool false)), none, []⟩])
      (.ret)) .skip))
    (.seq (.reg [⟨(some 11), .mov (.c .nils), none, []⟩])
    (.seq (.seq (.reg [⟨(some 12), .mov (.c (.int .i64 0)), none, []⟩])
    (.block 0 (.loop xf9l0)))
    (.seq (.reg [⟨(some 156), .loadn 1 (.t 3), none, []⟩,
        ⟨(some 157), .call (.c (.fn 14 [] [])) [.t 156], none, []⟩,
        ⟨(some 158), .mov (.t 1), none, []⟩,
        ⟨(some 159), .call (.c (.fn 50 [] [])) [.t 158], none, []⟩,
        ⟨(some 160), .mov (.t 11), none, []⟩,
        ⟨(some 161), .call (.c (.fn 49 [] [])) [.t 157, .t 159, .t 160], none, []⟩,
        ⟨(some 155), .mov (.t 161), none, []⟩,
        ⟨(some 162), .extract (.t 155) 0, none, []⟩,
        ⟨(some 163), .extract (.t 155) 1, none, []⟩,
        ⟨(some 15), .new 32 [.int .i64 0, .int .i64 0], none, []⟩,
        ⟨none, .store 2 (.t 15) (.t 162), none, []⟩,
        ⟨(some 16), .mov (.t 163), none, []⟩])
    (.seq (.reg [⟨(some 164), .mov (.t 16), none, []⟩,
        ⟨(some 165), .bin .eql (.t 164) (.c (.int .i64 13)), none, []⟩,
        ⟨(some 6), .mov (.t 165), none, []⟩])
    (.ret)))))) .skip))
  (.seq (.seq (.reg [⟨(some 166), .mov (.t 10), none, []⟩,
      ⟨(some 167), .bin .neq (.t 166) (.c (.int .i64 12)), none, []⟩,
      ⟨(some 168), .mov (.t 167), none, []⟩,
      ⟨(some 169), .faddr 0 (.t 7), (some (168, false)), []⟩,
      ⟨(some 170), .load1 (.t 169), (some (168, false)), []⟩,
      ⟨(some 171), .faddr 1 (.t 7), (some (168, false)), []⟩,
      ⟨(some 172), .load1 (.t 171), (some (168, false)), []⟩,
      ⟨(some 173), .bin .gtr (.t 170) (.t 172), (some (168, false)), []⟩,
      ⟨(some 174), .pick (.t 168) (.c (.bool true)) (.t 173), none, []⟩])
  (.cond (.t 174) (.seq (.reg [⟨(some 6), .mov (.c (.bool false)), none, []⟩])
    (.ret)) .skip))
  (.seq (.reg [⟨(some 17), .mov (.c (.bool true)), none, []⟩])
  (.seq (.seq (.reg [⟨(some 18), .mov (.c (.int .i64 0)), none, []⟩])
  (.block 2 (.loop xf9l2)))
  (.seq (.reg [⟨(some 242), .mov (.t 17), none, []⟩,
      ⟨(some 243), .faddr 1 (.t 5), none, []⟩,
      ⟨(some 244), .load1 (.t 243), none, []⟩,
      ⟨(some 245), .faddr 0 (.t 7), none, []⟩,
      ⟨(some 246), .load1 (.t 245), none, []⟩,
      ⟨(some 247), .faddr 1 (.t 7), none, []⟩,
      ⟨(some 248), .load1 (.t 247), none, []⟩,
      ⟨(some 249), .call (.c (.fn 25 [] [])) [.t 244, .t 246, .t 248], none, []⟩,
      ⟨(some 250), .eqb false (.t 242) (.t 249), none, []⟩,
      ⟨(some 6), .mov (.t 250), none, []⟩])
  (.ret)))))))))), 251, [.t 6]⟩
structure LawCCode (X : FuncId → Option XFunc) : Prop where
  tab : TabCode X
  read : ReadCode X
  h9 : X 9 = some xf9
end Go.Proofs.Ytbpflcilndinfaa.Eng

/-
  CODE of Run.
-/
namespace Go.Proofs.Ytbpflcilndinfaa.Eng
set_option linter.unusedSimpArgs false
set_option linter.unusedVariables false
def xf91 : XFunc := ⟨.seq (.reg [⟨(some 1), .box 75 (.t 0), none, []⟩,
      ⟨(some 2), .mov (.c (.int .i64 0)), none, []⟩])
  (.seq (.dreg [⟨(some 3), .load1 (.t 1), none, []⟩,
      ⟨(some 4), .len (.t 3), none, [0]⟩,
      ⟨(some 5), .bin .gtr (.t 4) (.c (.int .i64 200)), none, [0, 1]⟩,
      ⟨(some 6), .call (.c (.fn 59 [] [])) [.t 5, .c (.int .i64 8)], none, [1, 0, 2]⟩,
      ⟨(some 7), .load1 (.t 1), none, []⟩,
      ⟨(some 8), .len (.t 7), none, [4]⟩,
      ⟨(some 9), .fn true 128 [] [.t 1], none, []⟩,
      ⟨(some 10), .call (.c (.fn 93 [] [])) [.t 8, .t 9], none, [2, 0, 1, 4, 3, 6, 5]⟩,
      ⟨(some 11), .buildSlice 117 1 2 false [.nilfn, .nilfn] [(0, 1, .t 6), (1, 1, .t 10)], none, [5, 6, 4, 2, 0, 1, 7, 3]⟩,
      ⟨(some 12), .call (.c (.fn 58 [] [])) [.t 11], none, [3, 1, 0, 2, 4, 6, 5, 7, 8]⟩,
      ⟨(some 2), .mov (.t 12), none, [8, 7, 6, 5, 4, 3, 2, 1, 0, 9]⟩])
  (.ret)), 13, [.t 2]⟩
def xf128 : XFunc := ⟨.seq (.reg [⟨(some 3), .mov (.c (.int .i64 0)), none, []⟩])
  (.seq (.reg [⟨(some 4), .load1 (.t 1), none, []⟩,
      ⟨(some 5), .mov (.t 0), none, []⟩,
      ⟨(some 6), .iaddr 3 (.t 4) (.t 5), none, []⟩,
      ⟨(some 7), .loadn 3 (.t 6), none, []⟩,
      ⟨(some 8), .call (.c (.fn 84 [] [])) [.t 7], none, []⟩,
      ⟨(some 3), .mov (.t 8), none, []⟩])
  (.ret)), 9, [.t 3]⟩
def xf92 : XFunc := ⟨.seq (.reg [⟨(some 2), .box 151 (.t 0), none, []⟩,
      ⟨(some 3), .box 75 (.t 1), none, []⟩,
      ⟨(some 4), .mov (.c .nilfn), none, []⟩])
  (.seq (.reg [⟨(some 5), .fn true 129 [] [.t 2, .t 3], none, []⟩,
      ⟨(some 4), .mov (.t 5), none, []⟩])
  (.ret)), 6, [.t 4]⟩
def xf129l0 : XCode := .seq (.reg [⟨(some 14), .bin .lss (.t 13) (.t 12), none, []⟩])
  (.seq (.cond (.t 14) .skip (.exit 0))
  (.seq (.block 1 (.seq (.reg [⟨(some 15), .iaddr 3 (.t 11) (.t 13), none, []⟩,
        ⟨(some 16), .loadn 3 (.t 15), none, []⟩,
        ⟨(some 6), .new 57 [.int .i64 0, .int .i64 0, .int .i64 0], none, []⟩,
        ⟨none, .store 3 (.t 6) (.t 16), none, []⟩])
    (.seq (.reg [⟨(some 18), .faddr 0 (.t 1), none, []⟩,
        ⟨(some 19), .loadn 3 (.t 18), none, []⟩,
        ⟨(some 20), .loadn 2 (.t 4), none, []⟩,
        ⟨(some 21), .loadn 3 (.t 6), none, []⟩,
        ⟨(some 22), .call (.c (.fn 85 [] [])) [.t 19, .t 20, .t 21], none, []⟩,
        ⟨(some 17), .mov (.t 22), none, []⟩,
        ⟨(some 23), .extract (.t 17) 0, none, []⟩,
        ⟨(some 24), .extract (.t 17) 1, none, []⟩,
        ⟨(some 7), .new 156 [.int .i64 0, .int .i64 0, .int .i64 0, .int .i64 0], none, []⟩,
        ⟨none, .store 4 (.t 7) (.t 23), none, []⟩,
        ⟨(some 8), .mov (.t 24), none, []⟩])
    (.seq (.seq (.reg [⟨(some 25), .mov (.t 0), none, []⟩,
        ⟨(some 26), .loadn 4 (.t 7), none, []⟩,
        ⟨(some 27), .mov (.t 8), none, []⟩,
        ⟨(some 28), .call (.t 25) [.t 26, .t 27], none, []⟩,
        ⟨(some 29), .un .not (.t 28), none, []⟩,
        ⟨(some 30), .mov (.t 29), none, []⟩,
        ⟨(some 31), .mov (.t 8), (some (30, false)), []⟩,
        ⟨(some 32), .bin .neq (.t 31) (.c (.int .i64 0)), (some (30, false)), []⟩,
        ⟨(some 33), .pick (.t 30) (.c (.bool true)) (.t 32), none, []⟩])
    (.cond (.t 33) .ret .skip))
    (.reg [⟨(some 34), .faddr 0 (.t 7), none, []⟩,
        ⟨(some 35), .loadn 2 (.t 34), none, []⟩,
        ⟨none, .store 2 (.t 4) (.t 35), none, []⟩])))))
  (.reg [⟨(some 36), .bin .add (.t 13) (.c (.int .i64 1)), none, []⟩,
      ⟨(some 13), .mov (.t 36), none, []⟩])))
def xf129 : XFunc := ⟨.seq (.reg [⟨(some 9), .faddr 3 (.t 1), none, []⟩,
      ⟨(some 10), .loadn 2 (.t 9), none, []⟩,
      ⟨(some 4), .new 149 [.int .i64 0, .int .i64 0], none, []⟩,
      ⟨none, .store 2 (.t 4) (.t 10), none, []⟩])
  (.seq (.reg [⟨(some 11), .load1 (.t 2), none, []⟩,
      ⟨(some 12), .len (.t 11), none, []⟩,
      ⟨(some 13), .mov (.c (.int .i64 0)), none, []⟩])
  (.block 0 (.loop xf129l0))), 37, []⟩
def xf41a0 : XCode := .seq (.reg [⟨(some 14), .new 156 [.int .i64 0, .int .i64 0, .int .i64 0, .int .i64 0], none, []⟩,
      ⟨none, .store 4 (.t 14) (.t 35), none, []⟩])
  (.reg [⟨(some 15), .mov (.t 36), none, []⟩])
def xf41b0 : XCode := .block 1 (.seq (.seq (.reg [⟨(some 37), .mov (.t 15), none, []⟩,
        ⟨(some 38), .bin .neq (.t 37) (.c (.int .i64 0)), none, []⟩])
    (.cond (.t 38) (.seq (.reg [⟨(some 39), .build [.int .i64 0, .int .i64 0] [], none, []⟩,
          ⟨(some 40), .mov (.t 15), none, []⟩,
          ⟨none, .store 1 (.t 6) (.c .nils), none, []⟩,
          ⟨none, .store 2 (.t 7) (.t 39), none, []⟩,
          ⟨none, .store 1 (.t 8) (.t 40), none, []⟩])
      (.ret)) .skip))
    (.seq (.dreg [⟨(some 41), .load1 (.t 12), none, []⟩,
        ⟨(some 42), .faddr 0 (.t 14), none, []⟩,
        ⟨(some 43), .loadn 2 (.t 42), none, [1]⟩,
        ⟨(some 44), .call (.c (.fn 86 [] [])) [.t 43], none, [1, 2]⟩,
        ⟨(some 45), .buildSlice 55 2 1 true [.int .i64 0, .int .i64 0] [(0, 2, .t 44)], none, [2, 1, 3]⟩,
        ⟨(some 46), .append 55 2 16 (.t 41) (.t 45), none, [1, 2, 3, 4, 0]⟩,
        ⟨none, .store 1 (.t 12) (.t 46), none, [4, 3, 2, 1, 0, 5]⟩])
    (.seq (.reg [⟨(some 47), .faddr 0 (.t 13), none, []⟩,
        ⟨(some 48), .load1 (.t 47), none, []⟩,
        ⟨(some 49), .faddr 2 (.t 14), none, []⟩,
        ⟨(some 50), .faddr 0 (.t 49), none, []⟩,
        ⟨(some 51), .load1 (.t 50), none, []⟩,
        ⟨(some 52), .bin .add (.t 48) (.t 51), none, []⟩,
        ⟨(some 53), .faddr 0 (.t 13), none, []⟩,
        ⟨none, .store 1 (.t 53) (.t 52), none, []⟩])
    (.reg [⟨(some 54), .faddr 1 (.t 13), none, []⟩,
        ⟨(some 55), .load1 (.t 54), none, []⟩,
        ⟨(some 56), .faddr 2 (.t 14), none, []⟩,
        ⟨(some 57), .faddr 1 (.t 56), none, []⟩,
        ⟨(some 58), .load1 (.t 57), none, []⟩,
        ⟨(some 59), .bin .add (.t 55) (.t 58), none, []⟩,
        ⟨(some 60), .faddr 1 (.t 13), none, []⟩,
        ⟨none, .store 1 (.t 60) (.t 59), none, []⟩]))))
def xf41 : XFunc := ⟨.seq (.reg [⟨(some 3), .box 53 (.t 0), none, []⟩,
      ⟨(some 4), .box 55 (.t 1), none, []⟩,
      ⟨(some 6), .new 77 [.nils], none, []⟩,
      ⟨(some 7), .new 60 [.int .i64 0, .int .i64 0], none, []⟩,
      ⟨(some 8), .new 27 [.int .i64 0], none, []⟩])
  (.seq (.reg [⟨(some 17), .loadn 3 (.t 3), none, []⟩,
      ⟨(some 18), .loadn 2 (.t 4), none, []⟩,
      ⟨(some 19), .call (.c (.fn 83 [] [])) [.t 17, .t 18], none, []⟩,
      ⟨(some 16), .mov (.t 19), none, []⟩,
      ⟨(some 20), .extract (.t 16) 0, none, []⟩,
      ⟨(some 21), .extract (.t 16) 1, none, []⟩,
      ⟨(some 9), .new 151 [.nils, .nils, .int .i64 0, .int .i64 0, .int .i64 0], none, []⟩,
      ⟨none, .store 5 (.t 9) (.t 20), none, []⟩,
      ⟨(some 10), .mov (.t 21), none, []⟩])
  (.seq (.seq (.reg [⟨(some 22), .mov (.t 10), none, []⟩,
      ⟨(some 23), .bin .neq (.t 22) (.c (.int .i64 0)), none, []⟩])
  (.cond (.t 23) (.seq (.reg [⟨(some 24), .build [.int .i64 0, .int .i64 0] [], none, []⟩,
        ⟨(some 25), .mov (.t 10), none, []⟩,
        ⟨none, .store 1 (.t 6) (.c .nils), none, []⟩,
        ⟨none, .store 2 (.t 7) (.t 24), none, []⟩,
        ⟨none, .store 1 (.t 8) (.t 25), none, []⟩])
    (.ret)) .skip))
  (.seq (.seq (.reg [⟨(some 26), .mov (.t 2), none, []⟩,
      ⟨(some 27), .call (.c (.fn 91 [] [])) [.t 26], none, []⟩,
      ⟨(some 11), .mov (.t 27), none, []⟩])
  (.seq (.reg [⟨(some 28), .mov (.t 11), none, []⟩,
      ⟨(some 29), .bin .neq (.t 28) (.c (.int .i64 0)), none, []⟩])
  (.cond (.t 29) (.seq (.reg [⟨(some 30), .build [.int .i64 0, .int .i64 0] [], none, []⟩,
        ⟨(some 31), .mov (.t 11), none, []⟩,
        ⟨none, .store 1 (.t 6) (.c .nils), none, []⟩,
        ⟨none, .store 2 (.t 7) (.t 30), none, []⟩,
        ⟨none, .store 1 (.t 8) (.t 31), none, []⟩])
    (.ret)) .skip)))
  (.seq (.reg [⟨(some 12), .new 77 [.nils], none, []⟩])
  (.seq (.reg [⟨(some 13), .new 60 [.int .i64 0, .int .i64 0], none, []⟩])
  (.seq (.seq (.reg [⟨(some 32), .loadn 5 (.t 9), none, []⟩,
      ⟨(some 33), .mov (.t 2), none, []⟩,
      ⟨(some 34), .call (.c (.fn 92 [] [])) [.t 32, .t 33], none, []⟩])
  (.block 0 (.rangeF (.t 34) [35, 36] xf41a0 xf41b0)))
  (.seq (.dreg [⟨(some 61), .load1 (.t 12), none, []⟩,
      ⟨(some 62), .loadn 2 (.t 13), none, []⟩,
      ⟨none, .store 1 (.t 6) (.t 61), none, [0]⟩,
      ⟨none, .store 2 (.t 7) (.t 62), none, [0, 2, 1]⟩,
      ⟨none, .store 1 (.t 8) (.c (.int .i64 0)), none, [2, 1, 0, 3]⟩])
  (.ret)))))))), 63, [.c1 6, .cn 7 2, .c1 8]⟩
def xf42 : XFunc := ⟨.seq (.reg [⟨(some 2), .mov (.c .nils), none, []⟩])
  (.seq (.reg [⟨(some 3), .buildSlice 57 3 0 true [] [], none, []⟩,
      ⟨(some 4), .mov (.t 0), none, []⟩,
      ⟨(some 5), .append 57 3 24 (.t 3) (.t 4), none, []⟩,
      ⟨(some 2), .mov (.t 5), none, []⟩])
  (.ret)), 6, [.t 2]⟩
def xf40l0 : XCode := .seq (.seq (.reg [⟨(some 8), .mov (.t 3), none, []⟩,
      ⟨(some 9), .mov (.t 0), none, []⟩,
      ⟨(some 10), .len (.t 9), none, []⟩,
      ⟨(some 11), .bin .lss (.t 8) (.t 10), none, []⟩])
  (.cond (.t 11) .skip (.exit 0)))
  (.seq (.block 1 (.seq (.reg [⟨(some 14), .mov (.t 0), none, []⟩,
        ⟨(some 15), .mov (.t 3), none, []⟩,
        ⟨(some 16), .iaddr 3 (.t 14) (.t 15), none, []⟩,
        ⟨(some 17), .loadn 3 (.t 16), none, []⟩,
        ⟨(some 18), .call (.c (.fn 38 [] [])) [.t 17], none, []⟩,
        ⟨(some 4), .mov (.t 18), none, []⟩])
    (.seq (.reg [⟨(some 19), .mov (.t 4), none, []⟩,
        ⟨(some 20), .bin .neq (.t 19) (.c (.int .i64 0)), none, []⟩])
    (.cond (.t 20) (.seq (.reg [⟨(some 21), .mov (.t 4), none, []⟩,
          ⟨(some 2), .mov (.t 21), none, []⟩])
      (.ret)) .skip))))
  (.reg [⟨(some 12), .mov (.t 3), none, []⟩,
      ⟨(some 13), .bin .add (.t 12) (.c (.int .i64 1)), none, []⟩,
      ⟨(some 3), .mov (.t 13), none, []⟩]))
def xf40 : XFunc := ⟨.seq (.reg [⟨(some 2), .mov (.c (.int .i64 0)), none, []⟩])
  (.seq (.seq (.reg [⟨(some 5), .mov (.t 0), none, []⟩,
      ⟨(some 6), .len (.t 5), none, []⟩,
      ⟨(some 7), .bin .gtr (.t 6) (.c (.int .i64 200)), none, []⟩])
  (.cond (.t 7) (.seq (.reg [⟨(some 2), .mov (.c (.int .i64 8)), none, []⟩])
    (.ret)) .skip))
  (.seq (.seq (.reg [⟨(some 3), .mov (.c (.int .i64 0)), none, []⟩])
  (.block 0 (.loop xf40l0)))
  (.seq (.reg [⟨(some 2), .mov (.c (.int .i64 0)), none, []⟩])
  (.ret)))), 22, [.t 2]⟩
def xf44l0 : XCode := .seq (.seq (.reg [⟨(some 11), .mov (.t 5), none, []⟩,
      ⟨(some 12), .mov (.t 0), none, []⟩,
      ⟨(some 13), .len (.t 12), none, []⟩,
      ⟨(some 14), .bin .lss (.t 11) (.t 13), none, []⟩])
  (.cond (.t 14) .skip (.exit 0)))
  (.seq (.block 1 (.seq (.dreg [⟨(some 17), .mov (.t 0), none, []⟩,
        ⟨(some 18), .mov (.t 5), none, []⟩,
        ⟨(some 19), .iaddr 2 (.t 17) (.t 18), none, [1, 0]⟩,
        ⟨(some 20), .loadn 2 (.t 19), none, [0, 1, 2]⟩,
        ⟨(some 21), .mov (.t 1), none, []⟩,
        ⟨(some 22), .mov (.t 5), none, []⟩,
        ⟨(some 23), .iaddr 2 (.t 21) (.t 22), none, [5, 4]⟩,
        ⟨(some 24), .loadn 2 (.t 23), none, [4, 5, 6]⟩,
        ⟨(some 25), .eqA true (.s [(0, 1, false, .c 0), (1, 1, false, .c 0)]) (.t 20) (.t 24), none, [6, 5, 4, 2, 1, 0, 7, 3]⟩])
    (.cond (.t 25) (.seq (.reg [⟨(some 4), .mov (.c (.bool false)), none, []⟩])
      (.ret)) .skip)))
  (.reg [⟨(some 15), .mov (.t 5), none, []⟩,
      ⟨(some 16), .bin .add (.t 15) (.c (.int .i64 1)), none, []⟩,
      ⟨(some 5), .mov (.t 16), none, []⟩]))
def xf44 : XFunc := ⟨.seq (.reg [⟨(some 4), .mov (.c (.bool false)), none, []⟩])
  (.seq (.seq (.reg [⟨(some 6), .mov (.t 0), none, []⟩,
      ⟨(some 7), .len (.t 6), none, []⟩,
      ⟨(some 8), .mov (.t 1), none, []⟩,
      ⟨(some 9), .len (.t 8), none, []⟩,
      ⟨(some 10), .bin .neq (.t 7) (.t 9), none, []⟩])
  (.cond (.t 10) (.seq (.reg [⟨(some 4), .mov (.c (.bool false)), none, []⟩])
    (.ret)) .skip))
  (.seq (.seq (.reg [⟨(some 5), .mov (.c (.int .i64 0)), none, []⟩])
  (.block 0 (.loop xf44l0)))
  (.seq (.reg [⟨(some 4), .mov (.c (.bool true)), none, []⟩])
  (.ret)))), 26, [.t 4]⟩
structure RunCode (X : FuncId → Option XFunc) : Prop where
  pair : PairCode X
  read : ReadCode X
  h91 : X 91 = some xf91
  h128 : X 128 = some xf128
  h92 : X 92 = some xf92
  h129 : X 129 = some xf129
  h41 : X 41 = some xf41
  h42 : X 42 = some xf42
  h40 : X 40 = some xf40
  h44 : X 44 = some xf44
end Go.Proofs.Ytbpflcilndinfaa.Eng

/-
  CODE of LawD.
-/
namespace Go.Proofs.Ytbpflcilndinfaa.Eng
set_option linter.unusedSimpArgs false
set_option linter.unusedVariables false
def xf6l0 : XCode := .seq (.seq (.reg [⟨(some 78), .mov (.t 13), none, []⟩,
      ⟨(some 79), .mov (.t 2), none, []⟩,
      ⟨(some 80), .len (.t 79), none, []⟩,
      ⟨(some 81), .bin .lss (.t 78) (.t 80), none, []⟩])
  (.cond (.t 81) .skip (.exit 0)))
  (.seq (.block 1 (.seq (.dreg [⟨(some 85), .loadn 3 (.t 3), none, []⟩,
        ⟨(some 86), .call (.c (.fn 31 [] [])) [.t 85], none, [0]⟩,
        ⟨(some 87), .loadn 2 (.t 10), none, []⟩,
        ⟨(some 88), .mov (.t 2), none, []⟩,
        ⟨(some 89), .mov (.t 13), none, []⟩,
        ⟨(some 90), .iaddr 3 (.t 88) (.t 89), none, [4, 3]⟩,
        ⟨(some 91), .loadn 3 (.t 90), none, [3, 4, 5]⟩,
        ⟨(some 92), .call (.c (.fn 30 [] [])) [.t 86, .t 87, .t 91], none, [5, 4, 3, 0, 6, 2, 1]⟩,
        ⟨(some 84), .mov (.t 92), none, [1, 2, 6, 0, 3, 4, 5, 7]⟩,
        ⟨(some 93), .extract (.t 84) 0, none, [7, 5, 4, 3, 0, 6, 2, 1, 8]⟩,
        ⟨(some 94), .extract (.t 84) 1, none, [7, 5, 4, 3, 0, 6, 2, 1, 8]⟩,
        ⟨(some 95), .extract (.t 84) 2, none, [7, 5, 4, 3, 0, 6, 2, 1, 8]⟩,
        ⟨(some 14), .new 55 [.int .i64 0, .int .i64 0], none, []⟩,
        ⟨(some 15), .new 60 [.int .i64 0, .int .i64 0], none, []⟩,
        ⟨none, .store 2 (.t 14) (.t 93), none, [13, 8, 6, 5, 4, 3, 2, 1, 0, 7, 9, 12]⟩,
        ⟨none, .store 2 (.t 15) (.t 94), none, [12, 9, 8, 7, 6, 5, 4, 3, 2, 1, 0, 14, 10, 13]⟩,
        ⟨(some 16), .mov (.t 95), none, [14, 13, 12, 10, 9, 8, 7, 6, 5, 4, 3, 2, 1, 0, 15, 11]⟩])
    (.seq (.seq (.dreg [⟨(some 96), .mov (.t 16), none, []⟩,
        ⟨(some 97), .bin .neq (.t 96) (.c (.int .i64 0)), none, [0]⟩,
        ⟨(some 98), .mov (.t 97), none, [0, 1]⟩,
        ⟨(some 99), .loadn 2 (.t 14), (some (98, false)), [1, 0, 2]⟩,
        ⟨(some 100), .mov (.t 7), (some (98, false)), [1, 0, 2]⟩,
        ⟨(some 101), .mov (.t 13), (some (98, false)), [1, 0, 2]⟩,
        ⟨(some 102), .iaddr 2 (.t 100) (.t 101), (some (98, false)), [0, 1, 2, 5, 4]⟩,
        ⟨(some 103), .loadn 2 (.t 102), (some (98, false)), [4, 5, 1, 0, 2, 6]⟩,
        ⟨(some 104), .eqA true (.s [(0, 1, false, .c 0), (1, 1, false, .c 0)]) (.t 99) (.t 103), (some (98, false)), [6, 5, 4, 0, 1, 2, 7, 3]⟩,
        ⟨(some 105), .pick (.t 98) (.c (.bool true)) (.t 104), none, [3, 7, 4, 5, 6, 1, 0, 8, 2]⟩,
        ⟨(some 106), .mov (.t 105), none, [8, 0, 1, 6, 5, 4, 7, 3, 2, 9]⟩,
        ⟨(some 107), .loadn 3 (.t 3), (some (106, false)), [9, 2, 3, 7, 4, 5, 6, 1, 0, 8, 10]⟩,
        ⟨(some 108), .loadn 2 (.t 14), (some (106, false)), [9, 2, 3, 7, 4, 5, 6, 1, 0, 8, 10]⟩,
        ⟨(some 109), .call (.c (.fn 43 [] [])) [.t 107, .t 108], (some (106, false)), [8, 0, 1, 6, 5, 4, 7, 3, 2, 9, 10, 12, 11]⟩,
        ⟨(some 110), .bin .neq (.t 109) (.c (.int .i64 0)), (some (106, false)), [11, 12, 9, 2, 3, 7, 4, 5, 6, 1, 0, 8, 10, 13]⟩,
        ⟨(some 111), .pick (.t 106) (.c (.bool true)) (.t 110), none, [13, 12, 11, 9, 2, 3, 7, 4, 5, 6, 1, 0, 8, 14, 10]⟩,
        ⟨(some 112), .mov (.t 111), none, [10, 14, 8, 0, 1, 6, 5, 4, 7, 3, 2, 9, 11, 12, 13, 15]⟩,
        ⟨(some 113), .faddr 0 (.t 15), (some (112, false)), [15, 13, 12, 11, 9, 2, 3, 7, 4, 5, 6, 1, 0, 8, 14, 10, 16]⟩,
        ⟨(some 114), .load1 (.t 113), (some (112, false)), [10, 14, 8, 0, 1, 6, 5, 4, 7, 3, 2, 9, 11, 12, 13, 15, 16, 17]⟩,
        ⟨(some 115), .call (.c (.fn 25 [] [])) [.t 114, .c (.int .i64 0), .c (.int .i64 2000000000)], (some (112, false)), [17, 15, 13, 12, 11, 9, 2, 3, 7, 4, 5, 6, 1, 0, 8, 14, 10, 16, 18]⟩,
        ⟨(some 116), .un .not (.t 115), (some (112, false)), [18, 10, 14, 8, 0, 1, 6, 5, 4, 7, 3, 2, 9, 11, 12, 13, 15, 17, 16, 19]⟩,
        ⟨(some 117), .pick (.t 112) (.c (.bool true)) (.t 116), none, [19, 17, 18, 15, 13, 12, 11, 9, 2, 3, 7, 4, 5, 6, 1, 0, 8, 14, 10, 20, 16]⟩,
        ⟨(some 118), .mov (.t 117), none, [16, 20, 10, 14, 8, 0, 1, 6, 5, 4, 7, 3, 2, 9, 11, 12, 13, 15, 18, 17, 19, 21]⟩,
        ⟨(some 119), .faddr 1 (.t 15), (some (118, false)), [21, 19, 17, 18, 15, 13, 12, 11, 9, 2, 3, 7, 4, 5, 6, 1, 0, 8, 14, 10, 20, 16, 22]⟩,
        ⟨(some 120), .load1 (.t 119), (some (118, false)), [16, 20, 10, 14, 8, 0, 1, 6, 5, 4, 7, 3, 2, 9, 11, 12, 13, 15, 18, 17, 19, 21, 22, 23]⟩,
        ⟨(some 121), .call (.c (.fn 25 [] [])) [.t 120, .c (.int .i64 0), .c (.int .i64 2000000000)], (some (118, false)), [23, 21, 19, 17, 18, 15, 13, 12, 11, 9, 2, 3, 7, 4, 5, 6, 1, 0, 8, 14, 10, 20, 16, 22, 24]⟩,
        ⟨(some 122), .un .not (.t 121), (some (118, false)), [24, 16, 20, 10, 14, 8, 0, 1, 6, 5, 4, 7, 3, 2, 9, 11, 12, 13, 15, 18, 17, 19, 21, 23, 22, 25]⟩,
        ⟨(some 123), .pick (.t 118) (.c (.bool true)) (.t 122), none, [25, 23, 24, 21, 19, 17, 18, 15, 13, 12, 11, 9, 2, 3, 7, 4, 5, 6, 1, 0, 8, 14, 10, 20, 16, 26, 22]⟩])
    (.cond (.t 123) (.seq (.reg [⟨(some 6), .mov (.c (.bool false)), none, []⟩])
      (.ret)) .skip))
    (.seq (.dreg [⟨(some 124), .loadn 2 (.t 14), none, []⟩,
        ⟨(some 125), .mov (.t 11), none, []⟩,
        ⟨(some 126), .mov (.t 2), none, []⟩,
        ⟨(some 127), .mov (.t 13), none, []⟩,
        ⟨(some 128), .iaddr 3 (.t 126) (.t 127), none, [3, 2]⟩,
        ⟨(some 129), .faddr 0 (.t 128), none, [2, 3, 4]⟩,
        ⟨(some 130), .load1 (.t 129), none, [4, 3, 2, 5]⟩,
        ⟨(some 131), .bin .add (.t 125) (.t 130), none, [5, 2, 3, 4, 6, 1]⟩,
        ⟨(some 132), .mov (.t 2), none, []⟩,
        ⟨(some 133), .mov (.t 13), none, []⟩,
        ⟨(some 134), .iaddr 3 (.t 132) (.t 133), none, [9, 8]⟩,
        ⟨(some 135), .faddr 1 (.t 134), none, [8, 9, 10]⟩,
        ⟨(some 136), .load1 (.t 135), none, [10, 9, 8, 11]⟩,
        ⟨(some 137), .bin .add (.t 131) (.t 136), none, [11, 8, 9, 10, 1, 6, 4, 3, 2, 5, 12, 7]⟩,
        ⟨none, .store 2 (.t 10) (.t 124), none, [0]⟩,
        ⟨(some 11), .mov (.t 137), none, [12, 11, 10, 9, 8, 7, 6, 5, 4, 3, 2, 1, 0, 14, 13]⟩])
    (.reg [⟨(some 138), .faddr 0 (.t 12), none, []⟩,
        ⟨(some 139), .load1 (.t 138), none, []⟩,
        ⟨(some 140), .faddr 0 (.t 15), none, []⟩,
        ⟨(some 141), .load1 (.t 140), none, []⟩,
        ⟨(some 142), .bin .add (.t 139) (.t 141), none, []⟩,
        ⟨(some 143), .faddr 1 (.t 12), none, []⟩,
        ⟨(some 144), .load1 (.t 143), none, []⟩,
        ⟨(some 145), .faddr 1 (.t 15), none, []⟩,
        ⟨(some 146), .load1 (.t 145), none, []⟩,
        ⟨(some 147), .bin .add (.t 144) (.t 146), none, []⟩,
        ⟨(some 148), .build [.int .i64 0, .int .i64 0] [(0, 1, .t 142), (1, 1, .t 147)], none, []⟩,
        ⟨none, .store 2 (.t 12) (.t 148), none, []⟩])))))
  (.reg [⟨(some 82), .mov (.t 13), none, []⟩,
      ⟨(some 83), .bin .add (.t 82) (.c (.int .i64 1)), none, []⟩,
      ⟨(some 13), .mov (.t 83), none, []⟩]))
def xf6 : XFunc := ⟨.seq (.reg [⟨(some 3), .box 53 (.t 0), none, []⟩,
      ⟨(some 4), .box 55 (.t 1), none, []⟩,
      ⟨(some 6), .mov (.c (.bool false)), none, []⟩])
  (.seq (.seq (.reg [⟨(some 25), .call (.c (.fn 11 [] [])) [], none, []⟩,
      ⟨(some 26), .un .not (.t 25), none, []⟩])
  (.cond (.t 26) (.seq (.reg [⟨(some 6), .mov (.c (.bool false)), none, []⟩])
    (.ret)) .skip))
  (.seq (.seq (.reg [⟨(some 27), .loadn 3 (.t 3), none, []⟩,
      ⟨(some 28), .call (.c (.fn 29 [] [])) [.t 27], none, []⟩,
      ⟨(some 29), .un .not (.t 28), none, []⟩,
      ⟨(some 30), .mov (.t 29), none, []⟩,
      ⟨(some 31), .mov (.t 2), (some (30, false)), []⟩,
      ⟨(some 32), .len (.t 31), (some (30, false)), []⟩,
      ⟨(some 33), .bin .gtr (.t 32) (.c (.int .i64 24)), (some (30, false)), []⟩,
      ⟨(some 34), .pick (.t 30) (.c (.bool true)) (.t 33), none, []⟩,
      ⟨(some 35), .mov (.t 34), none, []⟩,
      ⟨(some 36), .loadn 3 (.t 3), (some (35, false)), []⟩,
      ⟨(some 37), .loadn 2 (.t 4), (some (35, false)), []⟩,
      ⟨(some 38), .call (.c (.fn 33 [] [])) [.t 36, .t 37], (some (35, false)), []⟩,
      ⟨(some 39), .bin .neq (.t 38) (.c (.int .i64 0)), (some (35, false)), []⟩,
      ⟨(some 40), .pick (.t 35) (.c (.bool true)) (.t 39), none, []⟩,
      ⟨(some 41), .mov (.t 40), none, []⟩,
      ⟨(some 42), .mov (.t 2), (some (41, false)), []⟩,
      ⟨(some 43), .call (.c (.fn 40 [] [])) [.t 42], (some (41, false)), []⟩,
      ⟨(some 44), .bin .neq (.t 43) (.c (.int .i64 0)), (some (41, false)), []⟩,
      ⟨(some 45), .pick (.t 41) (.c (.bool true)) (.t 44), none, []⟩])
  (.cond (.t 45) (.seq (.reg [⟨(some 6), .mov (.c (.bool true)), none, []⟩])
    (.ret)) .skip))
  (.seq (.dreg [⟨(some 47), .loadn 3 (.t 3), none, []⟩,
      ⟨(some 48), .call (.c (.fn 31 [] [])) [.t 47], none, [0]⟩,
      ⟨(some 49), .loadn 2 (.t 4), none, []⟩,
      ⟨(some 50), .mov (.t 2), none, []⟩,
      ⟨(some 51), .call (.c (.fn 42 [] [])) [.t 50], none, [0, 1, 3]⟩,
      ⟨(some 52), .call (.c (.fn 41 [] [])) [.t 48, .t 49, .t 51], none, [3, 0, 4, 2, 1]⟩,
      ⟨(some 46), .mov (.t 52), none, [1, 2, 4, 0, 3, 5]⟩,
      ⟨(some 53), .extract (.t 46) 0, none, [5, 3, 0, 4, 2, 1, 6]⟩,
      ⟨(some 54), .extract (.t 46) 1, none, [5, 3, 0, 4, 2, 1, 6]⟩,
      ⟨(some 55), .extract (.t 46) 2, none, [5, 3, 0, 4, 2, 1, 6]⟩,
      ⟨(some 8), .new 60 [.int .i64 0, .int .i64 0], none, []⟩,
      ⟨(some 7), .mov (.t 53), none, [10, 6, 4, 3, 2, 1, 0, 5, 7]⟩,
      ⟨none, .store 2 (.t 8) (.t 54), none, [7, 6, 5, 4, 3, 2, 1, 0, 11, 8, 10]⟩,
      ⟨(some 9), .mov (.t 55), none, [11, 10, 8, 7, 6, 5, 4, 3, 2, 1, 0, 12, 9]⟩])
  (.seq (.seq (.reg [⟨(some 56), .mov (.t 9), none, []⟩,
      ⟨(some 57), .bin .neq (.t 56) (.c (.int .i64 0)), none, []⟩])
  (.cond (.t 57) (.seq (.reg [⟨(some 58), .mov (.t 9), none, []⟩,
        ⟨(some 59), .bin .eql (.t 58) (.c (.int .i64 22)), none, []⟩,
        ⟨(some 6), .mov (.t 59), none, []⟩])
    (.ret)) .skip))
  (.seq (.seq (.reg [⟨(some 60), .mov (.t 7), none, []⟩,
      ⟨(some 61), .len (.t 60), none, []⟩,
      ⟨(some 62), .mov (.t 2), none, []⟩,
      ⟨(some 63), .len (.t 62), none, []⟩,
      ⟨(some 64), .bin .neq (.t 61) (.t 63), none, []⟩,
      ⟨(some 65), .mov (.t 64), none, []⟩,
      ⟨(some 66), .faddr 0 (.t 8), (some (65, false)), []⟩,
      ⟨(some 67), .load1 (.t 66), (some (65, false)), []⟩,
      ⟨(some 68), .call (.c (.fn 25 [] [])) [.t 67, .c (.int .i64 0), .c (.int .i64 48000000000)], (some (65, false)), []⟩,
      ⟨(some 69), .un .not (.t 68), (some (65, false)), []⟩,
      ⟨(some 70), .pick (.t 65) (.c (.bool true)) (.t 69), none, []⟩,
      ⟨(some 71), .mov (.t 70), none, []⟩,
      ⟨(some 72), .faddr 1 (.t 8), (some (71, false)), []⟩,
      ⟨(some 73), .load1 (.t 72), (some (71, false)), []⟩,
      ⟨(some 74), .call (.c (.fn 25 [] [])) [.t 73, .c (.int .i64 0), .c (.int .i64 48000000000)], (some (71, false)), []⟩,
      ⟨(some 75), .un .not (.t 74), (some (71, false)), []⟩,
      ⟨(some 76), .pick (.t 71) (.c (.bool true)) (.t 75), none, []⟩])
  (.cond (.t 76) (.seq (.reg [⟨(some 6), .mov (.c (.bool false)), none, []⟩])
    (.ret)) .skip))
  (.seq (.reg [⟨(some 77), .loadn 2 (.t 4), none, []⟩,
      ⟨(some 10), .new 55 [.int .i64 0, .int .i64 0], none, []⟩,
      ⟨none, .store 2 (.t 10) (.t 77), none, []⟩,
      ⟨(some 11), .mov (.c (.int .i64 0)), none, []⟩])
  (.seq (.reg [⟨(some 12), .new 60 [.int .i64 0, .int .i64 0], none, []⟩])
  (.seq (.seq (.reg [⟨(some 13), .mov (.c (.int .i64 0)), none, []⟩])
  (.block 0 (.loop xf6l0)))
  (.seq (.seq (.reg [⟨(some 149), .loadn 2 (.t 12), none, []⟩,
      ⟨(some 150), .loadn 2 (.t 8), none, []⟩,
      ⟨(some 151), .eqA true (.s [(0, 1, false, .c 0), (1, 1, false, .c 0)]) (.t 149) (.t 150), none, []⟩,
      ⟨(some 152), .mov (.t 151), none, []⟩,
      ⟨(some 153), .faddr 0 (.t 10), (some (152, false)), []⟩,
      ⟨(some 154), .load1 (.t 153), (some (152, false)), []⟩,
      ⟨(some 155), .faddr 1 (.t 10), (some (152, false)), []⟩,
      ⟨(some 156), .load1 (.t 155), (some (152, false)), []⟩,
      ⟨(some 157), .bin .add (.t 154) (.t 156), (some (152, false)), []⟩,
      ⟨(some 158), .faddr 0 (.t 8), (some (152, false)), []⟩,
      ⟨(some 159), .load1 (.t 158), (some (152, false)), []⟩,
      ⟨(some 160), .bin .add (.t 157) (.t 159), (some (152, false)), []⟩,
      ⟨(some 161), .faddr 1 (.t 8), (some (152, false)), []⟩,
      ⟨(some 162), .load1 (.t 161), (some (152, false)), []⟩,
      ⟨(some 163), .bin .add (.t 160) (.t 162), (some (152, false)), []⟩,
      ⟨(some 164), .faddr 0 (.t 4), (some (152, false)), []⟩,
      ⟨(some 165), .load1 (.t 164), (some (152, false)), []⟩,
      ⟨(some 166), .faddr 1 (.t 4), (some (152, false)), []⟩,
      ⟨(some 167), .load1 (.t 166), (some (152, false)), []⟩,
      ⟨(some 168), .bin .add (.t 165) (.t 167), (some (152, false)), []⟩,
      ⟨(some 169), .mov (.t 11), (some (152, false)), []⟩,
      ⟨(some 170), .bin .add (.t 168) (.t 169), (some (152, false)), []⟩,
      ⟨(some 171), .bin .neq (.t 163) (.t 170), (some (152, false)), []⟩,
      ⟨(some 172), .pick (.t 152) (.c (.bool true)) (.t 171), none, []⟩])
  (.cond (.t 172) (.seq (.reg [⟨(some 6), .mov (.c (.bool false)), none, []⟩])
    (.ret)) .skip))
  (.seq (.reg [⟨(some 173), .mov (.t 2), none, []⟩,
      ⟨(some 174), .len (.t 173), none, []⟩,
      ⟨(some 175), .bin .quo (.t 174) (.c (.int .i64 2)), none, []⟩,
      ⟨(some 17), .mov (.t 175), none, []⟩])
  (.seq (.dreg [⟨(some 177), .loadn 3 (.t 3), none, []⟩,
      ⟨(some 178), .call (.c (.fn 31 [] [])) [.t 177], none, [0]⟩,
      ⟨(some 179), .loadn 2 (.t 4), none, []⟩,
      ⟨(some 180), .mov (.t 2), none, []⟩,
      ⟨(some 181), .mov (.t 17), none, []⟩,
      ⟨(some 182), .slice 3 (.t 180) none (some (.t 181)), none, [4, 3]⟩,
      ⟨(some 183), .call (.c (.fn 42 [] [])) [.t 182], none, [0, 3, 4, 1, 5]⟩,
      ⟨(some 184), .call (.c (.fn 41 [] [])) [.t 178, .t 179, .t 183], none, [5, 4, 3, 0, 6, 2, 1]⟩,
      ⟨(some 176), .mov (.t 184), none, [1, 2, 6, 0, 3, 4, 5, 7]⟩,
      ⟨(some 185), .extract (.t 176) 0, none, [7, 5, 4, 3, 0, 6, 2, 1, 8]⟩,
      ⟨(some 186), .extract (.t 176) 1, none, [7, 5, 4, 3, 0, 6, 2, 1, 8]⟩,
      ⟨(some 187), .extract (.t 176) 2, none, [7, 5, 4, 3, 0, 6, 2, 1, 8]⟩,
      ⟨(some 19), .new 60 [.int .i64 0, .int .i64 0], none, []⟩,
      ⟨(some 18), .mov (.t 185), none, [12, 8, 6, 5, 4, 3, 2, 1, 0, 7, 9]⟩,
      ⟨none, .store 2 (.t 19) (.t 186), none, [9, 8, 7, 6, 5, 4, 3, 2, 1, 0, 13, 10, 12]⟩,
      ⟨(some 20), .mov (.t 187), none, [13, 12, 10, 9, 8, 7, 6, 5, 4, 3, 2, 1, 0, 14, 11]⟩])
  (.seq (.reg [⟨(some 188), .loadn 2 (.t 4), none, []⟩,
      ⟨(some 21), .new 55 [.int .i64 0, .int .i64 0], none, []⟩,
      ⟨none, .store 2 (.t 21) (.t 188), none, []⟩])
  (.seq (.seq (.reg [⟨(some 189), .mov (.t 17), none, []⟩,
      ⟨(some 190), .bin .gtr (.t 189) (.c (.int .i64 0)), none, []⟩])
  (.cond (.t 190) (.reg [⟨(some 191), .mov (.t 7), none, []⟩,
        ⟨(some 192), .mov (.t 17), none, []⟩,
        ⟨(some 193), .bin .sub (.t 192) (.c (.int .i64 1)), none, []⟩,
        ⟨(some 194), .iaddr 2 (.t 191) (.t 193), none, []⟩,
        ⟨(some 195), .loadn 2 (.t 194), none, []⟩,
        ⟨none, .store 2 (.t 21) (.t 195), none, []⟩]) .skip))
  (.seq (.dreg [⟨(some 197), .loadn 3 (.t 3), none, []⟩,
      ⟨(some 198), .call (.c (.fn 31 [] [])) [.t 197], none, [0]⟩,
      ⟨(some 199), .loadn 2 (.t 21), none, []⟩,
      ⟨(some 200), .mov (.t 2), none, []⟩,
      ⟨(some 201), .mov (.t 17), none, []⟩,
      ⟨(some 202), .slice 3 (.t 200) (some (.t 201)) none, none, [4, 3]⟩,
      ⟨(some 203), .call (.c (.fn 42 [] [])) [.t 202], none, [0, 3, 4, 1, 5]⟩,
      ⟨(some 204), .call (.c (.fn 41 [] [])) [.t 198, .t 199, .t 203], none, [5, 4, 3, 0, 6, 2, 1]⟩,
      ⟨(some 196), .mov (.t 204), none, [1, 2, 6, 0, 3, 4, 5, 7]⟩,
      ⟨(some 205), .extract (.t 196) 0, none, [7, 5, 4, 3, 0, 6, 2, 1, 8]⟩,
      ⟨(some 206), .extract (.t 196) 1, none, [7, 5, 4, 3, 0, 6, 2, 1, 8]⟩,
      ⟨(some 207), .extract (.t 196) 2, none, [7, 5, 4, 3, 0, 6, 2, 1, 8]⟩,
      ⟨(some 23), .new 60 [.int .i64 0, .int .i64 0], none, []⟩,
      ⟨(some 22), .mov (.t 205), none, [12, 8, 6, 5, 4, 3, 2, 1, 0, 7, 9]⟩,
      ⟨none, .store 2 (.t 23) (.t 206), none, [9, 8, 7, 6, 5, 4, 3, 2, 1, 0, 13, 10, 12]⟩,
      ⟨(some 24), .mov (.t 207), none, [13, 12, 10, 9, 8, 7, 6, 5, 4, 3, 2, 1, 0, 14, 11]⟩])
  (.seq (.reg [⟨(some 208), .mov (.t 20), none, []⟩,
      ⟨(some 209), .bin .eql (.t 208) (.c (.int .i64 0)), none, []⟩,
      ⟨(some 210), .mov (.t 209), none, []⟩,
      ⟨(some 211), .mov (.t 24), (some (210, true)), []⟩,
      ⟨(some 212), .bin .eql (.t 211) (.c (.int .i64 0)), (some (210, true)), []⟩,
      ⟨(some 213), .pick (.t 210) (.t 212) (.c (.bool false)), none, []⟩,
      ⟨(some 214), .mov (.t 213), none, []⟩,
      ⟨(some 215), .mov (.t 18), (some (214, true)), []⟩,
      ⟨(some 216), .mov (.t 7), (some (214, true)), []⟩,
      ⟨(some 217), .mov (.t 17), (some (214, true)), []⟩,
      ⟨(some 218), .slice 2 (.t 216) none (some (.t 217)), (some (214, true)), []⟩,
      ⟨(some 219), .call (.c (.fn 44 [] [])) [.t 215, .t 218], (some (214, true)), []⟩,
      ⟨(some 220), .pick (.t 214) (.t 219) (.c (.bool false)), none, []⟩,
      ⟨(some 221), .mov (.t 220), none, []⟩,
      ⟨(some 222), .mov (.t 22), (some (221, true)), []⟩,
      ⟨(some 223), .mov (.t 7), (some (221, true)), []⟩,
      ⟨(some 224), .mov (.t 17), (some (221, true)), []⟩,
      ⟨(some 225), .slice 2 (.t 223) (some (.t 224)) none, (some (221, true)), []⟩,
      ⟨(some 226), .call (.c (.fn 44 [] [])) [.t 222, .t 225], (some (221, true)), []⟩,
      ⟨(some 227), .pick (.t 221) (.t 226) (.c (.bool false)), none, []⟩,
      ⟨(some 228), .mov (.t 227), none, []⟩,
      ⟨(some 229), .faddr 0 (.t 19), (some (228, true)), []⟩,
      ⟨(some 230), .load1 (.t 229), (some (228, true)), []⟩,
      ⟨(some 231), .faddr 0 (.t 8), (some (228, true)), []⟩,
      ⟨(some 232), .load1 (.t 231), (some (228, true)), []⟩,
      ⟨(some 233), .call (.c (.fn 25 [] [])) [.t 230, .c (.int .i64 0), .t 232], (some (228, true)), []⟩,
      ⟨(some 234), .pick (.t 228) (.t 233) (.c (.bool false)), none, []⟩,
      ⟨(some 235), .mov (.t 234), none, []⟩,
      ⟨(some 236), .faddr 1 (.t 19), (some (235, true)), []⟩,
      ⟨(some 237), .load1 (.t 236), (some (235, true)), []⟩,
      ⟨(some 238), .faddr 1 (.t 8), (some (235, true)), []⟩,
      ⟨(some 239), .load1 (.t 238), (some (235, true)), []⟩,
      ⟨(some 240), .call (.c (.fn 25 [] [])) [.t 237, .c (.int .i64 0), .t 239], (some (235, true)), []⟩,
      ⟨(some 241), .pick (.t 235) (.t 240) (.c (.bool false)), none, []⟩,
      ⟨(some 242), .mov (.t 241), none, []⟩,
      ⟨(some 243), .loadn 2 (.t 8), (some (242, true)), []⟩,
      ⟨(some 244), .faddr 0 (.t 19), (some (242, true)), []⟩,
      ⟨(some 245), .load1 (.t 244), (some (242, true)), []⟩,
      ⟨(some 246), .faddr 0 (.t 23), (some (242, true)), []⟩,
      ⟨(some 247), .load1 (.t 246), (some (242, true)), []⟩,
      ⟨(some 248), .bin .add (.t 245) (.t 247), (some (242, true)), []⟩,
      ⟨(some 249), .faddr 1 (.t 19), (some (242, true)), []⟩,
      ⟨(some 250), .load1 (.t 249), (some (242, true)), []⟩,
      ⟨(some 251), .faddr 1 (.t 23), (some (242, true)), []⟩,
      ⟨(some 252), .load1 (.t 251), (some (242, true)), []⟩,
      ⟨(some 253), .bin .add (.t 250) (.t 252), (some (242, true)), []⟩,
      ⟨(some 254), .build [.int .i64 0, .int .i64 0] [(0, 1, .t 248), (1, 1, .t 253)], (some (242, true)), []⟩,
      ⟨(some 255), .eqA false (.s [(0, 1, false, .c 0), (1, 1, false, .c 0)]) (.t 243) (.t 254), (some (242, true)), []⟩,
      ⟨(some 256), .pick (.t 242) (.t 255) (.c (.bool false)), none, []⟩,
      ⟨(some 6), .mov (.t 256), none, []⟩])
  (.ret)))))))))))))))), 257, [.t 6]⟩
structure LawDCode (X : FuncId → Option XFunc) : Prop where
  run : RunCode X
  h6 : X 6 = some xf6
end Go.Proofs.Ytbpflcilndinfaa.Eng
