/-
  CODE of Pair.
-/
import Derived.Test.YtbpflcilndinfaaEngY
import Derived.Test.YtbpflcilndinfaaCode1
namespace Go.Proofs.Ytbpflcilndinfaa.Eng
set_option linter.unusedSimpArgs false
set_option linter.unusedVariables false
def xf89 : XFunc := ⟨.seq (.reg [⟨(some 1), .box 53 (.t 0), none, []⟩,
      ⟨(some 2), .new 147 [.nils, .nils, .int .i64 0], none, []⟩,
      ⟨(some 3), .mov (.c (.int .i64 0)), none, []⟩])
  (.seq (.reg [⟨(some 7), .faddr 0 (.t 1), none, []⟩,
      ⟨(some 8), .loadn 1 (.t 7), none, []⟩,
      ⟨(some 9), .faddr 1 (.t 1), none, []⟩,
      ⟨(some 10), .loadn 1 (.t 9), none, []⟩,
      ⟨(some 11), .build [.nils, .nils] [(0, 1, .t 8), (1, 1, .t 10)], none, []⟩,
      ⟨(some 4), .new 201 [.nils, .nils], none, []⟩,
      ⟨none, .store 2 (.t 4) (.t 11), none, []⟩])
  (.seq (.reg [⟨(some 12), .faddr 2 (.t 1), none, []⟩,
      ⟨(some 13), .load1 (.t 12), none, []⟩,
      ⟨(some 14), .build [.nils, .nils, .int .i64 0] [(2, 1, .t 13)], none, []⟩,
      ⟨(some 5), .new 147 [.nils, .nils, .int .i64 0], none, []⟩,
      ⟨none, .store 3 (.t 5) (.t 14), none, []⟩])
  (.seq (.dreg [⟨(some 15), .fn false 127 [] [.t 4, .t 5], none, []⟩,
      ⟨(some 16), .call (.c (.fn 93 [] [])) [.c (.int .i64 2), .t 15], none, [0]⟩,
      ⟨(some 17), .faddr 2 (.t 1), none, []⟩,
      ⟨(some 18), .load1 (.t 17), none, [2]⟩,
      ⟨(some 19), .call (.c (.fn 96 [] [])) [.t 18, .c (.int .i64 0), .c (.int .i64 1000)], none, [0, 2, 1, 3]⟩,
      ⟨(some 20), .un .not (.t 19), none, [3, 1, 2, 0, 4]⟩,
      ⟨(some 21), .call (.c (.fn 59 [] [])) [.t 20, .c (.int .i64 2)], none, [0, 2, 1, 3, 4, 5]⟩,
      ⟨(some 22), .buildSlice 117 1 2 false [.nilfn, .nilfn] [(0, 1, .t 16), (1, 1, .t 21)], none, [5, 4, 3, 2, 0, 6, 1]⟩,
      ⟨(some 23), .call (.c (.fn 58 [] [])) [.t 22], none, [1, 0, 2, 3, 4, 5, 6, 7]⟩,
      ⟨(some 6), .mov (.t 23), none, [7, 6, 5, 4, 3, 2, 1, 0, 8]⟩])
  (.seq (.reg [⟨(some 24), .loadn 3 (.t 5), none, []⟩,
      ⟨(some 25), .mov (.t 6), none, []⟩,
      ⟨none, .store 3 (.t 2) (.t 24), none, []⟩,
      ⟨(some 3), .mov (.t 25), none, []⟩])
  (.ret))))), 26, [.cn 2 3, .t 3]⟩
def xf127 : XFunc := ⟨.seq (.reg [⟨(some 4), .mov (.c (.int .i64 0)), none, []⟩])
  (.seq (.reg [⟨(some 8), .mov (.t 0), none, []⟩,
      ⟨(some 9), .iaddrA 1 2 (.t 1) (.t 8), none, []⟩,
      ⟨(some 10), .loadn 1 (.t 9), none, []⟩,
      ⟨(some 11), .call (.c (.fn 63 [] [])) [.t 10], none, []⟩,
      ⟨(some 7), .mov (.t 11), none, []⟩,
      ⟨(some 12), .extract (.t 7) 0, none, []⟩,
      ⟨(some 13), .extract (.t 7) 1, none, []⟩,
      ⟨(some 5), .new 123 [.nils], none, []⟩,
      ⟨none, .store 1 (.t 5) (.t 12), none, []⟩,
      ⟨(some 6), .mov (.t 13), none, []⟩])
  (.seq (.reg [⟨(some 14), .mov (.t 0), none, []⟩,
      ⟨(some 15), .loadn 1 (.t 5), none, []⟩,
      ⟨(some 16), .faddr 0 (.t 2), none, []⟩,
      ⟨(some 17), .iaddrA 1 2 (.t 16) (.t 14), none, []⟩,
      ⟨none, .store 1 (.t 17) (.t 15), none, []⟩])
  (.seq (.reg [⟨(some 18), .mov (.t 6), none, []⟩,
      ⟨(some 4), .mov (.t 18), none, []⟩])
  (.ret)))), 19, [.t 4]⟩
def xf83 : XFunc := ⟨.seq (.reg [⟨(some 2), .box 53 (.t 0), none, []⟩,
      ⟨(some 3), .box 55 (.t 1), none, []⟩,
      ⟨(some 4), .new 151 [.nils, .nils, .int .i64 0, .int .i64 0, .int .i64 0], none, []⟩,
      ⟨(some 5), .mov (.c (.int .i64 0)), none, []⟩])
  (.seq (.reg [⟨(some 10), .loadn 3 (.t 2), none, []⟩,
      ⟨(some 11), .call (.c (.fn 89 [] [])) [.t 10], none, []⟩,
      ⟨(some 9), .mov (.t 11), none, []⟩,
      ⟨(some 12), .extract (.t 9) 0, none, []⟩,
      ⟨(some 13), .extract (.t 9) 1, none, []⟩,
      ⟨(some 6), .new 147 [.nils, .nils, .int .i64 0], none, []⟩,
      ⟨none, .store 3 (.t 6) (.t 12), none, []⟩,
      ⟨(some 7), .mov (.t 13), none, []⟩])
  (.seq (.seq (.reg [⟨(some 14), .mov (.t 7), none, []⟩,
      ⟨(some 15), .bin .neq (.t 14) (.c (.int .i64 0)), none, []⟩])
  (.cond (.t 15) (.seq (.reg [⟨(some 16), .build [.nils, .nils, .int .i64 0, .int .i64 0, .int .i64 0] [], none, []⟩,
        ⟨(some 17), .mov (.t 7), none, []⟩,
        ⟨none, .store 5 (.t 4) (.t 16), none, []⟩,
        ⟨(some 5), .mov (.t 17), none, []⟩])
    (.ret)) .skip))
  (.seq (.reg [⟨(some 18), .faddr 0 (.t 3), none, []⟩,
      ⟨(some 19), .load1 (.t 18), none, []⟩,
      ⟨(some 20), .faddr 1 (.t 3), none, []⟩,
      ⟨(some 21), .load1 (.t 20), none, []⟩,
      ⟨(some 22), .build [.int .i64 0, .int .i64 0] [(0, 1, .t 19), (1, 1, .t 21)], none, []⟩,
      ⟨(some 8), .new 149 [.int .i64 0, .int .i64 0], none, []⟩,
      ⟨none, .store 2 (.t 8) (.t 22), none, []⟩])
  (.seq (.reg [⟨(some 24), .fn true 125 [] [.t 6, .t 8], none, []⟩,
      ⟨(some 25), .call (.c (.fn 60 [] [])) [.c (.int .i64 2), .t 24], none, []⟩,
      ⟨(some 23), .mov (.t 25), none, []⟩,
      ⟨(some 26), .extract (.t 23) 0, none, []⟩,
      ⟨(some 27), .extract (.t 23) 1, none, []⟩,
      ⟨(some 7), .mov (.t 27), none, []⟩])
  (.seq (.reg [⟨(some 28), .loadn 3 (.t 6), none, []⟩,
      ⟨(some 29), .loadn 2 (.t 8), none, []⟩,
      ⟨(some 30), .build [.nils, .nils, .int .i64 0, .int .i64 0, .int .i64 0] [(0, 3, .t 28), (3, 2, .t 29)], none, []⟩,
      ⟨(some 31), .mov (.t 7), none, []⟩,
      ⟨none, .store 5 (.t 4) (.t 30), none, []⟩,
      ⟨(some 5), .mov (.t 31), none, []⟩])
  (.ret)))))), 32, [.cn 4 5, .t 5]⟩
def xf125 : XFunc := ⟨.seq (.reg [⟨(some 4), .mov (.c (.int .i64 0)), none, []⟩])
  (.seq (.seq (.dreg [⟨(some 5), .mov (.t 0), none, []⟩,
      ⟨(some 6), .faddr 0 (.t 1), none, []⟩,
      ⟨(some 7), .iaddrA 1 2 (.t 6) (.t 5), none, [0, 1]⟩,
      ⟨(some 8), .loadn 1 (.t 7), none, [1, 0, 2]⟩,
      ⟨(some 9), .mov (.t 0), none, []⟩,
      ⟨(some 10), .iaddrA 1 2 (.t 2) (.t 9), none, [4]⟩,
      ⟨(some 11), .load1 (.t 10), none, [4, 5]⟩,
      ⟨(some 12), .call (.c (.fn 112 [] [])) [.t 8, .t 11], none, [5, 4, 2, 0, 1, 6, 3]⟩,
      ⟨(some 13), .un .not (.t 12), none, [3, 6, 1, 0, 2, 4, 5, 7]⟩])
  (.cond (.t 13) (.seq (.reg [⟨(some 4), .mov (.c (.int .i64 2)), none, []⟩])
    (.ret)) .skip))
  (.seq (.reg [⟨(some 4), .mov (.c (.int .i64 0)), none, []⟩])
  (.ret))), 14, [.t 4]⟩
def xf34 : XFunc := ⟨.seq (.reg [⟨(some 1), .box 53 (.t 0), none, []⟩,
      ⟨(some 2), .mov (.c (.int .i64 0)), none, []⟩])
  (.seq (.reg [⟨(some 6), .loadn 3 (.t 1), none, []⟩,
      ⟨(some 7), .call (.c (.fn 89 [] [])) [.t 6], none, []⟩,
      ⟨(some 5), .mov (.t 7), none, []⟩,
      ⟨(some 8), .extract (.t 5) 0, none, []⟩,
      ⟨(some 9), .extract (.t 5) 1, none, []⟩,
      ⟨(some 3), .new 147 [.nils, .nils, .int .i64 0], none, []⟩,
      ⟨none, .store 3 (.t 3) (.t 8), none, []⟩,
      ⟨(some 4), .mov (.t 9), none, []⟩])
  (.seq (.reg [⟨(some 10), .mov (.t 4), none, []⟩,
      ⟨(some 2), .mov (.t 10), none, []⟩])
  (.ret))), 11, [.t 2]⟩
def xf36 : XFunc := ⟨.seq (.reg [⟨(some 2), .box 53 (.t 0), none, []⟩,
      ⟨(some 3), .box 55 (.t 1), none, []⟩,
      ⟨(some 4), .mov (.c (.int .i64 0)), none, []⟩])
  (.seq (.reg [⟨(some 8), .loadn 3 (.t 2), none, []⟩,
      ⟨(some 9), .loadn 2 (.t 3), none, []⟩,
      ⟨(some 10), .call (.c (.fn 83 [] [])) [.t 8, .t 9], none, []⟩,
      ⟨(some 7), .mov (.t 10), none, []⟩,
      ⟨(some 11), .extract (.t 7) 0, none, []⟩,
      ⟨(some 12), .extract (.t 7) 1, none, []⟩,
      ⟨(some 5), .new 151 [.nils, .nils, .int .i64 0, .int .i64 0, .int .i64 0], none, []⟩,
      ⟨none, .store 5 (.t 5) (.t 11), none, []⟩,
      ⟨(some 6), .mov (.t 12), none, []⟩])
  (.seq (.reg [⟨(some 13), .mov (.t 6), none, []⟩,
      ⟨(some 4), .mov (.t 13), none, []⟩])
  (.ret))), 14, [.t 4]⟩
def xf29 : XFunc := ⟨.seq (.reg [⟨(some 1), .box 53 (.t 0), none, []⟩,
      ⟨(some 2), .mov (.c (.bool false)), none, []⟩])
  (.seq (.reg [⟨(some 3), .faddr 0 (.t 1), none, []⟩,
      ⟨(some 4), .loadn 1 (.t 3), none, []⟩,
      ⟨(some 5), .call (.c (.fn 12 [] [])) [.t 4], none, []⟩,
      ⟨(some 6), .mov (.t 5), none, []⟩,
      ⟨(some 7), .faddr 1 (.t 1), (some (6, true)), []⟩,
      ⟨(some 8), .loadn 1 (.t 7), (some (6, true)), []⟩,
      ⟨(some 9), .call (.c (.fn 12 [] [])) [.t 8], (some (6, true)), []⟩,
      ⟨(some 10), .pick (.t 6) (.t 9) (.c (.bool false)), none, []⟩,
      ⟨(some 2), .mov (.t 10), none, []⟩])
  (.ret)), 11, [.t 2]⟩
def xf31 : XFunc := ⟨.seq (.reg [⟨(some 1), .box 53 (.t 0), none, []⟩,
      ⟨(some 2), .new 53 [.nils, .nils, .int .i64 0], none, []⟩])
  (.seq (.dreg [⟨(some 3), .faddr 0 (.t 1), none, []⟩,
      ⟨(some 4), .loadn 1 (.t 3), none, [0]⟩,
      ⟨(some 5), .call (.c (.fn 14 [] [])) [.t 4], none, [0, 1]⟩,
      ⟨(some 6), .faddr 1 (.t 1), none, []⟩,
      ⟨(some 7), .loadn 1 (.t 6), none, [3]⟩,
      ⟨(some 8), .call (.c (.fn 14 [] [])) [.t 7], none, [1, 0, 3, 2, 4]⟩,
      ⟨(some 9), .faddr 2 (.t 1), none, []⟩,
      ⟨(some 10), .load1 (.t 9), none, [6]⟩,
      ⟨(some 11), .build [.nils, .nils, .int .i64 0] [(0, 1, .t 5), (1, 1, .t 8), (2, 1, .t 10)], none, [6, 4, 3, 1, 0, 7, 5, 2]⟩,
      ⟨none, .store 3 (.t 2) (.t 11), none, [7, 6, 4, 3, 2, 1, 0, 5, 8]⟩])
  (.ret)), 12, [.cn 2 3]⟩
def xf32l0 : XCode := .seq (.reg [⟨(some 27), .bin .lss (.t 26) (.c (.int .i64 2)), none, []⟩])
  (.seq (.cond (.t 27) .skip (.exit 0))
  (.seq (.block 1 (.seq (.reg [⟨(some 28), .mov (.t 26), none, []⟩,
        ⟨(some 29), .index 1 2 true (.t 25) (.t 26), none, []⟩,
        ⟨(some 10), .new 123 [.nils], none, []⟩,
        ⟨(some 9), .mov (.t 28), none, []⟩,
        ⟨none, .store 1 (.t 10) (.t 29), none, []⟩])
    (.seq (.reg [⟨(some 30), .mov (.t 9), none, []⟩,
        ⟨(some 31), .bin .sub (.c (.int .i64 1)) (.t 30), none, []⟩,
        ⟨(some 11), .mov (.t 31), none, []⟩])
    (.seq (.dreg [⟨(some 32), .mov (.t 11), none, []⟩,
        ⟨(some 33), .faddr 0 (.t 6), none, []⟩,
        ⟨(some 34), .faddr 0 (.t 33), none, [1]⟩,
        ⟨(some 35), .iaddrA 1 2 (.t 34) (.t 32), none, [1, 0, 2]⟩,
        ⟨(some 36), .loadn 1 (.t 35), none, [2, 0, 1, 3]⟩,
        ⟨(some 37), .call (.c (.fn 87 [] [])) [.t 36], none, [3, 1, 0, 2, 4]⟩,
        ⟨(some 38), .field 1 1 false (.t 37), none, [4, 2, 0, 1, 3, 5]⟩,
        ⟨(some 39), .mov (.t 11), none, []⟩,
        ⟨(some 40), .faddr 3 (.t 6), none, []⟩,
        ⟨(some 41), .iaddrA 1 2 (.t 40) (.t 39), none, [7, 8]⟩,
        ⟨(some 42), .load1 (.t 41), none, [8, 7, 9]⟩,
        ⟨(some 43), .bin .sub (.t 38) (.t 42), none, [9, 7, 8, 5, 3, 1, 0, 2, 4, 10, 6]⟩,
        ⟨(some 12), .mov (.t 43), none, [10, 9, 8, 7, 6, 4, 3, 2, 1, 0, 5, 11]⟩])
    (.dreg [⟨(some 44), .mov (.t 9), none, []⟩,
        ⟨(some 45), .mov (.t 9), none, []⟩,
        ⟨(some 46), .faddr 3 (.t 6), none, []⟩,
        ⟨(some 47), .iaddrA 1 2 (.t 46) (.t 45), none, [1, 2]⟩,
        ⟨(some 48), .load1 (.t 47), none, [2, 1, 3]⟩,
        ⟨(some 49), .loadn 1 (.t 10), none, []⟩,
        ⟨(some 50), .call (.c (.fn 88 [] [])) [.t 49], none, [5]⟩,
        ⟨(some 51), .field 1 1 false (.t 50), none, [5, 6]⟩,
        ⟨(some 52), .bin .sub (.t 48) (.t 51), none, [6, 5, 3, 1, 2, 7, 4]⟩,
        ⟨(some 53), .mov (.t 12), none, []⟩,
        ⟨(some 54), .ext false (.t 52) [.t 53], none, [4, 7, 2, 1, 3, 5, 6, 9, 8]⟩,
        ⟨(some 55), .iaddrA 1 2 (.t 8) (.t 44), none, [10, 9, 8, 7, 6, 5, 4, 3, 2, 1, 0]⟩,
        ⟨none, .store 1 (.t 55) (.t 54), none, [9, 8, 7, 5, 4, 3, 2, 1, 0, 6, 10, 11]⟩])))))
  (.reg [⟨(some 56), .bin .add (.t 26) (.c (.int .i64 1)), none, []⟩,
      ⟨(some 26), .mov (.t 56), none, []⟩])))
def xf32 : XFunc := ⟨.seq (.reg [⟨(some 2), .box 53 (.t 0), none, []⟩,
      ⟨(some 3), .box 55 (.t 1), none, []⟩,
      ⟨(some 4), .new 55 [.int .i64 0, .int .i64 0], none, []⟩,
      ⟨(some 5), .mov (.c (.int .i64 0)), none, []⟩])
  (.seq (.reg [⟨(some 14), .loadn 3 (.t 2), none, []⟩,
      ⟨(some 15), .loadn 2 (.t 3), none, []⟩,
      ⟨(some 16), .call (.c (.fn 83 [] [])) [.t 14, .t 15], none, []⟩,
      ⟨(some 13), .mov (.t 16), none, []⟩,
      ⟨(some 17), .extract (.t 13) 0, none, []⟩,
      ⟨(some 18), .extract (.t 13) 1, none, []⟩,
      ⟨(some 6), .new 151 [.nils, .nils, .int .i64 0, .int .i64 0, .int .i64 0], none, []⟩,
      ⟨none, .store 5 (.t 6) (.t 17), none, []⟩,
      ⟨(some 7), .mov (.t 18), none, []⟩])
  (.seq (.seq (.reg [⟨(some 19), .mov (.t 7), none, []⟩,
      ⟨(some 20), .bin .neq (.t 19) (.c (.int .i64 0)), none, []⟩])
  (.cond (.t 20) (.seq (.reg [⟨(some 21), .build [.int .i64 0, .int .i64 0] [], none, []⟩,
        ⟨(some 22), .mov (.t 7), none, []⟩,
        ⟨none, .store 2 (.t 4) (.t 21), none, []⟩,
        ⟨(some 5), .mov (.t 22), none, []⟩])
    (.ret)) .skip))
  (.seq (.reg [⟨(some 8), .new 149 [.int .i64 0, .int .i64 0], none, []⟩])
  (.seq (.seq (.reg [⟨(some 23), .faddr 0 (.t 6), none, []⟩,
      ⟨(some 24), .faddr 0 (.t 23), none, []⟩,
      ⟨(some 25), .loadn 2 (.t 24), none, []⟩,
      ⟨(some 26), .mov (.c (.int .i64 0)), none, []⟩])
  (.block 0 (.loop xf32l0)))
  (.seq (.reg [⟨(some 57), .loadn 2 (.t 8), none, []⟩,
      ⟨(some 58), .call (.c (.fn 86 [] [])) [.t 57], none, []⟩,
      ⟨none, .store 2 (.t 4) (.t 58), none, []⟩,
      ⟨(some 5), .mov (.c (.int .i64 0)), none, []⟩])
  (.ret)))))), 59, [.cn 4 2, .t 5]⟩
def xf30 : XFunc := ⟨.seq (.reg [⟨(some 3), .box 53 (.t 0), none, []⟩,
      ⟨(some 4), .box 55 (.t 1), none, []⟩,
      ⟨(some 5), .box 57 (.t 2), none, []⟩,
      ⟨(some 6), .new 55 [.int .i64 0, .int .i64 0], none, []⟩,
      ⟨(some 7), .new 60 [.int .i64 0, .int .i64 0], none, []⟩,
      ⟨(some 8), .mov (.c (.int .i64 0)), none, []⟩])
  (.seq (.reg [⟨(some 14), .loadn 3 (.t 3), none, []⟩,
      ⟨(some 15), .loadn 2 (.t 4), none, []⟩,
      ⟨(some 16), .call (.c (.fn 83 [] [])) [.t 14, .t 15], none, []⟩,
      ⟨(some 13), .mov (.t 16), none, []⟩,
      ⟨(some 17), .extract (.t 13) 0, none, []⟩,
      ⟨(some 18), .extract (.t 13) 1, none, []⟩,
      ⟨(some 9), .new 151 [.nils, .nils, .int .i64 0, .int .i64 0, .int .i64 0], none, []⟩,
      ⟨none, .store 5 (.t 9) (.t 17), none, []⟩,
      ⟨(some 10), .mov (.t 18), none, []⟩])
  (.seq (.seq (.reg [⟨(some 19), .mov (.t 10), none, []⟩,
      ⟨(some 20), .bin .neq (.t 19) (.c (.int .i64 0)), none, []⟩])
  (.cond (.t 20) (.seq (.reg [⟨(some 21), .build [.int .i64 0, .int .i64 0] [], none, []⟩,
        ⟨(some 22), .build [.int .i64 0, .int .i64 0] [], none, []⟩,
        ⟨(some 23), .mov (.t 10), none, []⟩,
        ⟨none, .store 2 (.t 6) (.t 21), none, []⟩,
        ⟨none, .store 2 (.t 7) (.t 22), none, []⟩,
        ⟨(some 8), .mov (.t 23), none, []⟩])
    (.ret)) .skip))
  (.seq (.seq (.reg [⟨(some 24), .loadn 3 (.t 5), none, []⟩,
      ⟨(some 25), .call (.c (.fn 84 [] [])) [.t 24], none, []⟩,
      ⟨(some 11), .mov (.t 25), none, []⟩])
  (.seq (.reg [⟨(some 26), .mov (.t 11), none, []⟩,
      ⟨(some 27), .bin .neq (.t 26) (.c (.int .i64 0)), none, []⟩])
  (.cond (.t 27) (.seq (.reg [⟨(some 28), .build [.int .i64 0, .int .i64 0] [], none, []⟩,
        ⟨(some 29), .build [.int .i64 0, .int .i64 0] [], none, []⟩,
        ⟨(some 30), .mov (.t 11), none, []⟩,
        ⟨none, .store 2 (.t 6) (.t 28), none, []⟩,
        ⟨none, .store 2 (.t 7) (.t 29), none, []⟩,
        ⟨(some 8), .mov (.t 30), none, []⟩])
    (.ret)) .skip)))
  (.seq (.reg [⟨(some 32), .faddr 0 (.t 9), none, []⟩,
      ⟨(some 33), .loadn 3 (.t 32), none, []⟩,
      ⟨(some 34), .faddr 3 (.t 9), none, []⟩,
      ⟨(some 35), .loadn 2 (.t 34), none, []⟩,
      ⟨(some 36), .loadn 3 (.t 5), none, []⟩,
      ⟨(some 37), .call (.c (.fn 85 [] [])) [.t 33, .t 35, .t 36], none, []⟩,
      ⟨(some 31), .mov (.t 37), none, []⟩,
      ⟨(some 38), .extract (.t 31) 0, none, []⟩,
      ⟨(some 39), .extract (.t 31) 1, none, []⟩,
      ⟨(some 12), .new 156 [.int .i64 0, .int .i64 0, .int .i64 0, .int .i64 0], none, []⟩,
      ⟨none, .store 4 (.t 12) (.t 38), none, []⟩,
      ⟨(some 10), .mov (.t 39), none, []⟩])
  (.seq (.dreg [⟨(some 40), .faddr 0 (.t 12), none, []⟩,
      ⟨(some 41), .loadn 2 (.t 40), none, [0]⟩,
      ⟨(some 42), .call (.c (.fn 86 [] [])) [.t 41], none, [0, 1]⟩,
      ⟨(some 43), .faddr 2 (.t 12), none, []⟩,
      ⟨(some 44), .loadn 2 (.t 43), none, [3]⟩,
      ⟨(some 45), .mov (.t 10), none, []⟩,
      ⟨none, .store 2 (.t 6) (.t 42), none, [1, 0, 2]⟩,
      ⟨none, .store 2 (.t 7) (.t 44), none, [3, 2, 1, 0, 6, 4]⟩,
      ⟨(some 8), .mov (.t 45), none, [6, 4, 3, 2, 1, 0, 7, 5]⟩])
  (.ret)))))), 46, [.cn 6 2, .cn 7 2, .t 8]⟩
def xf85l0 : XCode := .seq (.reg [⟨(some 28), .bin .lss (.t 27) (.c (.int .i64 2)), none, []⟩])
  (.seq (.cond (.t 28) .skip (.exit 0))
  (.seq (.block 1 (.seq (.reg [⟨(some 29), .mov (.t 27), none, []⟩,
        ⟨(some 30), .index 1 2 true (.t 26) (.t 27), none, []⟩,
        ⟨(some 11), .new 123 [.nils], none, []⟩,
        ⟨(some 10), .mov (.t 29), none, []⟩,
        ⟨none, .store 1 (.t 11) (.t 30), none, []⟩])
    (.seq (.dreg [⟨(some 31), .loadn 1 (.t 11), none, []⟩,
        ⟨(some 32), .mov (.t 10), none, []⟩,
        ⟨(some 33), .iaddrA 1 2 (.t 4) (.t 32), none, [1]⟩,
        ⟨(some 34), .load1 (.t 33), none, [1, 2]⟩,
        ⟨(some 35), .faddr 2 (.t 3), none, []⟩,
        ⟨(some 36), .load1 (.t 35), none, [4]⟩,
        ⟨(some 37), .call (.c (.fn 126 [] [])) [.t 31, .t 34, .t 36], none, [4, 2, 1, 5, 3, 0]⟩,
        ⟨(some 12), .mov (.t 37), none, [5, 4, 3, 2, 1, 0, 6]⟩])
    (.seq (.dreg [⟨(some 38), .mov (.t 10), none, []⟩,
        ⟨(some 39), .iaddrA 1 2 (.t 4) (.t 38), none, [0]⟩,
        ⟨(some 40), .load1 (.t 39), none, [0, 1]⟩,
        ⟨(some 41), .mov (.t 12), none, []⟩,
        ⟨(some 42), .bin .sub (.t 40) (.t 41), none, [1, 0, 3, 2]⟩,
        ⟨(some 43), .mov (.t 10), none, []⟩,
        ⟨(some 44), .iaddrA 1 2 (.t 8) (.t 43), none, [5]⟩,
        ⟨(some 45), .load1 (.t 44), none, [5, 6]⟩,
        ⟨(some 46), .bin .add (.t 42) (.t 45), none, [6, 5, 2, 3, 0, 1, 7, 4]⟩,
        ⟨(some 13), .mov (.t 46), none, [7, 6, 5, 4, 3, 2, 1, 0, 8]⟩])
    (.seq (.seq (.reg [⟨(some 47), .mov (.t 13), none, []⟩,
        ⟨(some 48), .loadn 1 (.t 11), none, []⟩,
        ⟨(some 49), .call (.c (.fn 88 [] [])) [.t 48], none, []⟩,
        ⟨(some 50), .field 1 1 false (.t 49), none, []⟩,
        ⟨(some 51), .bin .lss (.t 47) (.t 50), none, []⟩])
    (.cond (.t 51) (.seq (.reg [⟨(some 52), .build [.int .i64 0, .int .i64 0, .int .i64 0, .int .i64 0] [], none, []⟩,
          ⟨none, .store 4 (.t 6) (.t 52), none, []⟩,
          ⟨(some 7), .mov (.c (.int .i64 22)), none, []⟩])
      (.ret)) .skip))
    (.seq (.reg [⟨(some 53), .mov (.t 10), none, []⟩,
        ⟨(some 54), .mov (.t 13), none, []⟩,
        ⟨(some 55), .loadn 1 (.t 11), none, []⟩,
        ⟨(some 56), .call (.c (.fn 87 [] [])) [.t 55], none, []⟩,
        ⟨(some 57), .field 1 1 false (.t 56), none, []⟩,
        ⟨(some 58), .ext false (.t 54) [.t 57], none, []⟩,
        ⟨(some 59), .faddr 0 (.t 9), none, []⟩,
        ⟨(some 60), .iaddrA 1 2 (.t 59) (.t 53), none, []⟩,
        ⟨none, .store 1 (.t 60) (.t 58), none, []⟩])
    (.seq (.reg [⟨(some 61), .faddr 2 (.t 9), none, []⟩,
        ⟨(some 62), .faddr 0 (.t 61), none, []⟩,
        ⟨(some 63), .load1 (.t 62), none, []⟩,
        ⟨(some 64), .mov (.t 12), none, []⟩,
        ⟨(some 65), .bin .add (.t 63) (.t 64), none, []⟩,
        ⟨(some 66), .faddr 2 (.t 9), none, []⟩,
        ⟨(some 67), .faddr 0 (.t 66), none, []⟩,
        ⟨none, .store 1 (.t 67) (.t 65), none, []⟩])
    (.dreg [⟨(some 68), .faddr 2 (.t 9), none, []⟩,
        ⟨(some 69), .faddr 1 (.t 68), none, [0]⟩,
        ⟨(some 70), .load1 (.t 69), none, [0, 1]⟩,
        ⟨(some 71), .mov (.t 13), none, []⟩,
        ⟨(some 72), .mov (.t 10), none, []⟩,
        ⟨(some 73), .faddr 0 (.t 9), none, []⟩,
        ⟨(some 74), .iaddrA 1 2 (.t 73) (.t 72), none, [4, 5]⟩,
        ⟨(some 75), .load1 (.t 74), none, [5, 4, 6]⟩,
        ⟨(some 76), .bin .sub (.t 71) (.t 75), none, [6, 4, 5, 7, 3]⟩,
        ⟨(some 77), .bin .add (.t 70) (.t 76), none, [3, 7, 5, 4, 6, 1, 0, 8, 2]⟩,
        ⟨(some 78), .faddr 2 (.t 9), none, [9, 8, 7, 6, 5, 4, 3, 2, 1, 0]⟩,
        ⟨(some 79), .faddr 1 (.t 78), none, [9, 8, 7, 6, 5, 4, 3, 2, 1, 0, 10]⟩,
        ⟨none, .store 1 (.t 79) (.t 77), none, [10, 8, 7, 6, 5, 4, 3, 2, 1, 0, 9, 11]⟩]))))))))
  (.reg [⟨(some 80), .bin .add (.t 27) (.c (.int .i64 1)), none, []⟩,
      ⟨(some 27), .mov (.t 80), none, []⟩])))
def xf85 : XFunc := ⟨.seq (.reg [⟨(some 3), .box 147 (.t 0), none, []⟩,
      ⟨(some 4), .box 149 (.t 1), none, []⟩,
      ⟨(some 5), .box 57 (.t 2), none, []⟩,
      ⟨(some 6), .new 156 [.int .i64 0, .int .i64 0, .int .i64 0, .int .i64 0], none, []⟩,
      ⟨(some 7), .mov (.c (.int .i64 0)), none, []⟩])
  (.seq (.reg [⟨(some 14), .faddr 0 (.t 5), none, []⟩,
      ⟨(some 15), .load1 (.t 14), none, []⟩,
      ⟨(some 16), .faddr 2 (.t 5), none, []⟩,
      ⟨(some 17), .load1 (.t 16), none, []⟩,
      ⟨(some 18), .bin .add (.t 15) (.t 17), none, []⟩,
      ⟨(some 19), .faddr 1 (.t 5), none, []⟩,
      ⟨(some 20), .load1 (.t 19), none, []⟩,
      ⟨(some 21), .faddr 2 (.t 5), none, []⟩,
      ⟨(some 22), .load1 (.t 21), none, []⟩,
      ⟨(some 23), .bin .sub (.t 20) (.t 22), none, []⟩,
      ⟨(some 24), .build [.int .i64 0, .int .i64 0] [(0, 1, .t 18), (1, 1, .t 23)], none, []⟩,
      ⟨(some 8), .new 148 [.int .i64 0, .int .i64 0], none, []⟩,
      ⟨none, .store 2 (.t 8) (.t 24), none, []⟩])
  (.seq (.reg [⟨(some 9), .new 156 [.int .i64 0, .int .i64 0, .int .i64 0, .int .i64 0], none, []⟩])
  (.seq (.seq (.reg [⟨(some 25), .faddr 0 (.t 3), none, []⟩,
      ⟨(some 26), .loadn 2 (.t 25), none, []⟩,
      ⟨(some 27), .mov (.c (.int .i64 0)), none, []⟩])
  (.block 0 (.loop xf85l0)))
  (.seq (.reg [⟨(some 81), .loadn 4 (.t 9), none, []⟩,
      ⟨none, .store 4 (.t 6) (.t 81), none, []⟩,
      ⟨(some 7), .mov (.c (.int .i64 0)), none, []⟩])
  (.ret))))), 82, [.cn 6 4, .t 7]⟩
def xf84 : XFunc := ⟨.seq (.reg [⟨(some 1), .box 57 (.t 0), none, []⟩,
      ⟨(some 2), .mov (.c (.int .i64 0)), none, []⟩])
  (.seq (.seq (.reg [⟨(some 3), .faddr 0 (.t 1), none, []⟩,
      ⟨(some 4), .load1 (.t 3), none, []⟩,
      ⟨(some 5), .call (.c (.fn 96 [] [])) [.t 4, .c (.int .i64 0), .c (.int .i64 10000000)], none, []⟩,
      ⟨(some 6), .un .not (.t 5), none, []⟩,
      ⟨(some 7), .mov (.t 6), none, []⟩,
      ⟨(some 8), .faddr 1 (.t 1), (some (7, false)), []⟩,
      ⟨(some 9), .load1 (.t 8), (some (7, false)), []⟩,
      ⟨(some 10), .call (.c (.fn 96 [] [])) [.t 9, .c (.int .i64 0), .c (.int .i64 10000000)], (some (7, false)), []⟩,
      ⟨(some 11), .un .not (.t 10), (some (7, false)), []⟩,
      ⟨(some 12), .pick (.t 7) (.c (.bool true)) (.t 11), none, []⟩,
      ⟨(some 13), .mov (.t 12), none, []⟩,
      ⟨(some 14), .faddr 2 (.t 1), (some (13, false)), []⟩,
      ⟨(some 15), .load1 (.t 14), (some (13, false)), []⟩,
      ⟨(some 16), .call (.c (.fn 96 [] [])) [.t 15, .c (.int .i64 (-10000000)), .c (.int .i64 10000000)], (some (13, false)), []⟩,
      ⟨(some 17), .un .not (.t 16), (some (13, false)), []⟩,
      ⟨(some 18), .pick (.t 13) (.c (.bool true)) (.t 17), none, []⟩])
  (.cond (.t 18) (.seq (.reg [⟨(some 2), .mov (.c (.int .i64 2)), none, []⟩])
    (.ret)) .skip))
  (.seq (.reg [⟨(some 2), .mov (.c (.int .i64 0)), none, []⟩])
  (.ret))), 19, [.t 2]⟩
def xf86 : XFunc := ⟨.seq (.reg [⟨(some 1), .box 149 (.t 0), none, []⟩,
      ⟨(some 2), .new 55 [.int .i64 0, .int .i64 0], none, []⟩])
  (.seq (.reg [⟨(some 3), .iaddrA 1 2 (.t 1) (.c (.int .i64 0)), none, []⟩,
      ⟨(some 4), .load1 (.t 3), none, []⟩,
      ⟨(some 5), .iaddrA 1 2 (.t 1) (.c (.int .i64 1)), none, []⟩,
      ⟨(some 6), .load1 (.t 5), none, []⟩,
      ⟨(some 7), .build [.int .i64 0, .int .i64 0] [(0, 1, .t 4), (1, 1, .t 6)], none, []⟩,
      ⟨none, .store 2 (.t 2) (.t 7), none, []⟩])
  (.ret)), 8, [.cn 2 2]⟩
def xf126 : XFunc := ⟨.seq (.reg [⟨(some 3), .box 123 (.t 0), none, []⟩,
      ⟨(some 6), .mov (.c (.int .i64 0)), none, []⟩])
  (.seq (.reg [⟨(some 8), .loadn 1 (.t 3), none, []⟩,
      ⟨(some 9), .mov (.t 1), none, []⟩,
      ⟨(some 10), .call (.c (.fn 69 [] [])) [.t 8, .t 9], none, []⟩,
      ⟨(some 7), .new 133 [.int .i64 0, .int .i64 0, .int .i64 0, .int .i64 0], none, []⟩,
      ⟨none, .store 4 (.t 7) (.t 10), none, []⟩])
  (.seq (.dreg [⟨(some 11), .mov (.t 2), none, []⟩,
      ⟨(some 12), .loadn 4 (.t 7), none, []⟩,
      ⟨(some 13), .call (.c (.fn 71 [] [])) [.t 12], none, [1]⟩,
      ⟨(some 14), .bin .mul (.t 11) (.t 13), none, [1, 2, 0]⟩,
      ⟨(some 15), .loadn 4 (.t 7), none, []⟩,
      ⟨(some 16), .call (.c (.fn 72 [] [])) [.t 15], none, [1, 2, 4]⟩,
      ⟨(some 17), .bin .mul (.t 16) (.c (.int .i64 1000)), none, [4, 2, 1, 5]⟩,
      ⟨(some 18), .bin .quo (.t 14) (.t 17), none, [5, 4, 0, 2, 1, 6, 3]⟩,
      ⟨(some 19), .mov (.t 1), none, []⟩,
      ⟨(some 20), .loadn 1 (.t 3), none, []⟩,
      ⟨(some 21), .call (.c (.fn 88 [] [])) [.t 20], none, [4, 2, 1, 5, 9]⟩,
      ⟨(some 22), .field 1 1 false (.t 21), none, [9, 5, 1, 2, 4, 10]⟩,
      ⟨(some 23), .bin .sub (.t 19) (.t 22), none, [10, 4, 2, 1, 5, 9, 11, 8]⟩,
      ⟨(some 24), .ext false (.t 18) [.t 23], none, [8, 11, 9, 10, 3, 6, 1, 2, 0, 4, 5, 12, 7]⟩,
      ⟨(some 6), .mov (.t 24), none, [12, 11, 9, 8, 7, 6, 5, 4, 3, 2, 1, 0, 10, 13]⟩])
  (.ret))), 25, [.t 6]⟩
def xf35 : XFunc := ⟨.seq (.reg [⟨(some 1), .box 53 (.t 0), none, []⟩,
      ⟨(some 2), .mov (.c (.int .i64 0)), none, []⟩])
  (.seq (.seq (.reg [⟨(some 5), .faddr 0 (.t 1), none, []⟩,
      ⟨(some 6), .loadn 1 (.t 5), none, []⟩,
      ⟨(some 7), .call (.c (.fn 24 [] [])) [.t 6], none, []⟩,
      ⟨(some 3), .mov (.t 7), none, []⟩])
  (.seq (.reg [⟨(some 8), .mov (.t 3), none, []⟩,
      ⟨(some 9), .bin .neq (.t 8) (.c (.int .i64 0)), none, []⟩])
  (.cond (.t 9) (.seq (.reg [⟨(some 10), .mov (.t 3), none, []⟩,
        ⟨(some 2), .mov (.t 10), none, []⟩])
    (.ret)) .skip)))
  (.seq (.seq (.reg [⟨(some 11), .faddr 1 (.t 1), none, []⟩,
      ⟨(some 12), .loadn 1 (.t 11), none, []⟩,
      ⟨(some 13), .call (.c (.fn 24 [] [])) [.t 12], none, []⟩,
      ⟨(some 4), .mov (.t 13), none, []⟩])
  (.seq (.reg [⟨(some 14), .mov (.t 4), none, []⟩,
      ⟨(some 15), .bin .neq (.t 14) (.c (.int .i64 0)), none, []⟩])
  (.cond (.t 15) (.seq (.reg [⟨(some 16), .mov (.t 4), none, []⟩,
        ⟨(some 2), .mov (.t 16), none, []⟩])
    (.ret)) .skip)))
  (.seq (.seq (.reg [⟨(some 17), .faddr 2 (.t 1), none, []⟩,
      ⟨(some 18), .load1 (.t 17), none, []⟩,
      ⟨(some 19), .call (.c (.fn 25 [] [])) [.t 18, .c (.int .i64 0), .c (.int .i64 1000)], none, []⟩,
      ⟨(some 20), .un .not (.t 19), none, []⟩])
  (.cond (.t 20) (.seq (.reg [⟨(some 2), .mov (.c (.int .i64 2)), none, []⟩])
    (.ret)) .skip))
  (.seq (.reg [⟨(some 2), .mov (.c (.int .i64 0)), none, []⟩])
  (.ret))))), 21, [.t 2]⟩
def xf33 : XFunc := ⟨.seq (.reg [⟨(some 2), .box 53 (.t 0), none, []⟩,
      ⟨(some 3), .box 55 (.t 1), none, []⟩,
      ⟨(some 4), .mov (.c (.int .i64 0)), none, []⟩])
  (.seq (.seq (.reg [⟨(some 6), .loadn 3 (.t 2), none, []⟩,
      ⟨(some 7), .call (.c (.fn 35 [] [])) [.t 6], none, []⟩,
      ⟨(some 5), .mov (.t 7), none, []⟩])
  (.seq (.reg [⟨(some 8), .mov (.t 5), none, []⟩,
      ⟨(some 9), .bin .neq (.t 8) (.c (.int .i64 0)), none, []⟩])
  (.cond (.t 9) (.seq (.reg [⟨(some 10), .mov (.t 5), none, []⟩,
        ⟨(some 4), .mov (.t 10), none, []⟩])
    (.ret)) .skip)))
  (.seq (.reg [⟨(some 11), .loadn 3 (.t 2), none, []⟩,
      ⟨(some 12), .loadn 2 (.t 3), none, []⟩,
      ⟨(some 13), .call (.c (.fn 43 [] [])) [.t 11, .t 12], none, []⟩,
      ⟨(some 4), .mov (.t 13), none, []⟩])
  (.ret))), 14, [.t 4]⟩
def xf43 : XFunc := ⟨.seq (.reg [⟨(some 2), .box 53 (.t 0), none, []⟩,
      ⟨(some 3), .box 55 (.t 1), none, []⟩,
      ⟨(some 4), .mov (.c (.int .i64 0)), none, []⟩])
  (.seq (.seq (.reg [⟨(some 5), .faddr 0 (.t 2), none, []⟩,
      ⟨(some 6), .loadn 1 (.t 5), none, []⟩,
      ⟨(some 7), .faddr 0 (.t 3), none, []⟩,
      ⟨(some 8), .load1 (.t 7), none, []⟩,
      ⟨(some 9), .call (.c (.fn 21 [] [])) [.t 6, .t 8], none, []⟩,
      ⟨(some 10), .un .not (.t 9), none, []⟩,
      ⟨(some 11), .mov (.t 10), none, []⟩,
      ⟨(some 12), .faddr 1 (.t 2), (some (11, false)), []⟩,
      ⟨(some 13), .loadn 1 (.t 12), (some (11, false)), []⟩,
      ⟨(some 14), .faddr 1 (.t 3), (some (11, false)), []⟩,
      ⟨(some 15), .load1 (.t 14), (some (11, false)), []⟩,
      ⟨(some 16), .call (.c (.fn 21 [] [])) [.t 13, .t 15], (some (11, false)), []⟩,
      ⟨(some 17), .un .not (.t 16), (some (11, false)), []⟩,
      ⟨(some 18), .pick (.t 11) (.c (.bool true)) (.t 17), none, []⟩])
  (.cond (.t 18) (.seq (.reg [⟨(some 4), .mov (.c (.int .i64 2)), none, []⟩])
    (.ret)) .skip))
  (.seq (.reg [⟨(some 4), .mov (.c (.int .i64 0)), none, []⟩])
  (.ret))), 19, [.t 4]⟩
def xf37 : XFunc := ⟨.seq (.reg [⟨(some 2), .box 53 (.t 0), none, []⟩,
      ⟨(some 3), .box 55 (.t 1), none, []⟩,
      ⟨(some 4), .new 55 [.int .i64 0, .int .i64 0], none, []⟩])
  (.seq (.dreg [⟨(some 7), .faddr 0 (.t 2), none, []⟩,
      ⟨(some 8), .loadn 1 (.t 7), none, [0]⟩,
      ⟨(some 9), .call (.c (.fn 26 [] [])) [.t 8], none, [0, 1]⟩,
      ⟨(some 10), .field 1 1 false (.t 9), none, [1, 0, 2]⟩,
      ⟨(some 11), .faddr 0 (.t 3), none, []⟩,
      ⟨(some 12), .load1 (.t 11), none, [4]⟩,
      ⟨(some 13), .bin .sub (.t 10) (.t 12), none, [4, 2, 0, 1, 5, 3]⟩,
      ⟨(some 14), .faddr 1 (.t 2), none, []⟩,
      ⟨(some 15), .loadn 1 (.t 14), none, [7]⟩,
      ⟨(some 16), .call (.c (.fn 26 [] [])) [.t 15], none, [1, 0, 7, 2, 8]⟩,
      ⟨(some 17), .field 1 1 false (.t 16), none, [8, 2, 7, 0, 1, 9]⟩,
      ⟨(some 18), .faddr 1 (.t 3), none, []⟩,
      ⟨(some 19), .load1 (.t 18), none, [11]⟩,
      ⟨(some 20), .bin .sub (.t 17) (.t 19), none, [11, 9, 1, 0, 7, 2, 8, 12, 10]⟩,
      ⟨(some 5), .mov (.t 13), none, [8, 7, 5, 4, 3, 2, 1, 0, 9, 6]⟩,
      ⟨(some 6), .mov (.t 20), none, [12, 11, 10, 9, 8, 7, 6, 5, 4, 3, 2, 1, 0, 14, 13]⟩])
  (.seq (.dreg [⟨(some 21), .faddr 0 (.t 3), none, []⟩,
      ⟨(some 22), .load1 (.t 21), none, [0]⟩,
      ⟨(some 23), .faddr 0 (.t 2), none, []⟩,
      ⟨(some 24), .loadn 1 (.t 23), none, [2]⟩,
      ⟨(some 25), .call (.c (.fn 75 [] [])) [.t 24], none, [2, 3]⟩,
      ⟨(some 26), .field 1 1 false (.t 25), none, [3, 2, 4]⟩,
      ⟨(some 27), .bin .sub (.t 22) (.t 26), none, [4, 2, 3, 0, 5, 1]⟩,
      ⟨(some 28), .mov (.t 6), none, []⟩,
      ⟨(some 29), .ext false (.t 27) [.t 28], none, [1, 5, 0, 3, 2, 4, 7, 6]⟩,
      ⟨(some 30), .faddr 1 (.t 3), none, []⟩,
      ⟨(some 31), .load1 (.t 30), none, [9]⟩,
      ⟨(some 32), .faddr 1 (.t 2), none, []⟩,
      ⟨(some 33), .loadn 1 (.t 32), none, [11]⟩,
      ⟨(some 34), .call (.c (.fn 75 [] [])) [.t 33], none, [3, 2, 11, 4, 12]⟩,
      ⟨(some 35), .field 1 1 false (.t 34), none, [12, 4, 11, 2, 3, 13]⟩,
      ⟨(some 36), .bin .sub (.t 31) (.t 35), none, [13, 3, 2, 11, 4, 12, 9, 14, 10]⟩,
      ⟨(some 37), .mov (.t 5), none, []⟩,
      ⟨(some 38), .ext false (.t 36) [.t 37], none, [10, 14, 9, 12, 4, 11, 2, 3, 13, 16, 15]⟩,
      ⟨(some 39), .build [.int .i64 0, .int .i64 0] [(0, 1, .t 29), (1, 1, .t 38)], none, [15, 16, 13, 11, 12, 9, 14, 10, 6, 7, 4, 2, 3, 0, 5, 1, 17, 8]⟩,
      ⟨none, .store 2 (.t 4) (.t 39), none, [17, 16, 15, 14, 12, 11, 10, 9, 8, 7, 6, 5, 4, 3, 2, 1, 0, 13, 18]⟩])
  (.ret))), 40, [.cn 4 2]⟩
def xf38 : XFunc := ⟨.seq (.reg [⟨(some 1), .box 57 (.t 0), none, []⟩,
      ⟨(some 2), .mov (.c (.int .i64 0)), none, []⟩])
  (.seq (.seq (.reg [⟨(some 3), .faddr 0 (.t 1), none, []⟩,
      ⟨(some 4), .load1 (.t 3), none, []⟩,
      ⟨(some 5), .call (.c (.fn 25 [] [])) [.t 4, .c (.int .i64 0), .c (.int .i64 10000000)], none, []⟩,
      ⟨(some 6), .un .not (.t 5), none, []⟩,
      ⟨(some 7), .mov (.t 6), none, []⟩,
      ⟨(some 8), .faddr 1 (.t 1), (some (7, false)), []⟩,
      ⟨(some 9), .load1 (.t 8), (some (7, false)), []⟩,
      ⟨(some 10), .call (.c (.fn 25 [] [])) [.t 9, .c (.int .i64 0), .c (.int .i64 10000000)], (some (7, false)), []⟩,
      ⟨(some 11), .un .not (.t 10), (some (7, false)), []⟩,
      ⟨(some 12), .pick (.t 7) (.c (.bool true)) (.t 11), none, []⟩,
      ⟨(some 13), .mov (.t 12), none, []⟩,
      ⟨(some 14), .faddr 2 (.t 1), (some (13, false)), []⟩,
      ⟨(some 15), .load1 (.t 14), (some (13, false)), []⟩,
      ⟨(some 16), .call (.c (.fn 25 [] [])) [.t 15, .c (.int .i64 (-10000000)), .c (.int .i64 10000000)], (some (13, false)), []⟩,
      ⟨(some 17), .un .not (.t 16), (some (13, false)), []⟩,
      ⟨(some 18), .pick (.t 13) (.c (.bool true)) (.t 17), none, []⟩])
  (.cond (.t 18) (.seq (.reg [⟨(some 2), .mov (.c (.int .i64 2)), none, []⟩])
    (.ret)) .skip))
  (.seq (.reg [⟨(some 2), .mov (.c (.int .i64 0)), none, []⟩])
  (.ret))), 19, [.t 2]⟩
def xf39 : XFunc := ⟨.seq (.reg [⟨(some 3), .box 53 (.t 0), none, []⟩,
      ⟨(some 4), .box 55 (.t 1), none, []⟩,
      ⟨(some 5), .box 57 (.t 2), none, []⟩,
      ⟨(some 6), .new 55 [.int .i64 0, .int .i64 0], none, []⟩,
      ⟨(some 7), .new 60 [.int .i64 0, .int .i64 0], none, []⟩,
      ⟨(some 8), .mov (.c (.bool false)), none, []⟩])
  (.seq (.dreg [⟨(some 15), .faddr 0 (.t 3), none, []⟩,
      ⟨(some 16), .loadn 1 (.t 15), none, [0]⟩,
      ⟨(some 17), .faddr 2 (.t 3), none, []⟩,
      ⟨(some 18), .load1 (.t 17), none, [2]⟩,
      ⟨(some 19), .faddr 0 (.t 4), none, []⟩,
      ⟨(some 20), .load1 (.t 19), none, [4]⟩,
      ⟨(some 21), .call (.c (.fn 90 [] [])) [.t 16, .t 18, .t 20], none, [4, 2, 0, 5, 3, 1]⟩,
      ⟨(some 22), .faddr 1 (.t 3), none, []⟩,
      ⟨(some 23), .loadn 1 (.t 22), none, [7]⟩,
      ⟨(some 24), .faddr 2 (.t 3), none, []⟩,
      ⟨(some 25), .load1 (.t 24), none, [9]⟩,
      ⟨(some 26), .faddr 1 (.t 4), none, []⟩,
      ⟨(some 27), .load1 (.t 26), none, [11]⟩,
      ⟨(some 28), .call (.c (.fn 90 [] [])) [.t 23, .t 25, .t 27], none, [1, 3, 5, 0, 2, 4, 11, 9, 7, 6, 12, 10, 8]⟩,
      ⟨(some 9), .mov (.t 21), none, [8, 10, 12, 7, 9, 11, 5, 4, 3, 2, 1, 0, 13, 6]⟩,
      ⟨(some 10), .mov (.t 28), none, [12, 11, 10, 9, 8, 7, 6, 5, 4, 3, 2, 1, 0, 14, 13]⟩])
  (.seq (.dreg [⟨(some 29), .faddr 0 (.t 4), none, []⟩,
      ⟨(some 30), .load1 (.t 29), none, [0]⟩,
      ⟨(some 31), .mov (.t 9), none, []⟩,
      ⟨(some 32), .bin .sub (.t 30) (.t 31), none, [0, 2, 1]⟩,
      ⟨(some 33), .faddr 0 (.t 5), none, []⟩,
      ⟨(some 34), .load1 (.t 33), none, [4]⟩,
      ⟨(some 35), .bin .add (.t 32) (.t 34), none, [4, 1, 2, 0, 5, 3]⟩,
      ⟨(some 36), .faddr 2 (.t 5), none, []⟩,
      ⟨(some 37), .load1 (.t 36), none, [7]⟩,
      ⟨(some 38), .bin .add (.t 35) (.t 37), none, [7, 3, 5, 0, 2, 1, 4, 8, 6]⟩,
      ⟨(some 39), .faddr 1 (.t 4), none, []⟩,
      ⟨(some 40), .load1 (.t 39), none, [10]⟩,
      ⟨(some 41), .mov (.t 10), none, []⟩,
      ⟨(some 42), .bin .sub (.t 40) (.t 41), none, [10, 12, 11]⟩,
      ⟨(some 43), .faddr 1 (.t 5), none, []⟩,
      ⟨(some 44), .load1 (.t 43), none, [14]⟩,
      ⟨(some 45), .bin .add (.t 42) (.t 44), none, [14, 11, 12, 10, 15, 13]⟩,
      ⟨(some 46), .faddr 2 (.t 5), none, []⟩,
      ⟨(some 47), .load1 (.t 46), none, [17]⟩,
      ⟨(some 48), .bin .sub (.t 45) (.t 47), none, [17, 13, 15, 10, 12, 11, 14, 18, 16]⟩,
      ⟨(some 11), .mov (.t 38), none, [8, 7, 6, 5, 4, 3, 2, 1, 0, 9]⟩,
      ⟨(some 12), .mov (.t 48), none, [18, 17, 16, 15, 14, 13, 12, 11, 10, 9, 8, 7, 6, 5, 4, 3, 2, 1, 0, 20, 19]⟩])
  (.seq (.seq (.reg [⟨(some 49), .mov (.t 11), none, []⟩,
      ⟨(some 50), .faddr 0 (.t 3), none, []⟩,
      ⟨(some 51), .loadn 1 (.t 50), none, []⟩,
      ⟨(some 52), .call (.c (.fn 75 [] [])) [.t 51], none, []⟩,
      ⟨(some 53), .field 1 1 false (.t 52), none, []⟩,
      ⟨(some 54), .bin .lss (.t 49) (.t 53), none, []⟩,
      ⟨(some 55), .mov (.t 54), none, []⟩,
      ⟨(some 56), .mov (.t 12), (some (55, false)), []⟩,
      ⟨(some 57), .faddr 1 (.t 3), (some (55, false)), []⟩,
      ⟨(some 58), .loadn 1 (.t 57), (some (55, false)), []⟩,
      ⟨(some 59), .call (.c (.fn 75 [] [])) [.t 58], (some (55, false)), []⟩,
      ⟨(some 60), .field 1 1 false (.t 59), (some (55, false)), []⟩,
      ⟨(some 61), .bin .lss (.t 56) (.t 60), (some (55, false)), []⟩,
      ⟨(some 62), .pick (.t 55) (.c (.bool true)) (.t 61), none, []⟩])
  (.cond (.t 62) (.seq (.reg [⟨(some 63), .build [.int .i64 0, .int .i64 0] [], none, []⟩,
        ⟨(some 64), .build [.int .i64 0, .int .i64 0] [], none, []⟩,
        ⟨none, .store 2 (.t 6) (.t 63), none, []⟩,
        ⟨none, .store 2 (.t 7) (.t 64), none, []⟩,
        ⟨(some 8), .mov (.c (.bool false)), none, []⟩])
    (.ret)) .skip))
  (.seq (.dreg [⟨(some 65), .mov (.t 11), none, []⟩,
      ⟨(some 66), .faddr 0 (.t 3), none, []⟩,
      ⟨(some 67), .loadn 1 (.t 66), none, [1]⟩,
      ⟨(some 68), .call (.c (.fn 26 [] [])) [.t 67], none, [1, 2]⟩,
      ⟨(some 69), .field 1 1 false (.t 68), none, [2, 1, 3]⟩,
      ⟨(some 70), .bin .sub (.t 65) (.t 69), none, [3, 1, 2, 4, 0]⟩,
      ⟨(some 71), .ext true (.c (.int .i64 0)) [.t 70], none, [0, 4, 2, 1, 3, 5]⟩,
      ⟨(some 72), .mov (.t 12), none, []⟩,
      ⟨(some 73), .faddr 1 (.t 3), none, []⟩,
      ⟨(some 74), .loadn 1 (.t 73), none, [8]⟩,
      ⟨(some 75), .call (.c (.fn 26 [] [])) [.t 74], none, [2, 1, 8, 3, 9]⟩,
      ⟨(some 76), .field 1 1 false (.t 75), none, [9, 3, 8, 1, 2, 10]⟩,
      ⟨(some 77), .bin .sub (.t 72) (.t 76), none, [10, 2, 1, 8, 3, 9, 11, 7]⟩,
      ⟨(some 78), .ext true (.c (.int .i64 0)) [.t 77], none, [7, 11, 9, 3, 8, 1, 2, 10, 12]⟩,
      ⟨(some 13), .mov (.t 71), none, [9, 8, 5, 4, 3, 2, 1, 0, 10, 6]⟩,
      ⟨(some 14), .mov (.t 78), none, [12, 11, 10, 9, 8, 7, 6, 5, 4, 3, 2, 1, 0, 14, 13]⟩])
  (.seq (.reg [⟨(some 79), .mov (.t 11), none, []⟩,
      ⟨(some 80), .mov (.t 13), none, []⟩,
      ⟨(some 81), .bin .sub (.t 79) (.t 80), none, []⟩,
      ⟨(some 82), .mov (.t 12), none, []⟩,
      ⟨(some 83), .mov (.t 14), none, []⟩,
      ⟨(some 84), .bin .sub (.t 82) (.t 83), none, []⟩,
      ⟨(some 85), .build [.int .i64 0, .int .i64 0] [(0, 1, .t 81), (1, 1, .t 84)], none, []⟩,
      ⟨(some 86), .mov (.t 9), none, []⟩,
      ⟨(some 87), .mov (.t 10), none, []⟩,
      ⟨(some 88), .bin .add (.t 86) (.t 87), none, []⟩,
      ⟨(some 89), .mov (.t 13), none, []⟩,
      ⟨(some 90), .mov (.t 14), none, []⟩,
      ⟨(some 91), .bin .add (.t 89) (.t 90), none, []⟩,
      ⟨(some 92), .build [.int .i64 0, .int .i64 0] [(0, 1, .t 88), (1, 1, .t 91)], none, []⟩,
      ⟨none, .store 2 (.t 6) (.t 85), none, []⟩,
      ⟨none, .store 2 (.t 7) (.t 92), none, []⟩,
      ⟨(some 8), .mov (.c (.bool true)), none, []⟩])
  (.ret)))))), 93, [.cn 6 2, .cn 7 2, .t 8]⟩
def xf90 : XFunc := ⟨.seq (.reg [⟨(some 3), .box 24 (.t 0), none, []⟩,
      ⟨(some 6), .mov (.c (.int .i64 0)), none, []⟩])
  (.seq (.reg [⟨(some 9), .loadn 1 (.t 3), none, []⟩,
      ⟨(some 10), .mov (.t 2), none, []⟩,
      ⟨(some 11), .call (.c (.fn 79 [] [])) [.t 9, .t 10], none, []⟩,
      ⟨(some 7), .mov (.t 11), none, []⟩])
  (.seq (.dreg [⟨(some 12), .mov (.t 1), none, []⟩,
      ⟨(some 13), .call (.c (.fn 121 [] [])) [.t 12], none, [0]⟩,
      ⟨(some 14), .loadn 1 (.t 3), none, []⟩,
      ⟨(some 15), .mov (.t 7), none, []⟩,
      ⟨(some 16), .call (.c (.fn 74 [] [])) [.t 14, .t 15], none, [0, 1, 3, 2]⟩,
      ⟨(some 17), .call (.c (.fn 122 [] [])) [.t 13, .t 16], none, [2, 3, 0, 4, 1]⟩,
      ⟨(some 18), .call (.c (.fn 121 [] [])) [.c (.int .i64 1000)], none, [1, 4, 0, 3, 2, 5]⟩,
      ⟨(some 19), .call (.c (.fn 123 [] [])) [.t 17, .t 18], none, [1, 4, 0, 3, 2, 6, 5]⟩,
      ⟨(some 20), .call (.c (.fn 76 [] [])) [.t 19], none, [5, 6, 2, 3, 0, 4, 1, 7]⟩,
      ⟨(some 8), .new 32 [.int .i64 0, .int .i64 0], none, []⟩,
      ⟨none, .store 2 (.t 8) (.t 20), none, [7, 6, 5, 4, 3, 2, 1, 0, 8, 9]⟩])
  (.seq (.dreg [⟨(some 21), .faddr 0 (.t 8), none, []⟩,
      ⟨(some 22), .load1 (.t 21), none, [0]⟩,
      ⟨(some 23), .mov (.t 2), none, []⟩,
      ⟨(some 24), .loadn 1 (.t 3), none, []⟩,
      ⟨(some 25), .call (.c (.fn 75 [] [])) [.t 24], none, [3]⟩,
      ⟨(some 26), .field 1 1 false (.t 25), none, [3, 4]⟩,
      ⟨(some 27), .bin .sub (.t 23) (.t 26), none, [4, 3, 5, 2]⟩,
      ⟨(some 28), .ext false (.t 22) [.t 27], none, [2, 5, 3, 4, 0, 6, 1]⟩,
      ⟨(some 6), .mov (.t 28), none, [6, 5, 3, 2, 1, 0, 4, 7]⟩])
  (.ret)))), 29, [.t 6]⟩
structure PairCode (X : FuncId → Option XFunc) : Prop where
  tab : TabCode X
  h89 : X 89 = some xf89
  h127 : X 127 = some xf127
  h83 : X 83 = some xf83
  h125 : X 125 = some xf125
  h34 : X 34 = some xf34
  h36 : X 36 = some xf36
  h29 : X 29 = some xf29
  h31 : X 31 = some xf31
  h32 : X 32 = some xf32
  h30 : X 30 = some xf30
  h85 : X 85 = some xf85
  h84 : X 84 = some xf84
  h86 : X 86 = some xf86
  h126 : X 126 = some xf126
  h35 : X 35 = some xf35
  h33 : X 33 = some xf33
  h43 : X 43 = some xf43
  h37 : X 37 = some xf37
  h38 : X 38 = some xf38
  h39 : X 39 = some xf39
  h90 : X 90 = some xf90
end Go.Proofs.Ytbpflcilndinfaa.Eng

/-
  CODE of LawB.
-/
namespace Go.Proofs.Ytbpflcilndinfaa.Eng
set_option linter.unusedSimpArgs false
set_option linter.unusedVariables false
def xf5 : XFunc := ⟨.seq (.reg [⟨(some 3), .box 53 (.t 0), none, []⟩,
      ⟨(some 4), .box 55 (.t 1), none, []⟩,
      ⟨(some 5), .box 57 (.t 2), none, []⟩,
      ⟨(some 6), .mov (.c (.bool false)), none, []⟩])
  (.seq (.seq (.reg [⟨(some 17), .call (.c (.fn 11 [] [])) [], none, []⟩,
      ⟨(some 18), .un .not (.t 17), none, []⟩])
  (.cond (.t 18) (.seq (.reg [⟨(some 6), .mov (.c (.bool false)), none, []⟩])
    (.ret)) .skip))
  (.seq (.seq (.reg [⟨(some 19), .loadn 3 (.t 3), none, []⟩,
      ⟨(some 20), .call (.c (.fn 29 [] [])) [.t 19], none, []⟩,
      ⟨(some 21), .un .not (.t 20), none, []⟩])
  (.cond (.t 21) (.seq (.reg [⟨(some 6), .mov (.c (.bool true)), none, []⟩])
    (.ret)) .skip))
  (.seq (.dreg [⟨(some 23), .loadn 3 (.t 3), none, []⟩,
      ⟨(some 24), .call (.c (.fn 31 [] [])) [.t 23], none, [0]⟩,
      ⟨(some 25), .loadn 2 (.t 4), none, []⟩,
      ⟨(some 26), .loadn 3 (.t 5), none, []⟩,
      ⟨(some 27), .call (.c (.fn 30 [] [])) [.t 24, .t 25, .t 26], none, [0, 3, 2, 1]⟩,
      ⟨(some 22), .mov (.t 27), none, [1, 2, 3, 0, 4]⟩,
      ⟨(some 28), .extract (.t 22) 0, none, [4, 0, 3, 2, 1, 5]⟩,
      ⟨(some 29), .extract (.t 22) 1, none, [4, 0, 3, 2, 1, 5]⟩,
      ⟨(some 30), .extract (.t 22) 2, none, [4, 0, 3, 2, 1, 5]⟩,
      ⟨(some 7), .new 55 [.int .i64 0, .int .i64 0], none, []⟩,
      ⟨(some 8), .new 60 [.int .i64 0, .int .i64 0], none, []⟩,
      ⟨none, .store 2 (.t 7) (.t 28), none, [10, 5, 3, 2, 1, 0, 4, 6, 9]⟩,
      ⟨none, .store 2 (.t 8) (.t 29), none, [9, 6, 5, 4, 3, 2, 1, 0, 11, 7, 10]⟩,
      ⟨(some 9), .mov (.t 30), none, [11, 10, 9, 7, 6, 5, 4, 3, 2, 1, 0, 12, 8]⟩])
  (.seq (.dreg [⟨(some 32), .loadn 3 (.t 3), none, []⟩,
      ⟨(some 33), .call (.c (.fn 31 [] [])) [.t 32], none, [0]⟩,
      ⟨(some 34), .loadn 2 (.t 4), none, []⟩,
      ⟨(some 35), .call (.c (.fn 32 [] [])) [.t 33, .t 34], none, [0, 2, 1]⟩,
      ⟨(some 31), .mov (.t 35), none, [1, 2, 0, 3]⟩,
      ⟨(some 36), .extract (.t 31) 0, none, [3, 0, 2, 1, 4]⟩,
      ⟨(some 37), .extract (.t 31) 1, none, [3, 0, 2, 1, 4]⟩,
      ⟨(some 10), .new 55 [.int .i64 0, .int .i64 0], none, []⟩,
      ⟨none, .store 2 (.t 10) (.t 36), none, [4, 2, 1, 0, 3, 5, 7]⟩,
      ⟨(some 11), .mov (.t 37), none, [7, 5, 4, 3, 2, 1, 0, 8, 6]⟩])
  (.seq (.reg [⟨(some 38), .loadn 3 (.t 3), none, []⟩,
      ⟨(some 39), .loadn 2 (.t 4), none, []⟩,
      ⟨(some 40), .call (.c (.fn 33 [] [])) [.t 38, .t 39], none, []⟩,
      ⟨(some 12), .mov (.t 40), none, []⟩])
  (.seq (.seq (.dreg [⟨(some 41), .loadn 3 (.t 3), none, []⟩,
      ⟨(some 42), .call (.c (.fn 31 [] [])) [.t 41], none, [0]⟩,
      ⟨(some 43), .call (.c (.fn 34 [] [])) [.t 42], none, [0, 1]⟩,
      ⟨(some 44), .loadn 3 (.t 3), none, []⟩,
      ⟨(some 45), .call (.c (.fn 35 [] [])) [.t 44], none, [1, 0, 2, 3]⟩,
      ⟨(some 46), .bin .neq (.t 43) (.t 45), none, [3, 1, 0, 4, 2]⟩,
      ⟨(some 47), .mov (.t 46), none, [2, 0, 1, 3, 4, 5]⟩,
      ⟨(some 48), .loadn 3 (.t 3), (some (47, false)), [5, 4, 3, 1, 0, 2, 6]⟩,
      ⟨(some 49), .call (.c (.fn 31 [] [])) [.t 48], (some (47, false)), [2, 0, 1, 3, 4, 5, 6, 7]⟩,
      ⟨(some 50), .loadn 2 (.t 4), (some (47, false)), [5, 4, 3, 1, 0, 2, 6]⟩,
      ⟨(some 51), .call (.c (.fn 36 [] [])) [.t 49, .t 50], (some (47, false)), [7, 5, 4, 3, 1, 0, 2, 6, 9, 8]⟩,
      ⟨(some 52), .mov (.t 12), (some (47, false)), [5, 4, 3, 1, 0, 2, 6]⟩,
      ⟨(some 53), .bin .neq (.t 51) (.t 52), (some (47, false)), [8, 9, 2, 0, 1, 3, 4, 5, 7, 6, 11, 10]⟩,
      ⟨(some 54), .pick (.t 47) (.c (.bool true)) (.t 53), none, [10, 11, 7, 9, 8, 5, 4, 3, 1, 0, 2, 12, 6]⟩])
  (.cond (.t 54) (.seq (.reg [⟨(some 6), .mov (.c (.bool false)), none, []⟩])
    (.ret)) .skip))
  (.seq (.reg [⟨(some 55), .build [.int .i64 0, .int .i64 0] [], none, []⟩,
      ⟨(some 13), .new 55 [.int .i64 0, .int .i64 0], none, []⟩,
      ⟨none, .store 2 (.t 13) (.t 55), none, []⟩])
  (.seq (.seq (.reg [⟨(some 56), .mov (.t 12), none, []⟩,
      ⟨(some 57), .bin .neq (.t 56) (.c (.int .i64 0)), none, []⟩])
  (.cond (.t 57) (.seq (.reg [⟨(some 58), .mov (.t 9), none, []⟩,
        ⟨(some 59), .mov (.t 12), none, []⟩,
        ⟨(some 60), .bin .eql (.t 58) (.t 59), none, []⟩,
        ⟨(some 61), .mov (.t 60), none, []⟩,
        ⟨(some 62), .mov (.t 11), (some (61, true)), []⟩,
        ⟨(some 63), .mov (.t 12), (some (61, true)), []⟩,
        ⟨(some 64), .bin .eql (.t 62) (.t 63), (some (61, true)), []⟩,
        ⟨(some 65), .pick (.t 61) (.t 64) (.c (.bool false)), none, []⟩,
        ⟨(some 66), .mov (.t 65), none, []⟩,
        ⟨(some 67), .loadn 2 (.t 7), (some (66, true)), []⟩,
        ⟨(some 68), .loadn 2 (.t 13), (some (66, true)), []⟩,
        ⟨(some 69), .eqA false (.s [(0, 1, false, .c 0), (1, 1, false, .c 0)]) (.t 67) (.t 68), (some (66, true)), []⟩,
        ⟨(some 70), .pick (.t 66) (.t 69) (.c (.bool false)), none, []⟩,
        ⟨(some 71), .mov (.t 70), none, []⟩,
        ⟨(some 72), .loadn 2 (.t 8), (some (71, true)), []⟩,
        ⟨(some 73), .build [.int .i64 0, .int .i64 0] [], (some (71, true)), []⟩,
        ⟨(some 74), .eqA false (.s [(0, 1, false, .c 0), (1, 1, false, .c 0)]) (.t 72) (.t 73), (some (71, true)), []⟩,
        ⟨(some 75), .pick (.t 71) (.t 74) (.c (.bool false)), none, []⟩,
        ⟨(some 76), .mov (.t 75), none, []⟩,
        ⟨(some 77), .loadn 2 (.t 10), (some (76, true)), []⟩,
        ⟨(some 78), .loadn 2 (.t 13), (some (76, true)), []⟩,
        ⟨(some 79), .eqA false (.s [(0, 1, false, .c 0), (1, 1, false, .c 0)]) (.t 77) (.t 78), (some (76, true)), []⟩,
        ⟨(some 80), .pick (.t 76) (.t 79) (.c (.bool false)), none, []⟩,
        ⟨(some 6), .mov (.t 80), none, []⟩])
    (.ret)) .skip))
  (.seq (.seq (.dreg [⟨(some 81), .mov (.t 11), none, []⟩,
      ⟨(some 82), .bin .neq (.t 81) (.c (.int .i64 0)), none, [0]⟩,
      ⟨(some 83), .mov (.t 82), none, [0, 1]⟩,
      ⟨(some 84), .loadn 2 (.t 10), (some (83, false)), [1, 0, 2]⟩,
      ⟨(some 85), .loadn 3 (.t 3), (some (83, false)), [1, 0, 2]⟩,
      ⟨(some 86), .loadn 2 (.t 4), (some (83, false)), [1, 0, 2]⟩,
      ⟨(some 87), .call (.c (.fn 37 [] [])) [.t 85, .t 86], (some (83, false)), [0, 1, 2, 5, 4]⟩,
      ⟨(some 88), .eqA true (.s [(0, 1, false, .c 0), (1, 1, false, .c 0)]) (.t 84) (.t 87), (some (83, false)), [4, 5, 0, 1, 2, 6, 3]⟩,
      ⟨(some 89), .pick (.t 83) (.c (.bool true)) (.t 88), none, [3, 6, 5, 4, 1, 0, 7, 2]⟩])
  (.cond (.t 89) (.seq (.reg [⟨(some 6), .mov (.c (.bool false)), none, []⟩])
    (.ret)) .skip))
  (.seq (.seq (.reg [⟨(some 90), .loadn 3 (.t 5), none, []⟩,
      ⟨(some 91), .call (.c (.fn 38 [] [])) [.t 90], none, []⟩,
      ⟨(some 12), .mov (.t 91), none, []⟩])
  (.seq (.reg [⟨(some 92), .mov (.t 12), none, []⟩,
      ⟨(some 93), .bin .neq (.t 92) (.c (.int .i64 0)), none, []⟩])
  (.cond (.t 93) (.seq (.reg [⟨(some 94), .mov (.t 9), none, []⟩,
        ⟨(some 95), .mov (.t 12), none, []⟩,
        ⟨(some 96), .bin .eql (.t 94) (.t 95), none, []⟩,
        ⟨(some 97), .mov (.t 96), none, []⟩,
        ⟨(some 98), .loadn 2 (.t 7), (some (97, true)), []⟩,
        ⟨(some 99), .loadn 2 (.t 13), (some (97, true)), []⟩,
        ⟨(some 100), .eqA false (.s [(0, 1, false, .c 0), (1, 1, false, .c 0)]) (.t 98) (.t 99), (some (97, true)), []⟩,
        ⟨(some 101), .pick (.t 97) (.t 100) (.c (.bool false)), none, []⟩,
        ⟨(some 102), .mov (.t 101), none, []⟩,
        ⟨(some 103), .loadn 2 (.t 8), (some (102, true)), []⟩,
        ⟨(some 104), .build [.int .i64 0, .int .i64 0] [], (some (102, true)), []⟩,
        ⟨(some 105), .eqA false (.s [(0, 1, false, .c 0), (1, 1, false, .c 0)]) (.t 103) (.t 104), (some (102, true)), []⟩,
        ⟨(some 106), .pick (.t 102) (.t 105) (.c (.bool false)), none, []⟩,
        ⟨(some 6), .mov (.t 106), none, []⟩])
    (.ret)) .skip)))
  (.seq (.reg [⟨(some 108), .loadn 3 (.t 3), none, []⟩,
      ⟨(some 109), .loadn 2 (.t 4), none, []⟩,
      ⟨(some 110), .loadn 3 (.t 5), none, []⟩,
      ⟨(some 111), .call (.c (.fn 39 [] [])) [.t 108, .t 109, .t 110], none, []⟩,
      ⟨(some 107), .mov (.t 111), none, []⟩,
      ⟨(some 112), .extract (.t 107) 0, none, []⟩,
      ⟨(some 113), .extract (.t 107) 1, none, []⟩,
      ⟨(some 114), .extract (.t 107) 2, none, []⟩,
      ⟨(some 14), .new 55 [.int .i64 0, .int .i64 0], none, []⟩,
      ⟨(some 15), .new 60 [.int .i64 0, .int .i64 0], none, []⟩,
      ⟨none, .store 2 (.t 14) (.t 112), none, []⟩,
      ⟨none, .store 2 (.t 15) (.t 113), none, []⟩,
      ⟨(some 16), .mov (.t 114), none, []⟩])
  (.seq (.seq (.reg [⟨(some 115), .mov (.t 16), none, []⟩,
      ⟨(some 116), .un .not (.t 115), none, []⟩])
  (.cond (.t 116) (.seq (.reg [⟨(some 117), .mov (.t 9), none, []⟩,
        ⟨(some 118), .bin .eql (.t 117) (.c (.int .i64 22)), none, []⟩,
        ⟨(some 119), .mov (.t 118), none, []⟩,
        ⟨(some 120), .loadn 2 (.t 7), (some (119, true)), []⟩,
        ⟨(some 121), .loadn 2 (.t 13), (some (119, true)), []⟩,
        ⟨(some 122), .eqA false (.s [(0, 1, false, .c 0), (1, 1, false, .c 0)]) (.t 120) (.t 121), (some (119, true)), []⟩,
        ⟨(some 123), .pick (.t 119) (.t 122) (.c (.bool false)), none, []⟩,
        ⟨(some 124), .mov (.t 123), none, []⟩,
        ⟨(some 125), .loadn 2 (.t 8), (some (124, true)), []⟩,
        ⟨(some 126), .build [.int .i64 0, .int .i64 0] [], (some (124, true)), []⟩,
        ⟨(some 127), .eqA false (.s [(0, 1, false, .c 0), (1, 1, false, .c 0)]) (.t 125) (.t 126), (some (124, true)), []⟩,
        ⟨(some 128), .pick (.t 124) (.t 127) (.c (.bool false)), none, []⟩,
        ⟨(some 6), .mov (.t 128), none, []⟩])
    (.ret)) .skip))
  (.seq (.reg [⟨(some 129), .mov (.t 9), none, []⟩,
      ⟨(some 130), .bin .eql (.t 129) (.c (.int .i64 0)), none, []⟩,
      ⟨(some 131), .mov (.t 130), none, []⟩,
      ⟨(some 132), .loadn 2 (.t 7), (some (131, true)), []⟩,
      ⟨(some 133), .loadn 2 (.t 14), (some (131, true)), []⟩,
      ⟨(some 134), .eqA false (.s [(0, 1, false, .c 0), (1, 1, false, .c 0)]) (.t 132) (.t 133), (some (131, true)), []⟩,
      ⟨(some 135), .pick (.t 131) (.t 134) (.c (.bool false)), none, []⟩,
      ⟨(some 136), .mov (.t 135), none, []⟩,
      ⟨(some 137), .loadn 2 (.t 8), (some (136, true)), []⟩,
      ⟨(some 138), .loadn 2 (.t 15), (some (136, true)), []⟩,
      ⟨(some 139), .eqA false (.s [(0, 1, false, .c 0), (1, 1, false, .c 0)]) (.t 137) (.t 138), (some (136, true)), []⟩,
      ⟨(some 140), .pick (.t 136) (.t 139) (.c (.bool false)), none, []⟩,
      ⟨(some 6), .mov (.t 140), none, []⟩])
  (.ret)))))))))))))), 141, [.t 6]⟩
def xf7 : XFunc := ⟨.seq (.reg [⟨(some 3), .box 53 (.t 0), none, []⟩,
      ⟨(some 4), .box 55 (.t 1), none, []⟩,
      ⟨(some 6), .mov (.c (.bool false)), none, []⟩])
  (.seq (.seq (.reg [⟨(some 17), .call (.c (.fn 11 [] [])) [], none, []⟩,
      ⟨(some 18), .un .not (.t 17), none, []⟩])
  (.cond (.t 18) (.seq (.reg [⟨(some 6), .mov (.c (.bool false)), none, []⟩])
    (.ret)) .skip))
  (.seq (.seq (.reg [⟨(some 19), .loadn 3 (.t 3), none, []⟩,
      ⟨(some 20), .call (.c (.fn 29 [] [])) [.t 19], none, []⟩,
      ⟨(some 21), .un .not (.t 20), none, []⟩,
      ⟨(some 22), .mov (.t 21), none, []⟩,
      ⟨(some 23), .loadn 3 (.t 3), (some (22, false)), []⟩,
      ⟨(some 24), .loadn 2 (.t 4), (some (22, false)), []⟩,
      ⟨(some 25), .call (.c (.fn 33 [] [])) [.t 23, .t 24], (some (22, false)), []⟩,
      ⟨(some 26), .bin .neq (.t 25) (.c (.int .i64 0)), (some (22, false)), []⟩,
      ⟨(some 27), .pick (.t 22) (.c (.bool true)) (.t 26), none, []⟩,
      ⟨(some 28), .mov (.t 27), none, []⟩,
      ⟨(some 29), .mov (.t 2), (some (28, false)), []⟩,
      ⟨(some 30), .call (.c (.fn 25 [] [])) [.t 29, .c (.int .i64 (-10000000)), .c (.int .i64 10000000)], (some (28, false)), []⟩,
      ⟨(some 31), .un .not (.t 30), (some (28, false)), []⟩,
      ⟨(some 32), .pick (.t 28) (.c (.bool true)) (.t 31), none, []⟩])
  (.cond (.t 32) (.seq (.reg [⟨(some 6), .mov (.c (.bool true)), none, []⟩])
    (.ret)) .skip))
  (.seq (.reg [⟨(some 33), .loadn 3 (.t 3), none, []⟩,
      ⟨(some 34), .call (.c (.fn 31 [] [])) [.t 33], none, []⟩,
      ⟨(some 7), .new 53 [.nils, .nils, .int .i64 0], none, []⟩,
      ⟨none, .store 3 (.t 7) (.t 34), none, []⟩])
  (.seq (.reg [⟨(some 35), .faddr 2 (.t 7), none, []⟩,
      ⟨none, .store 1 (.t 35) (.c (.int .i64 0)), none, []⟩])
  (.seq (.dreg [⟨(some 37), .loadn 3 (.t 7), none, []⟩,
      ⟨(some 38), .call (.c (.fn 31 [] [])) [.t 37], none, [0]⟩,
      ⟨(some 39), .loadn 2 (.t 4), none, []⟩,
      ⟨(some 40), .call (.c (.fn 32 [] [])) [.t 38, .t 39], none, [0, 2, 1]⟩,
      ⟨(some 36), .mov (.t 40), none, [1, 2, 0, 3]⟩,
      ⟨(some 41), .extract (.t 36) 0, none, [3, 0, 2, 1, 4]⟩,
      ⟨(some 42), .extract (.t 36) 1, none, [3, 0, 2, 1, 4]⟩,
      ⟨(some 8), .new 55 [.int .i64 0, .int .i64 0], none, []⟩,
      ⟨none, .store 2 (.t 8) (.t 41), none, [4, 2, 1, 0, 3, 5, 7]⟩,
      ⟨(some 9), .mov (.t 42), none, [7, 5, 4, 3, 2, 1, 0, 8, 6]⟩])
  (.seq (.seq (.reg [⟨(some 43), .mov (.t 9), none, []⟩,
      ⟨(some 44), .bin .neq (.t 43) (.c (.int .i64 0)), none, []⟩,
      ⟨(some 45), .mov (.t 44), none, []⟩,
      ⟨(some 46), .faddr 0 (.t 8), (some (45, false)), []⟩,
      ⟨(some 47), .load1 (.t 46), (some (45, false)), []⟩,
      ⟨(some 48), .call (.c (.fn 25 [] [])) [.t 47, .c (.int .i64 0), .c (.int .i64 1000000000)], (some (45, false)), []⟩,
      ⟨(some 49), .un .not (.t 48), (some (45, false)), []⟩,
      ⟨(some 50), .pick (.t 45) (.c (.bool true)) (.t 49), none, []⟩,
      ⟨(some 51), .mov (.t 50), none, []⟩,
      ⟨(some 52), .faddr 1 (.t 8), (some (51, false)), []⟩,
      ⟨(some 53), .load1 (.t 52), (some (51, false)), []⟩,
      ⟨(some 54), .call (.c (.fn 25 [] [])) [.t 53, .c (.int .i64 0), .c (.int .i64 1000000000)], (some (51, false)), []⟩,
      ⟨(some 55), .un .not (.t 54), (some (51, false)), []⟩,
      ⟨(some 56), .pick (.t 51) (.c (.bool true)) (.t 55), none, []⟩])
  (.cond (.t 56) (.seq (.reg [⟨(some 6), .mov (.c (.bool false)), none, []⟩])
    (.ret)) .skip))
  (.seq (.dreg [⟨(some 58), .loadn 3 (.t 7), none, []⟩,
      ⟨(some 59), .call (.c (.fn 31 [] [])) [.t 58], none, [0]⟩,
      ⟨(some 60), .loadn 2 (.t 4), none, []⟩,
      ⟨(some 61), .mov (.t 2), none, []⟩,
      ⟨(some 62), .build [.int .i64 0, .int .i64 0, .int .i64 0] [(2, 1, .t 61)], none, [3]⟩,
      ⟨(some 63), .call (.c (.fn 30 [] [])) [.t 59, .t 60, .t 62], none, [3, 0, 4, 2, 1]⟩,
      ⟨(some 57), .mov (.t 63), none, [1, 2, 4, 0, 3, 5]⟩,
      ⟨(some 64), .extract (.t 57) 0, none, [5, 3, 0, 4, 2, 1, 6]⟩,
      ⟨(some 65), .extract (.t 57) 1, none, [5, 3, 0, 4, 2, 1, 6]⟩,
      ⟨(some 66), .extract (.t 57) 2, none, [5, 3, 0, 4, 2, 1, 6]⟩,
      ⟨(some 10), .new 55 [.int .i64 0, .int .i64 0], none, []⟩,
      ⟨(some 11), .new 60 [.int .i64 0, .int .i64 0], none, []⟩,
      ⟨none, .store 2 (.t 10) (.t 64), none, [11, 6, 4, 3, 2, 1, 0, 5, 7, 10]⟩,
      ⟨none, .store 2 (.t 11) (.t 65), none, [10, 7, 6, 5, 4, 3, 2, 1, 0, 12, 8, 11]⟩,
      ⟨(some 12), .mov (.t 66), none, [12, 11, 10, 8, 7, 6, 5, 4, 3, 2, 1, 0, 13, 9]⟩])
  (.seq (.seq (.reg [⟨(some 67), .mov (.t 12), none, []⟩,
      ⟨(some 68), .bin .neq (.t 67) (.c (.int .i64 0)), none, []⟩,
      ⟨(some 69), .mov (.t 68), none, []⟩,
      ⟨(some 70), .mov (.t 12), (some (69, true)), []⟩,
      ⟨(some 71), .bin .neq (.t 70) (.c (.int .i64 22)), (some (69, true)), []⟩,
      ⟨(some 72), .pick (.t 69) (.t 71) (.c (.bool false)), none, []⟩])
  (.cond (.t 72) (.seq (.reg [⟨(some 6), .mov (.c (.bool false)), none, []⟩])
    (.ret)) .skip))
  (.seq (.reg [⟨(some 73), .mov (.t 12), none, []⟩,
      ⟨(some 74), .bin .eql (.t 73) (.c (.int .i64 0)), none, []⟩,
      ⟨(some 75), .mov (.t 74), none, []⟩,
      ⟨(some 76), .loadn 2 (.t 11), (some (75, true)), []⟩,
      ⟨(some 77), .build [.int .i64 0, .int .i64 0] [], (some (75, true)), []⟩,
      ⟨(some 78), .eqA false (.s [(0, 1, false, .c 0), (1, 1, false, .c 0)]) (.t 76) (.t 77), (some (75, true)), []⟩,
      ⟨(some 79), .pick (.t 75) (.t 78) (.c (.bool false)), none, []⟩,
      ⟨(some 13), .mov (.t 79), none, []⟩])
  (.seq (.seq (.reg [⟨(some 80), .mov (.t 13), none, []⟩,
      ⟨(some 81), .mov (.t 2), none, []⟩,
      ⟨(some 82), .faddr 0 (.t 8), none, []⟩,
      ⟨(some 83), .load1 (.t 82), none, []⟩,
      ⟨(some 84), .un .neg (.t 83), none, []⟩,
      ⟨(some 85), .faddr 1 (.t 8), none, []⟩,
      ⟨(some 86), .load1 (.t 85), none, []⟩,
      ⟨(some 87), .call (.c (.fn 25 [] [])) [.t 81, .t 84, .t 86], none, []⟩,
      ⟨(some 88), .eqb true (.t 80) (.t 87), none, []⟩])
  (.cond (.t 88) (.seq (.reg [⟨(some 6), .mov (.c (.bool false)), none, []⟩])
    (.ret)) .skip))
  (.seq (.seq (.reg [⟨(some 89), .mov (.t 13), none, []⟩,
      ⟨(some 90), .un .not (.t 89), none, []⟩])
  (.cond (.t 90) (.seq (.reg [⟨(some 6), .mov (.c (.bool true)), none, []⟩])
    (.ret)) .skip))
  (.seq (.reg [⟨(some 92), .loadn 3 (.t 7), none, []⟩,
      ⟨(some 93), .loadn 2 (.t 10), none, []⟩,
      ⟨(some 94), .mov (.t 2), none, []⟩,
      ⟨(some 95), .un .neg (.t 94), none, []⟩,
      ⟨(some 96), .build [.int .i64 0, .int .i64 0, .int .i64 0] [(2, 1, .t 95)], none, []⟩,
      ⟨(some 97), .call (.c (.fn 30 [] [])) [.t 92, .t 93, .t 96], none, []⟩,
      ⟨(some 91), .mov (.t 97), none, []⟩,
      ⟨(some 98), .extract (.t 91) 0, none, []⟩,
      ⟨(some 99), .extract (.t 91) 1, none, []⟩,
      ⟨(some 100), .extract (.t 91) 2, none, []⟩,
      ⟨(some 14), .new 55 [.int .i64 0, .int .i64 0], none, []⟩,
      ⟨(some 15), .new 60 [.int .i64 0, .int .i64 0], none, []⟩,
      ⟨none, .store 2 (.t 14) (.t 98), none, []⟩,
      ⟨none, .store 2 (.t 15) (.t 99), none, []⟩,
      ⟨(some 16), .mov (.t 100), none, []⟩])
  (.seq (.reg [⟨(some 101), .mov (.t 16), none, []⟩,
      ⟨(some 102), .bin .eql (.t 101) (.c (.int .i64 0)), none, []⟩,
      ⟨(some 103), .mov (.t 102), none, []⟩,
      ⟨(some 104), .loadn 2 (.t 14), (some (103, true)), []⟩,
      ⟨(some 105), .loadn 2 (.t 4), (some (103, true)), []⟩,
      ⟨(some 106), .eqA false (.s [(0, 1, false, .c 0), (1, 1, false, .c 0)]) (.t 104) (.t 105), (some (103, true)), []⟩,
      ⟨(some 107), .pick (.t 103) (.t 106) (.c (.bool false)), none, []⟩,
      ⟨(some 108), .mov (.t 107), none, []⟩,
      ⟨(some 109), .loadn 2 (.t 15), (some (108, true)), []⟩,
      ⟨(some 110), .build [.int .i64 0, .int .i64 0] [], (some (108, true)), []⟩,
      ⟨(some 111), .eqA false (.s [(0, 1, false, .c 0), (1, 1, false, .c 0)]) (.t 109) (.t 110), (some (108, true)), []⟩,
      ⟨(some 112), .pick (.t 108) (.t 111) (.c (.bool false)), none, []⟩,
      ⟨(some 6), .mov (.t 112), none, []⟩])
  (.ret)))))))))))))), 113, [.t 6]⟩
structure LawBCode (X : FuncId → Option XFunc) : Prop where
  pair : PairCode X
  h5 : X 5 = some xf5
  h7 : X 7 = some xf7
end Go.Proofs.Ytbpflcilndinfaa.Eng
