/-
  CODE of GvA.
-/
import Derived.Test.YtenlllgjfbifbaaGreatEngY
namespace Go.Proofs.YtenlllgjfbifbaaGreat.Eng
set_option linter.unusedSimpArgs false
set_option linter.unusedVariables false
def xf29 : XFunc := ⟨.seq (.reg [⟨(some 6), .mov (.c (.bool false)), none, []⟩])
  (.seq (.reg [⟨(some 7), .mov (.t 1), none, []⟩,
      ⟨(some 8), .mov (.t 0), none, []⟩,
      ⟨(some 9), .bin .leq (.t 7) (.t 8), none, []⟩,
      ⟨(some 10), .mov (.t 9), none, []⟩,
      ⟨(some 11), .mov (.t 0), (some (10, true)), []⟩,
      ⟨(some 12), .mov (.t 2), (some (10, true)), []⟩,
      ⟨(some 13), .bin .leq (.t 11) (.t 12), (some (10, true)), []⟩,
      ⟨(some 14), .pick (.t 10) (.t 13) (.c (.bool false)), none, []⟩,
      ⟨(some 6), .mov (.t 14), none, []⟩])
  (.ret)), 15, [.t 6]⟩
def xf80 : XFunc := ⟨.seq (.reg [⟨(some 6), .mov (.c (.bool false)), none, []⟩])
  (.seq (.reg [⟨(some 7), .mov (.t 1), none, []⟩,
      ⟨(some 8), .mov (.t 0), none, []⟩,
      ⟨(some 9), .bin .leq (.t 7) (.t 8), none, []⟩,
      ⟨(some 10), .mov (.t 9), none, []⟩,
      ⟨(some 11), .mov (.t 0), (some (10, true)), []⟩,
      ⟨(some 12), .mov (.t 2), (some (10, true)), []⟩,
      ⟨(some 13), .bin .leq (.t 11) (.t 12), (some (10, true)), []⟩,
      ⟨(some 14), .pick (.t 10) (.t 13) (.c (.bool false)), none, []⟩,
      ⟨(some 6), .mov (.t 14), none, []⟩])
  (.ret)), 15, [.t 6]⟩
def xf79 : XFunc := ⟨.seq (.reg [⟨(some 4), .mov (.c (.int .i64 0)), none, []⟩])
  (.seq (.seq (.reg [⟨(some 5), .mov (.t 0), none, []⟩])
  (.cond (.t 5) (.seq (.reg [⟨(some 4), .mov (.c (.int .i64 0)), none, []⟩])
    (.ret)) .skip))
  (.seq (.reg [⟨(some 6), .mov (.t 1), none, []⟩,
      ⟨(some 4), .mov (.t 6), none, []⟩])
  (.ret))), 7, [.t 4]⟩
def xf78 : XFunc := ⟨.seq (.reg [⟨(some 6), .mov (.c (.int .i64 0)), none, []⟩])
  (.seq (.reg [⟨(some 7), .mov (.t 0), none, []⟩,
      ⟨(some 8), .mov (.t 1), none, []⟩,
      ⟨(some 9), .mov (.t 2), none, []⟩,
      ⟨(some 10), .call (.c (.fn 80 [] [])) [.t 7, .t 8, .t 9], none, []⟩,
      ⟨(some 11), .call (.c (.fn 79 [] [])) [.t 10, .c (.int .i64 2)], none, []⟩,
      ⟨(some 6), .mov (.t 11), none, []⟩])
  (.ret)), 12, [.t 6]⟩
def xf98 : XFunc := ⟨.seq (.reg [⟨(some 4), .mov (.c (.int .i64 0)), none, []⟩])
  (.seq (.reg [⟨(some 5), .mov (.t 0), none, []⟩,
      ⟨(some 6), .mov (.t 1), none, []⟩,
      ⟨(some 7), .un .neg (.t 6), none, []⟩,
      ⟨(some 8), .mov (.t 1), none, []⟩,
      ⟨(some 9), .call (.c (.fn 78 [] [])) [.t 5, .t 7, .t 8], none, []⟩,
      ⟨(some 4), .mov (.t 9), none, []⟩])
  (.ret)), 10, [.t 4]⟩
def xf77 : XFunc := ⟨.seq (.reg [⟨(some 2), .mov (.c (.int .i64 0)), none, []⟩])
  (.seq (.reg [⟨(some 3), .mov (.t 0), none, []⟩,
      ⟨(some 4), .call (.c (.fn 78 [] [])) [.t 3, .c (.int .i64 0), .c (.int .i64 10000)], none, []⟩,
      ⟨(some 2), .mov (.t 4), none, []⟩])
  (.ret)), 5, [.t 2]⟩
def xf72 : XFunc := ⟨.seq (.reg [⟨(some 2), .mov (.c (.int .i64 0)), none, []⟩])
  (.seq (.reg [⟨(some 3), .mov (.t 0), none, []⟩,
      ⟨(some 4), .call (.c (.fn 98 [] [])) [.t 3, .c (.int .i64 100000)], none, []⟩,
      ⟨(some 2), .mov (.t 4), none, []⟩])
  (.ret)), 5, [.t 2]⟩
def xf20 : XFunc := ⟨.seq (.reg [⟨(some 2), .mov (.c (.int .i64 0)), none, []⟩])
  (.seq (.seq (.reg [⟨(some 3), .mov (.t 0), none, []⟩,
      ⟨(some 4), .call (.c (.fn 29 [] [])) [.t 3, .c (.int .i64 (-100000)), .c (.int .i64 100000)], none, []⟩,
      ⟨(some 5), .un .not (.t 4), none, []⟩])
  (.cond (.t 5) (.seq (.reg [⟨(some 2), .mov (.c (.int .i64 2)), none, []⟩])
    (.ret)) .skip))
  (.seq (.reg [⟨(some 2), .mov (.c (.int .i64 0)), none, []⟩])
  (.ret))), 6, [.t 2]⟩
def xf75 : XFunc := ⟨.seq (.reg [⟨(some 2), .mov (.c (.int .i64 0)), none, []⟩])
  (.seq (.reg [⟨(some 3), .mov (.t 0), none, []⟩,
      ⟨(some 4), .mov (.t 0), none, []⟩,
      ⟨(some 5), .un .neg (.t 4), none, []⟩,
      ⟨(some 6), .ext true (.t 3) [.t 5], none, []⟩,
      ⟨(some 2), .mov (.t 6), none, []⟩])
  (.ret)), 7, [.t 2]⟩
def xf123 : XFunc := ⟨.seq (.reg [⟨(some 6), .mov (.c (.int .i64 0)), none, []⟩])
  (.seq (.reg [⟨(some 7), .mov (.t 0), none, []⟩,
      ⟨(some 8), .mov (.t 1), none, []⟩,
      ⟨(some 9), .ext true (.t 7) [.t 8], none, []⟩,
      ⟨(some 10), .mov (.t 2), none, []⟩,
      ⟨(some 11), .ext false (.t 9) [.t 10], none, []⟩,
      ⟨(some 6), .mov (.t 11), none, []⟩])
  (.ret)), 12, [.t 6]⟩
def xf71l0 : XCode := .seq (.reg [⟨(some 8), .bin .lss (.t 7) (.t 6), none, []⟩])
  (.seq (.cond (.t 8) .skip (.exit 0))
  (.seq (.block 1 (.seq (.reg [⟨(some 9), .iaddr 1 (.t 5) (.t 7), none, []⟩,
        ⟨(some 10), .load1 (.t 9), none, []⟩,
        ⟨(some 4), .mov (.t 10), none, []⟩])
    (.seq (.reg [⟨(some 11), .mov (.t 4), none, []⟩,
        ⟨(some 12), .bin .neq (.t 11) (.c (.int .i64 0)), none, []⟩])
    (.cond (.t 12) (.seq (.reg [⟨(some 13), .mov (.t 4), none, []⟩,
          ⟨(some 2), .mov (.t 13), none, []⟩])
      (.ret)) .skip))))
  (.reg [⟨(some 14), .bin .add (.t 7) (.c (.int .i64 1)), none, []⟩,
      ⟨(some 7), .mov (.t 14), none, []⟩])))
def xf71 : XFunc := ⟨.seq (.reg [⟨(some 2), .mov (.c (.int .i64 0)), none, []⟩])
  (.seq (.seq (.reg [⟨(some 5), .mov (.t 0), none, []⟩,
      ⟨(some 6), .len (.t 5), none, []⟩,
      ⟨(some 7), .mov (.c (.int .i64 0)), none, []⟩])
  (.block 0 (.loop xf71l0)))
  (.seq (.reg [⟨(some 2), .mov (.c (.int .i64 0)), none, []⟩])
  (.ret))), 15, [.t 2]⟩
def xf18 : XFunc := ⟨.seq (.reg [⟨(some 1), .box 23 (.t 0), none, []⟩,
      ⟨(some 2), .mov (.c (.int .i64 0)), none, []⟩])
  (.seq (.dreg [⟨(some 3), .faddr 1 (.t 1), none, []⟩,
      ⟨(some 4), .load1 (.t 3), none, [0]⟩,
      ⟨(some 5), .call (.c (.fn 77 [] [])) [.t 4], none, [0, 1]⟩,
      ⟨(some 6), .faddr 2 (.t 1), none, []⟩,
      ⟨(some 7), .load1 (.t 6), none, [3]⟩,
      ⟨(some 8), .call (.c (.fn 77 [] [])) [.t 7], none, [1, 0, 3, 2, 4]⟩,
      ⟨(some 9), .faddr 0 (.t 1), none, []⟩,
      ⟨(some 10), .load1 (.t 9), none, [6]⟩,
      ⟨(some 11), .call (.c (.fn 77 [] [])) [.t 10], none, [4, 2, 3, 0, 1, 6, 5, 7]⟩,
      ⟨(some 12), .faddr 3 (.t 1), none, []⟩,
      ⟨(some 13), .load1 (.t 12), none, [9]⟩,
      ⟨(some 14), .call (.c (.fn 78 [] [])) [.t 13, .c (.int .i64 1), .c (.int .i64 10000)], none, [7, 5, 6, 1, 0, 3, 2, 4, 9, 8, 10]⟩,
      ⟨(some 15), .faddr 1 (.t 1), none, []⟩,
      ⟨(some 16), .load1 (.t 15), none, [12]⟩,
      ⟨(some 17), .faddr 2 (.t 1), none, []⟩,
      ⟨(some 18), .load1 (.t 17), none, [14]⟩,
      ⟨(some 19), .bin .leq (.t 16) (.t 18), none, [14, 12, 15, 13]⟩,
      ⟨(some 20), .call (.c (.fn 79 [] [])) [.t 19, .c (.int .i64 9)], none, [10, 8, 9, 4, 2, 3, 0, 1, 6, 5, 7, 13, 15, 12, 14, 11, 16]⟩,
      ⟨(some 21), .faddr 0 (.t 1), none, []⟩,
      ⟨(some 22), .load1 (.t 21), none, [18]⟩,
      ⟨(some 23), .faddr 1 (.t 1), none, []⟩,
      ⟨(some 24), .load1 (.t 23), none, [20]⟩,
      ⟨(some 25), .faddr 2 (.t 1), none, []⟩,
      ⟨(some 26), .load1 (.t 25), none, [22]⟩,
      ⟨(some 27), .call (.c (.fn 80 [] [])) [.t 22, .t 24, .t 26], none, [16, 11, 14, 12, 15, 13, 7, 5, 6, 1, 0, 3, 2, 4, 9, 8, 10, 22, 20, 18, 17, 23, 21, 19]⟩,
      ⟨(some 28), .call (.c (.fn 79 [] [])) [.t 27, .c (.int .i64 22)], none, [19, 21, 23, 17, 18, 20, 22, 10, 8, 9, 4, 2, 3, 0, 1, 6, 5, 7, 13, 15, 12, 14, 11, 16, 24]⟩,
      ⟨(some 29), .buildSlice 27 1 6 false [.int .i64 0, .int .i64 0, .int .i64 0, .int .i64 0, .int .i64 0, .int .i64 0] [(0, 1, .t 5), (1, 1, .t 8), (2, 1, .t 11), (3, 1, .t 14), (4, 1, .t 20), (5, 1, .t 28)], none, [24, 22, 20, 18, 23, 21, 19, 16, 14, 12, 15, 13, 10, 9, 7, 6, 4, 3, 1, 0, 25, 17, 11, 8, 5, 2]⟩,
      ⟨(some 30), .call (.c (.fn 71 [] [])) [.t 29], none, [2, 5, 8, 11, 17, 0, 1, 3, 4, 6, 7, 9, 10, 13, 15, 12, 14, 16, 19, 21, 23, 18, 20, 22, 24, 25, 26]⟩,
      ⟨(some 2), .mov (.t 30), none, [26, 25, 24, 23, 22, 21, 20, 19, 18, 17, 16, 15, 14, 13, 12, 11, 10, 9, 8, 7, 6, 5, 4, 3, 2, 1, 0, 27]⟩])
  (.ret)), 31, [.t 2]⟩
def xf19 : XFunc := ⟨.seq (.reg [⟨(some 1), .box 25 (.t 0), none, []⟩,
      ⟨(some 2), .mov (.c (.int .i64 0)), none, []⟩])
  (.seq (.dreg [⟨(some 3), .faddr 0 (.t 1), none, []⟩,
      ⟨(some 4), .load1 (.t 3), none, [0]⟩,
      ⟨(some 5), .call (.c (.fn 78 [] [])) [.t 4, .c (.int .i64 0), .c (.int .i64 100000)], none, [0, 1]⟩,
      ⟨(some 6), .faddr 1 (.t 1), none, []⟩,
      ⟨(some 7), .load1 (.t 6), none, [3]⟩,
      ⟨(some 8), .call (.c (.fn 78 [] [])) [.t 7, .c (.int .i64 0), .c (.int .i64 1000)], none, [1, 0, 3, 2, 4]⟩,
      ⟨(some 9), .faddr 2 (.t 1), none, []⟩,
      ⟨(some 10), .load1 (.t 9), none, [6]⟩,
      ⟨(some 11), .call (.c (.fn 78 [] [])) [.t 10, .c (.int .i64 1), .c (.int .i64 1000)], none, [4, 2, 3, 0, 1, 6, 5, 7]⟩,
      ⟨(some 12), .faddr 3 (.t 1), none, []⟩,
      ⟨(some 13), .load1 (.t 12), none, [9]⟩,
      ⟨(some 14), .call (.c (.fn 77 [] [])) [.t 13], none, [7, 5, 6, 1, 0, 3, 2, 4, 9, 8, 10]⟩,
      ⟨(some 15), .buildSlice 27 1 4 false [.int .i64 0, .int .i64 0, .int .i64 0, .int .i64 0] [(0, 1, .t 5), (1, 1, .t 8), (2, 1, .t 11), (3, 1, .t 14)], none, [10, 9, 7, 6, 4, 3, 1, 0, 11, 8, 5, 2]⟩,
      ⟨(some 16), .call (.c (.fn 71 [] [])) [.t 15], none, [2, 5, 8, 0, 1, 3, 4, 6, 7, 9, 10, 11, 12]⟩,
      ⟨(some 2), .mov (.t 16), none, [12, 11, 10, 9, 8, 7, 6, 5, 4, 3, 2, 1, 0, 13]⟩])
  (.ret)), 17, [.t 2]⟩
def xf16 : XFunc := ⟨.seq (.reg [⟨(some 1), .box 23 (.t 0), none, []⟩,
      ⟨(some 2), .mov (.c (.int .i64 0)), none, []⟩])
  (.seq (.seq (.reg [⟨(some 3), .faddr 1 (.t 1), none, []⟩,
      ⟨(some 4), .load1 (.t 3), none, []⟩,
      ⟨(some 5), .call (.c (.fn 29 [] [])) [.t 4, .c (.int .i64 0), .c (.int .i64 10000)], none, []⟩,
      ⟨(some 6), .un .not (.t 5), none, []⟩,
      ⟨(some 7), .mov (.t 6), none, []⟩,
      ⟨(some 8), .faddr 2 (.t 1), (some (7, false)), []⟩,
      ⟨(some 9), .load1 (.t 8), (some (7, false)), []⟩,
      ⟨(some 10), .call (.c (.fn 29 [] [])) [.t 9, .c (.int .i64 0), .c (.int .i64 10000)], (some (7, false)), []⟩,
      ⟨(some 11), .un .not (.t 10), (some (7, false)), []⟩,
      ⟨(some 12), .pick (.t 7) (.c (.bool true)) (.t 11), none, []⟩,
      ⟨(some 13), .mov (.t 12), none, []⟩,
      ⟨(some 14), .faddr 0 (.t 1), (some (13, false)), []⟩,
      ⟨(some 15), .load1 (.t 14), (some (13, false)), []⟩,
      ⟨(some 16), .call (.c (.fn 29 [] [])) [.t 15, .c (.int .i64 0), .c (.int .i64 10000)], (some (13, false)), []⟩,
      ⟨(some 17), .un .not (.t 16), (some (13, false)), []⟩,
      ⟨(some 18), .pick (.t 13) (.c (.bool true)) (.t 17), none, []⟩,
      ⟨(some 19), .mov (.t 18), none, []⟩,
      ⟨(some 20), .faddr 3 (.t 1), (some (19, false)), []⟩,
      ⟨(some 21), .load1 (.t 20), (some (19, false)), []⟩,
      ⟨(some 22), .call (.c (.fn 29 [] [])) [.t 21, .c (.int .i64 1), .c (.int .i64 10000)], (some (19, false)), []⟩,
      ⟨(some 23), .un .not (.t 22), (some (19, false)), []⟩,
      ⟨(some 24), .pick (.t 19) (.c (.bool true)) (.t 23), none, []⟩])
  (.cond (.t 24) (.seq (.reg [⟨(some 2), .mov (.c (.int .i64 2)), none, []⟩])
    (.ret)) .skip))
  (.seq (.seq (.reg [⟨(some 25), .faddr 1 (.t 1), none, []⟩,
      ⟨(some 26), .load1 (.t 25), none, []⟩,
      ⟨(some 27), .faddr 2 (.t 1), none, []⟩,
      ⟨(some 28), .load1 (.t 27), none, []⟩,
      ⟨(some 29), .bin .gtr (.t 26) (.t 28), none, []⟩])
  (.cond (.t 29) (.seq (.reg [⟨(some 2), .mov (.c (.int .i64 9)), none, []⟩])
    (.ret)) .skip))
  (.seq (.seq (.reg [⟨(some 30), .faddr 0 (.t 1), none, []⟩,
      ⟨(some 31), .load1 (.t 30), none, []⟩,
      ⟨(some 32), .faddr 1 (.t 1), none, []⟩,
      ⟨(some 33), .load1 (.t 32), none, []⟩,
      ⟨(some 34), .faddr 2 (.t 1), none, []⟩,
      ⟨(some 35), .load1 (.t 34), none, []⟩,
      ⟨(some 36), .call (.c (.fn 29 [] [])) [.t 31, .t 33, .t 35], none, []⟩,
      ⟨(some 37), .un .not (.t 36), none, []⟩])
  (.cond (.t 37) (.seq (.reg [⟨(some 2), .mov (.c (.int .i64 22)), none, []⟩])
    (.ret)) .skip))
  (.seq (.reg [⟨(some 2), .mov (.c (.int .i64 0)), none, []⟩])
  (.ret))))), 38, [.t 2]⟩
def xf17 : XFunc := ⟨.seq (.reg [⟨(some 1), .box 25 (.t 0), none, []⟩,
      ⟨(some 2), .mov (.c (.int .i64 0)), none, []⟩])
  (.seq (.seq (.reg [⟨(some 3), .faddr 0 (.t 1), none, []⟩,
      ⟨(some 4), .load1 (.t 3), none, []⟩,
      ⟨(some 5), .call (.c (.fn 29 [] [])) [.t 4, .c (.int .i64 0), .c (.int .i64 100000)], none, []⟩,
      ⟨(some 6), .un .not (.t 5), none, []⟩,
      ⟨(some 7), .mov (.t 6), none, []⟩,
      ⟨(some 8), .faddr 1 (.t 1), (some (7, false)), []⟩,
      ⟨(some 9), .load1 (.t 8), (some (7, false)), []⟩,
      ⟨(some 10), .call (.c (.fn 29 [] [])) [.t 9, .c (.int .i64 0), .c (.int .i64 1000)], (some (7, false)), []⟩,
      ⟨(some 11), .un .not (.t 10), (some (7, false)), []⟩,
      ⟨(some 12), .pick (.t 7) (.c (.bool true)) (.t 11), none, []⟩,
      ⟨(some 13), .mov (.t 12), none, []⟩,
      ⟨(some 14), .faddr 2 (.t 1), (some (13, false)), []⟩,
      ⟨(some 15), .load1 (.t 14), (some (13, false)), []⟩,
      ⟨(some 16), .call (.c (.fn 29 [] [])) [.t 15, .c (.int .i64 1), .c (.int .i64 1000)], (some (13, false)), []⟩,
      ⟨(some 17), .un .not (.t 16), (some (13, false)), []⟩,
      ⟨(some 18), .pick (.t 13) (.c (.bool true)) (.t 17), none, []⟩,
      ⟨(some 19), .mov (.t 18), none, []⟩,
      ⟨(some 20), .faddr 3 (.t 1), (some (19, false)), []⟩,
      ⟨(some 21), .load1 (.t 20), (some (19, false)), []⟩,
      ⟨(some 22), .call (.c (.fn 29 [] [])) [.t 21, .c (.int .i64 0), .c (.int .i64 10000)], (some (19, false)), []⟩,
      ⟨(some 23), .un .not (.t 22), (some (19, false)), []⟩,
      ⟨(some 24), .pick (.t 19) (.c (.bool true)) (.t 23), none, []⟩])
  (.cond (.t 24) (.seq (.reg [⟨(some 2), .mov (.c (.int .i64 2)), none, []⟩])
    (.ret)) .skip))
  (.seq (.reg [⟨(some 2), .mov (.c (.int .i64 0)), none, []⟩])
  (.ret))), 25, [.t 2]⟩
def xf73 : XFunc := ⟨.seq (.reg [⟨(some 2), .box 25 (.t 0), none, []⟩,
      ⟨(some 4), .mov (.c (.int .i64 0)), none, []⟩])
  (.seq (.reg [⟨(some 6), .mov (.t 1), none, []⟩,
      ⟨(some 7), .mov (.t 1), none, []⟩,
      ⟨(some 8), .faddr 0 (.t 2), none, []⟩,
      ⟨(some 9), .load1 (.t 8), none, []⟩,
      ⟨(some 10), .un .neg (.t 9), none, []⟩,
      ⟨(some 11), .faddr 0 (.t 2), none, []⟩,
      ⟨(some 12), .load1 (.t 11), none, []⟩,
      ⟨(some 13), .call (.c (.fn 123 [] [])) [.t 7, .t 10, .t 12], none, []⟩,
      ⟨(some 14), .bin .sub (.t 6) (.t 13), none, []⟩,
      ⟨(some 5), .mov (.t 14), none, []⟩])
  (.seq (.dreg [⟨(some 15), .faddr 3 (.t 2), none, []⟩,
      ⟨(some 16), .load1 (.t 15), none, [0]⟩,
      ⟨(some 17), .faddr 1 (.t 2), none, []⟩,
      ⟨(some 18), .load1 (.t 17), none, [2]⟩,
      ⟨(some 19), .mov (.t 5), none, []⟩,
      ⟨(some 20), .bin .mul (.t 18) (.t 19), none, [2, 4, 3]⟩,
      ⟨(some 21), .faddr 2 (.t 2), none, []⟩,
      ⟨(some 22), .load1 (.t 21), none, [6]⟩,
      ⟨(some 23), .bin .quo (.t 20) (.t 22), none, [6, 3, 4, 2, 7, 5]⟩,
      ⟨(some 24), .bin .sub (.t 16) (.t 23), none, [5, 7, 2, 4, 3, 6, 0, 8, 1]⟩,
      ⟨(some 4), .mov (.t 24), none, [8, 7, 6, 5, 4, 3, 2, 1, 0, 9]⟩])
  (.ret))), 25, [.t 4]⟩
def xf21 : XFunc := ⟨.seq (.reg [⟨(some 2), .box 25 (.t 0), none, []⟩,
      ⟨(some 4), .mov (.c (.int .i64 0)), none, []⟩])
  (.seq (.block 0 (.seq (.reg [⟨(some 6), .mov (.t 1), none, []⟩,
        ⟨(some 7), .faddr 0 (.t 2), none, []⟩,
        ⟨(some 8), .load1 (.t 7), none, []⟩,
        ⟨(some 9), .bin .gtr (.t 6) (.t 8), none, []⟩,
        ⟨(some 5), .mov (.t 9), none, []⟩])
    (.cond (.t 5) (.seq (.dreg [⟨(some 10), .faddr 3 (.t 2), none, []⟩,
          ⟨(some 11), .load1 (.t 10), none, [0]⟩,
          ⟨(some 12), .faddr 1 (.t 2), none, []⟩,
          ⟨(some 13), .load1 (.t 12), none, [2]⟩,
          ⟨(some 14), .mov (.t 1), none, []⟩,
          ⟨(some 15), .faddr 0 (.t 2), none, []⟩,
          ⟨(some 16), .load1 (.t 15), none, [5]⟩,
          ⟨(some 17), .bin .sub (.t 14) (.t 16), none, [5, 6, 4]⟩,
          ⟨(some 18), .bin .mul (.t 13) (.t 17), none, [4, 6, 5, 2, 7, 3]⟩,
          ⟨(some 19), .faddr 2 (.t 2), none, []⟩,
          ⟨(some 20), .load1 (.t 19), none, [9]⟩,
          ⟨(some 21), .bin .quo (.t 18) (.t 20), none, [9, 3, 7, 2, 5, 6, 4, 10, 8]⟩,
          ⟨(some 22), .bin .sub (.t 11) (.t 21), none, [8, 10, 4, 6, 5, 2, 7, 3, 9, 0, 11, 1]⟩,
          ⟨(some 4), .mov (.t 22), none, [11, 10, 9, 8, 7, 6, 5, 4, 3, 2, 1, 0, 12]⟩])
      (.ret)) (.seq (.reg [⟨(some 24), .mov (.t 1), none, []⟩,
          ⟨(some 25), .faddr 0 (.t 2), none, []⟩,
          ⟨(some 26), .load1 (.t 25), none, []⟩,
          ⟨(some 27), .un .neg (.t 26), none, []⟩,
          ⟨(some 28), .bin .lss (.t 24) (.t 27), none, []⟩,
          ⟨(some 23), .mov (.t 28), none, []⟩])
      (.cond (.t 23) (.seq (.dreg [⟨(some 29), .faddr 3 (.t 2), none, []⟩,
            ⟨(some 30), .load1 (.t 29), none, [0]⟩,
            ⟨(some 31), .faddr 1 (.t 2), none, []⟩,
            ⟨(some 32), .load1 (.t 31), none, [2]⟩,
            ⟨(some 33), .mov (.t 1), none, []⟩,
            ⟨(some 34), .un .neg (.t 33), none, [4]⟩,
            ⟨(some 35), .faddr 0 (.t 2), none, []⟩,
            ⟨(some 36), .load1 (.t 35), none, [6]⟩,
            ⟨(some 37), .bin .sub (.t 34) (.t 36), none, [6, 4, 7, 5]⟩,
            ⟨(some 38), .bin .mul (.t 32) (.t 37), none, [5, 7, 4, 6, 2, 8, 3]⟩,
            ⟨(some 39), .faddr 2 (.t 2), none, []⟩,
            ⟨(some 40), .load1 (.t 39), none, [10]⟩,
            ⟨(some 41), .bin .quo (.t 38) (.t 40), none, [10, 3, 8, 2, 6, 4, 7, 5, 11, 9]⟩,
            ⟨(some 42), .bin .add (.t 30) (.t 41), none, [9, 11, 5, 7, 4, 6, 2, 8, 3, 10, 0, 12, 1]⟩,
            ⟨(some 4), .mov (.t 42), none, [12, 11, 10, 9, 8, 7, 6, 5, 4, 3, 2, 1, 0, 13]⟩])
        (.ret)) .skip)))))
  (.seq (.reg [⟨(some 43), .faddr 3 (.t 2), none, []⟩,
      ⟨(some 44), .load1 (.t 43), none, []⟩,
      ⟨(some 4), .mov (.t 44), none, []⟩])
  (.ret))), 45, [.t 4]⟩
def xf76 : XFunc := ⟨.seq (.reg [⟨(some 2), .box 23 (.t 0), none, []⟩,
      ⟨(some 4), .mov (.c (.int .i64 0)), none, []⟩])
  (.seq (.reg [⟨(some 5), .mov (.t 1), none, []⟩,
      ⟨(some 6), .faddr 1 (.t 2), none, []⟩,
      ⟨(some 7), .load1 (.t 6), none, []⟩,
      ⟨(some 8), .faddr 2 (.t 2), none, []⟩,
      ⟨(some 9), .load1 (.t 8), none, []⟩,
      ⟨(some 10), .call (.c (.fn 123 [] [])) [.t 5, .t 7, .t 9], none, []⟩,
      ⟨(some 4), .mov (.t 10), none, []⟩])
  (.ret)), 11, [.t 4]⟩
def xf74 : XFunc := ⟨.seq (.reg [⟨(some 2), .box 23 (.t 0), none, []⟩,
      ⟨(some 4), .new 23 [.int .i64 0, .int .i64 0, .int .i64 0, .int .i64 0], none, []⟩])
  (.seq (.dreg [⟨(some 5), .faddr 0 (.t 2), none, []⟩,
      ⟨(some 6), .load1 (.t 5), none, [0]⟩,
      ⟨(some 7), .loadn 4 (.t 2), none, []⟩,
      ⟨(some 8), .mov (.t 1), none, []⟩,
      ⟨(some 9), .call (.c (.fn 76 [] [])) [.t 7, .t 8], none, [3, 2]⟩,
      ⟨(some 10), .faddr 0 (.t 2), none, []⟩,
      ⟨(some 11), .load1 (.t 10), none, [5]⟩,
      ⟨(some 12), .bin .sub (.t 9) (.t 11), none, [5, 2, 3, 6, 4]⟩,
      ⟨(some 13), .faddr 3 (.t 2), none, []⟩,
      ⟨(some 14), .load1 (.t 13), none, [8]⟩,
      ⟨(some 15), .un .neg (.t 14), none, [8, 9]⟩,
      ⟨(some 16), .faddr 3 (.t 2), none, []⟩,
      ⟨(some 17), .load1 (.t 16), none, [11]⟩,
      ⟨(some 18), .call (.c (.fn 123 [] [])) [.t 12, .t 15, .t 17], none, [11, 9, 8, 6, 3, 2, 5, 4, 12, 10, 7]⟩,
      ⟨(some 19), .bin .add (.t 6) (.t 18), none, [7, 10, 12, 4, 5, 2, 3, 6, 8, 9, 11, 0, 13, 1]⟩,
      ⟨(some 20), .faddr 0 (.t 2), none, [14, 13, 12, 11, 10, 9, 8, 7, 6, 5, 4, 3, 2, 1, 0]⟩,
      ⟨none, .store 1 (.t 20) (.t 19), none, [12, 11, 10, 9, 8, 7, 6, 5, 4, 3, 2, 1, 0, 13, 14, 15]⟩])
  (.seq (.reg [⟨(some 21), .loadn 4 (.t 2), none, []⟩,
      ⟨none, .store 4 (.t 4) (.t 21), none, []⟩])
  (.ret))), 22, [.cn 4 4]⟩
def xf22 : XFunc := ⟨.seq (.reg [⟨(some 2), .box 23 (.t 0), none, []⟩,
      ⟨(some 4), .new 23 [.int .i64 0, .int .i64 0, .int .i64 0, .int .i64 0], none, []⟩])
  (.seq (.reg [⟨(some 6), .faddr 1 (.t 2), none, []⟩,
      ⟨(some 7), .load1 (.t 6), none, []⟩,
      ⟨(some 8), .faddr 2 (.t 2), none, []⟩,
      ⟨(some 9), .load1 (.t 8), none, []⟩,
      ⟨(some 10), .mov (.t 1), none, []⟩,
      ⟨(some 11), .ext false (.t 9) [.t 10], none, []⟩,
      ⟨(some 12), .ext true (.t 7) [.t 11], none, []⟩,
      ⟨(some 5), .mov (.t 12), none, []⟩])
  (.seq (.reg [⟨(some 13), .faddr 0 (.t 2), none, []⟩,
      ⟨(some 14), .load1 (.t 13), none, []⟩,
      ⟨(some 15), .faddr 3 (.t 2), none, []⟩,
      ⟨(some 16), .load1 (.t 15), none, []⟩,
      ⟨(some 17), .bin .sub (.t 14) (.t 16), none, []⟩,
      ⟨(some 18), .faddr 0 (.t 2), none, []⟩,
      ⟨(some 19), .load1 (.t 18), none, []⟩,
      ⟨(some 20), .faddr 3 (.t 2), none, []⟩,
      ⟨(some 21), .load1 (.t 20), none, []⟩,
      ⟨(some 22), .bin .add (.t 19) (.t 21), none, []⟩,
      ⟨(some 23), .mov (.t 5), none, []⟩,
      ⟨(some 24), .ext false (.t 22) [.t 23], none, []⟩,
      ⟨(some 25), .ext true (.t 17) [.t 24], none, []⟩,
      ⟨(some 26), .faddr 0 (.t 2), none, []⟩,
      ⟨none, .store 1 (.t 26) (.t 25), none, []⟩])
  (.seq (.reg [⟨(some 27), .loadn 4 (.t 2), none, []⟩,
      ⟨none, .store 4 (.t 4) (.t 27), none, []⟩])
  (.ret)))), 28, [.cn 4 4]⟩
def xf13 : XFunc := ⟨.seq (.reg [⟨(some 2), .box 25 (.t 0), none, []⟩,
      ⟨(some 4), .mov (.c (.int .i64 0)), none, []⟩,
      ⟨(some 5), .mov (.c (.int .i64 0)), none, []⟩])
  (.seq (.seq (.reg [⟨(some 7), .loadn 4 (.t 2), none, []⟩,
      ⟨(some 8), .call (.c (.fn 19 [] [])) [.t 7], none, []⟩,
      ⟨(some 9), .mov (.t 1), none, []⟩,
      ⟨(some 10), .call (.c (.fn 72 [] [])) [.t 9], none, []⟩,
      ⟨(some 11), .buildSlice 27 1 2 false [.int .i64 0, .int .i64 0] [(0, 1, .t 8), (1, 1, .t 10)], none, []⟩,
      ⟨(some 12), .call (.c (.fn 71 [] [])) [.t 11], none, []⟩,
      ⟨(some 6), .mov (.t 12), none, []⟩])
  (.seq (.reg [⟨(some 13), .mov (.t 6), none, []⟩,
      ⟨(some 14), .bin .neq (.t 13) (.c (.int .i64 0)), none, []⟩])
  (.cond (.t 14) (.seq (.reg [⟨(some 15), .mov (.t 6), none, []⟩,
        ⟨(some 4), .mov (.c (.int .i64 0)), none, []⟩,
        ⟨(some 5), .mov (.t 15), none, []⟩])
    (.ret)) .skip)))
  (.seq (.reg [⟨(some 16), .loadn 4 (.t 2), none, []⟩,
      ⟨(some 17), .mov (.t 1), none, []⟩,
      ⟨(some 18), .call (.c (.fn 73 [] [])) [.t 16, .t 17], none, []⟩,
      ⟨(some 4), .mov (.t 18), none, []⟩,
      ⟨(some 5), .mov (.c (.int .i64 0)), none, []⟩])
  (.ret))), 19, [.t 4, .t 5]⟩
def xf14 : XFunc := ⟨.seq (.reg [⟨(some 2), .box 23 (.t 0), none, []⟩,
      ⟨(some 4), .new 23 [.int .i64 0, .int .i64 0, .int .i64 0, .int .i64 0], none, []⟩,
      ⟨(some 5), .mov (.c (.int .i64 0)), none, []⟩])
  (.seq (.seq (.reg [⟨(some 7), .loadn 4 (.t 2), none, []⟩,
      ⟨(some 8), .call (.c (.fn 18 [] [])) [.t 7], none, []⟩,
      ⟨(some 9), .mov (.t 1), none, []⟩,
      ⟨(some 10), .call (.c (.fn 72 [] [])) [.t 9], none, []⟩,
      ⟨(some 11), .buildSlice 27 1 2 false [.int .i64 0, .int .i64 0] [(0, 1, .t 8), (1, 1, .t 10)], none, []⟩,
      ⟨(some 12), .call (.c (.fn 71 [] [])) [.t 11], none, []⟩,
      ⟨(some 6), .mov (.t 12), none, []⟩])
  (.seq (.reg [⟨(some 13), .mov (.t 6), none, []⟩,
      ⟨(some 14), .bin .neq (.t 13) (.c (.int .i64 0)), none, []⟩])
  (.cond (.t 14) (.seq (.reg [⟨(some 15), .build [.int .i64 0, .int .i64 0, .int .i64 0, .int .i64 0] [], none, []⟩,
        ⟨(some 16), .mov (.t 6), none, []⟩,
        ⟨none, .store 4 (.t 4) (.t 15), none, []⟩,
        ⟨(some 5), .mov (.t 16), none, []⟩])
    (.ret)) .skip)))
  (.seq (.reg [⟨(some 17), .loadn 4 (.t 2), none, []⟩,
      ⟨(some 18), .mov (.t 1), none, []⟩,
      ⟨(some 19), .call (.c (.fn 74 [] [])) [.t 17, .t 18], none, []⟩,
      ⟨none, .store 4 (.t 4) (.t 19), none, []⟩,
      ⟨(some 5), .mov (.c (.int .i64 0)), none, []⟩])
  (.ret))), 20, [.cn 4 4, .t 5]⟩
def xf15 : XFunc := ⟨.seq (.reg [⟨(some 2), .box 23 (.t 0), none, []⟩,
      ⟨(some 4), .mov (.c (.int .i64 0)), none, []⟩,
      ⟨(some 5), .mov (.c (.int .i64 0)), none, []⟩])
  (.seq (.seq (.reg [⟨(some 8), .loadn 4 (.t 2), none, []⟩,
      ⟨(some 9), .call (.c (.fn 18 [] [])) [.t 8], none, []⟩,
      ⟨(some 10), .mov (.t 1), none, []⟩,
      ⟨(some 11), .call (.c (.fn 72 [] [])) [.t 10], none, []⟩,
      ⟨(some 12), .buildSlice 27 1 2 false [.int .i64 0, .int .i64 0] [(0, 1, .t 9), (1, 1, .t 11)], none, []⟩,
      ⟨(some 13), .call (.c (.fn 71 [] [])) [.t 12], none, []⟩,
      ⟨(some 6), .mov (.t 13), none, []⟩])
  (.seq (.reg [⟨(some 14), .mov (.t 6), none, []⟩,
      ⟨(some 15), .bin .neq (.t 14) (.c (.int .i64 0)), none, []⟩])
  (.cond (.t 15) (.seq (.reg [⟨(some 16), .mov (.t 6), none, []⟩,
        ⟨(some 4), .mov (.c (.int .i64 0)), none, []⟩,
        ⟨(some 5), .mov (.t 16), none, []⟩])
    (.ret)) .skip)))
  (.seq (.dreg [⟨(some 17), .loadn 4 (.t 2), none, []⟩,
      ⟨(some 18), .mov (.t 1), none, []⟩,
      ⟨(some 19), .call (.c (.fn 76 [] [])) [.t 17, .t 18], none, [1, 0]⟩,
      ⟨(some 20), .faddr 0 (.t 2), none, []⟩,
      ⟨(some 21), .load1 (.t 20), none, [3]⟩,
      ⟨(some 22), .bin .sub (.t 19) (.t 21), none, [3, 0, 1, 4, 2]⟩,
      ⟨(some 23), .call (.c (.fn 75 [] [])) [.t 22], none, [4, 1, 0, 3, 2, 5]⟩,
      ⟨(some 7), .mov (.t 23), none, [5, 4, 3, 2, 1, 0, 6]⟩])
  (.seq (.reg [⟨(some 24), .mov (.t 7), none, []⟩,
      ⟨(some 25), .faddr 3 (.t 2), none, []⟩,
      ⟨(some 26), .load1 (.t 25), none, []⟩,
      ⟨(some 27), .bin .add (.t 24) (.t 26), none, []⟩,
      ⟨(some 28), .bin .sub (.t 27) (.c (.int .i64 1)), none, []⟩,
      ⟨(some 29), .faddr 3 (.t 2), none, []⟩,
      ⟨(some 30), .load1 (.t 29), none, []⟩,
      ⟨(some 31), .bin .quo (.t 28) (.t 30), none, []⟩,
      ⟨(some 4), .mov (.t 31), none, []⟩,
      ⟨(some 5), .mov (.c (.int .i64 0)), none, []⟩])
  (.ret)))), 32, [.t 4, .t 5]⟩
def xf23l0 : XCode := .seq (.seq (.reg [⟨(some 14), .faddr 0 (.t 2), none, []⟩,
      ⟨(some 15), .load1 (.t 14), none, []⟩,
      ⟨(some 16), .mov (.t 6), none, []⟩,
      ⟨(some 17), .bin .neq (.t 15) (.t 16), none, []⟩])
  (.cond (.t 17) .skip (.exit 0)))
  (.block 1 (.reg [⟨(some 18), .loadn 4 (.t 2), none, []⟩,
        ⟨(some 19), .mov (.t 1), none, []⟩,
        ⟨(some 20), .call (.c (.fn 22 [] [])) [.t 18, .t 19], none, []⟩,
        ⟨(some 21), .mov (.t 5), none, []⟩,
        ⟨(some 22), .bin .add (.t 21) (.c (.int .i64 1)), none, []⟩,
        ⟨none, .store 4 (.t 2) (.t 20), none, []⟩,
        ⟨(some 5), .mov (.t 22), none, []⟩]))
def xf23 : XFunc := ⟨.seq (.reg [⟨(some 2), .box 23 (.t 0), none, []⟩,
      ⟨(some 4), .mov (.c (.int .i64 0)), none, []⟩])
  (.seq (.dreg [⟨(some 7), .faddr 1 (.t 2), none, []⟩,
      ⟨(some 8), .load1 (.t 7), none, [0]⟩,
      ⟨(some 9), .faddr 2 (.t 2), none, []⟩,
      ⟨(some 10), .load1 (.t 9), none, [2]⟩,
      ⟨(some 11), .mov (.t 1), none, []⟩,
      ⟨(some 12), .ext false (.t 10) [.t 11], none, [2, 4, 3]⟩,
      ⟨(some 13), .ext true (.t 8) [.t 12], none, [3, 4, 2, 0, 5, 1]⟩,
      ⟨(some 5), .mov (.c (.int .i64 0)), none, []⟩,
      ⟨(some 6), .mov (.t 13), none, [5, 4, 3, 2, 1, 0, 7, 6]⟩])
  (.seq (.block 0 (.loop xf23l0))
  (.seq (.reg [⟨(some 23), .mov (.t 5), none, []⟩,
      ⟨(some 4), .mov (.t 23), none, []⟩])
  (.ret)))), 24, [.t 4]⟩
def xf3 : XFunc := ⟨.seq (.reg [⟨(some 3), .box 23 (.t 0), none, []⟩,
      ⟨(some 4), .box 25 (.t 1), none, []⟩,
      ⟨(some 6), .mov (.c (.bool false)), none, []⟩])
  (.seq (.seq (.reg [⟨(some 15), .call (.c (.fn 12 [] [])) [], none, []⟩,
      ⟨(some 16), .un .not (.t 15), none, []⟩])
  (.cond (.t 16) (.seq (.reg [⟨(some 6), .mov (.c (.bool false)), none, []⟩])
    (.ret)) .skip))
  (.seq (.reg [⟨(some 18), .loadn 4 (.t 4), none, []⟩,
      ⟨(some 19), .mov (.t 2), none, []⟩,
      ⟨(some 20), .call (.c (.fn 13 [] [])) [.t 18, .t 19], none, []⟩,
      ⟨(some 17), .mov (.t 20), none, []⟩,
      ⟨(some 21), .extract (.t 17) 0, none, []⟩,
      ⟨(some 22), .extract (.t 17) 1, none, []⟩,
      ⟨(some 7), .mov (.t 21), none, []⟩,
      ⟨(some 8), .mov (.t 22), none, []⟩])
  (.seq (.reg [⟨(some 24), .loadn 4 (.t 3), none, []⟩,
      ⟨(some 25), .mov (.t 2), none, []⟩,
      ⟨(some 26), .call (.c (.fn 14 [] [])) [.t 24, .t 25], none, []⟩,
      ⟨(some 23), .mov (.t 26), none, []⟩,
      ⟨(some 27), .extract (.t 23) 0, none, []⟩,
      ⟨(some 28), .extract (.t 23) 1, none, []⟩,
      ⟨(some 9), .new 23 [.int .i64 0, .int .i64 0, .int .i64 0, .int .i64 0], none, []⟩,
      ⟨none, .store 4 (.t 9) (.t 27), none, []⟩,
      ⟨(some 10), .mov (.t 28), none, []⟩])
  (.seq (.reg [⟨(some 30), .loadn 4 (.t 3), none, []⟩,
      ⟨(some 31), .mov (.t 2), none, []⟩,
      ⟨(some 32), .call (.c (.fn 15 [] [])) [.t 30, .t 31], none, []⟩,
      ⟨(some 29), .mov (.t 32), none, []⟩,
      ⟨(some 33), .extract (.t 29) 0, none, []⟩,
      ⟨(some 34), .extract (.t 29) 1, none, []⟩,
      ⟨(some 11), .mov (.t 33), none, []⟩,
      ⟨(some 12), .mov (.t 34), none, []⟩])
  (.seq (.dreg [⟨(some 35), .loadn 4 (.t 3), none, []⟩,
      ⟨(some 36), .call (.c (.fn 16 [] [])) [.t 35], none, [0]⟩,
      ⟨(some 37), .loadn 4 (.t 4), none, []⟩,
      ⟨(some 38), .call (.c (.fn 17 [] [])) [.t 37], none, [0, 1, 2]⟩,
      ⟨(some 13), .mov (.t 36), none, [2, 0, 3, 1]⟩,
      ⟨(some 14), .mov (.t 38), none, [2, 1, 0, 4, 3]⟩])
  (.seq (.seq (.reg [⟨(some 39), .loadn 4 (.t 3), none, []⟩,
      ⟨(some 40), .call (.c (.fn 18 [] [])) [.t 39], none, []⟩,
      ⟨(some 41), .mov (.t 13), none, []⟩,
      ⟨(some 42), .bin .neq (.t 40) (.t 41), none, []⟩,
      ⟨(some 43), .mov (.t 42), none, []⟩,
      ⟨(some 44), .loadn 4 (.t 4), (some (43, false)), []⟩,
      ⟨(some 45), .call (.c (.fn 19 [] [])) [.t 44], (some (43, false)), []⟩,
      ⟨(some 46), .mov (.t 14), (some (43, false)), []⟩,
      ⟨(some 47), .bin .neq (.t 45) (.t 46), (some (43, false)), []⟩,
      ⟨(some 48), .pick (.t 43) (.c (.bool true)) (.t 47), none, []⟩])
  (.cond (.t 48) (.seq (.reg [⟨(some 6), .mov (.c (.bool false)), none, []⟩])
    (.ret)) .skip))
  (.seq (.seq (.reg [⟨(some 49), .mov (.t 14), none, []⟩,
      ⟨(some 50), .bin .eql (.t 49) (.c (.int .i64 0)), none, []⟩])
  (.cond (.t 50) (.reg [⟨(some 51), .mov (.t 2), none, []⟩,
        ⟨(some 52), .call (.c (.fn 20 [] [])) [.t 51], none, []⟩,
        ⟨(some 14), .mov (.t 52), none, []⟩]) .skip))
  (.seq (.seq (.reg [⟨(some 53), .mov (.t 14), none, []⟩,
      ⟨(some 54), .bin .neq (.t 53) (.c (.int .i64 0)), none, []⟩,
      ⟨(some 55), .mov (.t 54), none, []⟩,
      ⟨(some 56), .mov (.t 8), (some (55, true)), []⟩,
      ⟨(some 57), .mov (.t 14), (some (55, true)), []⟩,
      ⟨(some 58), .bin .neq (.t 56) (.t 57), (some (55, true)), []⟩,
      ⟨(some 59), .mov (.t 58), (some (55, true)), []⟩,
      ⟨(some 60), .mov (.t 7), (some (59, false)), []⟩,
      ⟨(some 61), .bin .neq (.t 60) (.c (.int .i64 0)), (some (59, false)), []⟩,
      ⟨(some 62), .pick (.t 59) (.c (.bool true)) (.t 61), (some (55, true)), []⟩,
      ⟨(some 63), .pick (.t 55) (.t 62) (.c (.bool false)), none, []⟩,
      ⟨(some 64), .mov (.t 63), none, []⟩,
      ⟨(some 65), .mov (.t 14), (some (64, false)), []⟩,
      ⟨(some 66), .bin .eql (.t 65) (.c (.int .i64 0)), (some (64, false)), []⟩,
      ⟨(some 67), .mov (.t 66), (some (64, false)), []⟩,
      ⟨(some 68), .mov (.t 8), (some (67, true)), []⟩,
      ⟨(some 69), .bin .neq (.t 68) (.c (.int .i64 0)), (some (67, true)), []⟩,
      ⟨(some 70), .mov (.t 69), (some (67, true)), []⟩,
      ⟨(some 71), .mov (.t 7), (some (70, false)), []⟩,
      ⟨(some 72), .loadn 4 (.t 4), (some (70, false)), []⟩,
      ⟨(some 73), .mov (.t 2), (some (70, false)), []⟩,
      ⟨(some 74), .call (.c (.fn 21 [] [])) [.t 72, .t 73], (some (70, false)), []⟩,
      ⟨(some 75), .bin .neq (.t 71) (.t 74), (some (70, false)), []⟩,
      ⟨(some 76), .pick (.t 70) (.c (.bool true)) (.t 75), (some (67, true)), []⟩,
      ⟨(some 77), .pick (.t 67) (.t 76) (.c (.bool false)), (some (64, false)), []⟩,
      ⟨(some 78), .pick (.t 64) (.c (.bool true)) (.t 77), none, []⟩])
  (.cond (.t 78) (.seq (.reg [⟨(some 6), .mov (.c (.bool false)), none, []⟩])
    (.ret)) .skip))
  (.seq (.seq (.reg [⟨(some 79), .mov (.t 13), none, []⟩,
      ⟨(some 80), .bin .eql (.t 79) (.c (.int .i64 0)), none, []⟩])
  (.cond (.t 80) (.reg [⟨(some 81), .mov (.t 2), none, []⟩,
        ⟨(some 82), .call (.c (.fn 20 [] [])) [.t 81], none, []⟩,
        ⟨(some 13), .mov (.t 82), none, []⟩]) .skip))
  (.seq (.seq (.reg [⟨(some 83), .mov (.t 13), none, []⟩,
      ⟨(some 84), .bin .neq (.t 83) (.c (.int .i64 0)), none, []⟩])
  (.cond (.t 84) (.seq (.reg [⟨(some 85), .mov (.t 10), none, []⟩,
        ⟨(some 86), .mov (.t 13), none, []⟩,
        ⟨(some 87), .bin .eql (.t 85) (.t 86), none, []⟩,
        ⟨(some 88), .mov (.t 87), none, []⟩,
        ⟨(some 89), .mov (.t 12), (some (88, true)), []⟩,
        ⟨(some 90), .mov (.t 13), (some (88, true)), []⟩,
        ⟨(some 91), .bin .eql (.t 89) (.t 90), (some (88, true)), []⟩,
        ⟨(some 92), .pick (.t 88) (.t 91) (.c (.bool false)), none, []⟩,
        ⟨(some 93), .mov (.t 92), none, []⟩,
        ⟨(some 94), .loadn 4 (.t 9), (some (93, true)), []⟩,
        ⟨(some 95), .build [.int .i64 0, .int .i64 0, .int .i64 0, .int .i64 0] [], (some (93, true)), []⟩,
        ⟨(some 96), .eqA false (.s [(0, 1, false, .c 0), (1, 1, false, .c 0), (2, 1, false, .c 0), (3, 1, false, .c 0)]) (.t 94) (.t 95), (some (93, true)), []⟩,
        ⟨(some 97), .pick (.t 93) (.t 96) (.c (.bool false)), none, []⟩,
        ⟨(some 98), .mov (.t 97), none, []⟩,
        ⟨(some 99), .mov (.t 11), (some (98, true)), []⟩,
        ⟨(some 100), .bin .eql (.t 99) (.c (.int .i64 0)), (some (98, true)), []⟩,
        ⟨(some 101), .pick (.t 98) (.t 100) (.c (.bool false)), none, []⟩,
        ⟨(some 6), .mov (.t 101), none, []⟩])
    (.ret)) .skip))
  (.seq (.dreg [⟨(some 102), .mov (.t 10), none, []⟩,
      ⟨(some 103), .bin .eql (.t 102) (.c (.int .i64 0)), none, [0]⟩,
      ⟨(some 104), .mov (.t 103), none, [0, 1]⟩,
      ⟨(some 105), .loadn 4 (.t 9), (some (104, true)), [1, 0, 2]⟩,
      ⟨(some 106), .loadn 4 (.t 3), (some (104, true)), [1, 0, 2]⟩,
      ⟨(some 107), .mov (.t 2), (some (104, true)), [1, 0, 2]⟩,
      ⟨(some 108), .call (.c (.fn 22 [] [])) [.t 106, .t 107], (some (104, true)), [0, 1, 2, 5, 4]⟩,
      ⟨(some 109), .eqA false (.s [(0, 1, false, .c 0), (1, 1, false, .c 0), (2, 1, false, .c 0), (3, 1, false, .c 0)]) (.t 105) (.t 108), (some (104, true)), [4, 5, 0, 1, 2, 6, 3]⟩,
      ⟨(some 110), .pick (.t 104) (.t 109) (.c (.bool false)), none, [3, 6, 5, 4, 1, 0, 7, 2]⟩,
      ⟨(some 111), .mov (.t 110), none, [2, 7, 0, 1, 4, 5, 3, 6, 8]⟩,
      ⟨(some 112), .mov (.t 12), (some (111, true)), [8, 6, 3, 5, 4, 1, 0, 7, 2, 9]⟩,
      ⟨(some 113), .bin .eql (.t 112) (.c (.int .i64 0)), (some (111, true)), [2, 7, 0, 1, 4, 5, 3, 6, 8, 9, 10]⟩,
      ⟨(some 114), .pick (.t 111) (.t 113) (.c (.bool false)), none, [10, 8, 6, 3, 5, 4, 1, 0, 7, 2, 11, 9]⟩,
      ⟨(some 115), .mov (.t 114), none, [11, 2, 7, 0, 1, 4, 5, 3, 6, 8, 10, 9, 12]⟩,
      ⟨(some 116), .mov (.t 11), (some (115, true)), [12, 9, 10, 8, 6, 3, 5, 4, 1, 0, 7, 2, 11, 13]⟩,
      ⟨(some 117), .loadn 4 (.t 3), (some (115, true)), [12, 9, 10, 8, 6, 3, 5, 4, 1, 0, 7, 2, 11, 13]⟩,
      ⟨(some 118), .mov (.t 2), (some (115, true)), [12, 9, 10, 8, 6, 3, 5, 4, 1, 0, 7, 2, 11, 13]⟩,
      ⟨(some 119), .call (.c (.fn 23 [] [])) [.t 117, .t 118], (some (115, true)), [11, 2, 7, 0, 1, 4, 5, 3, 6, 8, 10, 9, 12, 13, 16, 15]⟩,
      ⟨(some 120), .bin .eql (.t 116) (.t 119), (some (115, true)), [15, 16, 11, 2, 7, 0, 1, 4, 5, 3, 6, 8, 10, 9, 12, 13, 17, 14]⟩,
      ⟨(some 121), .pick (.t 115) (.t 120) (.c (.bool false)), none, [14, 17, 16, 15, 12, 9, 10, 8, 6, 3, 5, 4, 1, 0, 7, 2, 11, 18, 13]⟩,
      ⟨(some 6), .mov (.t 121), none, [18, 16, 15, 14, 13, 12, 11, 10, 9, 8, 7, 6, 5, 4, 3, 2, 1, 0, 17, 19]⟩])
  (.ret)))))))))))), 122, [.t 6]⟩
def xf4 : XFunc := ⟨.seq (.reg [⟨(some 3), .box 23 (.t 0), none, []⟩,
      ⟨(some 4), .box 25 (.t 1), none, []⟩,
      ⟨(some 6), .mov (.c (.bool false)), none, []⟩])
  (.seq (.seq (.reg [⟨(some 10), .call (.c (.fn 12 [] [])) [], none, []⟩,
      ⟨(some 11), .un .not (.t 10), none, []⟩])
  (.cond (.t 11) (.seq (.reg [⟨(some 6), .mov (.c (.bool false)), none, []⟩])
    (.ret)) .skip))
  (.seq (.seq (.reg [⟨(some 12), .mov (.t 2), none, []⟩,
      ⟨(some 13), .len (.t 12), none, []⟩,
      ⟨(some 14), .bin .gtr (.t 13) (.c (.int .i64 60)), none, []⟩,
      ⟨(some 15), .mov (.t 14), none, []⟩,
      ⟨(some 16), .mov (.t 2), (some (15, true)), []⟩,
      ⟨(some 17), .len (.t 16), (some (15, true)), []⟩,
      ⟨(some 18), .bin .leq (.t 17) (.c (.int .i64 200)), (some (15, true)), []⟩,
      ⟨(some 19), .pick (.t 15) (.t 18) (.c (.bool false)), none, []⟩,
      ⟨(some 20), .mov (.t 19), none, []⟩,
      ⟨(some 21), .mov (.t 2), (some (20, false)), []⟩,
      ⟨(some 22), .len (.t 21), (some (20, false)), []⟩,
      ⟨(some 23), .bin .gtr (.t 22) (.c (.int .i64 202)), (some (20, false)), []⟩,
      ⟨(some 24), .pick (.t 20) (.c (.bool true)) (.t 23), none, []⟩])
  (.cond (.t 24) (.seq (.reg [⟨(some 6), .mov (.c (.bool true)), none, []⟩])
    (.ret)) .skip))
  (.seq (.dreg [⟨(some 26), .loadn 4 (.t 3), none, []⟩,
      ⟨(some 27), .loadn 4 (.t 4), none, []⟩,
      ⟨(some 28), .mov (.t 2), none, []⟩,
      ⟨(some 29), .call (.c (.fn 25 [] [])) [.t 28], none, [2]⟩,
      ⟨(some 30), .call (.c (.fn 24 [] [])) [.t 26, .t 27, .t 29], none, [2, 3, 1, 0]⟩,
      ⟨(some 25), .mov (.t 30), none, [0, 1, 3, 2, 4]⟩,
      ⟨(some 31), .extract (.t 25) 0, none, [4, 2, 3, 1, 0, 5]⟩,
      ⟨(some 32), .extract (.t 25) 1, none, [4, 2, 3, 1, 0, 5]⟩,
      ⟨(some 7), .mov (.t 31), none, [5, 3, 2, 1, 0, 4, 6]⟩,
      ⟨(some 8), .mov (.t 32), none, [6, 5, 4, 3, 2, 1, 0, 8, 7]⟩])
  (.seq (.reg [⟨(some 33), .loadn 4 (.t 3), none, []⟩,
      ⟨(some 34), .call (.c (.fn 16 [] [])) [.t 33], none, []⟩,
      ⟨(some 9), .mov (.t 34), none, []⟩])
  (.seq (.seq (.reg [⟨(some 35), .mov (.t 9), none, []⟩,
      ⟨(some 36), .bin .eql (.t 35) (.c (.int .i64 0)), none, []⟩])
  (.cond (.t 36) (.reg [⟨(some 37), .loadn 4 (.t 4), none, []⟩,
        ⟨(some 38), .call (.c (.fn 17 [] [])) [.t 37], none, []⟩,
        ⟨(some 9), .mov (.t 38), none, []⟩]) .skip))
  (.seq (.seq (.reg [⟨(some 39), .mov (.t 9), none, []⟩,
      ⟨(some 40), .bin .eql (.t 39) (.c (.int .i64 0)), none, []⟩])
  (.cond (.t 40) (.reg [⟨(some 41), .mov (.t 2), none, []⟩,
        ⟨(some 42), .call (.c (.fn 26 [] [])) [.t 41], none, []⟩,
        ⟨(some 9), .mov (.t 42), none, []⟩]) .skip))
  (.seq (.seq (.reg [⟨(some 43), .mov (.t 9), none, []⟩,
      ⟨(some 44), .bin .neq (.t 43) (.c (.int .i64 0)), none, []⟩])
  (.cond (.t 44) (.seq (.reg [⟨(some 45), .mov (.t 8), none, []⟩,
        ⟨(some 46), .mov (.t 9), none, []⟩,
        ⟨(some 47), .bin .eql (.t 45) (.t 46), none, []⟩,
        ⟨(some 48), .mov (.t 47), none, []⟩,
        ⟨(some 49), .mov (.t 7), (some (48, true)), []⟩,
        ⟨(some 50), .len (.t 49), (some (48, true)), []⟩,
        ⟨(some 51), .bin .eql (.t 50) (.c (.int .i64 0)), (some (48, true)), []⟩,
        ⟨(some 52), .pick (.t 48) (.t 51) (.c (.bool false)), none, []⟩,
        ⟨(some 6), .mov (.t 52), none, []⟩])
    (.ret)) .skip))
  (.seq (.reg [⟨(some 53), .mov (.t 8), none, []⟩,
      ⟨(some 54), .bin .eql (.t 53) (.c (.int .i64 0)), none, []⟩,
      ⟨(some 55), .mov (.t 54), none, []⟩,
      ⟨(some 56), .mov (.t 7), (some (55, true)), []⟩,
      ⟨(some 57), .loadn 4 (.t 3), (some (55, true)), []⟩,
      ⟨(some 58), .loadn 4 (.t 4), (some (55, true)), []⟩,
      ⟨(some 59), .mov (.t 2), (some (55, true)), []⟩,
      ⟨(some 60), .call (.c (.fn 28 [] [])) [.t 57, .t 58, .t 59], (some (55, true)), []⟩,
      ⟨(some 61), .call (.c (.fn 27 [] [])) [.t 56, .t 60], (some (55, true)), []⟩,
      ⟨(some 62), .pick (.t 55) (.t 61) (.c (.bool false)), none, []⟩,
      ⟨(some 6), .mov (.t 62), none, []⟩])
  (.ret))))))))), 63, [.t 6]⟩
def xf5l0 : XCode := .seq (.seq (.reg [⟨(some 61), .mov (.t 10), none, []⟩,
      ⟨(some 62), .mov (.t 7), none, []⟩,
      ⟨(some 63), .len (.t 62), none, []⟩,
      ⟨(some 64), .bin .lss (.t 61) (.t 63), none, []⟩])
  (.cond (.t 64) .skip (.exit 0)))
  (.seq (.block 1 (.seq (.seq (.dreg [⟨(some 67), .mov (.t 7), none, []⟩,
        ⟨(some 68), .mov (.t 10), none, []⟩,
        ⟨(some 69), .iaddr 1 (.t 67) (.t 68), none, [1, 0]⟩,
        ⟨(some 70), .load1 (.t 69), none, [0, 1, 2]⟩,
        ⟨(some 71), .faddr 1 (.t 3), none, []⟩,
        ⟨(some 72), .load1 (.t 71), none, [4]⟩,
        ⟨(some 73), .faddr 2 (.t 3), none, []⟩,
        ⟨(some 74), .load1 (.t 73), none, [6]⟩,
        ⟨(some 75), .call (.c (.fn 29 [] [])) [.t 70, .t 72, .t 74], none, [6, 4, 2, 1, 0, 7, 5, 3]⟩,
        ⟨(some 76), .un .not (.t 75), none, [3, 5, 7, 0, 1, 2, 4, 6, 8]⟩,
        ⟨(some 77), .mov (.t 76), none, [6, 4, 2, 1, 0, 7, 5, 3, 8, 9]⟩,
        ⟨(some 78), .mov (.t 7), (some (77, false)), [9, 8, 3, 5, 7, 0, 1, 2, 4, 6, 10]⟩,
        ⟨(some 79), .mov (.t 10), (some (77, false)), [9, 8, 3, 5, 7, 0, 1, 2, 4, 6, 10]⟩,
        ⟨(some 80), .iaddr 1 (.t 78) (.t 79), (some (77, false)), [6, 4, 2, 1, 0, 7, 5, 3, 8, 9, 10, 12, 11]⟩,
        ⟨(some 81), .load1 (.t 80), (some (77, false)), [11, 12, 9, 8, 3, 5, 7, 0, 1, 2, 4, 6, 10, 13]⟩,
        ⟨(some 82), .mov (.t 9), (some (77, false)), [9, 8, 3, 5, 7, 0, 1, 2, 4, 6, 10]⟩,
        ⟨(some 83), .faddr 3 (.t 3), (some (77, false)), [9, 8, 3, 5, 7, 0, 1, 2, 4, 6, 10]⟩,
        ⟨(some 84), .load1 (.t 83), (some (77, false)), [6, 4, 2, 1, 0, 7, 5, 3, 8, 9, 10, 16]⟩,
        ⟨(some 85), .bin .sub (.t 82) (.t 84), (some (77, false)), [16, 6, 4, 2, 1, 0, 7, 5, 3, 8, 9, 10, 17, 15]⟩,
        ⟨(some 86), .mov (.t 9), (some (77, false)), [9, 8, 3, 5, 7, 0, 1, 2, 4, 6, 10]⟩,
        ⟨(some 87), .faddr 3 (.t 3), (some (77, false)), [9, 8, 3, 5, 7, 0, 1, 2, 4, 6, 10]⟩,
        ⟨(some 88), .load1 (.t 87), (some (77, false)), [6, 4, 2, 1, 0, 7, 5, 3, 8, 9, 10, 20]⟩,
        ⟨(some 89), .bin .add (.t 86) (.t 88), (some (77, false)), [20, 6, 4, 2, 1, 0, 7, 5, 3, 8, 9, 10, 21, 19]⟩,
        ⟨(some 90), .call (.c (.fn 29 [] [])) [.t 81, .t 85, .t 89], (some (77, false)), [19, 21, 20, 15, 17, 16, 13, 6, 4, 2, 1, 0, 7, 5, 3, 8, 9, 12, 11, 10, 22, 18, 14]⟩,
        ⟨(some 91), .un .not (.t 90), (some (77, false)), [14, 18, 22, 11, 12, 9, 8, 3, 5, 7, 0, 1, 2, 4, 6, 13, 16, 17, 15, 20, 21, 19, 10, 23]⟩,
        ⟨(some 92), .pick (.t 77) (.c (.bool true)) (.t 91), none, [23, 19, 21, 20, 15, 17, 16, 13, 12, 11, 22, 18, 14, 9, 8, 3, 5, 7, 0, 1, 2, 4, 6, 24, 10]⟩])
    (.cond (.t 92) (.seq (.reg [⟨(some 6), .mov (.c (.bool false)), none, []⟩])
      (.ret)) .skip))
    (.seq (.reg [⟨(some 93), .mov (.t 7), none, []⟩,
        ⟨(some 94), .mov (.t 10), none, []⟩,
        ⟨(some 95), .iaddr 1 (.t 93) (.t 94), none, []⟩,
        ⟨(some 96), .load1 (.t 95), none, []⟩,
        ⟨(some 9), .mov (.t 96), none, []⟩])
    (.seq (.dreg [⟨(some 98), .loadn 4 (.t 4), none, []⟩,
        ⟨(some 99), .mov (.t 2), none, []⟩,
        ⟨(some 100), .mov (.t 10), none, []⟩,
        ⟨(some 101), .iaddr 1 (.t 99) (.t 100), none, [2, 1]⟩,
        ⟨(some 102), .load1 (.t 101), none, [1, 2, 3]⟩,
        ⟨(some 103), .call (.c (.fn 13 [] [])) [.t 98, .t 102], none, [3, 2, 1, 4, 0]⟩,
        ⟨(some 97), .mov (.t 103), none, [0, 4, 1, 2, 3, 5]⟩,
        ⟨(some 104), .extract (.t 97) 0, none, [5, 3, 2, 1, 4, 0, 6]⟩,
        ⟨(some 105), .extract (.t 97) 1, none, [5, 3, 2, 1, 4, 0, 6]⟩,
        ⟨(some 11), .mov (.t 104), none, [6, 4, 3, 2, 1, 0, 5, 7]⟩,
        ⟨(some 12), .mov (.t 105), none, [7, 6, 5, 4, 3, 2, 1, 0, 9, 8]⟩])
    (.seq (.dreg [⟨(some 107), .loadn 4 (.t 4), none, []⟩,
        ⟨(some 108), .mov (.t 2), none, []⟩,
        ⟨(some 109), .mov (.t 10), none, []⟩,
        ⟨(some 110), .iaddr 1 (.t 108) (.t 109), none, [2, 1]⟩,
        ⟨(some 111), .load1 (.t 110), none, [1, 2, 3]⟩,
        ⟨(some 112), .un .neg (.t 111), none, [3, 2, 1, 4]⟩,
        ⟨(some 113), .call (.c (.fn 13 [] [])) [.t 107, .t 112], none, [4, 1, 2, 3, 5, 0]⟩,
        ⟨(some 106), .mov (.t 113), none, [0, 5, 3, 2, 1, 4, 6]⟩,
        ⟨(some 114), .extract (.t 106) 0, none, [6, 4, 1, 2, 3, 5, 0, 7]⟩,
        ⟨(some 115), .extract (.t 106) 1, none, [6, 4, 1, 2, 3, 5, 0, 7]⟩,
        ⟨(some 13), .mov (.t 114), none, [7, 5, 4, 3, 2, 1, 0, 6, 8]⟩,
        ⟨(some 14), .mov (.t 115), none, [8, 7, 6, 5, 4, 3, 2, 1, 0, 10, 9]⟩])
    (.seq (.reg [⟨(some 116), .mov (.t 12), none, []⟩,
        ⟨(some 117), .bin .neq (.t 116) (.c (.int .i64 0)), none, []⟩,
        ⟨(some 118), .mov (.t 117), none, []⟩,
        ⟨(some 119), .mov (.t 14), (some (118, false)), []⟩,
        ⟨(some 120), .bin .neq (.t 119) (.c (.int .i64 0)), (some (118, false)), []⟩,
        ⟨(some 121), .pick (.t 118) (.c (.bool true)) (.t 120), none, []⟩,
        ⟨(some 122), .mov (.t 121), none, []⟩,
        ⟨(some 123), .mov (.t 11), (some (122, false)), []⟩,
        ⟨(some 124), .call (.c (.fn 29 [] [])) [.t 123, .c (.int .i64 (-1099511627776)), .c (.int .i64 1099511627776)], (some (122, false)), []⟩,
        ⟨(some 125), .un .not (.t 124), (some (122, false)), []⟩,
        ⟨(some 126), .pick (.t 122) (.c (.bool true)) (.t 125), none, []⟩,
        ⟨(some 127), .mov (.t 126), none, []⟩,
        ⟨(some 128), .mov (.t 13), (some (127, false)), []⟩,
        ⟨(some 129), .call (.c (.fn 29 [] [])) [.t 128, .c (.int .i64 (-1099511627776)), .c (.int .i64 1099511627776)], (some (127, false)), []⟩,
        ⟨(some 130), .un .not (.t 129), (some (127, false)), []⟩,
        ⟨(some 131), .pick (.t 127) (.c (.bool true)) (.t 130), none, []⟩,
        ⟨(some 132), .mov (.t 131), none, []⟩,
        ⟨(some 133), .mov (.t 11), (some (132, false)), []⟩,
        ⟨(some 134), .faddr 3 (.t 4), (some (132, false)), []⟩,
        ⟨(some 135), .load1 (.t 134), (some (132, false)), []⟩,
        ⟨(some 136), .bin .sub (.t 133) (.t 135), (some (132, false)), []⟩,
        ⟨(some 137), .faddr 3 (.t 4), (some (132, false)), []⟩,
        ⟨(some 138), .load1 (.t 137), (some (132, false)), []⟩,
        ⟨(some 139), .mov (.t 13), (some (132, false)), []⟩,
        ⟨(some 140), .bin .sub (.t 138) (.t 139), (some (132, false)), []⟩,
        ⟨(some 141), .bin .neq (.t 136) (.t 140), (some (132, false)), []⟩,
        ⟨(some 142), .pick (.t 132) (.c (.bool true)) (.t 141), none, []⟩,
        ⟨(some 143), .mov (.t 142), none, []⟩,
        ⟨(some 144), .mov (.t 2), (some (143, false)), []⟩,
        ⟨(some 145), .mov (.t 10), (some (143, false)), []⟩,
        ⟨(some 146), .iaddr 1 (.t 144) (.t 145), (some (143, false)), []⟩,
        ⟨(some 147), .load1 (.t 146), (some (143, false)), []⟩,
        ⟨(some 148), .bin .geq (.t 147) (.c (.int .i64 0)), (some (143, false)), []⟩,
        ⟨(some 149), .mov (.t 148), (some (143, false)), []⟩,
        ⟨(some 150), .mov (.t 11), (some (149, true)), []⟩,
        ⟨(some 151), .faddr 3 (.t 4), (some (149, true)), []⟩,
        ⟨(some 152), .load1 (.t 151), (some (149, true)), []⟩,
        ⟨(some 153), .bin .gtr (.t 150) (.t 152), (some (149, true)), []⟩,
        ⟨(some 154), .pick (.t 149) (.t 153) (.c (.bool false)), (some (143, false)), []⟩,
        ⟨(some 155), .pick (.t 143) (.c (.bool true)) (.t 154), none, []⟩])
    (.cond (.t 155) (.seq (.reg [⟨(some 6), .mov (.c (.bool false)), none, []⟩])
      (.ret)) .skip)))))))
  (.reg [⟨(some 65), .mov (.t 10), none, []⟩,
      ⟨(some 66), .bin .add (.t 65) (.c (.int .i64 1)), none, []⟩,
      ⟨(some 10), .mov (.t 66), none, []⟩]))
def xf5l1 : XCode := .seq (.seq (.reg [⟨(some 184), .mov (.t 19), none, []⟩,
      ⟨(some 185), .mov (.t 15), none, []⟩,
      ⟨(some 186), .bin .lss (.t 184) (.t 185), none, []⟩,
      ⟨(some 187), .mov (.t 186), none, []⟩,
      ⟨(some 188), .mov (.t 19), (some (187, true)), []⟩,
      ⟨(some 189), .bin .lss (.t 188) (.c (.int .i64 300)), (some (187, true)), []⟩,
      ⟨(some 190), .pick (.t 187) (.t 189) (.c (.bool false)), none, []⟩])
  (.cond (.t 190) .skip (.exit 2)))
  (.seq (.block 3 (.seq (.seq (.reg [⟨(some 193), .faddr 0 (.t 18), none, []⟩,
        ⟨(some 194), .load1 (.t 193), none, []⟩,
        ⟨(some 195), .mov (.t 17), none, []⟩,
        ⟨(some 196), .bin .eql (.t 194) (.t 195), none, []⟩])
    (.cond (.t 196) (.seq (.reg [⟨(some 6), .mov (.c (.bool false)), none, []⟩])
      (.ret)) .skip))
    (.seq (.dreg [⟨(some 198), .loadn 4 (.t 18), none, []⟩,
        ⟨(some 199), .mov (.t 2), none, []⟩,
        ⟨(some 200), .iaddr 1 (.t 199) (.c (.int .i64 0)), none, [1]⟩,
        ⟨(some 201), .load1 (.t 200), none, [1, 2]⟩,
        ⟨(some 202), .call (.c (.fn 14 [] [])) [.t 198, .t 201], none, [2, 1, 3, 0]⟩,
        ⟨(some 197), .mov (.t 202), none, [0, 3, 1, 2, 4]⟩,
        ⟨(some 203), .extract (.t 197) 0, none, [4, 2, 1, 3, 0, 5]⟩,
        ⟨(some 204), .extract (.t 197) 1, none, [4, 2, 1, 3, 0, 5]⟩,
        ⟨(some 20), .new 23 [.int .i64 0, .int .i64 0, .int .i64 0, .int .i64 0], none, []⟩,
        ⟨none, .store 4 (.t 20) (.t 203), none, [5, 3, 2, 1, 0, 4, 6, 8]⟩,
        ⟨(some 21), .mov (.t 204), none, [8, 6, 5, 4, 3, 2, 1, 0, 9, 7]⟩])
    (.seq (.seq (.reg [⟨(some 205), .mov (.t 21), none, []⟩,
        ⟨(some 206), .bin .neq (.t 205) (.c (.int .i64 0)), none, []⟩,
        ⟨(some 207), .mov (.t 206), none, []⟩,
        ⟨(some 208), .faddr 1 (.t 20), (some (207, false)), []⟩,
        ⟨(some 209), .load1 (.t 208), (some (207, false)), []⟩,
        ⟨(some 210), .faddr 1 (.t 3), (some (207, false)), []⟩,
        ⟨(some 211), .load1 (.t 210), (some (207, false)), []⟩,
        ⟨(some 212), .bin .neq (.t 209) (.t 211), (some (207, false)), []⟩,
        ⟨(some 213), .pick (.t 207) (.c (.bool true)) (.t 212), none, []⟩,
        ⟨(some 214), .mov (.t 213), none, []⟩,
        ⟨(some 215), .faddr 2 (.t 20), (some (214, false)), []⟩,
        ⟨(some 216), .load1 (.t 215), (some (214, false)), []⟩,
        ⟨(some 217), .faddr 2 (.t 3), (some (214, false)), []⟩,
        ⟨(some 218), .load1 (.t 217), (some (214, false)), []⟩,
        ⟨(some 219), .bin .neq (.t 216) (.t 218), (some (214, false)), []⟩,
        ⟨(some 220), .pick (.t 214) (.c (.bool true)) (.t 219), none, []⟩,
        ⟨(some 221), .mov (.t 220), none, []⟩,
        ⟨(some 222), .faddr 3 (.t 20), (some (221, false)), []⟩,
        ⟨(some 223), .load1 (.t 222), (some (221, false)), []⟩,
        ⟨(some 224), .faddr 3 (.t 3), (some (221, false)), []⟩,
        ⟨(some 225), .load1 (.t 224), (some (221, false)), []⟩,
        ⟨(some 226), .bin .neq (.t 223) (.t 225), (some (221, false)), []⟩,
        ⟨(some 227), .pick (.t 221) (.c (.bool true)) (.t 226), none, []⟩,
        ⟨(some 228), .mov (.t 227), none, []⟩,
        ⟨(some 229), .loadn 4 (.t 20), (some (228, false)), []⟩,
        ⟨(some 230), .call (.c (.fn 16 [] [])) [.t 229], (some (228, false)), []⟩,
        ⟨(some 231), .bin .neq (.t 230) (.c (.int .i64 0)), (some (228, false)), []⟩,
        ⟨(some 232), .pick (.t 228) (.c (.bool true)) (.t 231), none, []⟩])
    (.cond (.t 232) (.seq (.reg [⟨(some 6), .mov (.c (.bool false)), none, []⟩])
      (.ret)) .skip))
    (.reg [⟨(some 233), .loadn 4 (.t 20), none, []⟩,
        ⟨none, .store 4 (.t 18) (.t 233), none, []⟩])))))
  (.reg [⟨(some 191), .mov (.t 19), none, []⟩,
      ⟨(some 192), .bin .add (.t 191) (.c (.int .i64 1)), none, []⟩,
      ⟨(some 19), .mov (.t 192), none, []⟩]))
def xf5 : XFunc := ⟨.seq (.reg [⟨(some 3), .box 23 (.t 0), none, []⟩,
      ⟨(some 4), .box 25 (.t 1), none, []⟩,
      ⟨(some 6), .mov (.c (.bool false)), none, []⟩])
  (.seq (.seq (.reg [⟨(some 22), .call (.c (.fn 12 [] [])) [], none, []⟩,
      ⟨(some 23), .un .not (.t 22), none, []⟩])
  (.cond (.t 23) (.seq (.reg [⟨(some 6), .mov (.c (.bool false)), none, []⟩])
    (.ret)) .skip))
  (.seq (.seq (.reg [⟨(some 24), .loadn 4 (.t 3), none, []⟩,
      ⟨(some 25), .call (.c (.fn 16 [] [])) [.t 24], none, []⟩,
      ⟨(some 26), .bin .neq (.t 25) (.c (.int .i64 0)), none, []⟩,
      ⟨(some 27), .mov (.t 26), none, []⟩,
      ⟨(some 28), .loadn 4 (.t 4), (some (27, false)), []⟩,
      ⟨(some 29), .call (.c (.fn 17 [] [])) [.t 28], (some (27, false)), []⟩,
      ⟨(some 30), .bin .neq (.t 29) (.c (.int .i64 0)), (some (27, false)), []⟩,
      ⟨(some 31), .pick (.t 27) (.c (.bool true)) (.t 30), none, []⟩,
      ⟨(some 32), .mov (.t 31), none, []⟩,
      ⟨(some 33), .mov (.t 2), (some (32, false)), []⟩,
      ⟨(some 34), .len (.t 33), (some (32, false)), []⟩,
      ⟨(some 35), .bin .gtr (.t 34) (.c (.int .i64 60)), (some (32, false)), []⟩,
      ⟨(some 36), .pick (.t 32) (.c (.bool true)) (.t 35), none, []⟩,
      ⟨(some 37), .mov (.t 36), none, []⟩,
      ⟨(some 38), .mov (.t 2), (some (37, false)), []⟩,
      ⟨(some 39), .call (.c (.fn 26 [] [])) [.t 38], (some (37, false)), []⟩,
      ⟨(some 40), .bin .neq (.t 39) (.c (.int .i64 0)), (some (37, false)), []⟩,
      ⟨(some 41), .pick (.t 37) (.c (.bool true)) (.t 40), none, []⟩])
  (.cond (.t 41) (.seq (.reg [⟨(some 6), .mov (.c (.bool true)), none, []⟩])
    (.ret)) .skip))
  (.seq (.dreg [⟨(some 43), .loadn 4 (.t 3), none, []⟩,
      ⟨(some 44), .loadn 4 (.t 4), none, []⟩,
      ⟨(some 45), .mov (.t 2), none, []⟩,
      ⟨(some 46), .call (.c (.fn 25 [] [])) [.t 45], none, [2]⟩,
      ⟨(some 47), .call (.c (.fn 24 [] [])) [.t 43, .t 44, .t 46], none, [2, 3, 1, 0]⟩,
      ⟨(some 42), .mov (.t 47), none, [0, 1, 3, 2, 4]⟩,
      ⟨(some 48), .extract (.t 42) 0, none, [4, 2, 3, 1, 0, 5]⟩,
      ⟨(some 49), .extract (.t 42) 1, none, [4, 2, 3, 1, 0, 5]⟩,
      ⟨(some 7), .mov (.t 48), none, [5, 3, 2, 1, 0, 4, 6]⟩,
      ⟨(some 8), .mov (.t 49), none, [6, 5, 4, 3, 2, 1, 0, 8, 7]⟩])
  (.seq (.seq (.reg [⟨(some 50), .mov (.t 8), none, []⟩,
      ⟨(some 51), .bin .neq (.t 50) (.c (.int .i64 0)), none, []⟩,
      ⟨(some 52), .mov (.t 51), none, []⟩,
      ⟨(some 53), .mov (.t 7), (some (52, false)), []⟩,
      ⟨(some 54), .len (.t 53), (some (52, false)), []⟩,
      ⟨(some 55), .mov (.t 2), (some (52, false)), []⟩,
      ⟨(some 56), .len (.t 55), (some (52, false)), []⟩,
      ⟨(some 57), .bin .neq (.t 54) (.t 56), (some (52, false)), []⟩,
      ⟨(some 58), .pick (.t 52) (.c (.bool true)) (.t 57), none, []⟩])
  (.cond (.t 58) (.seq (.reg [⟨(some 6), .mov (.c (.bool false)), none, []⟩])
    (.ret)) .skip))
  (.seq (.reg [⟨(some 59), .faddr 0 (.t 3), none, []⟩,
      ⟨(some 60), .load1 (.t 59), none, []⟩,
      ⟨(some 9), .mov (.t 60), none, []⟩])
  (.seq (.seq (.reg [⟨(some 10), .mov (.c (.int .i64 0)), none, []⟩])
  (.block 0 (.loop xf5l0)))
  (.seq (.seq (.reg [⟨(some 156), .mov (.t 2), none, []⟩,
      ⟨(some 157), .len (.t 156), none, []⟩,
      ⟨(some 158), .bin .eql (.t 157) (.c (.int .i64 0)), none, []⟩])
  (.cond (.t 158) (.seq (.reg [⟨(some 6), .mov (.c (.bool true)), none, []⟩])
    (.ret)) .skip))
  (.seq (.dreg [⟨(some 160), .loadn 4 (.t 3), none, []⟩,
      ⟨(some 161), .mov (.t 2), none, []⟩,
      ⟨(some 162), .iaddr 1 (.t 161) (.c (.int .i64 0)), none, [1]⟩,
      ⟨(some 163), .load1 (.t 162), none, [1, 2]⟩,
      ⟨(some 164), .call (.c (.fn 15 [] [])) [.t 160, .t 163], none, [2, 1, 3, 0]⟩,
      ⟨(some 159), .mov (.t 164), none, [0, 3, 1, 2, 4]⟩,
      ⟨(some 165), .extract (.t 159) 0, none, [4, 2, 1, 3, 0, 5]⟩,
      ⟨(some 166), .extract (.t 159) 1, none, [4, 2, 1, 3, 0, 5]⟩,
      ⟨(some 15), .mov (.t 165), none, [5, 3, 2, 1, 0, 4, 6]⟩,
      ⟨(some 16), .mov (.t 166), none, [6, 5, 4, 3, 2, 1, 0, 8, 7]⟩])
  (.seq (.seq (.reg [⟨(some 167), .mov (.t 16), none, []⟩,
      ⟨(some 168), .bin .neq (.t 167) (.c (.int .i64 0)), none, []⟩,
      ⟨(some 169), .mov (.t 168), none, []⟩,
      ⟨(some 170), .mov (.t 15), (some (169, false)), []⟩,
      ⟨(some 171), .call (.c (.fn 29 [] [])) [.t 170, .c (.int .i64 0), .c (.int .i64 10000)], (some (169, false)), []⟩,
      ⟨(some 172), .un .not (.t 171), (some (169, false)), []⟩,
      ⟨(some 173), .pick (.t 169) (.c (.bool true)) (.t 172), none, []⟩])
  (.cond (.t 173) (.seq (.reg [⟨(some 6), .mov (.c (.bool false)), none, []⟩])
    (.ret)) .skip))
  (.seq (.dreg [⟨(some 174), .mov (.t 2), none, []⟩,
      ⟨(some 175), .iaddr 1 (.t 174) (.c (.int .i64 0)), none, [0]⟩,
      ⟨(some 176), .load1 (.t 175), none, [0, 1]⟩,
      ⟨(some 177), .faddr 1 (.t 3), none, []⟩,
      ⟨(some 178), .load1 (.t 177), none, [3]⟩,
      ⟨(some 179), .ext true (.t 176) [.t 178], none, [3, 1, 0, 4, 2]⟩,
      ⟨(some 180), .faddr 2 (.t 3), none, []⟩,
      ⟨(some 181), .load1 (.t 180), none, [6]⟩,
      ⟨(some 182), .ext false (.t 179) [.t 181], none, [6, 2, 4, 0, 1, 3, 7, 5]⟩,
      ⟨(some 17), .mov (.t 182), none, [7, 6, 5, 4, 3, 2, 1, 0, 8]⟩])
  (.seq (.reg [⟨(some 183), .loadn 4 (.t 3), none, []⟩,
      ⟨(some 18), .new 23 [.int .i64 0, .int .i64 0, .int .i64 0, .int .i64 0], none, []⟩,
      ⟨none, .store 4 (.t 18) (.t 183), none, []⟩])
  (.seq (.seq (.reg [⟨(some 19), .mov (.c (.int .i64 0)), none, []⟩])
  (.block 2 (.loop xf5l1)))
  (.seq (.reg [⟨(some 234), .mov (.t 15), none, []⟩,
      ⟨(some 235), .bin .gtr (.t 234) (.c (.int .i64 300)), none, []⟩,
      ⟨(some 236), .mov (.t 235), none, []⟩,
      ⟨(some 237), .faddr 0 (.t 18), (some (236, false)), []⟩,
      ⟨(some 238), .load1 (.t 237), (some (236, false)), []⟩,
      ⟨(some 239), .mov (.t 17), (some (236, false)), []⟩,
      ⟨(some 240), .bin .eql (.t 238) (.t 239), (some (236, false)), []⟩,
      ⟨(some 241), .pick (.t 236) (.c (.bool true)) (.t 240), none, []⟩,
      ⟨(some 6), .mov (.t 241), none, []⟩])
  (.ret)))))))))))))), 242, [.t 6]⟩
def xf25 : XFunc := ⟨.seq (.reg [⟨(some 2), .mov (.c .nils), none, []⟩])
  (.seq (.reg [⟨(some 3), .buildSlice 3 1 0 false [] [], none, []⟩,
      ⟨(some 4), .mov (.t 0), none, []⟩,
      ⟨(some 5), .appendV 3 1 8 (.t 3) (.t 4), none, []⟩,
      ⟨(some 2), .mov (.t 5), none, []⟩])
  (.ret)), 6, [.t 2]⟩
def xf124l0 : XCode := .seq (.reg [⟨(some 12), .bin .lss (.t 11) (.t 10), none, []⟩])
  (.seq (.cond (.t 12) .skip (.exit 0))
  (.seq (.block 1 (.seq (.reg [⟨(some 13), .mov (.t 11), none, []⟩,
        ⟨(some 14), .iaddr 1 (.t 9) (.t 11), none, []⟩,
        ⟨(some 15), .load1 (.t 14), none, []⟩,
        ⟨(some 6), .mov (.t 13), none, []⟩,
        ⟨(some 7), .mov (.t 15), none, []⟩])
    (.seq (.reg [⟨(some 16), .mov (.t 1), none, []⟩,
        ⟨(some 17), .mov (.t 7), none, []⟩,
        ⟨(some 18), .call (.t 16) [.t 17], none, []⟩,
        ⟨(some 8), .mov (.t 18), none, []⟩])
    (.seq (.reg [⟨(some 19), .mov (.t 8), none, []⟩,
        ⟨(some 20), .bin .neq (.t 19) (.c (.int .i64 0)), none, []⟩])
    (.cond (.t 20) (.seq (.reg [⟨(some 21), .mov (.t 6), none, []⟩,
          ⟨(some 22), .mov (.t 8), none, []⟩,
          ⟨(some 4), .mov (.t 21), none, []⟩,
          ⟨(some 5), .mov (.t 22), none, []⟩])
      (.ret)) .skip)))))
  (.reg [⟨(some 23), .bin .add (.t 11) (.c (.int .i64 1)), none, []⟩,
      ⟨(some 11), .mov (.t 23), none, []⟩])))
def xf124 : XFunc := ⟨.seq (.reg [⟨(some 4), .mov (.c (.int .i64 0)), none, []⟩,
      ⟨(some 5), .mov (.c (.int .i64 0)), none, []⟩])
  (.seq (.seq (.reg [⟨(some 9), .mov (.t 0), none, []⟩,
      ⟨(some 10), .len (.t 9), none, []⟩,
      ⟨(some 11), .mov (.c (.int .i64 0)), none, []⟩])
  (.block 0 (.loop xf124l0)))
  (.seq (.reg [⟨(some 4), .mov (.c (.int .i64 0)), none, []⟩,
      ⟨(some 5), .mov (.c (.int .i64 0)), none, []⟩])
  (.ret))), 24, [.t 4, .t 5]⟩
def xf82 : XFunc := ⟨.seq (.reg [⟨(some 4), .mov (.c (.int .i64 0)), none, []⟩])
  (.seq (.reg [⟨(some 8), .mov (.t 0), none, []⟩,
      ⟨(some 9), .mov (.t 1), none, []⟩,
      ⟨(some 10), .call (.c (.fn 124 [] [])) [.t 8, .t 9], none, []⟩,
      ⟨(some 7), .mov (.t 10), none, []⟩,
      ⟨(some 11), .extract (.t 7) 0, none, []⟩,
      ⟨(some 12), .extract (.t 7) 1, none, []⟩,
      ⟨(some 5), .mov (.t 11), none, []⟩,
      ⟨(some 6), .mov (.t 12), none, []⟩])
  (.seq (.reg [⟨(some 13), .mov (.t 6), none, []⟩,
      ⟨(some 4), .mov (.t 13), none, []⟩])
  (.ret))), 14, [.t 4]⟩
def xf81 : XFunc := ⟨.seq (.reg [⟨(some 4), .mov (.c (.int .i64 0)), none, []⟩])
  (.seq (.reg [⟨(some 5), .mov (.t 0), none, []⟩,
      ⟨(some 6), .len (.t 5), none, []⟩,
      ⟨(some 7), .mov (.t 1), none, []⟩,
      ⟨(some 8), .bin .leq (.t 6) (.t 7), none, []⟩,
      ⟨(some 9), .call (.c (.fn 79 [] [])) [.t 8, .c (.int .i64 8)], none, []⟩,
      ⟨(some 4), .mov (.t 9), none, []⟩])
  (.ret)), 10, [.t 4]⟩
def xf24l0 : XCode := .seq (.reg [⟨(some 28), .bin .lss (.t 27) (.t 26), none, []⟩])
  (.seq (.cond (.t 28) .skip (.exit 0))
  (.seq (.block 1 (.seq (.reg [⟨(some 29), .iaddr 1 (.t 25) (.t 27), none, []⟩,
        ⟨(some 30), .load1 (.t 29), none, []⟩,
        ⟨(some 11), .mov (.t 30), none, []⟩])
    (.seq (.dreg [⟨(some 31), .loadn 4 (.t 3), none, []⟩,
        ⟨(some 32), .loadn 4 (.t 4), none, []⟩,
        ⟨(some 33), .mov (.t 11), none, []⟩,
        ⟨(some 34), .call (.c (.fn 73 [] [])) [.t 32, .t 33], none, [2, 1]⟩,
        ⟨(some 35), .call (.c (.fn 74 [] [])) [.t 31, .t 34], none, [1, 2, 3, 0]⟩,
        ⟨none, .store 4 (.t 3) (.t 35), none, [3, 2, 1, 0, 4]⟩])
    (.reg [⟨(some 36), .mov (.t 9), none, []⟩,
        ⟨(some 37), .faddr 0 (.t 3), none, []⟩,
        ⟨(some 38), .load1 (.t 37), none, []⟩,
        ⟨(some 39), .buildSlice 3 1 1 false [.int .i64 0] [(0, 1, .t 38)], none, []⟩,
        ⟨(some 40), .appendV 3 1 8 (.t 36) (.t 39), none, []⟩,
        ⟨(some 9), .mov (.t 40), none, []⟩]))))
  (.reg [⟨(some 41), .bin .add (.t 27) (.c (.int .i64 1)), none, []⟩,
      ⟨(some 27), .mov (.t 41), none, []⟩])))
def xf24 : XFunc := ⟨.seq (.reg [⟨(some 3), .box 23 (.t 0), none, []⟩,
      ⟨(some 4), .box 25 (.t 1), none, []⟩,
      ⟨(some 6), .mov (.c .nils), none, []⟩,
      ⟨(some 7), .mov (.c (.int .i64 0)), none, []⟩])
  (.seq (.seq (.dreg [⟨(some 12), .loadn 4 (.t 3), none, []⟩,
      ⟨(some 13), .call (.c (.fn 18 [] [])) [.t 12], none, [0]⟩,
      ⟨(some 14), .loadn 4 (.t 4), none, []⟩,
      ⟨(some 15), .call (.c (.fn 19 [] [])) [.t 14], none, [0, 1, 2]⟩,
      ⟨(some 16), .mov (.t 2), none, []⟩,
      ⟨(some 17), .call (.c (.fn 81 [] [])) [.t 16, .c (.int .i64 200)], none, [2, 1, 0, 3, 4]⟩,
      ⟨(some 18), .mov (.t 2), none, []⟩,
      ⟨(some 19), .call (.c (.fn 82 [] [])) [.t 18, .c (.fn 72 [] [])], none, [4, 3, 0, 1, 2, 5, 6]⟩,
      ⟨(some 20), .buildSlice 27 1 4 false [.int .i64 0, .int .i64 0, .int .i64 0, .int .i64 0] [(0, 1, .t 13), (1, 1, .t 15), (2, 1, .t 17), (3, 1, .t 19)], none, [6, 4, 2, 0, 7, 5, 3, 1]⟩,
      ⟨(some 21), .call (.c (.fn 71 [] [])) [.t 20], none, [1, 3, 5, 0, 2, 4, 6, 7, 8]⟩,
      ⟨(some 8), .mov (.t 21), none, [8, 7, 6, 5, 4, 3, 2, 1, 0, 9]⟩])
  (.seq (.reg [⟨(some 22), .mov (.t 8), none, []⟩,
      ⟨(some 23), .bin .neq (.t 22) (.c (.int .i64 0)), none, []⟩])
  (.cond (.t 23) (.seq (.reg [⟨(some 24), .mov (.t 8), none, []⟩,
        ⟨(some 6), .mov (.c .nils), none, []⟩,
        ⟨(some 7), .mov (.t 24), none, []⟩])
    (.ret)) .skip)))
  (.seq (.reg [⟨(some 9), .mov (.c .nils), none, []⟩])
  (.seq (.seq (.reg [⟨(some 25), .mov (.t 2), none, []⟩,
      ⟨(some 26), .len (.t 25), none, []⟩,
      ⟨(some 27), .mov (.c (.int .i64 0)), none, []⟩])
  (.block 0 (.loop xf24l0)))
  (.seq (.reg [⟨(some 42), .mov (.t 9), none, []⟩,
      ⟨(some 6), .mov (.t 42), none, []⟩,
      ⟨(some 7), .mov (.c (.int .i64 0)), none, []⟩])
  (.ret))))), 43, [.t 6, .t 7]⟩
def xf26l0 : XCode := .seq (.seq (.reg [⟨(some 8), .mov (.t 3), none, []⟩,
      ⟨(some 9), .mov (.t 0), none, []⟩,
      ⟨(some 10), .len (.t 9), none, []⟩,
      ⟨(some 11), .bin .lss (.t 8) (.t 10), none, []⟩])
  (.cond (.t 11) .skip (.exit 0)))
  (.seq (.block 1 (.seq (.reg [⟨(some 14), .mov (.t 0), none, []⟩,
        ⟨(some 15), .mov (.t 3), none, []⟩,
        ⟨(some 16), .iaddr 1 (.t 14) (.t 15), none, []⟩,
        ⟨(some 17), .load1 (.t 16), none, []⟩,
        ⟨(some 18), .call (.c (.fn 20 [] [])) [.t 17], none, []⟩,
        ⟨(some 4), .mov (.t 18), none, []⟩])
    (.seq (.reg [⟨(some 19), .mov (.t 4), none, []⟩,
        ⟨(some 20), .bin .neq (.t 19) (.c (.int .i64 0)), none, []⟩])
    (.cond (.t 20) (.seq (.reg [⟨(some 21), .mov (.t 4), none, []⟩,
          ⟨(some 2), .mov (.t 21), none, []⟩])
      (.ret)) .skip))))
  (.reg [⟨(some 12), .mov (.t 3), none, []⟩,
      ⟨(some 13), .bin .add (.t 12) (.c (.int .i64 1)), none, []⟩,
      ⟨(some 3), .mov (.t 13), none, []⟩]))
def xf26 : XFunc := ⟨.seq (.reg [⟨(some 2), .mov (.c (.int .i64 0)), none, []⟩])
  (.seq (.seq (.reg [⟨(some 5), .mov (.t 0), none, []⟩,
      ⟨(some 6), .len (.t 5), none, []⟩,
      ⟨(some 7), .bin .gtr (.t 6) (.c (.int .i64 200)), none, []⟩])
  (.cond (.t 7) (.seq (.reg [⟨(some 2), .mov (.c (.int .i64 8)), none, []⟩])
    (.ret)) .skip))
  (.seq (.seq (.reg [⟨(some 3), .mov (.c (.int .i64 0)), none, []⟩])
  (.block 0 (.loop xf26l0)))
  (.seq (.reg [⟨(some 2), .mov (.c (.int .i64 0)), none, []⟩])
  (.ret)))), 22, [.t 2]⟩
def xf28l0 : XCode := .seq (.seq (.reg [⟨(some 9), .mov (.t 8), none, []⟩,
      ⟨(some 10), .mov (.t 2), none, []⟩,
      ⟨(some 11), .len (.t 10), none, []⟩,
      ⟨(some 12), .bin .lss (.t 9) (.t 11), none, []⟩])
  (.cond (.t 12) .skip (.exit 0)))
  (.seq (.block 1 (.seq (.dreg [⟨(some 15), .loadn 4 (.t 3), none, []⟩,
        ⟨(some 16), .loadn 4 (.t 4), none, []⟩,
        ⟨(some 17), .mov (.t 2), none, []⟩,
        ⟨(some 18), .mov (.t 8), none, []⟩,
        ⟨(some 19), .iaddr 1 (.t 17) (.t 18), none, [3, 2]⟩,
        ⟨(some 20), .load1 (.t 19), none, [2, 3, 4]⟩,
        ⟨(some 21), .call (.c (.fn 21 [] [])) [.t 16, .t 20], none, [4, 3, 2, 5, 1]⟩,
        ⟨(some 22), .call (.c (.fn 22 [] [])) [.t 15, .t 21], none, [1, 5, 2, 3, 4, 6, 0]⟩,
        ⟨none, .store 4 (.t 3) (.t 22), none, [6, 5, 4, 3, 2, 1, 0, 7]⟩])
    (.reg [⟨(some 23), .mov (.t 7), none, []⟩,
        ⟨(some 24), .faddr 0 (.t 3), none, []⟩,
        ⟨(some 25), .load1 (.t 24), none, []⟩,
        ⟨(some 26), .buildSlice 3 1 1 false [.int .i64 0] [(0, 1, .t 25)], none, []⟩,
        ⟨(some 27), .appendV 3 1 8 (.t 23) (.t 26), none, []⟩,
        ⟨(some 7), .mov (.t 27), none, []⟩])))
  (.reg [⟨(some 13), .mov (.t 8), none, []⟩,
      ⟨(some 14), .bin .add (.t 13) (.c (.int .i64 1)), none, []⟩,
      ⟨(some 8), .mov (.t 14), none, []⟩]))
def xf28 : XFunc := ⟨.seq (.reg [⟨(some 3), .box 23 (.t 0), none, []⟩,
      ⟨(some 4), .box 25 (.t 1), none, []⟩,
      ⟨(some 6), .mov (.c .nils), none, []⟩])
  (.seq (.reg [⟨(some 7), .mov (.c .nils), none, []⟩])
  (.seq (.seq (.reg [⟨(some 8), .mov (.c (.int .i64 0)), none, []⟩])
  (.block 0 (.loop xf28l0)))
  (.seq (.reg [⟨(some 28), .mov (.t 7), none, []⟩,
      ⟨(some 6), .mov (.t 28), none, []⟩])
  (.ret)))), 29, [.t 6]⟩
def xf27l0 : XCode := .seq (.seq (.reg [⟨(some 11), .mov (.t 5), none, []⟩,
      ⟨(some 12), .mov (.t 0), none, []⟩,
      ⟨(some 13), .len (.t 12), none, []⟩,
      ⟨(some 14), .bin .lss (.t 11) (.t 13), none, []⟩])
  (.cond (.t 14) .skip (.exit 0)))
  (.seq (.block 1 (.seq (.dreg [⟨(some 17), .mov (.t 0), none, []⟩,
        ⟨(some 18), .mov (.t 5), none, []⟩,
        ⟨(some 19), .iaddr 1 (.t 17) (.t 18), none, [1, 0]⟩,
        ⟨(some 20), .load1 (.t 19), none, [0, 1, 2]⟩,
        ⟨(some 21), .mov (.t 1), none, []⟩,
        ⟨(some 22), .mov (.t 5), none, []⟩,
        ⟨(some 23), .iaddr 1 (.t 21) (.t 22), none, [5, 4]⟩,
        ⟨(some 24), .load1 (.t 23), none, [4, 5, 6]⟩,
        ⟨(some 25), .bin .neq (.t 20) (.t 24), none, [6, 5, 4, 2, 1, 0, 7, 3]⟩])
    (.cond (.t 25) (.seq (.reg [⟨(some 4), .mov (.c (.bool false)), none, []⟩])
      (.ret)) .skip)))
  (.reg [⟨(some 15), .mov (.t 5), none, []⟩,
      ⟨(some 16), .bin .add (.t 15) (.c (.int .i64 1)), none, []⟩,
      ⟨(some 5), .mov (.t 16), none, []⟩]))
def xf27 : XFunc := ⟨.seq (.reg [⟨(some 4), .mov (.c (.bool false)), none, []⟩])
  (.seq (.seq (.reg [⟨(some 6), .mov (.t 0), none, []⟩,
      ⟨(some 7), .len (.t 6), none, []⟩,
      ⟨(some 8), .mov (.t 1), none, []⟩,
      ⟨(some 9), .len (.t 8), none, []⟩,
      ⟨(some 10), .bin .neq (.t 7) (.t 9), none, []⟩])
  (.cond (.t 10) (.seq (.reg [⟨(some 4), .mov (.c (.bool false)), none, []⟩])
    (.ret)) .skip))
  (.seq (.seq (.reg [⟨(some 5), .mov (.c (.int .i64 0)), none, []⟩])
  (.block 0 (.loop xf27l0)))
  (.seq (.reg [⟨(some 4), .mov (.c (.bool true)), none, []⟩])
  (.ret)))), 26, [.t 4]⟩
structure GvACode (X : FuncId → Option XFunc) : Prop where
  h29 : X 29 = some xf29
  h80 : X 80 = some xf80
  h79 : X 79 = some xf79
  h78 : X 78 = some xf78
  h98 : X 98 = some xf98
  h77 : X 77 = some xf77
  h72 : X 72 = some xf72
  h20 : X 20 = some xf20
  h75 : X 75 = some xf75
  h123 : X 123 = some xf123
  h71 : X 71 = some xf71
  h18 : X 18 = some xf18
  h19 : X 19 = some xf19
  h16 : X 16 = some xf16
  h17 : X 17 = some xf17
  h73 : X 73 = some xf73
  h21 : X 21 = some xf21
  h76 : X 76 = some xf76
  h74 : X 74 = some xf74
  h22 : X 22 = some xf22
  h13 : X 13 = some xf13
  h14 : X 14 = some xf14
  h15 : X 15 = some xf15
  h23 : X 23 = some xf23
  h3 : X 3 = some xf3
  h4 : X 4 = some xf4
  h5 : X 5 = some xf5
  h25 : X 25 = some xf25
  h124 : X 124 = some xf124
  h82 : X 82 = some xf82
  h81 : X 81 = some xf81
  h24 : X 24 = some xf24
  h26 : X 26 = some xf26
  h28 : X 28 = some xf28
  h27 : X 27 = some xf27
end Go.Proofs.YtenlllgjfbifbaaGreat.Eng
