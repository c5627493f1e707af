/-
  CODE of LawC.
-/
import Derived.Test.YtbpflcilndinfaaEngY
import Derived.Test.YtbpflcilndinfaaCode1
namespace Go.Proofs.Ytbpflcilndinfaa.Eng
set_option linter.unusedSimpArgs false
set_option linter.unusedVariables false
def xf9l0 : XCode := .seq (.seq (.reg [⟨(some 89), .mov (.t 12), none, []⟩,
      ⟨(some 90), .mov (.t 9), none, []⟩,
      ⟨(some 91), .len (.t 90), none, []⟩,
      ⟨(some 92), .bin .lss (.t 89) (.t 91), none, []⟩])
  (.cond (.t 92) .skip (.exit 0)))
  (.seq (.block 1 (.seq (.seq (.dreg [⟨(some 95), .mov (.t 9), none, []⟩,
        ⟨(some 96), .mov (.t 12), none, []⟩,
        ⟨(some 97), .iaddr 1 (.t 95) (.t 96), none, [1, 0]⟩,
        ⟨(some 98), .load1 (.t 97), none, [0, 1, 2]⟩,
        ⟨(some 99), .faddr 0 (.t 5), none, []⟩,
        ⟨(some 100), .load1 (.t 99), none, [4]⟩,
        ⟨(some 101), .len (.t 100), none, [4, 5]⟩,
        ⟨(some 102), .bin .sub (.t 101) (.c (.int .i64 1)), none, [5, 4, 6]⟩,
        ⟨(some 103), .call (.c (.fn 25 [] [])) [.t 98, .c (.int .i64 0), .t 102], none, [6, 4, 5, 2, 1, 0, 7, 3]⟩,
        ⟨(some 104), .un .not (.t 103), none, [3, 7, 0, 1, 2, 5, 4, 6, 8]⟩,
        ⟨(some 105), .mov (.t 104), none, [6, 4, 5, 2, 1, 0, 7, 3, 8, 9]⟩,
        ⟨(some 106), .mov (.t 12), (some (105, false)), [9, 8, 3, 7, 0, 1, 2, 5, 4, 6, 10]⟩,
        ⟨(some 107), .bin .gtr (.t 106) (.c (.int .i64 0)), (some (105, false)), [6, 4, 5, 2, 1, 0, 7, 3, 8, 9, 10, 11]⟩,
        ⟨(some 108), .mov (.t 107), (some (105, false)), [11, 9, 8, 3, 7, 0, 1, 2, 5, 4, 6, 10, 12]⟩,
        ⟨(some 109), .mov (.t 9), (some (108, true)), [12, 10, 6, 4, 5, 2, 1, 0, 7, 3, 8, 9, 11, 13]⟩,
        ⟨(some 110), .mov (.t 12), (some (108, true)), [12, 10, 6, 4, 5, 2, 1, 0, 7, 3, 8, 9, 11, 13]⟩,
        ⟨(some 111), .iaddr 1 (.t 109) (.t 110), (some (108, true)), [11, 9, 8, 3, 7, 0, 1, 2, 5, 4, 6, 10, 12, 13, 15, 14]⟩,
        ⟨(some 112), .load1 (.t 111), (some (108, true)), [14, 15, 12, 10, 6, 4, 5, 2, 1, 0, 7, 3, 8, 9, 11, 13, 16]⟩,
        ⟨(some 113), .mov (.t 9), (some (108, true)), [12, 10, 6, 4, 5, 2, 1, 0, 7, 3, 8, 9, 11, 13]⟩,
        ⟨(some 114), .mov (.t 12), (some (108, true)), [12, 10, 6, 4, 5, 2, 1, 0, 7, 3, 8, 9, 11, 13]⟩,
        ⟨(some 115), .bin .sub (.t 114) (.c (.int .i64 1)), (some (108, true)), [11, 9, 8, 3, 7, 0, 1, 2, 5, 4, 6, 10, 12, 13, 19]⟩,
        ⟨(some 116), .iaddr 1 (.t 113) (.t 115), (some (108, true)), [19, 11, 9, 8, 3, 7, 0, 1, 2, 5, 4, 6, 10, 12, 13, 20, 18]⟩,
        ⟨(some 117), .load1 (.t 116), (some (108, true)), [18, 20, 12, 10, 6, 4, 5, 2, 1, 0, 7, 3, 8, 9, 11, 19, 13, 21]⟩,
        ⟨(some 118), .bin .leq (.t 112) (.t 117), (some (108, true)), [21, 19, 20, 18, 16, 11, 9, 8, 3, 7, 0, 1, 2, 5, 4, 6, 10, 12, 15, 14, 13, 22, 17]⟩,
        ⟨(some 119), .pick (.t 108) (.t 118) (.c (.bool false)), (some (105, false)), [17, 22, 14, 15, 16, 18, 20, 19, 21, 12, 6, 4, 5, 2, 1, 0, 7, 3, 8, 9, 11, 10, 23, 13]⟩,
        ⟨(some 120), .pick (.t 105) (.c (.bool true)) (.t 119), none, [13, 23, 11, 12, 21, 19, 20, 18, 16, 15, 14, 22, 17, 9, 8, 3, 7, 0, 1, 2, 5, 4, 6, 24, 10]⟩])
    (.cond (.t 120) (.seq (.reg [⟨(some 6), .mov (.c (.bool false)), none, []⟩])
      (.ret)) .skip))
    (.seq (.dreg [⟨(some 121), .mov (.t 11), none, []⟩,
        ⟨(some 122), .faddr 0 (.t 5), none, []⟩,
        ⟨(some 123), .load1 (.t 122), none, [1]⟩,
        ⟨(some 124), .mov (.t 9), none, []⟩,
        ⟨(some 125), .mov (.t 12), none, []⟩,
        ⟨(some 126), .iaddr 1 (.t 124) (.t 125), none, [4, 3]⟩,
        ⟨(some 127), .load1 (.t 126), none, [3, 4, 5]⟩,
        ⟨(some 128), .iaddr 3 (.t 123) (.t 127), none, [5, 4, 3, 1, 6, 2]⟩,
        ⟨(some 129), .loadn 3 (.t 128), none, [2, 6, 1, 3, 4, 5, 7]⟩,
        ⟨(some 130), .buildSlice 100 3 1 true [.int .i64 0, .int .i64 0, .int .i64 0] [(0, 3, .t 129)], none, [7, 5, 4, 3, 1, 6, 2, 8]⟩,
        ⟨(some 131), .append 100 3 24 (.t 121) (.t 130), none, [8, 2, 6, 1, 3, 4, 5, 7, 9, 0]⟩,
        ⟨(some 11), .mov (.t 131), none, [9, 8, 7, 6, 5, 4, 3, 2, 1, 0, 10]⟩])
    (.seq (.dreg [⟨(some 133), .loadn 1 (.t 3), none, []⟩,
        ⟨(some 134), .call (.c (.fn 14 [] [])) [.t 133], none, [0]⟩,
        ⟨(some 135), .mov (.t 1), none, []⟩,
        ⟨(some 136), .call (.c (.fn 50 [] [])) [.t 135], none, [0, 1, 2]⟩,
        ⟨(some 137), .faddr 0 (.t 5), none, []⟩,
        ⟨(some 138), .load1 (.t 137), none, [4]⟩,
        ⟨(some 139), .mov (.t 9), none, []⟩,
        ⟨(some 140), .mov (.t 12), none, []⟩,
        ⟨(some 141), .iaddr 1 (.t 139) (.t 140), none, [7, 6]⟩,
        ⟨(some 142), .load1 (.t 141), none, [6, 7, 8]⟩,
        ⟨(some 143), .iaddr 3 (.t 138) (.t 142), none, [8, 7, 6, 4, 9, 5]⟩,
        ⟨(some 144), .loadn 3 (.t 143), none, [5, 9, 4, 6, 7, 8, 10]⟩,
        ⟨(some 145), .buildSlice 100 3 1 true [.int .i64 0, .int .i64 0, .int .i64 0] [(0, 3, .t 144)], none, [10, 8, 7, 6, 4, 9, 5, 11]⟩,
        ⟨(some 146), .call (.c (.fn 49 [] [])) [.t 134, .t 136, .t 145], none, [11, 5, 9, 4, 6, 7, 8, 10, 2, 0, 12, 3, 1]⟩,
        ⟨(some 132), .mov (.t 146), none, [1, 3, 12, 0, 2, 10, 8, 7, 6, 4, 9, 5, 11, 13]⟩,
        ⟨(some 147), .extract (.t 132) 0, none, [13, 11, 5, 9, 4, 6, 7, 8, 10, 2, 0, 12, 3, 1, 14]⟩,
        ⟨(some 148), .extract (.t 132) 1, none, [13, 11, 5, 9, 4, 6, 7, 8, 10, 2, 0, 12, 3, 1, 14]⟩,
        ⟨(some 13), .new 32 [.int .i64 0, .int .i64 0], none, []⟩,
        ⟨none, .store 2 (.t 13) (.t 147), none, [14, 12, 11, 10, 9, 8, 7, 6, 5, 4, 3, 2, 1, 0, 13, 15, 17]⟩,
        ⟨(some 14), .mov (.t 148), none, [17, 15, 14, 13, 12, 11, 10, 9, 8, 7, 6, 5, 4, 3, 2, 1, 0, 18, 16]⟩])
    (.seq (.reg [⟨(some 149), .mov (.t 14), none, []⟩,
        ⟨(some 150), .bin .eql (.t 149) (.c (.int .i64 13)), none, []⟩,
        ⟨(some 151), .mov (.t 9), none, []⟩,
        ⟨(some 152), .len (.t 151), none, []⟩,
        ⟨(some 153), .bin .eql (.t 152) (.c (.int .i64 1)), none, []⟩,
        ⟨(some 154), .eqb true (.t 150) (.t 153), none, []⟩])
    (.cond (.t 154) (.seq (.reg [⟨(some 6), .mov (.c (.bool false)), none, []⟩])
      (.ret)) .skip))))))
  (.reg [⟨(some 93), .mov (.t 12), none, []⟩,
      ⟨(some 94), .bin .add (.t 93) (.c (.int .i64 1)), none, []⟩,
      ⟨(some 12), .mov (.t 94), none, []⟩]))
def xf9l1 : XCode := .seq (.seq (.reg [⟨(some 184), .mov (.t 20), none, []⟩,
      ⟨(some 185), .faddr 0 (.t 5), none, []⟩,
      ⟨(some 186), .load1 (.t 185), none, []⟩,
      ⟨(some 187), .mov (.t 18), none, []⟩,
      ⟨(some 188), .iaddr 3 (.t 186) (.t 187), none, []⟩,
      ⟨(some 189), .faddr 0 (.t 188), none, []⟩,
      ⟨(some 190), .load1 (.t 189), none, []⟩,
      ⟨(some 191), .bin .lss (.t 184) (.t 190), none, []⟩])
  (.cond (.t 191) .skip (.exit 4)))
  (.seq (.block 5 (.reg [⟨(some 194), .mov (.t 19), none, []⟩,
        ⟨(some 195), .mov (.t 1), none, []⟩,
        ⟨(some 196), .mov (.t 20), none, []⟩,
        ⟨(some 197), .iaddr 1 (.t 195) (.t 196), none, []⟩,
        ⟨(some 198), .load1 (.t 197), none, []⟩,
        ⟨(some 199), .bin .add (.t 194) (.t 198), none, []⟩,
        ⟨(some 19), .mov (.t 199), none, []⟩]))
  (.reg [⟨(some 192), .mov (.t 20), none, []⟩,
      ⟨(some 193), .bin .add (.t 192) (.c (.int .i64 1)), none, []⟩,
      ⟨(some 20), .mov (.t 193), none, []⟩]))
def xf9l2 : XCode := .seq (.seq (.reg [⟨(some 175), .mov (.t 18), none, []⟩,
      ⟨(some 176), .faddr 0 (.t 5), none, []⟩,
      ⟨(some 177), .load1 (.t 176), none, []⟩,
      ⟨(some 178), .len (.t 177), none, []⟩,
      ⟨(some 179), .bin .lss (.t 175) (.t 178), none, []⟩])
  (.cond (.t 179) .skip (.exit 2)))
  (.seq (.block 3 (.seq (.reg [⟨(some 182), .faddr 1 (.t 5), none, []⟩,
        ⟨(some 183), .load1 (.t 182), none, []⟩,
        ⟨(some 19), .mov (.t 183), none, []⟩])
    (.seq (.seq (.reg [⟨(some 20), .mov (.c (.int .i64 0)), none, []⟩])
    (.block 4 (.loop xf9l1)))
    (.seq (.reg [⟨(some 201), .loadn 1 (.t 3), none, []⟩,
        ⟨(some 202), .call (.c (.fn 14 [] [])) [.t 201], none, []⟩,
        ⟨(some 203), .mov (.t 19), none, []⟩,
        ⟨(some 204), .call (.c (.fn 16 [] [])) [.t 202, .t 203], none, []⟩,
        ⟨(some 200), .mov (.t 204), none, []⟩,
        ⟨(some 205), .extract (.t 200) 0, none, []⟩,
        ⟨(some 206), .extract (.t 200) 1, none, []⟩,
        ⟨(some 21), .new 32 [.int .i64 0, .int .i64 0], none, []⟩,
        ⟨none, .store 2 (.t 21) (.t 205), none, []⟩,
        ⟨(some 22), .mov (.t 206), none, []⟩])
    (.seq (.seq (.reg [⟨(some 207), .mov (.t 22), none, []⟩,
        ⟨(some 208), .bin .neq (.t 207) (.c (.int .i64 0)), none, []⟩,
        ⟨(some 209), .mov (.t 208), none, []⟩,
        ⟨(some 210), .mov (.t 22), (some (209, true)), []⟩,
        ⟨(some 211), .bin .neq (.t 210) (.c (.int .i64 2)), (some (209, true)), []⟩,
        ⟨(some 212), .pick (.t 209) (.t 211) (.c (.bool false)), none, []⟩])
    (.cond (.t 212) (.seq (.reg [⟨(some 6), .mov (.c (.bool false)), none, []⟩])
      (.ret)) .skip))
    (.dreg [⟨(some 213), .mov (.t 17), none, []⟩,
        ⟨(some 214), .mov (.t 213), none, [0]⟩,
        ⟨(some 215), .mov (.t 22), (some (214, true)), [0, 1]⟩,
        ⟨(some 216), .bin .eql (.t 215) (.c (.int .i64 0)), (some (214, true)), [0, 1, 2]⟩,
        ⟨(some 217), .pick (.t 214) (.t 216) (.c (.bool false)), none, [2, 0, 3, 1]⟩,
        ⟨(some 218), .mov (.t 217), none, [3, 0, 2, 1, 4]⟩,
        ⟨(some 219), .faddr 0 (.t 21), (some (218, true)), [4, 1, 2, 0, 3, 5]⟩,
        ⟨(some 220), .load1 (.t 219), (some (218, true)), [3, 0, 2, 1, 4, 5, 6]⟩,
        ⟨(some 221), .faddr 0 (.t 5), (some (218, true)), [4, 1, 2, 0, 3, 5]⟩,
        ⟨(some 222), .load1 (.t 221), (some (218, true)), [3, 0, 2, 1, 4, 5, 8]⟩,
        ⟨(some 223), .mov (.t 18), (some (218, true)), [4, 1, 2, 0, 3, 5]⟩,
        ⟨(some 224), .iaddr 3 (.t 222) (.t 223), (some (218, true)), [8, 4, 1, 2, 0, 3, 5, 10, 9]⟩,
        ⟨(some 225), .faddr 1 (.t 224), (some (218, true)), [9, 10, 3, 0, 2, 1, 4, 8, 5, 11]⟩,
        ⟨(some 226), .faddr 0 (.t 225), (some (218, true)), [11, 8, 4, 1, 2, 0, 3, 10, 9, 5, 12]⟩,
        ⟨(some 227), .load1 (.t 226), (some (218, true)), [12, 9, 10, 3, 0, 2, 1, 4, 8, 11, 5, 13]⟩,
        ⟨(some 228), .bin .geq (.t 220) (.t 227), (some (218, true)), [13, 11, 8, 10, 9, 12, 6, 4, 1, 2, 0, 3, 5, 14, 7]⟩,
        ⟨(some 229), .pick (.t 218) (.t 228) (.c (.bool false)), none, [7, 14, 6, 12, 9, 10, 8, 11, 13, 4, 1, 2, 0, 3, 15, 5]⟩,
        ⟨(some 230), .mov (.t 229), none, [15, 3, 0, 2, 1, 4, 13, 11, 8, 10, 9, 12, 6, 14, 7, 5, 16]⟩,
        ⟨(some 231), .faddr 1 (.t 21), (some (230, true)), [16, 5, 7, 14, 6, 12, 9, 10, 8, 11, 13, 4, 1, 2, 0, 3, 15, 17]⟩,
        ⟨(some 232), .load1 (.t 231), (some (230, true)), [15, 3, 0, 2, 1, 4, 13, 11, 8, 10, 9, 12, 6, 14, 7, 5, 16, 17, 18]⟩,
        ⟨(some 233), .faddr 0 (.t 5), (some (230, true)), [16, 5, 7, 14, 6, 12, 9, 10, 8, 11, 13, 4, 1, 2, 0, 3, 15, 17]⟩,
        ⟨(some 234), .load1 (.t 233), (some (230, true)), [15, 3, 0, 2, 1, 4, 13, 11, 8, 10, 9, 12, 6, 14, 7, 5, 16, 17, 20]⟩,
        ⟨(some 235), .mov (.t 18), (some (230, true)), [16, 5, 7, 14, 6, 12, 9, 10, 8, 11, 13, 4, 1, 2, 0, 3, 15, 17]⟩,
        ⟨(some 236), .iaddr 3 (.t 234) (.t 235), (some (230, true)), [20, 16, 5, 7, 14, 6, 12, 9, 10, 8, 11, 13, 4, 1, 2, 0, 3, 15, 17, 22, 21]⟩,
        ⟨(some 237), .faddr 1 (.t 236), (some (230, true)), [21, 22, 15, 3, 0, 2, 1, 4, 13, 11, 8, 10, 9, 12, 6, 14, 7, 5, 16, 20, 17, 23]⟩,
        ⟨(some 238), .faddr 1 (.t 237), (some (230, true)), [23, 20, 16, 5, 7, 14, 6, 12, 9, 10, 8, 11, 13, 4, 1, 2, 0, 3, 15, 22, 21, 17, 24]⟩,
        ⟨(some 239), .load1 (.t 238), (some (230, true)), [24, 21, 22, 15, 3, 0, 2, 1, 4, 13, 11, 8, 10, 9, 12, 6, 14, 7, 5, 16, 20, 23, 17, 25]⟩,
        ⟨(some 240), .bin .leq (.t 232) (.t 239), (some (230, true)), [25, 23, 20, 22, 21, 24, 18, 16, 5, 7, 14, 6, 12, 9, 10, 8, 11, 13, 4, 1, 2, 0, 3, 15, 17, 26, 19]⟩,
        ⟨(some 241), .pick (.t 230) (.t 240) (.c (.bool false)), none, [19, 26, 18, 24, 21, 22, 20, 23, 25, 16, 5, 7, 14, 6, 12, 9, 10, 8, 11, 13, 4, 1, 2, 0, 3, 15, 27, 17]⟩,
        ⟨(some 17), .mov (.t 241), none, [27, 26, 25, 24, 23, 22, 21, 20, 19, 18, 16, 15, 14, 13, 12, 11, 10, 9, 8, 7, 6, 5, 4, 3, 2, 1, 0, 17, 28]⟩]))))))
  (.reg [⟨(some 180), .mov (.t 18), none, []⟩,
      ⟨(some 181), .bin .add (.t 180) (.c (.int .i64 1)), none, []⟩,
      ⟨(some 18), .mov (.t 181), none, []⟩]))
def xf9 : XFunc := ⟨.seq (.reg [⟨(some 3), .box 24 (.t 0), none, []⟩,
      ⟨(some 5), .box 92 (.t 2), none, []⟩,
      ⟨(some 6), .mov (.c (.bool false)), none, []⟩])
  (.seq (.seq (.reg [⟨(some 23), .call (.c (.fn 11 [] [])) [], none, []⟩,
      ⟨(some 24), .un .not (.t 23), none, []⟩])
  (.cond (.t 24) (.seq (.reg [⟨(some 6), .mov (.c (.bool false)), none, []⟩])
    (.ret)) .skip))
  (.seq (.seq (.reg [⟨(some 25), .loadn 1 (.t 3), none, []⟩,
      ⟨(some 26), .call (.c (.fn 12 [] [])) [.t 25], none, []⟩,
      ⟨(some 27), .un .not (.t 26), none, []⟩,
      ⟨(some 28), .mov (.t 27), none, []⟩,
      ⟨(some 29), .mov (.t 1), (some (28, false)), []⟩,
      ⟨(some 30), .len (.t 29), (some (28, false)), []⟩,
      ⟨(some 31), .bin .gtr (.t 30) (.c (.int .i64 24)), (some (28, false)), []⟩,
      ⟨(some 32), .pick (.t 28) (.c (.bool true)) (.t 31), none, []⟩,
      ⟨(some 33), .mov (.t 32), none, []⟩,
      ⟨(some 34), .faddr 0 (.t 5), (some (33, false)), []⟩,
      ⟨(some 35), .load1 (.t 34), (some (33, false)), []⟩,
      ⟨(some 36), .len (.t 35), (some (33, false)), []⟩,
      ⟨(some 37), .bin .gtr (.t 36) (.c (.int .i64 10)), (some (33, false)), []⟩,
      ⟨(some 38), .pick (.t 33) (.c (.bool true)) (.t 37), none, []⟩,
      ⟨(some 39), .mov (.t 38), none, []⟩,
      ⟨(some 40), .loadn 1 (.t 3), (some (39, false)), []⟩,
      ⟨(some 41), .mov (.t 1), (some (39, false)), []⟩,
      ⟨(some 42), .faddr 0 (.t 5), (some (39, false)), []⟩,
      ⟨(some 43), .load1 (.t 42), (some (39, false)), []⟩,
      ⟨(some 44), .call (.c (.fn 48 [] [])) [.t 40, .t 41, .t 43], (some (39, false)), []⟩,
      ⟨(some 45), .bin .neq (.t 44) (.c (.int .i64 0)), (some (39, false)), []⟩,
      ⟨(some 46), .pick (.t 39) (.c (.bool true)) (.t 45), none, []⟩,
      ⟨(some 47), .mov (.t 46), none, []⟩,
      ⟨(some 48), .faddr 1 (.t 5), (some (47, false)), []⟩,
      ⟨(some 49), .load1 (.t 48), (some (47, false)), []⟩,
      ⟨(some 50), .call (.c (.fn 25 [] [])) [.t 49, .c (.int .i64 (-1000000000)), .c (.int .i64 2000000000)], (some (47, false)), []⟩,
      ⟨(some 51), .un .not (.t 50), (some (47, false)), []⟩,
      ⟨(some 52), .pick (.t 47) (.c (.bool true)) (.t 51), none, []⟩])
  (.cond (.t 52) (.seq (.reg [⟨(some 6), .mov (.c (.bool true)), none, []⟩])
    (.ret)) .skip))
  (.seq (.dreg [⟨(some 54), .loadn 1 (.t 3), none, []⟩,
      ⟨(some 55), .call (.c (.fn 14 [] [])) [.t 54], none, [0]⟩,
      ⟨(some 56), .mov (.t 1), none, []⟩,
      ⟨(some 57), .call (.c (.fn 50 [] [])) [.t 56], none, [0, 1, 2]⟩,
      ⟨(some 58), .faddr 0 (.t 5), none, []⟩,
      ⟨(some 59), .load1 (.t 58), none, [4]⟩,
      ⟨(some 60), .call (.c (.fn 51 [] [])) [.t 59], none, [2, 1, 0, 4, 3, 5]⟩,
      ⟨(some 61), .call (.c (.fn 49 [] [])) [.t 55, .t 57, .t 60], none, [5, 4, 2, 0, 6, 3, 1]⟩,
      ⟨(some 53), .mov (.t 61), none, [1, 3, 6, 0, 2, 4, 5, 7]⟩,
      ⟨(some 62), .extract (.t 53) 0, none, [7, 5, 4, 2, 0, 6, 3, 1, 8]⟩,
      ⟨(some 63), .extract (.t 53) 1, none, [7, 5, 4, 2, 0, 6, 3, 1, 8]⟩,
      ⟨(some 7), .new 32 [.int .i64 0, .int .i64 0], none, []⟩,
      ⟨none, .store 2 (.t 7) (.t 62), none, [8, 6, 5, 4, 3, 2, 1, 0, 7, 9, 11]⟩,
      ⟨(some 8), .mov (.t 63), none, [11, 9, 8, 7, 6, 5, 4, 3, 2, 1, 0, 12, 10]⟩])
  (.seq (.dreg [⟨(some 65), .loadn 1 (.t 3), none, []⟩,
      ⟨(some 66), .call (.c (.fn 14 [] [])) [.t 65], none, [0]⟩,
      ⟨(some 67), .mov (.t 1), none, []⟩,
      ⟨(some 68), .call (.c (.fn 50 [] [])) [.t 67], none, [0, 1, 2]⟩,
      ⟨(some 69), .faddr 0 (.t 5), none, []⟩,
      ⟨(some 70), .load1 (.t 69), none, [4]⟩,
      ⟨(some 71), .call (.c (.fn 51 [] [])) [.t 70], none, [2, 1, 0, 4, 3, 5]⟩,
      ⟨(some 72), .call (.c (.fn 52 [] [])) [.t 66, .t 68, .t 71], none, [5, 4, 2, 0, 6, 3, 1]⟩,
      ⟨(some 64), .mov (.t 72), none, [1, 3, 6, 0, 2, 4, 5, 7]⟩,
      ⟨(some 73), .extract (.t 64) 0, none, [7, 5, 4, 2, 0, 6, 3, 1, 8]⟩,
      ⟨(some 74), .extract (.t 64) 1, none, [7, 5, 4, 2, 0, 6, 3, 1, 8]⟩,
      ⟨(some 9), .mov (.t 73), none, [8, 6, 5, 4, 3, 2, 1, 0, 7, 9]⟩,
      ⟨(some 10), .mov (.t 74), none, [9, 8, 7, 6, 5, 4, 3, 2, 1, 0, 11, 10]⟩])
  (.seq (.seq (.reg [⟨(some 75), .mov (.t 8), none, []⟩,
      ⟨(some 76), .bin .neq (.t 75) (.c (.int .i64 0)), none, []⟩])
  (.cond (.t 76) (.seq (.seq (.reg [⟨(some 77), .mov (.t 8), none, []⟩,
        ⟨(some 78), .bin .neq (.t 77) (.c (.int .i64 13)), none, []⟩,
        ⟨(some 79), .mov (.t 78), none, []⟩,
        ⟨(some 80), .mov (.t 10), (some (79, false)), []⟩,
        ⟨(some 81), .bin .neq (.t 80) (.c (.int .i64 0)), (some (79, false)), []⟩,
        ⟨(some 82), .pick (.t 79) (.c (.bool true)) (.t 81), none, []⟩,
        ⟨(some 83), .mov (.t 82), none, []⟩,
        ⟨(some 84), .mov (.t 9), (some (83, false)), []⟩,
        ⟨(some 85), .len (.t 84), (some (83, false)), []⟩,
        ⟨(some 86), .call (.c (.fn 25 [] [])) [.t 85, .c (.int .i64 1), .c (.int .i64 2)], (some (83, false)), []⟩,
        ⟨(some 87), .un .not (.t 86), (some (83, false)), []⟩,
        ⟨(some 88), .pick (.t 83) (.c (.bool true)) (.t 87), none, []⟩])
    (.cond (.t 88) (.seq (.reg [⟨(some 6), .mov (.c (.bool false)), none, []⟩])
      (.ret)) .skip))
    (.seq (.reg [⟨(some 11), .mov (.c .nils), none, []⟩])
    (.seq (.seq (.reg [⟨(some 12), .mov (.c (.int .i64 0)), none, []⟩])
    (.block 0 (.loop xf9l0)))
    (.seq (.reg [⟨(some 156), .loadn 1 (.t 3), none, []⟩,
        ⟨(some 157), .call (.c (.fn 14 [] [])) [.t 156], none, []⟩,
        ⟨(some 158), .mov (.t 1), none, []⟩,
        ⟨(some 159), .call (.c (.fn 50 [] [])) [.t 158], none, []⟩,
        ⟨(some 160), .mov (.t 11), none, []⟩,
        ⟨(some 161), .call (.c (.fn 49 [] [])) [.t 157, .t 159, .t 160], none, []⟩,
        ⟨(some 155), .mov (.t 161), none, []⟩,
        ⟨(some 162), .extract (.t 155) 0, none, []⟩,
        ⟨(some 163), .extract (.t 155) 1, none, []⟩,
        ⟨(some 15), .new 32 [.int .i64 0, .int .i64 0], none, []⟩,
        ⟨none, .store 2 (.t 15) (.t 162), none, []⟩,
        ⟨(some 16), .mov (.t 163), none, []⟩])
    (.seq (.reg [⟨(some 164), .mov (.t 16), none, []⟩,
        ⟨(some 165), .bin .eql (.t 164) (.c (.int .i64 13)), none, []⟩,
        ⟨(some 6), .mov (.t 165), none, []⟩])
    (.ret)))))) .skip))
  (.seq (.seq (.reg [⟨(some 166), .mov (.t 10), none, []⟩,
      ⟨(some 167), .bin .neq (.t 166) (.c (.int .i64 12)), none, []⟩,
      ⟨(some 168), .mov (.t 167), none, []⟩,
      ⟨(some 169), .faddr 0 (.t 7), (some (168, false)), []⟩,
      ⟨(some 170), .load1 (.t 169), (some (168, false)), []⟩,
      ⟨(some 171), .faddr 1 (.t 7), (some (168, false)), []⟩,
      ⟨(some 172), .load1 (.t 171), (some (168, false)), []⟩,
      ⟨(some 173), .bin .gtr (.t 170) (.t 172), (some (168, false)), []⟩,
      ⟨(some 174), .pick (.t 168) (.c (.bool true)) (.t 173), none, []⟩])
  (.cond (.t 174) (.seq (.reg [⟨(some 6), .mov (.c (.bool false)), none, []⟩])
    (.ret)) .skip))
  (.seq (.reg [⟨(some 17), .mov (.c (.bool true)), none, []⟩])
  (.seq (.seq (.reg [⟨(some 18), .mov (.c (.int .i64 0)), none, []⟩])
  (.block 2 (.loop xf9l2)))
  (.seq (.reg [⟨(some 242), .mov (.t 17), none, []⟩,
      ⟨(some 243), .faddr 1 (.t 5), none, []⟩,
      ⟨(some 244), .load1 (.t 243), none, []⟩,
      ⟨(some 245), .faddr 0 (.t 7), none, []⟩,
      ⟨(some 246), .load1 (.t 245), none, []⟩,
      ⟨(some 247), .faddr 1 (.t 7), none, []⟩,
      ⟨(some 248), .load1 (.t 247), none, []⟩,
      ⟨(some 249), .call (.c (.fn 25 [] [])) [.t 244, .t 246, .t 248], none, []⟩,
      ⟨(some 250), .eqb false (.t 242) (.t 249), none, []⟩,
      ⟨(some 6), .mov (.t 250), none, []⟩])
  (.ret)))))))))), 251, [.t 6]⟩
structure LawCCode (X : FuncId → Option XFunc) : Prop where
  tab : TabCode X
  read : ReadCode X
  h9 : X 9 = some xf9
end Go.Proofs.Ytbpflcilndinfaa.Eng
