/-
  CODE of DxN.
-/
import Derived.Test.YtgijgcmcpgepaaaEngY
namespace Go.Proofs.Ytgijgcmcpgepaaa.Eng
set_option linter.unusedSimpArgs false
set_option linter.unusedVariables false
def xf120l0 : XCode := .seq (.reg [⟨(some 21), .bin .lss (.t 20) (.t 19), none, []⟩])
  (.seq (.cond (.t 21)
    (.skip)
    (.exit 0))
  (.seq (.block 1 (.seq (.reg [⟨(some 22), .mov (.t 20), none, []⟩,
     ⟨(some 3), .mov (.t 22), none, []⟩])
   (.seq (.reg [⟨(some 23), .mov (.t 0), none, []⟩,
     ⟨(some 24), .mov (.t 3), none, []⟩,
     ⟨(some 25), .indexS (.t 23) (.t 24), none, []⟩,
     ⟨(some 4), .mov (.t 25), none, []⟩])
   (.seq (.reg [⟨(some 26), .mov (.t 4), none, []⟩,
     ⟨(some 27), .call (.c (.fn 137 [] [])) [.t 26], none, []⟩,
     ⟨(some 28), .un .not (.t 27), none, []⟩,
     ⟨(some 29), .mov (.t 28), none, []⟩,
     ⟨(some 30), .mov (.t 4), (some (29, true)), []⟩,
     ⟨(some 31), .call (.c (.fn 138 [] [])) [.t 30], (some (29, true)), []⟩,
     ⟨(some 32), .un .not (.t 31), (some (29, true)), []⟩,
     ⟨(some 33), .pick (.t 29) (.t 32) (.c (.bool false)), none, []⟩,
     ⟨(some 34), .mov (.t 33), none, []⟩,
     ⟨(some 35), .mov (.t 4), (some (34, true)), []⟩,
     ⟨(some 36), .bin .neq (.t 35) (.c (.int .u8 45)), (some (34, true)), []⟩,
     ⟨(some 37), .pick (.t 34) (.t 36) (.c (.bool false)), none, []⟩])
   (.cond (.t 37)
     (.seq (.reg [⟨(some 2), .mov (.c (.bool false)), none, []⟩])
     (.ret))
     (.skip))))))
  (.reg [⟨(some 38), .bin .add (.t 20) (.c (.int .i64 1)), none, []⟩,
    ⟨(some 20), .mov (.t 38), none, []⟩])))
def xf120 : XFunc := ⟨.seq (.reg [⟨(some 2), .mov (.c (.bool false)), none, []⟩])
  (.seq (.seq (.reg [⟨(some 5), .mov (.t 0), none, []⟩,
    ⟨(some 6), .bin .eql (.t 5) (.c (.str ⟨#[]⟩)), none, []⟩,
    ⟨(some 7), .mov (.t 6), none, []⟩,
    ⟨(some 8), .mov (.t 0), (some (7, false)), []⟩,
    ⟨(some 9), .lenS (.t 8), (some (7, false)), []⟩,
    ⟨(some 10), .bin .gtr (.t 9) (.c (.int .i64 12)), (some (7, false)), []⟩,
    ⟨(some 11), .pick (.t 7) (.c (.bool true)) (.t 10), none, []⟩,
    ⟨(some 12), .mov (.t 11), none, []⟩,
    ⟨(some 13), .mov (.t 0), (some (12, false)), []⟩,
    ⟨(some 14), .indexS (.t 13) (.c (.int .i64 0)), (some (12, false)), []⟩,
    ⟨(some 15), .call (.c (.fn 137 [] [])) [.t 14], (some (12, false)), []⟩,
    ⟨(some 16), .un .not (.t 15), (some (12, false)), []⟩,
    ⟨(some 17), .pick (.t 12) (.c (.bool true)) (.t 16), none, []⟩])
  (.cond (.t 17)
    (.seq (.reg [⟨(some 2), .mov (.c (.bool false)), none, []⟩])
    (.ret))
    (.skip)))
  (.seq (.seq (.reg [⟨(some 18), .mov (.t 0), none, []⟩,
    ⟨(some 19), .lenS (.t 18), none, []⟩,
    ⟨(some 20), .mov (.c (.int .i64 0)), none, []⟩])
  (.block 0 (.loop xf120l0)))
  (.seq (.reg [⟨(some 2), .mov (.c (.bool true)), none, []⟩])
  (.ret)))), 39, [.t 2]⟩
def xf137 : XFunc := ⟨.seq (.reg [⟨(some 2), .mov (.c (.bool false)), none, []⟩])
  (.seq (.reg [⟨(some 3), .mov (.t 0), none, []⟩,
    ⟨(some 4), .bin .leq (.c (.int .u8 97)) (.t 3), none, []⟩,
    ⟨(some 5), .mov (.t 4), none, []⟩,
    ⟨(some 6), .mov (.t 0), (some (5, true)), []⟩,
    ⟨(some 7), .bin .leq (.t 6) (.c (.int .u8 122)), (some (5, true)), []⟩,
    ⟨(some 8), .pick (.t 5) (.t 7) (.c (.bool false)), none, []⟩,
    ⟨(some 9), .mov (.t 8), none, []⟩,
    ⟨(some 10), .mov (.t 0), (some (9, false)), []⟩,
    ⟨(some 11), .bin .leq (.c (.int .u8 65)) (.t 10), (some (9, false)), []⟩,
    ⟨(some 12), .mov (.t 11), (some (9, false)), []⟩,
    ⟨(some 13), .mov (.t 0), (some (12, true)), []⟩,
    ⟨(some 14), .bin .leq (.t 13) (.c (.int .u8 90)), (some (12, true)), []⟩,
    ⟨(some 15), .pick (.t 12) (.t 14) (.c (.bool false)), (some (9, false)), []⟩,
    ⟨(some 16), .pick (.t 9) (.c (.bool true)) (.t 15), none, []⟩,
    ⟨(some 2), .mov (.t 16), none, []⟩])
  (.ret)), 17, [.t 2]⟩
def xf138 : XFunc := ⟨.seq (.reg [⟨(some 2), .mov (.c (.bool false)), none, []⟩])
  (.seq (.reg [⟨(some 3), .mov (.t 0), none, []⟩,
    ⟨(some 4), .bin .leq (.c (.int .u8 48)) (.t 3), none, []⟩,
    ⟨(some 5), .mov (.t 4), none, []⟩,
    ⟨(some 6), .mov (.t 0), (some (5, true)), []⟩,
    ⟨(some 7), .bin .leq (.t 6) (.c (.int .u8 57)), (some (5, true)), []⟩,
    ⟨(some 8), .pick (.t 5) (.t 7) (.c (.bool false)), none, []⟩,
    ⟨(some 2), .mov (.t 8), none, []⟩])
  (.ret)), 9, [.t 2]⟩
def xf115l0 : XCode := .seq (.seq (.reg [⟨(some 14), .mov (.t 3), none, []⟩,
    ⟨(some 15), .mov (.t 0), none, []⟩,
    ⟨(some 16), .lenS (.t 15), none, []⟩,
    ⟨(some 17), .bin .lss (.t 14) (.t 16), none, []⟩])
  (.cond (.t 17)
    (.skip)
    (.exit 0)))
  (.seq (.block 1 (.seq (.reg [⟨(some 20), .mov (.t 0), none, []⟩,
     ⟨(some 21), .mov (.t 3), none, []⟩,
     ⟨(some 22), .indexS (.t 20) (.t 21), none, []⟩,
     ⟨(some 4), .mov (.t 22), none, []⟩])
   (.seq (.reg [⟨(some 23), .mov (.t 4), none, []⟩,
     ⟨(some 24), .bin .geq (.t 23) (.c (.int .u8 97)), none, []⟩,
     ⟨(some 25), .mov (.t 24), none, []⟩,
     ⟨(some 26), .mov (.t 4), (some (25, true)), []⟩,
     ⟨(some 27), .bin .leq (.t 26) (.c (.int .u8 122)), (some (25, true)), []⟩,
     ⟨(some 28), .pick (.t 25) (.t 27) (.c (.bool false)), none, []⟩,
     ⟨(some 29), .mov (.t 28), none, []⟩,
     ⟨(some 30), .mov (.t 4), (some (29, false)), []⟩,
     ⟨(some 31), .bin .geq (.t 30) (.c (.int .u8 65)), (some (29, false)), []⟩,
     ⟨(some 32), .mov (.t 31), (some (29, false)), []⟩,
     ⟨(some 33), .mov (.t 4), (some (32, true)), []⟩,
     ⟨(some 34), .bin .leq (.t 33) (.c (.int .u8 90)), (some (32, true)), []⟩,
     ⟨(some 35), .pick (.t 32) (.t 34) (.c (.bool false)), (some (29, false)), []⟩,
     ⟨(some 36), .pick (.t 29) (.c (.bool true)) (.t 35), none, []⟩,
     ⟨(some 5), .mov (.t 36), none, []⟩])
   (.seq (.reg [⟨(some 37), .mov (.t 5), none, []⟩,
     ⟨(some 38), .un .not (.t 37), none, []⟩,
     ⟨(some 39), .mov (.t 38), none, []⟩,
     ⟨(some 40), .mov (.t 3), (some (39, true)), []⟩,
     ⟨(some 41), .bin .eql (.t 40) (.c (.int .i64 0)), (some (39, true)), []⟩,
     ⟨(some 42), .mov (.t 41), (some (39, true)), []⟩,
     ⟨(some 43), .mov (.t 4), (some (42, false)), []⟩,
     ⟨(some 44), .bin .neq (.t 43) (.c (.int .u8 45)), (some (42, false)), []⟩,
     ⟨(some 45), .mov (.t 44), (some (42, false)), []⟩,
     ⟨(some 46), .mov (.t 4), (some (45, true)), []⟩,
     ⟨(some 47), .bin .lss (.t 46) (.c (.int .u8 48)), (some (45, true)), []⟩,
     ⟨(some 48), .mov (.t 47), (some (45, true)), []⟩,
     ⟨(some 49), .mov (.t 4), (some (48, false)), []⟩,
     ⟨(some 50), .bin .gtr (.t 49) (.c (.int .u8 57)), (some (48, false)), []⟩,
     ⟨(some 51), .pick (.t 48) (.c (.bool true)) (.t 50), (some (45, true)), []⟩,
     ⟨(some 52), .pick (.t 45) (.t 51) (.c (.bool false)), (some (42, false)), []⟩,
     ⟨(some 53), .pick (.t 42) (.c (.bool true)) (.t 52), (some (39, true)), []⟩,
     ⟨(some 54), .pick (.t 39) (.t 53) (.c (.bool false)), none, []⟩])
   (.cond (.t 54)
     (.seq (.reg [⟨(some 2), .mov (.c (.bool false)), none, []⟩])
     (.ret))
     (.skip))))))
  (.reg [⟨(some 18), .mov (.t 3), none, []⟩,
    ⟨(some 19), .bin .add (.t 18) (.c (.int .i64 1)), none, []⟩,
    ⟨(some 3), .mov (.t 19), none, []⟩]))
def xf115 : XFunc := ⟨.seq (.reg [⟨(some 2), .mov (.c (.bool false)), none, []⟩])
  (.seq (.seq (.reg [⟨(some 6), .mov (.t 0), none, []⟩,
    ⟨(some 7), .lenS (.t 6), none, []⟩,
    ⟨(some 8), .bin .lss (.t 7) (.c (.int .i64 1)), none, []⟩,
    ⟨(some 9), .mov (.t 8), none, []⟩,
    ⟨(some 10), .mov (.t 0), (some (9, false)), []⟩,
    ⟨(some 11), .lenS (.t 10), (some (9, false)), []⟩,
    ⟨(some 12), .bin .gtr (.t 11) (.c (.int .i64 12)), (some (9, false)), []⟩,
    ⟨(some 13), .pick (.t 9) (.c (.bool true)) (.t 12), none, []⟩])
  (.cond (.t 13)
    (.seq (.reg [⟨(some 2), .mov (.c (.bool false)), none, []⟩])
    (.ret))
    (.skip)))
  (.seq (.seq (.reg [⟨(some 3), .mov (.c (.int .i64 0)), none, []⟩])
  (.block 0 (.loop xf115l0)))
  (.seq (.reg [⟨(some 2), .mov (.c (.bool true)), none, []⟩])
  (.ret)))), 55, [.t 2]⟩
def xf116l0 : XCode := .seq (.seq (.reg [⟨(some 6), .mov (.t 5), none, []⟩,
    ⟨(some 7), .mov (.t 0), none, []⟩,
    ⟨(some 8), .len (.t 7), none, []⟩,
    ⟨(some 9), .bin .lss (.t 6) (.t 8), none, []⟩])
  (.cond (.t 9)
    (.skip)
    (.exit 0)))
  (.seq (.block 1 (.seq (.reg [⟨(some 12), .mov (.t 0), none, []⟩,
     ⟨(some 13), .mov (.t 5), none, []⟩,
     ⟨(some 14), .iaddr 1 (.t 12) (.t 13), none, []⟩,
     ⟨(some 15), .load1 (.t 14), none, []⟩,
     ⟨(some 16), .mov (.t 1), none, []⟩,
     ⟨(some 17), .bin .eql (.t 15) (.t 16), none, []⟩])
   (.cond (.t 17)
     (.seq (.reg [⟨(some 4), .mov (.c (.bool true)), none, []⟩])
     (.ret))
     (.skip))))
  (.reg [⟨(some 10), .mov (.t 5), none, []⟩,
    ⟨(some 11), .bin .add (.t 10) (.c (.int .i64 1)), none, []⟩,
    ⟨(some 5), .mov (.t 11), none, []⟩]))
def xf116 : XFunc := ⟨.seq (.reg [⟨(some 4), .mov (.c (.bool false)), none, []⟩])
  (.seq (.seq (.reg [⟨(some 5), .mov (.c (.int .i64 0)), none, []⟩])
  (.block 0 (.loop xf116l0)))
  (.seq (.reg [⟨(some 4), .mov (.c (.bool false)), none, []⟩])
  (.ret))), 18, [.t 4]⟩
def xf119 : XFunc := ⟨.seq (.reg [⟨(some 3), .mov (.c (.int .i64 0)), none, []⟩])
  (.seq (.dreg [⟨(some 5), .mov (.t 0), none, []⟩,
    ⟨(some 6), .call (.c (.fn 120 [] [])) [.t 5], none, [0]⟩,
    ⟨(some 7), .call (.c (.fn 71 [] [])) [.t 6, .c (.int .i64 4)], none, [0, 1]⟩,
    ⟨(some 8), .load1 (.t 1), none, []⟩,
    ⟨(some 9), .mov (.t 0), none, []⟩,
    ⟨(some 10), .lookup 2 (.bool false) false (.t 8) (.t 9), none, [4, 3]⟩,
    ⟨(some 11), .un .not (.t 10), none, [3, 4, 5]⟩,
    ⟨(some 12), .call (.c (.fn 71 [] [])) [.t 11, .c (.int .i64 5)], none, [1, 0, 5, 4, 3, 2, 6]⟩,
    ⟨(some 13), .buildSlice 32 1 2 false [.int .i64 0, .int .i64 0] [(0, 1, .t 7), (1, 1, .t 12)], none, [6, 3, 4, 5, 1, 0, 7, 2]⟩,
    ⟨(some 14), .call (.c (.fn 69 [] [])) [.t 13], none, [2, 0, 1, 5, 4, 3, 6, 7, 8]⟩,
    ⟨(some 4), .mov (.t 14), none, [8, 7, 6, 5, 4, 3, 2, 1, 0, 9]⟩])
  (.seq (.reg [⟨(some 15), .load1 (.t 1), none, []⟩,
    ⟨(some 16), .mov (.t 0), none, []⟩,
    ⟨none, .mapupd 2 (.t 15) (.t 16) (.c (.bool true)), none, []⟩])
  (.seq (.reg [⟨(some 17), .mov (.t 4), none, []⟩,
    ⟨(some 3), .mov (.t 17), none, []⟩])
  (.ret)))), 18, [.t 3]⟩
def xf73 : XFunc := ⟨.seq (.reg [⟨(some 0), .mov (.c (.nilfn)), none, []⟩])
  (.seq (.reg [⟨(some 2), .mkmap, none, []⟩,
    ⟨(some 1), .new 167 [.nilm], none, []⟩,
    ⟨none, .store 1 (.t 1) (.t 2), none, []⟩])
  (.seq (.reg [⟨(some 3), .fn true 119 [] [.t 1], none, []⟩,
    ⟨(some 0), .mov (.t 3), none, []⟩])
  (.ret))), 4, [.t 0]⟩
structure DxNCode (X : FuncId → Option XFunc) : Prop where
  h120 : X 120 = some xf120
  h137 : X 137 = some xf137
  h138 : X 138 = some xf138
  h115 : X 115 = some xf115
  h116 : X 116 = some xf116
  h119 : X 119 = some xf119
  h73 : X 73 = some xf73
end Go.Proofs.Ytgijgcmcpgepaaa.Eng

/-
  CODE of DxA.
-/
namespace Go.Proofs.Ytgijgcmcpgepaaa.Eng
set_option linter.unusedSimpArgs false
set_option linter.unusedVariables false
def xf8 : XFunc := ⟨.seq (.reg [⟨(some 3), .box 74 (.t 0), none, []⟩,
    ⟨(some 6), .mov (.c (.bool false)), none, []⟩])
  (.seq (.seq (.reg [⟨(some 13), .call (.c (.fn 12 [] [])) [], none, []⟩,
    ⟨(some 14), .un .not (.t 13), none, []⟩])
  (.cond (.t 14)
    (.seq (.reg [⟨(some 6), .mov (.c (.bool false)), none, []⟩])
    (.ret))
    (.skip)))
  (.seq (.seq (.reg [⟨(some 15), .mov (.t 1), none, []⟩,
    ⟨(some 16), .call (.c (.fn 45 [] [])) [.t 15], none, []⟩,
    ⟨(some 17), .un .not (.t 16), none, []⟩,
    ⟨(some 18), .mov (.t 17), none, []⟩,
    ⟨(some 19), .mov (.t 2), (some (18, false)), []⟩,
    ⟨(some 20), .call (.c (.fn 45 [] [])) [.t 19], (some (18, false)), []⟩,
    ⟨(some 21), .un .not (.t 20), (some (18, false)), []⟩,
    ⟨(some 22), .pick (.t 18) (.c (.bool true)) (.t 21), none, []⟩])
  (.cond (.t 22)
    (.seq (.reg [⟨(some 6), .mov (.c (.bool true)), none, []⟩])
    (.ret))
    (.skip)))
  (.seq (.dreg [⟨(some 24), .faddr 0 (.t 3), none, []⟩,
    ⟨(some 25), .load1 (.t 24), none, [0]⟩,
    ⟨(some 26), .faddr 1 (.t 3), none, []⟩,
    ⟨(some 27), .load1 (.t 26), none, [2]⟩,
    ⟨(some 28), .mov (.t 1), none, []⟩,
    ⟨(some 29), .call (.c (.fn 20 [] [])) [.t 28], none, [4]⟩,
    ⟨(some 30), .call (.c (.fn 46 [] [])) [.t 25, .t 27, .t 29], none, [4, 2, 0, 5, 3, 1]⟩,
    ⟨(some 23), .mov (.t 30), none, [1, 3, 5, 0, 2, 4, 6]⟩,
    ⟨(some 31), .extract (.t 23) 0, none, [6, 4, 2, 0, 5, 3, 1, 7]⟩,
    ⟨(some 32), .extract (.t 23) 1, none, [6, 4, 2, 0, 5, 3, 1, 7]⟩,
    ⟨(some 7), .mov (.t 31), none, [7, 5, 4, 3, 2, 1, 0, 6, 8]⟩,
    ⟨(some 8), .mov (.t 32), none, [8, 7, 6, 5, 4, 3, 2, 1, 0, 10, 9]⟩])
  (.seq (.reg [⟨(some 34), .mov (.t 1), none, []⟩,
    ⟨(some 35), .call (.c (.fn 20 [] [])) [.t 34], none, []⟩,
    ⟨(some 36), .mov (.t 2), none, []⟩,
    ⟨(some 37), .call (.c (.fn 20 [] [])) [.t 36], none, []⟩,
    ⟨(some 38), .call (.c (.fn 47 [] [])) [.t 35, .t 37], none, []⟩,
    ⟨(some 33), .mov (.t 38), none, []⟩,
    ⟨(some 39), .extract (.t 33) 0, none, []⟩,
    ⟨(some 40), .extract (.t 33) 1, none, []⟩,
    ⟨(some 9), .new 78 [.int .i64 0, .int .i64 0, .int .i64 0], none, []⟩,
    ⟨none, .store 3 (.t 9) (.t 39), none, []⟩,
    ⟨(some 10), .mov (.t 40), none, []⟩])
  (.seq (.reg [⟨(some 41), .faddr 0 (.t 3), none, []⟩,
    ⟨(some 42), .load1 (.t 41), none, []⟩,
    ⟨(some 43), .faddr 1 (.t 3), none, []⟩,
    ⟨(some 44), .load1 (.t 43), none, []⟩,
    ⟨(some 45), .call (.c (.fn 48 [] [])) [.t 42, .t 44], none, []⟩,
    ⟨(some 11), .mov (.t 45), none, []⟩])
  (.seq (.reg [⟨(some 46), .mov (.t 1), none, []⟩,
    ⟨(some 47), .call (.c (.fn 49 [] [])) [.t 46], none, []⟩,
    ⟨(some 12), .mov (.t 47), none, []⟩])
  (.seq (.seq (.reg [⟨(some 48), .mov (.t 11), none, []⟩,
    ⟨(some 49), .bin .eql (.t 48) (.c (.int .i64 0)), none, []⟩])
  (.cond (.t 49)
    (.reg [⟨(some 50), .mov (.t 12), none, []⟩,
      ⟨(some 11), .mov (.t 50), none, []⟩])
    (.skip)))
  (.seq (.seq (.reg [⟨(some 51), .mov (.t 11), none, []⟩,
    ⟨(some 52), .bin .neq (.t 51) (.c (.int .i64 0)), none, []⟩,
    ⟨(some 53), .mov (.t 52), none, []⟩,
    ⟨(some 54), .mov (.t 8), (some (53, true)), []⟩,
    ⟨(some 55), .mov (.t 11), (some (53, true)), []⟩,
    ⟨(some 56), .bin .neq (.t 54) (.t 55), (some (53, true)), []⟩,
    ⟨(some 57), .mov (.t 56), (some (53, true)), []⟩,
    ⟨(some 58), .mov (.t 7), (some (57, false)), []⟩,
    ⟨(some 59), .len (.t 58), (some (57, false)), []⟩,
    ⟨(some 60), .bin .neq (.t 59) (.c (.int .i64 0)), (some (57, false)), []⟩,
    ⟨(some 61), .pick (.t 57) (.c (.bool true)) (.t 60), (some (53, true)), []⟩,
    ⟨(some 62), .pick (.t 53) (.t 61) (.c (.bool false)), none, []⟩,
    ⟨(some 63), .mov (.t 62), none, []⟩,
    ⟨(some 64), .mov (.t 11), (some (63, false)), []⟩,
    ⟨(some 65), .bin .eql (.t 64) (.c (.int .i64 0)), (some (63, false)), []⟩,
    ⟨(some 66), .mov (.t 65), (some (63, false)), []⟩,
    ⟨(some 67), .mov (.t 8), (some (66, true)), []⟩,
    ⟨(some 68), .bin .neq (.t 67) (.c (.int .i64 0)), (some (66, true)), []⟩,
    ⟨(some 69), .mov (.t 68), (some (66, true)), []⟩,
    ⟨(some 70), .mov (.t 7), (some (69, false)), []⟩,
    ⟨(some 71), .faddr 0 (.t 3), (some (69, false)), []⟩,
    ⟨(some 72), .load1 (.t 71), (some (69, false)), []⟩,
    ⟨(some 73), .faddr 1 (.t 3), (some (69, false)), []⟩,
    ⟨(some 74), .load1 (.t 73), (some (69, false)), []⟩,
    ⟨(some 75), .mov (.t 1), (some (69, false)), []⟩,
    ⟨(some 76), .call (.c (.fn 50 [] [])) [.t 72, .t 74, .t 75], (some (69, false)), []⟩,
    ⟨(some 77), .call (.c (.fn 26 [] [])) [.t 70, .t 76], (some (69, false)), []⟩,
    ⟨(some 78), .un .not (.t 77), (some (69, false)), []⟩,
    ⟨(some 79), .pick (.t 69) (.c (.bool true)) (.t 78), (some (66, true)), []⟩,
    ⟨(some 80), .pick (.t 66) (.t 79) (.c (.bool false)), (some (63, false)), []⟩,
    ⟨(some 81), .pick (.t 63) (.c (.bool true)) (.t 80), none, []⟩])
  (.cond (.t 81)
    (.seq (.reg [⟨(some 6), .mov (.c (.bool false)), none, []⟩])
    (.ret))
    (.skip)))
  (.seq (.seq (.reg [⟨(some 82), .mov (.t 12), none, []⟩,
    ⟨(some 83), .bin .eql (.t 82) (.c (.int .i64 0)), none, []⟩])
  (.cond (.t 83)
    (.reg [⟨(some 84), .mov (.t 2), none, []⟩,
      ⟨(some 85), .call (.c (.fn 49 [] [])) [.t 84], none, []⟩,
      ⟨(some 12), .mov (.t 85), none, []⟩])
    (.skip)))
  (.seq (.seq (.reg [⟨(some 86), .mov (.t 12), none, []⟩,
    ⟨(some 87), .bin .eql (.t 86) (.c (.int .i64 0)), none, []⟩,
    ⟨(some 88), .mov (.t 87), none, []⟩,
    ⟨(some 89), .mov (.t 1), (some (88, true)), []⟩,
    ⟨(some 90), .len (.t 89), (some (88, true)), []⟩,
    ⟨(some 91), .mov (.t 2), (some (88, true)), []⟩,
    ⟨(some 92), .len (.t 91), (some (88, true)), []⟩,
    ⟨(some 93), .bin .neq (.t 90) (.t 92), (some (88, true)), []⟩,
    ⟨(some 94), .pick (.t 88) (.t 93) (.c (.bool false)), none, []⟩])
  (.cond (.t 94)
    (.reg [⟨(some 12), .mov (.c (.int .i64 10)), none, []⟩])
    (.skip)))
  (.seq (.seq (.reg [⟨(some 95), .mov (.t 12), none, []⟩,
    ⟨(some 96), .bin .neq (.t 95) (.c (.int .i64 0)), none, []⟩])
  (.cond (.t 96)
    (.seq (.reg [⟨(some 97), .mov (.t 10), none, []⟩,
      ⟨(some 98), .mov (.t 12), none, []⟩,
      ⟨(some 99), .bin .eql (.t 97) (.t 98), none, []⟩,
      ⟨(some 100), .mov (.t 99), none, []⟩,
      ⟨(some 101), .loadn 3 (.t 9), (some (100, true)), []⟩,
      ⟨(some 102), .build [.int .i64 0, .int .i64 0, .int .i64 0] [], (some (100, true)), []⟩,
      ⟨(some 103), .eqA false (.s [(0, 1, false, .c 0), (1, 1, false, .c 0), (2, 1, false, .c 0)]) (.t 101) (.t 102), (some (100, true)), []⟩,
      ⟨(some 104), .pick (.t 100) (.t 103) (.c (.bool false)), none, []⟩,
      ⟨(some 6), .mov (.t 104), none, []⟩])
    (.ret))
    (.skip)))
  (.seq (.dreg [⟨(some 105), .mov (.t 10), none, []⟩,
    ⟨(some 106), .bin .eql (.t 105) (.c (.int .i64 0)), none, [0]⟩,
    ⟨(some 107), .mov (.t 106), none, [0, 1]⟩,
    ⟨(some 108), .loadn 3 (.t 9), (some (107, true)), [1, 0, 2]⟩,
    ⟨(some 109), .mov (.t 1), (some (107, true)), [1, 0, 2]⟩,
    ⟨(some 110), .mov (.t 2), (some (107, true)), [1, 0, 2]⟩,
    ⟨(some 111), .call (.c (.fn 51 [] [])) [.t 109, .t 110], (some (107, true)), [0, 1, 2, 5, 4]⟩,
    ⟨(some 112), .eqA false (.s [(0, 1, false, .c 0), (1, 1, false, .c 0), (2, 1, false, .c 0)]) (.t 108) (.t 111), (some (107, true)), [4, 5, 0, 1, 2, 6, 3]⟩,
    ⟨(some 113), .pick (.t 107) (.t 112) (.c (.bool false)), none, [3, 6, 5, 4, 1, 0, 7, 2]⟩,
    ⟨(some 6), .mov (.t 113), none, [7, 5, 4, 3, 2, 1, 0, 6, 8]⟩])
  (.ret))))))))))))), 114, [.t 6]⟩
def xf45 : XFunc := ⟨.seq (.reg [⟨(some 2), .mov (.c (.bool false)), none, []⟩])
  (.seq (.reg [⟨(some 3), .mov (.t 0), none, []⟩,
    ⟨(some 4), .len (.t 3), none, []⟩,
    ⟨(some 5), .bin .leq (.t 4) (.c (.int .i64 80)), none, []⟩,
    ⟨(some 6), .mov (.t 5), none, []⟩,
    ⟨(some 7), .mov (.t 0), (some (6, false)), []⟩,
    ⟨(some 8), .len (.t 7), (some (6, false)), []⟩,
    ⟨(some 9), .bin .gtr (.t 8) (.c (.int .i64 300)), (some (6, false)), []⟩,
    ⟨(some 10), .mov (.t 9), (some (6, false)), []⟩,
    ⟨(some 11), .mov (.t 0), (some (10, true)), []⟩,
    ⟨(some 12), .len (.t 11), (some (10, true)), []⟩,
    ⟨(some 13), .bin .leq (.t 12) (.c (.int .i64 302)), (some (10, true)), []⟩,
    ⟨(some 14), .pick (.t 10) (.t 13) (.c (.bool false)), (some (6, false)), []⟩,
    ⟨(some 15), .pick (.t 6) (.c (.bool true)) (.t 14), none, []⟩,
    ⟨(some 2), .mov (.t 15), none, []⟩])
  (.ret)), 16, [.t 2]⟩
def xf9l0 : XCode := .seq (.seq (.reg [⟨(some 179), .mov (.t 21), none, []⟩,
    ⟨(some 180), .mov (.t 1), none, []⟩,
    ⟨(some 181), .len (.t 180), none, []⟩,
    ⟨(some 182), .bin .lss (.t 179) (.t 181), none, []⟩])
  (.cond (.t 182)
    (.skip)
    (.exit 0)))
  (.seq (.block 1 (.seq (.dreg [⟨(some 185), .mov (.t 18), none, []⟩,
     ⟨(some 186), .mov (.t 1), none, []⟩,
     ⟨(some 187), .mov (.t 21), none, []⟩,
     ⟨(some 188), .iaddr 1 (.t 186) (.t 187), none, [2, 1]⟩,
     ⟨(some 189), .load1 (.t 188), none, [1, 2, 3]⟩,
     ⟨(some 190), .call (.c (.fn 52 [] [])) [.t 189], none, [3, 2, 1, 4]⟩,
     ⟨(some 191), .bin .add (.t 185) (.t 190), none, [4, 1, 2, 3, 5, 0]⟩,
     ⟨(some 192), .mov (.t 19), none, []⟩,
     ⟨(some 193), .mov (.t 2), none, []⟩,
     ⟨(some 194), .mov (.t 21), none, []⟩,
     ⟨(some 195), .iaddr 1 (.t 193) (.t 194), none, [9, 8]⟩,
     ⟨(some 196), .load1 (.t 195), none, [8, 9, 10]⟩,
     ⟨(some 197), .call (.c (.fn 52 [] [])) [.t 196], none, [4, 1, 2, 3, 10, 9, 8, 5, 11]⟩,
     ⟨(some 198), .bin .add (.t 192) (.t 197), none, [11, 5, 8, 9, 10, 3, 2, 1, 4, 12, 7]⟩,
     ⟨(some 18), .mov (.t 191), none, [11, 8, 9, 10, 5, 4, 3, 2, 1, 0, 12, 6]⟩,
     ⟨(some 19), .mov (.t 198), none, [12, 11, 10, 9, 8, 7, 6, 5, 4, 3, 2, 1, 0, 14, 13]⟩])
   (.seq (.seq (.dreg [⟨(some 199), .mov (.t 14), none, []⟩,
     ⟨(some 200), .mov (.t 21), none, []⟩,
     ⟨(some 201), .iaddr 1 (.t 199) (.t 200), none, [1, 0]⟩,
     ⟨(some 202), .load1 (.t 201), none, [0, 1, 2]⟩,
     ⟨(some 203), .mov (.t 20), none, []⟩,
     ⟨(some 204), .faddr 1 (.t 3), none, []⟩,
     ⟨(some 205), .load1 (.t 204), none, [5]⟩,
     ⟨(some 206), .bin .sub (.t 203) (.t 205), none, [5, 6, 4]⟩,
     ⟨(some 207), .mov (.t 20), none, []⟩,
     ⟨(some 208), .faddr 1 (.t 3), none, []⟩,
     ⟨(some 209), .load1 (.t 208), none, [9]⟩,
     ⟨(some 210), .bin .add (.t 207) (.t 209), none, [9, 10, 8]⟩,
     ⟨(some 211), .call (.c (.fn 33 [] [])) [.t 202, .t 206, .t 210], none, [8, 10, 9, 4, 6, 5, 2, 1, 0, 11, 7, 3]⟩,
     ⟨(some 212), .un .not (.t 211), none, [3, 7, 11, 0, 1, 2, 5, 6, 4, 9, 10, 8, 12]⟩,
     ⟨(some 213), .mov (.t 212), none, [8, 10, 9, 4, 6, 5, 2, 1, 0, 11, 7, 3, 12, 13]⟩,
     ⟨(some 214), .mov (.t 14), (some (213, false)), [13, 12, 3, 7, 11, 0, 1, 2, 5, 6, 4, 9, 10, 8, 14]⟩,
     ⟨(some 215), .mov (.t 21), (some (213, false)), [13, 12, 3, 7, 11, 0, 1, 2, 5, 6, 4, 9, 10, 8, 14]⟩,
     ⟨(some 216), .iaddr 1 (.t 214) (.t 215), (some (213, false)), [8, 10, 9, 4, 6, 5, 2, 1, 0, 11, 7, 3, 12, 13, 14, 16, 15]⟩,
     ⟨(some 217), .load1 (.t 216), (some (213, false)), [15, 16, 13, 12, 3, 7, 11, 0, 1, 2, 5, 6, 4, 9, 10, 8, 14, 17]⟩,
     ⟨(some 218), .mov (.t 1), (some (213, false)), [13, 12, 3, 7, 11, 0, 1, 2, 5, 6, 4, 9, 10, 8, 14]⟩,
     ⟨(some 219), .mov (.t 21), (some (213, false)), [13, 12, 3, 7, 11, 0, 1, 2, 5, 6, 4, 9, 10, 8, 14]⟩,
     ⟨(some 220), .iaddr 1 (.t 218) (.t 219), (some (213, false)), [8, 10, 9, 4, 6, 5, 2, 1, 0, 11, 7, 3, 12, 13, 14, 20, 19]⟩,
     ⟨(some 221), .load1 (.t 220), (some (213, false)), [19, 20, 13, 12, 3, 7, 11, 0, 1, 2, 5, 6, 4, 9, 10, 8, 14, 21]⟩,
     ⟨(some 222), .bin .neq (.t 217) (.t 221), (some (213, false)), [21, 20, 19, 17, 8, 10, 9, 4, 6, 5, 2, 1, 0, 11, 7, 3, 12, 13, 16, 15, 14, 22, 18]⟩,
     ⟨(some 223), .mov (.t 222), (some (213, false)), [18, 22, 15, 16, 13, 12, 3, 7, 11, 0, 1, 2, 5, 6, 4, 9, 10, 8, 17, 19, 20, 21, 14, 23]⟩,
     ⟨(some 224), .mov (.t 14), (some (223, true)), [23, 14, 21, 20, 19, 17, 8, 10, 9, 4, 6, 5, 2, 1, 0, 11, 7, 3, 12, 13, 16, 15, 22, 18, 24]⟩,
     ⟨(some 225), .mov (.t 21), (some (223, true)), [23, 14, 21, 20, 19, 17, 8, 10, 9, 4, 6, 5, 2, 1, 0, 11, 7, 3, 12, 13, 16, 15, 22, 18, 24]⟩,
     ⟨(some 226), .iaddr 1 (.t 224) (.t 225), (some (223, true)), [18, 22, 15, 16, 13, 12, 3, 7, 11, 0, 1, 2, 5, 6, 4, 9, 10, 8, 17, 19, 20, 21, 14, 23, 24, 26, 25]⟩,
     ⟨(some 227), .load1 (.t 226), (some (223, true)), [25, 26, 23, 14, 21, 20, 19, 17, 8, 10, 9, 4, 6, 5, 2, 1, 0, 11, 7, 3, 12, 13, 16, 15, 22, 18, 24, 27]⟩,
     ⟨(some 228), .mov (.t 20), (some (223, true)), [23, 14, 21, 20, 19, 17, 8, 10, 9, 4, 6, 5, 2, 1, 0, 11, 7, 3, 12, 13, 16, 15, 22, 18, 24]⟩,
     ⟨(some 229), .bin .sub (.t 227) (.t 228), (some (223, true)), [27, 18, 22, 15, 16, 13, 12, 3, 7, 11, 0, 1, 2, 5, 6, 4, 9, 10, 8, 17, 19, 20, 21, 14, 23, 26, 25, 24, 29, 28]⟩,
     ⟨(some 230), .call (.c (.fn 52 [] [])) [.t 229], (some (223, true)), [28, 29, 25, 26, 23, 14, 21, 20, 19, 17, 8, 10, 9, 4, 6, 5, 2, 1, 0, 11, 7, 3, 12, 13, 16, 15, 22, 18, 27, 24, 30]⟩,
     ⟨(some 231), .faddr 1 (.t 3), (some (223, true)), [23, 14, 21, 20, 19, 17, 8, 10, 9, 4, 6, 5, 2, 1, 0, 11, 7, 3, 12, 13, 16, 15, 22, 18, 24]⟩,
     ⟨(some 232), .load1 (.t 231), (some (223, true)), [18, 22, 15, 16, 13, 12, 3, 7, 11, 0, 1, 2, 5, 6, 4, 9, 10, 8, 17, 19, 20, 21, 14, 23, 24, 32]⟩,
     ⟨(some 233), .bin .neq (.t 230) (.t 232), (some (223, true)), [32, 30, 27, 18, 22, 15, 16, 13, 12, 3, 7, 11, 0, 1, 2, 5, 6, 4, 9, 10, 8, 17, 19, 20, 21, 14, 23, 26, 25, 29, 28, 24, 33, 31]⟩,
     ⟨(some 234), .pick (.t 223) (.t 233) (.c (.bool false)), (some (213, false)), [31, 33, 28, 29, 25, 26, 27, 30, 32, 23, 21, 20, 19, 17, 8, 10, 9, 4, 6, 5, 2, 1, 0, 11, 7, 3, 12, 13, 16, 15, 22, 18, 14, 34, 24]⟩,
     ⟨(some 235), .pick (.t 213) (.c (.bool true)) (.t 234), none, [24, 34, 18, 22, 15, 16, 17, 19, 20, 21, 23, 32, 30, 27, 26, 25, 29, 28, 33, 31, 13, 12, 3, 7, 11, 0, 1, 2, 5, 6, 4, 9, 10, 8, 35, 14]⟩])
   (.cond (.t 235)
     (.seq (.reg [⟨(some 6), .mov (.c (.bool false)), none, []⟩])
     (.ret))
     (.skip)))
   (.reg [⟨(some 236), .mov (.t 14), none, []⟩,
     ⟨(some 237), .mov (.t 21), none, []⟩,
     ⟨(some 238), .iaddr 1 (.t 236) (.t 237), none, []⟩,
     ⟨(some 239), .load1 (.t 238), none, []⟩,
     ⟨(some 20), .mov (.t 239), none, []⟩]))))
  (.reg [⟨(some 183), .mov (.t 21), none, []⟩,
    ⟨(some 184), .bin .add (.t 183) (.c (.int .i64 1)), none, []⟩,
    ⟨(some 21), .mov (.t 184), none, []⟩]))
def xf9l1 : XCode := .seq (.seq (.reg [⟨(some 270), .mov (.t 23), none, []⟩,
    ⟨(some 271), .bin .lss (.t 270) (.c (.int .i64 80)), none, []⟩])
  (.cond (.t 271)
    (.skip)
    (.exit 2)))
  (.seq (.block 3 (.reg [⟨(some 274), .mov (.t 22), none, []⟩,
     ⟨(some 275), .mov (.t 1), none, []⟩,
     ⟨(some 276), .iaddr 1 (.t 275) (.c (.int .i64 0)), none, []⟩,
     ⟨(some 277), .load1 (.t 276), none, []⟩,
     ⟨(some 278), .buildSlice 3 1 1 false [.int .i64 0] [(0, 1, .t 277)], none, []⟩,
     ⟨(some 279), .append 3 1 8 (.t 274) (.t 278), none, []⟩,
     ⟨(some 22), .mov (.t 279), none, []⟩]))
  (.reg [⟨(some 272), .mov (.t 23), none, []⟩,
    ⟨(some 273), .bin .add (.t 272) (.c (.int .i64 1)), none, []⟩,
    ⟨(some 23), .mov (.t 273), none, []⟩]))
def xf9 : XFunc := ⟨.seq (.reg [⟨(some 3), .box 74 (.t 0), none, []⟩,
    ⟨(some 6), .mov (.c (.bool false)), none, []⟩])
  (.seq (.seq (.reg [⟨(some 26), .call (.c (.fn 12 [] [])) [], none, []⟩,
    ⟨(some 27), .un .not (.t 26), none, []⟩])
  (.cond (.t 27)
    (.seq (.reg [⟨(some 6), .mov (.c (.bool false)), none, []⟩])
    (.ret))
    (.skip)))
  (.seq (.seq (.reg [⟨(some 28), .mov (.t 1), none, []⟩,
    ⟨(some 29), .len (.t 28), none, []⟩,
    ⟨(some 30), .bin .gtr (.t 29) (.c (.int .i64 80)), none, []⟩,
    ⟨(some 31), .mov (.t 30), none, []⟩,
    ⟨(some 32), .mov (.t 2), (some (31, false)), []⟩,
    ⟨(some 33), .len (.t 32), (some (31, false)), []⟩,
    ⟨(some 34), .mov (.t 1), (some (31, false)), []⟩,
    ⟨(some 35), .len (.t 34), (some (31, false)), []⟩,
    ⟨(some 36), .bin .neq (.t 33) (.t 35), (some (31, false)), []⟩,
    ⟨(some 37), .pick (.t 31) (.c (.bool true)) (.t 36), none, []⟩,
    ⟨(some 38), .mov (.t 37), none, []⟩,
    ⟨(some 39), .mov (.t 1), (some (38, false)), []⟩,
    ⟨(some 40), .call (.c (.fn 49 [] [])) [.t 39], (some (38, false)), []⟩,
    ⟨(some 41), .bin .neq (.t 40) (.c (.int .i64 0)), (some (38, false)), []⟩,
    ⟨(some 42), .pick (.t 38) (.c (.bool true)) (.t 41), none, []⟩,
    ⟨(some 43), .mov (.t 42), none, []⟩,
    ⟨(some 44), .mov (.t 2), (some (43, false)), []⟩,
    ⟨(some 45), .call (.c (.fn 49 [] [])) [.t 44], (some (43, false)), []⟩,
    ⟨(some 46), .bin .neq (.t 45) (.c (.int .i64 0)), (some (43, false)), []⟩,
    ⟨(some 47), .pick (.t 43) (.c (.bool true)) (.t 46), none, []⟩,
    ⟨(some 48), .mov (.t 47), none, []⟩,
    ⟨(some 49), .faddr 0 (.t 3), (some (48, false)), []⟩,
    ⟨(some 50), .load1 (.t 49), (some (48, false)), []⟩,
    ⟨(some 51), .faddr 1 (.t 3), (some (48, false)), []⟩,
    ⟨(some 52), .load1 (.t 51), (some (48, false)), []⟩,
    ⟨(some 53), .call (.c (.fn 48 [] [])) [.t 50, .t 52], (some (48, false)), []⟩,
    ⟨(some 54), .bin .neq (.t 53) (.c (.int .i64 0)), (some (48, false)), []⟩,
    ⟨(some 55), .pick (.t 48) (.c (.bool true)) (.t 54), none, []⟩])
  (.cond (.t 55)
    (.seq (.reg [⟨(some 6), .mov (.c (.bool true)), none, []⟩])
    (.ret))
    (.skip)))
  (.seq (.reg [⟨(some 57), .mov (.t 1), none, []⟩,
    ⟨(some 58), .call (.c (.fn 20 [] [])) [.t 57], none, []⟩,
    ⟨(some 59), .mov (.t 2), none, []⟩,
    ⟨(some 60), .call (.c (.fn 20 [] [])) [.t 59], none, []⟩,
    ⟨(some 61), .call (.c (.fn 47 [] [])) [.t 58, .t 60], none, []⟩,
    ⟨(some 56), .mov (.t 61), none, []⟩,
    ⟨(some 62), .extract (.t 56) 0, none, []⟩,
    ⟨(some 63), .extract (.t 56) 1, none, []⟩,
    ⟨(some 7), .new 78 [.int .i64 0, .int .i64 0, .int .i64 0], none, []⟩,
    ⟨none, .store 3 (.t 7) (.t 62), none, []⟩,
    ⟨(some 8), .mov (.t 63), none, []⟩])
  (.seq (.reg [⟨(some 64), .mov (.t 1), none, []⟩,
    ⟨(some 65), .len (.t 64), none, []⟩,
    ⟨(some 66), .bin .quo (.t 65) (.c (.int .i64 2)), none, []⟩,
    ⟨(some 9), .mov (.t 66), none, []⟩])
  (.seq (.dreg [⟨(some 68), .mov (.t 1), none, []⟩,
    ⟨(some 69), .mov (.t 9), none, []⟩,
    ⟨(some 70), .slice 1 (.t 68) none (some (.t 69)), none, [1, 0]⟩,
    ⟨(some 71), .call (.c (.fn 20 [] [])) [.t 70], none, [0, 1, 2]⟩,
    ⟨(some 72), .mov (.t 2), none, []⟩,
    ⟨(some 73), .mov (.t 9), none, []⟩,
    ⟨(some 74), .slice 1 (.t 72) none (some (.t 73)), none, [5, 4]⟩,
    ⟨(some 75), .call (.c (.fn 20 [] [])) [.t 74], none, [2, 1, 0, 4, 5, 3, 6]⟩,
    ⟨(some 76), .call (.c (.fn 47 [] [])) [.t 71, .t 75], none, [6, 5, 4, 2, 1, 0, 7, 3]⟩,
    ⟨(some 67), .mov (.t 76), none, [3, 7, 0, 1, 2, 4, 5, 6, 8]⟩,
    ⟨(some 77), .extract (.t 67) 0, none, [8, 6, 5, 4, 2, 1, 0, 7, 3, 9]⟩,
    ⟨(some 78), .extract (.t 67) 1, none, [8, 6, 5, 4, 2, 1, 0, 7, 3, 9]⟩,
    ⟨(some 10), .new 78 [.int .i64 0, .int .i64 0, .int .i64 0], none, []⟩,
    ⟨none, .store 3 (.t 10) (.t 77), none, [9, 7, 6, 5, 4, 3, 2, 1, 0, 8, 10, 12]⟩,
    ⟨(some 11), .mov (.t 78), none, [12, 10, 9, 8, 7, 6, 5, 4, 3, 2, 1, 0, 13, 11]⟩])
  (.seq (.dreg [⟨(some 80), .mov (.t 1), none, []⟩,
    ⟨(some 81), .mov (.t 9), none, []⟩,
    ⟨(some 82), .slice 1 (.t 80) (some (.t 81)) none, none, [1, 0]⟩,
    ⟨(some 83), .call (.c (.fn 20 [] [])) [.t 82], none, [0, 1, 2]⟩,
    ⟨(some 84), .mov (.t 2), none, []⟩,
    ⟨(some 85), .mov (.t 9), none, []⟩,
    ⟨(some 86), .slice 1 (.t 84) (some (.t 85)) none, none, [5, 4]⟩,
    ⟨(some 87), .call (.c (.fn 20 [] [])) [.t 86], none, [2, 1, 0, 4, 5, 3, 6]⟩,
    ⟨(some 88), .call (.c (.fn 47 [] [])) [.t 83, .t 87], none, [6, 5, 4, 2, 1, 0, 7, 3]⟩,
    ⟨(some 79), .mov (.t 88), none, [3, 7, 0, 1, 2, 4, 5, 6, 8]⟩,
    ⟨(some 89), .extract (.t 79) 0, none, [8, 6, 5, 4, 2, 1, 0, 7, 3, 9]⟩,
    ⟨(some 90), .extract (.t 79) 1, none, [8, 6, 5, 4, 2, 1, 0, 7, 3, 9]⟩,
    ⟨(some 12), .new 78 [.int .i64 0, .int .i64 0, .int .i64 0], none, []⟩,
    ⟨none, .store 3 (.t 12) (.t 89), none, [9, 7, 6, 5, 4, 3, 2, 1, 0, 8, 10, 12]⟩,
    ⟨(some 13), .mov (.t 90), none, [12, 10, 9, 8, 7, 6, 5, 4, 3, 2, 1, 0, 13, 11]⟩])
  (.seq (.dreg [⟨(some 92), .faddr 0 (.t 3), none, []⟩,
    ⟨(some 93), .load1 (.t 92), none, [0]⟩,
    ⟨(some 94), .faddr 1 (.t 3), none, []⟩,
    ⟨(some 95), .load1 (.t 94), none, [2]⟩,
    ⟨(some 96), .mov (.t 1), none, []⟩,
    ⟨(some 97), .call (.c (.fn 20 [] [])) [.t 96], none, [4]⟩,
    ⟨(some 98), .call (.c (.fn 46 [] [])) [.t 93, .t 95, .t 97], none, [4, 2, 0, 5, 3, 1]⟩,
    ⟨(some 91), .mov (.t 98), none, [1, 3, 5, 0, 2, 4, 6]⟩,
    ⟨(some 99), .extract (.t 91) 0, none, [6, 4, 2, 0, 5, 3, 1, 7]⟩,
    ⟨(some 100), .extract (.t 91) 1, none, [6, 4, 2, 0, 5, 3, 1, 7]⟩,
    ⟨(some 14), .mov (.t 99), none, [7, 5, 4, 3, 2, 1, 0, 6, 8]⟩,
    ⟨(some 15), .mov (.t 100), none, [8, 7, 6, 5, 4, 3, 2, 1, 0, 10, 9]⟩])
  (.seq (.reg [⟨(some 102), .mov (.t 1), none, []⟩,
    ⟨(some 103), .call (.c (.fn 20 [] [])) [.t 102], none, []⟩,
    ⟨(some 104), .mov (.t 1), none, []⟩,
    ⟨(some 105), .call (.c (.fn 20 [] [])) [.t 104], none, []⟩,
    ⟨(some 106), .call (.c (.fn 47 [] [])) [.t 103, .t 105], none, []⟩,
    ⟨(some 101), .mov (.t 106), none, []⟩,
    ⟨(some 107), .extract (.t 101) 0, none, []⟩,
    ⟨(some 108), .extract (.t 101) 1, none, []⟩,
    ⟨(some 16), .new 78 [.int .i64 0, .int .i64 0, .int .i64 0], none, []⟩,
    ⟨none, .store 3 (.t 16) (.t 107), none, []⟩,
    ⟨(some 17), .mov (.t 108), none, []⟩])
  (.seq (.seq (.reg [⟨(some 109), .mov (.t 8), none, []⟩,
    ⟨(some 110), .bin .neq (.t 109) (.c (.int .i64 0)), none, []⟩,
    ⟨(some 111), .mov (.t 110), none, []⟩,
    ⟨(some 112), .mov (.t 11), (some (111, false)), []⟩,
    ⟨(some 113), .bin .neq (.t 112) (.c (.int .i64 0)), (some (111, false)), []⟩,
    ⟨(some 114), .pick (.t 111) (.c (.bool true)) (.t 113), none, []⟩,
    ⟨(some 115), .mov (.t 114), none, []⟩,
    ⟨(some 116), .mov (.t 13), (some (115, false)), []⟩,
    ⟨(some 117), .bin .neq (.t 116) (.c (.int .i64 0)), (some (115, false)), []⟩,
    ⟨(some 118), .pick (.t 115) (.c (.bool true)) (.t 117), none, []⟩,
    ⟨(some 119), .mov (.t 118), none, []⟩,
    ⟨(some 120), .mov (.t 15), (some (119, false)), []⟩,
    ⟨(some 121), .bin .neq (.t 120) (.c (.int .i64 0)), (some (119, false)), []⟩,
    ⟨(some 122), .pick (.t 119) (.c (.bool true)) (.t 121), none, []⟩,
    ⟨(some 123), .mov (.t 122), none, []⟩,
    ⟨(some 124), .mov (.t 17), (some (123, false)), []⟩,
    ⟨(some 125), .bin .neq (.t 124) (.c (.int .i64 0)), (some (123, false)), []⟩,
    ⟨(some 126), .pick (.t 123) (.c (.bool true)) (.t 125), none, []⟩,
    ⟨(some 127), .mov (.t 126), none, []⟩,
    ⟨(some 128), .mov (.t 14), (some (127, false)), []⟩,
    ⟨(some 129), .len (.t 128), (some (127, false)), []⟩,
    ⟨(some 130), .mov (.t 1), (some (127, false)), []⟩,
    ⟨(some 131), .len (.t 130), (some (127, false)), []⟩,
    ⟨(some 132), .bin .neq (.t 129) (.t 131), (some (127, false)), []⟩,
    ⟨(some 133), .pick (.t 127) (.c (.bool true)) (.t 132), none, []⟩])
  (.cond (.t 133)
    (.seq (.reg [⟨(some 6), .mov (.c (.bool false)), none, []⟩])
    (.ret))
    (.skip)))
  (.seq (.seq (.reg [⟨(some 134), .faddr 0 (.t 7), none, []⟩,
    ⟨(some 135), .load1 (.t 134), none, []⟩,
    ⟨(some 136), .faddr 0 (.t 10), none, []⟩,
    ⟨(some 137), .load1 (.t 136), none, []⟩,
    ⟨(some 138), .faddr 0 (.t 12), none, []⟩,
    ⟨(some 139), .load1 (.t 138), none, []⟩,
    ⟨(some 140), .bin .add (.t 137) (.t 139), none, []⟩,
    ⟨(some 141), .bin .neq (.t 135) (.t 140), none, []⟩,
    ⟨(some 142), .mov (.t 141), none, []⟩,
    ⟨(some 143), .faddr 1 (.t 7), (some (142, false)), []⟩,
    ⟨(some 144), .load1 (.t 143), (some (142, false)), []⟩,
    ⟨(some 145), .faddr 1 (.t 10), (some (142, false)), []⟩,
    ⟨(some 146), .load1 (.t 145), (some (142, false)), []⟩,
    ⟨(some 147), .faddr 1 (.t 12), (some (142, false)), []⟩,
    ⟨(some 148), .load1 (.t 147), (some (142, false)), []⟩,
    ⟨(some 149), .bin .add (.t 146) (.t 148), (some (142, false)), []⟩,
    ⟨(some 150), .bin .neq (.t 144) (.t 149), (some (142, false)), []⟩,
    ⟨(some 151), .pick (.t 142) (.c (.bool true)) (.t 150), none, []⟩,
    ⟨(some 152), .mov (.t 151), none, []⟩,
    ⟨(some 153), .faddr 2 (.t 7), (some (152, false)), []⟩,
    ⟨(some 154), .load1 (.t 153), (some (152, false)), []⟩,
    ⟨(some 155), .faddr 2 (.t 10), (some (152, false)), []⟩,
    ⟨(some 156), .load1 (.t 155), (some (152, false)), []⟩,
    ⟨(some 157), .faddr 2 (.t 12), (some (152, false)), []⟩,
    ⟨(some 158), .load1 (.t 157), (some (152, false)), []⟩,
    ⟨(some 159), .bin .add (.t 156) (.t 158), (some (152, false)), []⟩,
    ⟨(some 160), .bin .neq (.t 154) (.t 159), (some (152, false)), []⟩,
    ⟨(some 161), .pick (.t 152) (.c (.bool true)) (.t 160), none, []⟩,
    ⟨(some 162), .mov (.t 161), none, []⟩,
    ⟨(some 163), .faddr 0 (.t 7), (some (162, false)), []⟩,
    ⟨(some 164), .load1 (.t 163), (some (162, false)), []⟩,
    ⟨(some 165), .bin .lss (.t 164) (.c (.int .i64 0)), (some (162, false)), []⟩,
    ⟨(some 166), .pick (.t 162) (.c (.bool true)) (.t 165), none, []⟩,
    ⟨(some 167), .mov (.t 166), none, []⟩,
    ⟨(some 168), .faddr 1 (.t 7), (some (167, false)), []⟩,
    ⟨(some 169), .load1 (.t 168), (some (167, false)), []⟩,
    ⟨(some 170), .bin .lss (.t 169) (.c (.int .i64 0)), (some (167, false)), []⟩,
    ⟨(some 171), .pick (.t 167) (.c (.bool true)) (.t 170), none, []⟩,
    ⟨(some 172), .mov (.t 171), none, []⟩,
    ⟨(some 173), .faddr 2 (.t 7), (some (172, false)), []⟩,
    ⟨(some 174), .load1 (.t 173), (some (172, false)), []⟩,
    ⟨(some 175), .bin .lss (.t 174) (.c (.int .i64 0)), (some (172, false)), []⟩,
    ⟨(some 176), .pick (.t 172) (.c (.bool true)) (.t 175), none, []⟩])
  (.cond (.t 176)
    (.seq (.reg [⟨(some 6), .mov (.c (.bool false)), none, []⟩])
    (.ret))
    (.skip)))
  (.seq (.reg [⟨(some 18), .mov (.c (.int .i64 0)), none, []⟩,
    ⟨(some 19), .mov (.c (.int .i64 0)), none, []⟩])
  (.seq (.reg [⟨(some 177), .faddr 0 (.t 3), none, []⟩,
    ⟨(some 178), .load1 (.t 177), none, []⟩,
    ⟨(some 20), .mov (.t 178), none, []⟩])
  (.seq (.seq (.reg [⟨(some 21), .mov (.c (.int .i64 0)), none, []⟩])
  (.block 0 (.loop xf9l0)))
  (.seq (.seq (.reg [⟨(some 240), .faddr 0 (.t 7), none, []⟩,
    ⟨(some 241), .load1 (.t 240), none, []⟩,
    ⟨(some 242), .faddr 1 (.t 7), none, []⟩,
    ⟨(some 243), .load1 (.t 242), none, []⟩,
    ⟨(some 244), .bin .add (.t 241) (.t 243), none, []⟩,
    ⟨(some 245), .mov (.t 18), none, []⟩,
    ⟨(some 246), .bin .neq (.t 244) (.t 245), none, []⟩,
    ⟨(some 247), .mov (.t 246), none, []⟩,
    ⟨(some 248), .faddr 0 (.t 7), (some (247, false)), []⟩,
    ⟨(some 249), .load1 (.t 248), (some (247, false)), []⟩,
    ⟨(some 250), .faddr 2 (.t 7), (some (247, false)), []⟩,
    ⟨(some 251), .load1 (.t 250), (some (247, false)), []⟩,
    ⟨(some 252), .bin .add (.t 249) (.t 251), (some (247, false)), []⟩,
    ⟨(some 253), .mov (.t 19), (some (247, false)), []⟩,
    ⟨(some 254), .bin .neq (.t 252) (.t 253), (some (247, false)), []⟩,
    ⟨(some 255), .pick (.t 247) (.c (.bool true)) (.t 254), none, []⟩,
    ⟨(some 256), .mov (.t 255), none, []⟩,
    ⟨(some 257), .loadn 3 (.t 16), (some (256, false)), []⟩,
    ⟨(some 258), .mov (.t 18), (some (256, false)), []⟩,
    ⟨(some 259), .build [.int .i64 0, .int .i64 0, .int .i64 0] [(0, 1, .t 258)], (some (256, false)), []⟩,
    ⟨(some 260), .eqA true (.s [(0, 1, false, .c 0), (1, 1, false, .c 0), (2, 1, false, .c 0)]) (.t 257) (.t 259), (some (256, false)), []⟩,
    ⟨(some 261), .pick (.t 256) (.c (.bool true)) (.t 260), none, []⟩])
  (.cond (.t 261)
    (.seq (.reg [⟨(some 6), .mov (.c (.bool false)), none, []⟩])
    (.ret))
    (.skip)))
  (.seq (.seq (.reg [⟨(some 262), .faddr 1 (.t 3), none, []⟩,
    ⟨(some 263), .load1 (.t 262), none, []⟩,
    ⟨(some 264), .bin .eql (.t 263) (.c (.int .i64 0)), none, []⟩,
    ⟨(some 265), .mov (.t 264), none, []⟩,
    ⟨(some 266), .mov (.t 1), (some (265, false)), []⟩,
    ⟨(some 267), .len (.t 266), (some (265, false)), []⟩,
    ⟨(some 268), .bin .eql (.t 267) (.c (.int .i64 0)), (some (265, false)), []⟩,
    ⟨(some 269), .pick (.t 265) (.c (.bool true)) (.t 268), none, []⟩])
  (.cond (.t 269)
    (.seq (.reg [⟨(some 6), .mov (.c (.bool true)), none, []⟩])
    (.ret))
    (.skip)))
  (.seq (.reg [⟨(some 22), .mov (.c (.nils)), none, []⟩])
  (.seq (.seq (.reg [⟨(some 23), .mov (.c (.int .i64 0)), none, []⟩])
  (.block 2 (.loop xf9l1)))
  (.seq (.reg [⟨(some 281), .faddr 0 (.t 3), none, []⟩,
    ⟨(some 282), .load1 (.t 281), none, []⟩,
    ⟨(some 283), .faddr 1 (.t 3), none, []⟩,
    ⟨(some 284), .load1 (.t 283), none, []⟩,
    ⟨(some 285), .mov (.t 22), none, []⟩,
    ⟨(some 286), .call (.c (.fn 46 [] [])) [.t 282, .t 284, .t 285], none, []⟩,
    ⟨(some 280), .mov (.t 286), none, []⟩,
    ⟨(some 287), .extract (.t 280) 0, none, []⟩,
    ⟨(some 288), .extract (.t 280) 1, none, []⟩,
    ⟨(some 24), .mov (.t 287), none, []⟩,
    ⟨(some 25), .mov (.t 288), none, []⟩])
  (.seq (.dreg [⟨(some 289), .mov (.t 25), none, []⟩,
    ⟨(some 290), .bin .eql (.t 289) (.c (.int .i64 0)), none, [0]⟩,
    ⟨(some 291), .mov (.t 290), none, [0, 1]⟩,
    ⟨(some 292), .mov (.t 24), (some (291, true)), [1, 0, 2]⟩,
    ⟨(some 293), .len (.t 292), (some (291, true)), [0, 1, 2, 3]⟩,
    ⟨(some 294), .bin .eql (.t 293) (.c (.int .i64 80)), (some (291, true)), [3, 1, 0, 2, 4]⟩,
    ⟨(some 295), .pick (.t 291) (.t 294) (.c (.bool false)), none, [4, 3, 1, 0, 5, 2]⟩,
    ⟨(some 296), .mov (.t 295), none, [5, 0, 1, 3, 4, 2, 6]⟩,
    ⟨(some 297), .faddr 1 (.t 3), (some (296, true)), [6, 2, 4, 3, 1, 0, 5, 7]⟩,
    ⟨(some 298), .load1 (.t 297), (some (296, true)), [5, 0, 1, 3, 4, 2, 6, 7, 8]⟩,
    ⟨(some 299), .bin .mul (.c (.int .i64 80)) (.t 298), (some (296, true)), [8, 6, 2, 4, 3, 1, 0, 5, 7, 9]⟩,
    ⟨(some 300), .mov (.t 1), (some (296, true)), [6, 2, 4, 3, 1, 0, 5, 7]⟩,
    ⟨(some 301), .iaddr 1 (.t 300) (.c (.int .i64 0)), (some (296, true)), [5, 0, 1, 3, 4, 2, 6, 7, 11]⟩,
    ⟨(some 302), .load1 (.t 301), (some (296, true)), [11, 6, 2, 4, 3, 1, 0, 5, 7, 12]⟩,
    ⟨(some 303), .faddr 0 (.t 3), (some (296, true)), [6, 2, 4, 3, 1, 0, 5, 7]⟩,
    ⟨(some 304), .load1 (.t 303), (some (296, true)), [5, 0, 1, 3, 4, 2, 6, 7, 14]⟩,
    ⟨(some 305), .bin .sub (.t 302) (.t 304), (some (296, true)), [14, 12, 5, 0, 1, 3, 4, 2, 6, 11, 7, 15, 13]⟩,
    ⟨(some 306), .call (.c (.fn 52 [] [])) [.t 305], (some (296, true)), [13, 15, 11, 6, 2, 4, 3, 1, 0, 5, 12, 14, 7, 16]⟩,
    ⟨(some 307), .bin .lss (.t 299) (.t 306), (some (296, true)), [16, 14, 12, 11, 15, 13, 9, 5, 0, 1, 3, 4, 2, 6, 8, 7, 17, 10]⟩,
    ⟨(some 308), .mov (.t 307), (some (296, true)), [10, 8, 6, 2, 4, 3, 1, 0, 5, 9, 13, 15, 11, 12, 14, 16, 7, 17, 18]⟩,
    ⟨(some 309), .mov (.t 24), (some (308, false)), [18, 17, 7, 16, 14, 12, 11, 15, 13, 9, 5, 0, 1, 3, 4, 2, 6, 8, 10, 19]⟩,
    ⟨(some 310), .iaddr 1 (.t 309) (.c (.int .i64 79)), (some (308, false)), [10, 8, 6, 2, 4, 3, 1, 0, 5, 9, 13, 15, 11, 12, 14, 16, 7, 17, 18, 19, 20]⟩,
    ⟨(some 311), .load1 (.t 310), (some (308, false)), [20, 18, 17, 7, 16, 14, 12, 11, 15, 13, 9, 5, 0, 1, 3, 4, 2, 6, 8, 10, 19, 21]⟩,
    ⟨(some 312), .mov (.t 1), (some (308, false)), [18, 17, 7, 16, 14, 12, 11, 15, 13, 9, 5, 0, 1, 3, 4, 2, 6, 8, 10, 19]⟩,
    ⟨(some 313), .iaddr 1 (.t 312) (.c (.int .i64 0)), (some (308, false)), [10, 8, 6, 2, 4, 3, 1, 0, 5, 9, 13, 15, 11, 12, 14, 16, 7, 17, 18, 19, 23]⟩,
    ⟨(some 314), .load1 (.t 313), (some (308, false)), [23, 18, 17, 7, 16, 14, 12, 11, 15, 13, 9, 5, 0, 1, 3, 4, 2, 6, 8, 10, 19, 24]⟩,
    ⟨(some 315), .bin .eql (.t 311) (.t 314), (some (308, false)), [24, 23, 21, 10, 8, 6, 2, 4, 3, 1, 0, 5, 9, 13, 15, 11, 12, 14, 16, 7, 17, 18, 20, 19, 25, 22]⟩,
    ⟨(some 316), .pick (.t 308) (.c (.bool true)) (.t 315), (some (296, true)), [22, 25, 20, 21, 23, 24, 18, 17, 16, 14, 12, 11, 15, 13, 9, 5, 0, 1, 3, 4, 2, 6, 8, 10, 7, 26, 19]⟩,
    ⟨(some 317), .pick (.t 296) (.t 316) (.c (.bool false)), none, [19, 26, 10, 8, 9, 13, 15, 11, 12, 14, 16, 17, 18, 24, 23, 21, 20, 25, 22, 6, 2, 4, 3, 1, 0, 5, 27, 7]⟩,
    ⟨(some 6), .mov (.t 317), none, [27, 26, 25, 24, 23, 22, 21, 20, 18, 17, 16, 15, 14, 13, 12, 11, 10, 9, 8, 7, 6, 5, 4, 3, 2, 1, 0, 19, 28]⟩])
  (.ret)))))))))))))))))))), 318, [.t 6]⟩
def xf46l0 : XCode := .seq (.reg [⟨(some 30), .bin .lss (.t 29) (.t 28), none, []⟩])
  (.seq (.cond (.t 30)
    (.skip)
    (.exit 0))
  (.seq (.block 1 (.seq (.reg [⟨(some 31), .iaddr 1 (.t 27) (.t 29), none, []⟩,
     ⟨(some 32), .load1 (.t 31), none, []⟩,
     ⟨(some 12), .mov (.t 32), none, []⟩])
   (.seq (.reg [⟨(some 33), .mov (.t 12), none, []⟩,
     ⟨(some 34), .mov (.t 10), none, []⟩,
     ⟨(some 35), .mov (.t 1), none, []⟩,
     ⟨(some 36), .bin .sub (.t 34) (.t 35), none, []⟩,
     ⟨(some 37), .ext true (.t 33) [.t 36], none, []⟩,
     ⟨(some 38), .mov (.t 10), none, []⟩,
     ⟨(some 39), .mov (.t 1), none, []⟩,
     ⟨(some 40), .bin .add (.t 38) (.t 39), none, []⟩,
     ⟨(some 41), .ext false (.t 37) [.t 40], none, []⟩,
     ⟨(some 10), .mov (.t 41), none, []⟩])
   (.reg [⟨(some 42), .mov (.t 9), none, []⟩,
     ⟨(some 43), .mov (.t 10), none, []⟩,
     ⟨(some 44), .buildSlice 3 1 1 false [.int .i64 0] [(0, 1, .t 43)], none, []⟩,
     ⟨(some 45), .append 3 1 8 (.t 42) (.t 44), none, []⟩,
     ⟨(some 9), .mov (.t 45), none, []⟩]))))
  (.reg [⟨(some 46), .bin .add (.t 29) (.c (.int .i64 1)), none, []⟩,
    ⟨(some 29), .mov (.t 46), none, []⟩])))
def xf46 : XFunc := ⟨.seq (.reg [⟨(some 6), .mov (.c (.nils)), none, []⟩,
    ⟨(some 7), .mov (.c (.int .i64 0)), none, []⟩])
  (.seq (.seq (.reg [⟨(some 13), .mov (.t 0), none, []⟩,
    ⟨(some 14), .buildSlice 3 1 1 false [.int .i64 0] [(0, 1, .t 13)], none, []⟩,
    ⟨(some 15), .call (.c (.fn 76 [] [])) [.c (.int .i64 1000000), .t 14], none, []⟩,
    ⟨(some 16), .mov (.t 1), none, []⟩,
    ⟨(some 17), .buildSlice 3 1 1 false [.int .i64 0] [(0, 1, .t 16)], none, []⟩,
    ⟨(some 18), .call (.c (.fn 70 [] [])) [.c (.int .i64 0), .c (.int .i64 1000000), .t 17], none, []⟩,
    ⟨(some 19), .mov (.t 2), none, []⟩,
    ⟨(some 20), .call (.c (.fn 101 [] [])) [.t 19], none, []⟩,
    ⟨(some 21), .buildSlice 32 1 3 false [.int .i64 0, .int .i64 0, .int .i64 0] [(0, 1, .t 15), (1, 1, .t 18), (2, 1, .t 20)], none, []⟩,
    ⟨(some 22), .call (.c (.fn 69 [] [])) [.t 21], none, []⟩,
    ⟨(some 8), .mov (.t 22), none, []⟩])
  (.seq (.reg [⟨(some 23), .mov (.t 8), none, []⟩,
    ⟨(some 24), .bin .neq (.t 23) (.c (.int .i64 0)), none, []⟩])
  (.cond (.t 24)
    (.seq (.reg [⟨(some 25), .mov (.t 8), none, []⟩,
      ⟨(some 6), .mov (.c (.nils)), none, []⟩,
      ⟨(some 7), .mov (.t 25), none, []⟩])
    (.ret))
    (.skip))))
  (.seq (.reg [⟨(some 9), .mov (.c (.nils)), none, []⟩])
  (.seq (.reg [⟨(some 26), .mov (.t 0), none, []⟩,
    ⟨(some 10), .mov (.t 26), none, []⟩])
  (.seq (.seq (.reg [⟨(some 27), .mov (.t 2), none, []⟩,
    ⟨(some 28), .len (.t 27), none, []⟩,
    ⟨(some 29), .mov (.c (.int .i64 0)), none, []⟩])
  (.block 0 (.loop xf46l0)))
  (.seq (.reg [⟨(some 47), .mov (.t 9), none, []⟩,
    ⟨(some 6), .mov (.t 47), none, []⟩,
    ⟨(some 7), .mov (.c (.int .i64 0)), none, []⟩])
  (.ret)))))), 48, [.t 6, .t 7]⟩
def xf47l0 : XCode := .seq (.reg [⟨(some 31), .bin .lss (.t 30) (.t 29), none, []⟩])
  (.seq (.cond (.t 31)
    (.skip)
    (.exit 0))
  (.seq (.block 1 (.seq (.reg [⟨(some 32), .mov (.t 30), none, []⟩,
     ⟨(some 33), .iaddr 1 (.t 28) (.t 30), none, []⟩,
     ⟨(some 34), .load1 (.t 33), none, []⟩,
     ⟨(some 8), .mov (.t 32), none, []⟩,
     ⟨(some 9), .mov (.t 34), none, []⟩])
   (.seq (.reg [⟨(some 35), .mov (.t 1), none, []⟩,
     ⟨(some 36), .mov (.t 8), none, []⟩,
     ⟨(some 37), .iaddr 1 (.t 35) (.t 36), none, []⟩,
     ⟨(some 38), .load1 (.t 37), none, []⟩,
     ⟨(some 10), .mov (.t 38), none, []⟩])
   (.seq (.reg [⟨(some 39), .mov (.t 9), none, []⟩,
     ⟨(some 40), .mov (.t 10), none, []⟩,
     ⟨(some 41), .call (.c (.fn 102 [] [])) [.t 39, .t 40], none, []⟩,
     ⟨(some 11), .mov (.t 41), none, []⟩])
   (.seq (.reg [⟨(some 42), .faddr 0 (.t 7), none, []⟩,
     ⟨(some 43), .load1 (.t 42), none, []⟩,
     ⟨(some 44), .mov (.t 11), none, []⟩,
     ⟨(some 45), .bin .add (.t 43) (.t 44), none, []⟩,
     ⟨(some 46), .faddr 0 (.t 7), none, []⟩,
     ⟨none, .store 1 (.t 46) (.t 45), none, []⟩])
   (.seq (.dreg [⟨(some 47), .faddr 1 (.t 7), none, []⟩,
     ⟨(some 48), .load1 (.t 47), none, [0]⟩,
     ⟨(some 49), .mov (.t 9), none, []⟩,
     ⟨(some 50), .call (.c (.fn 103 [] [])) [.t 49], none, [2]⟩,
     ⟨(some 51), .mov (.t 11), none, []⟩,
     ⟨(some 52), .bin .sub (.t 50) (.t 51), none, [2, 4, 3]⟩,
     ⟨(some 53), .bin .add (.t 48) (.t 52), none, [3, 4, 2, 0, 5, 1]⟩,
     ⟨(some 54), .faddr 1 (.t 7), none, [6, 5, 4, 3, 2, 1, 0]⟩,
     ⟨none, .store 1 (.t 54) (.t 53), none, [5, 4, 2, 1, 0, 3, 6, 7]⟩])
   (.dreg [⟨(some 55), .faddr 2 (.t 7), none, []⟩,
     ⟨(some 56), .load1 (.t 55), none, [0]⟩,
     ⟨(some 57), .mov (.t 10), none, []⟩,
     ⟨(some 58), .call (.c (.fn 103 [] [])) [.t 57], none, [2]⟩,
     ⟨(some 59), .mov (.t 11), none, []⟩,
     ⟨(some 60), .bin .sub (.t 58) (.t 59), none, [2, 4, 3]⟩,
     ⟨(some 61), .bin .add (.t 56) (.t 60), none, [3, 4, 2, 0, 5, 1]⟩,
     ⟨(some 62), .faddr 2 (.t 7), none, [6, 5, 4, 3, 2, 1, 0]⟩,
     ⟨none, .store 1 (.t 62) (.t 61), none, [5, 4, 2, 1, 0, 3, 6, 7]⟩])))))))
  (.reg [⟨(some 63), .bin .add (.t 30) (.c (.int .i64 1)), none, []⟩,
    ⟨(some 30), .mov (.t 63), none, []⟩])))
def xf47 : XFunc := ⟨.seq (.reg [⟨(some 4), .new 78 [.int .i64 0, .int .i64 0, .int .i64 0], none, []⟩,
    ⟨(some 5), .mov (.c (.int .i64 0)), none, []⟩])
  (.seq (.seq (.reg [⟨(some 12), .mov (.t 0), none, []⟩,
    ⟨(some 13), .call (.c (.fn 101 [] [])) [.t 12], none, []⟩,
    ⟨(some 14), .mov (.t 1), none, []⟩,
    ⟨(some 15), .call (.c (.fn 101 [] [])) [.t 14], none, []⟩,
    ⟨(some 16), .mov (.t 0), none, []⟩,
    ⟨(some 17), .len (.t 16), none, []⟩,
    ⟨(some 18), .mov (.t 1), none, []⟩,
    ⟨(some 19), .len (.t 18), none, []⟩,
    ⟨(some 20), .bin .eql (.t 17) (.t 19), none, []⟩,
    ⟨(some 21), .call (.c (.fn 71 [] [])) [.t 20, .c (.int .i64 10)], none, []⟩,
    ⟨(some 22), .buildSlice 32 1 3 false [.int .i64 0, .int .i64 0, .int .i64 0] [(0, 1, .t 13), (1, 1, .t 15), (2, 1, .t 21)], none, []⟩,
    ⟨(some 23), .call (.c (.fn 69 [] [])) [.t 22], none, []⟩,
    ⟨(some 6), .mov (.t 23), none, []⟩])
  (.seq (.reg [⟨(some 24), .mov (.t 6), none, []⟩,
    ⟨(some 25), .bin .neq (.t 24) (.c (.int .i64 0)), none, []⟩])
  (.cond (.t 25)
    (.seq (.reg [⟨(some 26), .build [.int .i64 0, .int .i64 0, .int .i64 0] [], none, []⟩,
      ⟨(some 27), .mov (.t 6), none, []⟩,
      ⟨none, .store 3 (.t 4) (.t 26), none, []⟩,
      ⟨(some 5), .mov (.t 27), none, []⟩])
    (.ret))
    (.skip))))
  (.seq (.reg [⟨(some 7), .new 78 [.int .i64 0, .int .i64 0, .int .i64 0], none, []⟩])
  (.seq (.seq (.reg [⟨(some 28), .mov (.t 0), none, []⟩,
    ⟨(some 29), .len (.t 28), none, []⟩,
    ⟨(some 30), .mov (.c (.int .i64 0)), none, []⟩])
  (.block 0 (.loop xf47l0)))
  (.seq (.reg [⟨(some 64), .loadn 3 (.t 7), none, []⟩,
    ⟨none, .store 3 (.t 4) (.t 64), none, []⟩,
    ⟨(some 5), .mov (.c (.int .i64 0)), none, []⟩])
  (.ret))))), 65, [.cn 4 3, .t 5]⟩
def xf20 : XFunc := ⟨.seq (.reg [⟨(some 2), .mov (.c (.nils)), none, []⟩])
  (.seq (.reg [⟨(some 3), .buildSlice 3 1 0 false [] [], none, []⟩,
    ⟨(some 4), .mov (.t 0), none, []⟩,
    ⟨(some 5), .append 3 1 8 (.t 3) (.t 4), none, []⟩,
    ⟨(some 2), .mov (.t 5), none, []⟩])
  (.ret)), 6, [.t 2]⟩
def xf26l0 : XCode := .seq (.seq (.reg [⟨(some 11), .mov (.t 5), none, []⟩,
    ⟨(some 12), .mov (.t 0), none, []⟩,
    ⟨(some 13), .len (.t 12), none, []⟩,
    ⟨(some 14), .bin .lss (.t 11) (.t 13), none, []⟩])
  (.cond (.t 14)
    (.skip)
    (.exit 0)))
  (.seq (.block 1 (.seq (.dreg [⟨(some 17), .mov (.t 0), none, []⟩,
     ⟨(some 18), .mov (.t 5), none, []⟩,
     ⟨(some 19), .iaddr 1 (.t 17) (.t 18), none, [1, 0]⟩,
     ⟨(some 20), .load1 (.t 19), none, [0, 1, 2]⟩,
     ⟨(some 21), .mov (.t 1), none, []⟩,
     ⟨(some 22), .mov (.t 5), none, []⟩,
     ⟨(some 23), .iaddr 1 (.t 21) (.t 22), none, [5, 4]⟩,
     ⟨(some 24), .load1 (.t 23), none, [4, 5, 6]⟩,
     ⟨(some 25), .bin .neq (.t 20) (.t 24), none, [6, 5, 4, 2, 1, 0, 7, 3]⟩])
   (.cond (.t 25)
     (.seq (.reg [⟨(some 4), .mov (.c (.bool false)), none, []⟩])
     (.ret))
     (.skip))))
  (.reg [⟨(some 15), .mov (.t 5), none, []⟩,
    ⟨(some 16), .bin .add (.t 15) (.c (.int .i64 1)), none, []⟩,
    ⟨(some 5), .mov (.t 16), none, []⟩]))
def xf26 : XFunc := ⟨.seq (.reg [⟨(some 4), .mov (.c (.bool false)), none, []⟩])
  (.seq (.seq (.reg [⟨(some 6), .mov (.t 0), none, []⟩,
    ⟨(some 7), .len (.t 6), none, []⟩,
    ⟨(some 8), .mov (.t 1), none, []⟩,
    ⟨(some 9), .len (.t 8), none, []⟩,
    ⟨(some 10), .bin .neq (.t 7) (.t 9), none, []⟩])
  (.cond (.t 10)
    (.seq (.reg [⟨(some 4), .mov (.c (.bool false)), none, []⟩])
    (.ret))
    (.skip)))
  (.seq (.seq (.reg [⟨(some 5), .mov (.c (.int .i64 0)), none, []⟩])
  (.block 0 (.loop xf26l0)))
  (.seq (.reg [⟨(some 4), .mov (.c (.bool true)), none, []⟩])
  (.ret)))), 26, [.t 4]⟩
def xf48 : XFunc := ⟨.seq (.reg [⟨(some 4), .mov (.c (.int .i64 0)), none, []⟩])
  (.seq (.seq (.reg [⟨(some 5), .mov (.t 0), none, []⟩,
    ⟨(some 6), .call (.c (.fn 33 [] [])) [.t 5, .c (.int .i64 (-1000000)), .c (.int .i64 1000000)], none, []⟩,
    ⟨(some 7), .un .not (.t 6), none, []⟩,
    ⟨(some 8), .mov (.t 7), none, []⟩,
    ⟨(some 9), .mov (.t 1), (some (8, false)), []⟩,
    ⟨(some 10), .call (.c (.fn 33 [] [])) [.t 9, .c (.int .i64 0), .c (.int .i64 1000000)], (some (8, false)), []⟩,
    ⟨(some 11), .un .not (.t 10), (some (8, false)), []⟩,
    ⟨(some 12), .pick (.t 8) (.c (.bool true)) (.t 11), none, []⟩])
  (.cond (.t 12)
    (.seq (.reg [⟨(some 4), .mov (.c (.int .i64 2)), none, []⟩])
    (.ret))
    (.skip)))
  (.seq (.reg [⟨(some 4), .mov (.c (.int .i64 0)), none, []⟩])
  (.ret))), 13, [.t 4]⟩
def xf49l0 : XCode := .seq (.seq (.reg [⟨(some 7), .mov (.t 3), none, []⟩,
    ⟨(some 8), .mov (.t 0), none, []⟩,
    ⟨(some 9), .len (.t 8), none, []⟩,
    ⟨(some 10), .bin .lss (.t 7) (.t 9), none, []⟩])
  (.cond (.t 10)
    (.skip)
    (.exit 0)))
  (.seq (.block 1 (.seq (.reg [⟨(some 13), .mov (.t 0), none, []⟩,
     ⟨(some 14), .mov (.t 3), none, []⟩,
     ⟨(some 15), .iaddr 1 (.t 13) (.t 14), none, []⟩,
     ⟨(some 16), .load1 (.t 15), none, []⟩,
     ⟨(some 17), .call (.c (.fn 33 [] [])) [.t 16, .c (.int .i64 (-1000000)), .c (.int .i64 1000000)], none, []⟩,
     ⟨(some 18), .un .not (.t 17), none, []⟩])
   (.cond (.t 18)
     (.seq (.reg [⟨(some 2), .mov (.c (.int .i64 2)), none, []⟩])
     (.ret))
     (.skip))))
  (.reg [⟨(some 11), .mov (.t 3), none, []⟩,
    ⟨(some 12), .bin .add (.t 11) (.c (.int .i64 1)), none, []⟩,
    ⟨(some 3), .mov (.t 12), none, []⟩]))
def xf49 : XFunc := ⟨.seq (.reg [⟨(some 2), .mov (.c (.int .i64 0)), none, []⟩])
  (.seq (.seq (.reg [⟨(some 4), .mov (.t 0), none, []⟩,
    ⟨(some 5), .len (.t 4), none, []⟩,
    ⟨(some 6), .bin .gtr (.t 5) (.c (.int .i64 300)), none, []⟩])
  (.cond (.t 6)
    (.seq (.reg [⟨(some 2), .mov (.c (.int .i64 8)), none, []⟩])
    (.ret))
    (.skip)))
  (.seq (.seq (.reg [⟨(some 3), .mov (.c (.int .i64 0)), none, []⟩])
  (.block 0 (.loop xf49l0)))
  (.seq (.reg [⟨(some 2), .mov (.c (.int .i64 0)), none, []⟩])
  (.ret)))), 19, [.t 2]⟩
def xf50l0 : XCode := .seq (.seq (.reg [⟨(some 11), .mov (.t 9), none, []⟩,
    ⟨(some 12), .mov (.t 2), none, []⟩,
    ⟨(some 13), .len (.t 12), none, []⟩,
    ⟨(some 14), .bin .lss (.t 11) (.t 13), none, []⟩])
  (.cond (.t 14)
    (.skip)
    (.exit 0)))
  (.seq (.block 1 (.seq (.reg [⟨(some 17), .mov (.t 8), none, []⟩,
     ⟨(some 18), .mov (.t 1), none, []⟩,
     ⟨(some 19), .bin .sub (.t 17) (.t 18), none, []⟩,
     ⟨(some 20), .mov (.t 8), none, []⟩,
     ⟨(some 21), .mov (.t 1), none, []⟩,
     ⟨(some 22), .bin .add (.t 20) (.t 21), none, []⟩,
     ⟨(some 23), .mov (.t 2), none, []⟩,
     ⟨(some 24), .mov (.t 9), none, []⟩,
     ⟨(some 25), .iaddr 1 (.t 23) (.t 24), none, []⟩,
     ⟨(some 26), .load1 (.t 25), none, []⟩,
     ⟨(some 27), .ext false (.t 22) [.t 26], none, []⟩,
     ⟨(some 28), .ext true (.t 19) [.t 27], none, []⟩,
     ⟨(some 8), .mov (.t 28), none, []⟩])
   (.reg [⟨(some 29), .mov (.t 7), none, []⟩,
     ⟨(some 30), .mov (.t 8), none, []⟩,
     ⟨(some 31), .buildSlice 3 1 1 false [.int .i64 0] [(0, 1, .t 30)], none, []⟩,
     ⟨(some 32), .append 3 1 8 (.t 29) (.t 31), none, []⟩,
     ⟨(some 7), .mov (.t 32), none, []⟩])))
  (.reg [⟨(some 15), .mov (.t 9), none, []⟩,
    ⟨(some 16), .bin .add (.t 15) (.c (.int .i64 1)), none, []⟩,
    ⟨(some 9), .mov (.t 16), none, []⟩]))
def xf50 : XFunc := ⟨.seq (.reg [⟨(some 6), .mov (.c (.nils)), none, []⟩])
  (.seq (.reg [⟨(some 7), .mov (.c (.nils)), none, []⟩])
  (.seq (.reg [⟨(some 10), .mov (.t 0), none, []⟩,
    ⟨(some 8), .mov (.t 10), none, []⟩])
  (.seq (.seq (.reg [⟨(some 9), .mov (.c (.int .i64 0)), none, []⟩])
  (.block 0 (.loop xf50l0)))
  (.seq (.reg [⟨(some 33), .mov (.t 7), none, []⟩,
    ⟨(some 6), .mov (.t 33), none, []⟩])
  (.ret))))), 34, [.t 6]⟩
def xf51l0 : XCode := .seq (.seq (.reg [⟨(some 10), .mov (.t 6), none, []⟩,
    ⟨(some 11), .mov (.t 0), none, []⟩,
    ⟨(some 12), .len (.t 11), none, []⟩,
    ⟨(some 13), .bin .lss (.t 10) (.t 12), none, []⟩])
  (.cond (.t 13)
    (.skip)
    (.exit 0)))
  (.seq (.block 1 (.seq (.dreg [⟨(some 16), .mov (.t 0), none, []⟩,
     ⟨(some 17), .mov (.t 6), none, []⟩,
     ⟨(some 18), .iaddr 1 (.t 16) (.t 17), none, [1, 0]⟩,
     ⟨(some 19), .load1 (.t 18), none, [0, 1, 2]⟩,
     ⟨(some 20), .mov (.t 1), none, []⟩,
     ⟨(some 21), .mov (.t 6), none, []⟩,
     ⟨(some 22), .iaddr 1 (.t 20) (.t 21), none, [5, 4]⟩,
     ⟨(some 23), .load1 (.t 22), none, [4, 5, 6]⟩,
     ⟨(some 7), .mov (.t 19), none, [2, 1, 0, 3]⟩,
     ⟨(some 8), .mov (.t 23), none, [6, 5, 4, 3, 2, 1, 0, 8, 7]⟩])
   (.seq (.reg [⟨(some 9), .mov (.c (.int .i64 0)), none, []⟩])
   (.seq (.seq (.reg [⟨(some 24), .mov (.t 7), none, []⟩,
     ⟨(some 25), .bin .gtr (.t 24) (.c (.int .i64 0)), none, []⟩,
     ⟨(some 26), .mov (.t 25), none, []⟩,
     ⟨(some 27), .mov (.t 8), (some (26, true)), []⟩,
     ⟨(some 28), .bin .gtr (.t 27) (.c (.int .i64 0)), (some (26, true)), []⟩,
     ⟨(some 29), .pick (.t 26) (.t 28) (.c (.bool false)), none, []⟩,
     ⟨(some 30), .mov (.t 29), none, []⟩,
     ⟨(some 31), .mov (.t 7), (some (30, false)), []⟩,
     ⟨(some 32), .bin .lss (.t 31) (.c (.int .i64 0)), (some (30, false)), []⟩,
     ⟨(some 33), .mov (.t 32), (some (30, false)), []⟩,
     ⟨(some 34), .mov (.t 8), (some (33, true)), []⟩,
     ⟨(some 35), .bin .lss (.t 34) (.c (.int .i64 0)), (some (33, true)), []⟩,
     ⟨(some 36), .pick (.t 33) (.t 35) (.c (.bool false)), (some (30, false)), []⟩,
     ⟨(some 37), .pick (.t 30) (.c (.bool true)) (.t 36), none, []⟩])
   (.cond (.t 37)
     (.reg [⟨(some 38), .mov (.t 7), none, []⟩,
       ⟨(some 39), .call (.c (.fn 52 [] [])) [.t 38], none, []⟩,
       ⟨(some 40), .mov (.t 8), none, []⟩,
       ⟨(some 41), .call (.c (.fn 52 [] [])) [.t 40], none, []⟩,
       ⟨(some 42), .ext false (.t 39) [.t 41], none, []⟩,
       ⟨(some 9), .mov (.t 42), none, []⟩])
     (.skip)))
   (.seq (.reg [⟨(some 43), .faddr 0 (.t 5), none, []⟩,
     ⟨(some 44), .load1 (.t 43), none, []⟩,
     ⟨(some 45), .mov (.t 9), none, []⟩,
     ⟨(some 46), .bin .add (.t 44) (.t 45), none, []⟩,
     ⟨(some 47), .faddr 0 (.t 5), none, []⟩,
     ⟨none, .store 1 (.t 47) (.t 46), none, []⟩])
   (.seq (.dreg [⟨(some 48), .faddr 1 (.t 5), none, []⟩,
     ⟨(some 49), .load1 (.t 48), none, [0]⟩,
     ⟨(some 50), .mov (.t 7), none, []⟩,
     ⟨(some 51), .call (.c (.fn 52 [] [])) [.t 50], none, [2]⟩,
     ⟨(some 52), .bin .add (.t 49) (.t 51), none, [2, 0, 3, 1]⟩,
     ⟨(some 53), .mov (.t 9), none, []⟩,
     ⟨(some 54), .bin .sub (.t 52) (.t 53), none, [1, 3, 0, 2, 5, 4]⟩,
     ⟨(some 55), .faddr 1 (.t 5), none, [6, 5, 4, 3, 2, 1, 0]⟩,
     ⟨none, .store 1 (.t 55) (.t 54), none, [5, 4, 2, 1, 0, 3, 6, 7]⟩])
   (.dreg [⟨(some 56), .faddr 2 (.t 5), none, []⟩,
     ⟨(some 57), .load1 (.t 56), none, [0]⟩,
     ⟨(some 58), .mov (.t 8), none, []⟩,
     ⟨(some 59), .call (.c (.fn 52 [] [])) [.t 58], none, [2]⟩,
     ⟨(some 60), .bin .add (.t 57) (.t 59), none, [2, 0, 3, 1]⟩,
     ⟨(some 61), .mov (.t 9), none, []⟩,
     ⟨(some 62), .bin .sub (.t 60) (.t 61), none, [1, 3, 0, 2, 5, 4]⟩,
     ⟨(some 63), .faddr 2 (.t 5), none, [6, 5, 4, 3, 2, 1, 0]⟩,
     ⟨none, .store 1 (.t 63) (.t 62), none, [5, 4, 2, 1, 0, 3, 6, 7]⟩])))))))
  (.reg [⟨(some 14), .mov (.t 6), none, []⟩,
    ⟨(some 15), .bin .add (.t 14) (.c (.int .i64 1)), none, []⟩,
    ⟨(some 6), .mov (.t 15), none, []⟩]))
def xf51 : XFunc := ⟨.seq (.reg [⟨(some 4), .new 78 [.int .i64 0, .int .i64 0, .int .i64 0], none, []⟩])
  (.seq (.reg [⟨(some 5), .new 78 [.int .i64 0, .int .i64 0, .int .i64 0], none, []⟩])
  (.seq (.seq (.reg [⟨(some 6), .mov (.c (.int .i64 0)), none, []⟩])
  (.block 0 (.loop xf51l0)))
  (.seq (.reg [⟨(some 64), .loadn 3 (.t 5), none, []⟩,
    ⟨none, .store 3 (.t 4) (.t 64), none, []⟩])
  (.ret)))), 65, [.cn 4 3]⟩
def xf52 : XFunc := ⟨.seq (.reg [⟨(some 2), .mov (.c (.int .i64 0)), none, []⟩])
  (.seq (.reg [⟨(some 3), .mov (.t 0), none, []⟩,
    ⟨(some 4), .mov (.t 0), none, []⟩,
    ⟨(some 5), .un .neg (.t 4), none, []⟩,
    ⟨(some 6), .ext true (.t 3) [.t 5], none, []⟩,
    ⟨(some 2), .mov (.t 6), none, []⟩])
  (.ret)), 7, [.t 2]⟩
def xf33 : XFunc := ⟨.seq (.reg [⟨(some 6), .mov (.c (.bool false)), none, []⟩])
  (.seq (.reg [⟨(some 7), .mov (.t 1), none, []⟩,
    ⟨(some 8), .mov (.t 0), none, []⟩,
    ⟨(some 9), .bin .leq (.t 7) (.t 8), none, []⟩,
    ⟨(some 10), .mov (.t 9), none, []⟩,
    ⟨(some 11), .mov (.t 0), (some (10, true)), []⟩,
    ⟨(some 12), .mov (.t 2), (some (10, true)), []⟩,
    ⟨(some 13), .bin .leq (.t 11) (.t 12), (some (10, true)), []⟩,
    ⟨(some 14), .pick (.t 10) (.t 13) (.c (.bool false)), none, []⟩,
    ⟨(some 6), .mov (.t 14), none, []⟩])
  (.ret)), 15, [.t 6]⟩
def xf69l0 : XCode := .seq (.reg [⟨(some 8), .bin .lss (.t 7) (.t 6), none, []⟩])
  (.seq (.cond (.t 8)
    (.skip)
    (.exit 0))
  (.seq (.block 1 (.seq (.reg [⟨(some 9), .iaddr 1 (.t 5) (.t 7), none, []⟩,
     ⟨(some 10), .load1 (.t 9), none, []⟩,
     ⟨(some 4), .mov (.t 10), none, []⟩])
   (.seq (.reg [⟨(some 11), .mov (.t 4), none, []⟩,
     ⟨(some 12), .bin .neq (.t 11) (.c (.int .i64 0)), none, []⟩])
   (.cond (.t 12)
     (.seq (.reg [⟨(some 13), .mov (.t 4), none, []⟩,
       ⟨(some 2), .mov (.t 13), none, []⟩])
     (.ret))
     (.skip)))))
  (.reg [⟨(some 14), .bin .add (.t 7) (.c (.int .i64 1)), none, []⟩,
    ⟨(some 7), .mov (.t 14), none, []⟩])))
def xf69 : XFunc := ⟨.seq (.reg [⟨(some 2), .mov (.c (.int .i64 0)), none, []⟩])
  (.seq (.seq (.reg [⟨(some 5), .mov (.t 0), none, []⟩,
    ⟨(some 6), .len (.t 5), none, []⟩,
    ⟨(some 7), .mov (.c (.int .i64 0)), none, []⟩])
  (.block 0 (.loop xf69l0)))
  (.seq (.reg [⟨(some 2), .mov (.c (.int .i64 0)), none, []⟩])
  (.ret))), 15, [.t 2]⟩
def xf70l0 : XCode := .seq (.reg [⟨(some 12), .bin .lss (.t 11) (.t 10), none, []⟩])
  (.seq (.cond (.t 12)
    (.skip)
    (.exit 0))
  (.seq (.block 1 (.seq (.reg [⟨(some 13), .iaddr 1 (.t 9) (.t 11), none, []⟩,
     ⟨(some 14), .load1 (.t 13), none, []⟩,
     ⟨(some 8), .mov (.t 14), none, []⟩])
   (.seq (.reg [⟨(some 15), .mov (.t 8), none, []⟩,
     ⟨(some 16), .mov (.t 0), none, []⟩,
     ⟨(some 17), .bin .lss (.t 15) (.t 16), none, []⟩,
     ⟨(some 18), .mov (.t 17), none, []⟩,
     ⟨(some 19), .mov (.t 8), (some (18, false)), []⟩,
     ⟨(some 20), .mov (.t 1), (some (18, false)), []⟩,
     ⟨(some 21), .bin .gtr (.t 19) (.t 20), (some (18, false)), []⟩,
     ⟨(some 22), .pick (.t 18) (.c (.bool true)) (.t 21), none, []⟩])
   (.cond (.t 22)
     (.seq (.reg [⟨(some 6), .mov (.c (.int .i64 2)), none, []⟩])
     (.ret))
     (.skip)))))
  (.reg [⟨(some 23), .bin .add (.t 11) (.c (.int .i64 1)), none, []⟩,
    ⟨(some 11), .mov (.t 23), none, []⟩])))
def xf70 : XFunc := ⟨.seq (.reg [⟨(some 6), .mov (.c (.int .i64 0)), none, []⟩])
  (.seq (.seq (.reg [⟨(some 9), .mov (.t 2), none, []⟩,
    ⟨(some 10), .len (.t 9), none, []⟩,
    ⟨(some 11), .mov (.c (.int .i64 0)), none, []⟩])
  (.block 0 (.loop xf70l0)))
  (.seq (.reg [⟨(some 6), .mov (.c (.int .i64 0)), none, []⟩])
  (.ret))), 24, [.t 6]⟩
def xf71 : XFunc := ⟨.seq (.reg [⟨(some 4), .mov (.c (.int .i64 0)), none, []⟩])
  (.seq (.seq (.reg [⟨(some 5), .mov (.t 0), none, []⟩])
  (.cond (.t 5)
    (.seq (.reg [⟨(some 4), .mov (.c (.int .i64 0)), none, []⟩])
    (.ret))
    (.skip)))
  (.seq (.reg [⟨(some 6), .mov (.t 1), none, []⟩,
    ⟨(some 4), .mov (.t 6), none, []⟩])
  (.ret))), 7, [.t 4]⟩
def xf76 : XFunc := ⟨.seq (.reg [⟨(some 4), .mov (.c (.int .i64 0)), none, []⟩])
  (.seq (.reg [⟨(some 5), .mov (.t 0), none, []⟩,
    ⟨(some 6), .un .neg (.t 5), none, []⟩,
    ⟨(some 7), .mov (.t 0), none, []⟩,
    ⟨(some 8), .mov (.t 1), none, []⟩,
    ⟨(some 9), .call (.c (.fn 70 [] [])) [.t 6, .t 7, .t 8], none, []⟩,
    ⟨(some 4), .mov (.t 9), none, []⟩])
  (.ret)), 10, [.t 4]⟩
def xf101 : XFunc := ⟨.seq (.reg [⟨(some 2), .mov (.c (.int .i64 0)), none, []⟩])
  (.seq (.reg [⟨(some 3), .mov (.t 0), none, []⟩,
    ⟨(some 4), .len (.t 3), none, []⟩,
    ⟨(some 5), .bin .leq (.t 4) (.c (.int .i64 300)), none, []⟩,
    ⟨(some 6), .call (.c (.fn 71 [] [])) [.t 5, .c (.int .i64 8)], none, []⟩,
    ⟨(some 7), .mov (.t 0), none, []⟩,
    ⟨(some 8), .call (.c (.fn 76 [] [])) [.c (.int .i64 1000000), .t 7], none, []⟩,
    ⟨(some 9), .buildSlice 32 1 2 false [.int .i64 0, .int .i64 0] [(0, 1, .t 6), (1, 1, .t 8)], none, []⟩,
    ⟨(some 10), .call (.c (.fn 69 [] [])) [.t 9], none, []⟩,
    ⟨(some 2), .mov (.t 10), none, []⟩])
  (.ret)), 11, [.t 2]⟩
def xf102 : XFunc := ⟨.seq (.reg [⟨(some 4), .mov (.c (.int .i64 0)), none, []⟩])
  (.seq (.reg [⟨(some 5), .mov (.t 0), none, []⟩,
    ⟨(some 6), .mov (.t 1), none, []⟩,
    ⟨(some 7), .ext false (.t 5) [.t 6], none, []⟩,
    ⟨(some 8), .mov (.t 0), none, []⟩,
    ⟨(some 9), .un .neg (.t 8), none, []⟩,
    ⟨(some 10), .mov (.t 1), none, []⟩,
    ⟨(some 11), .un .neg (.t 10), none, []⟩,
    ⟨(some 12), .ext false (.t 9) [.t 11], none, []⟩,
    ⟨(some 13), .ext true (.c (.int .i64 0)) [.t 7, .t 12], none, []⟩,
    ⟨(some 4), .mov (.t 13), none, []⟩])
  (.ret)), 14, [.t 4]⟩
def xf103 : XFunc := ⟨.seq (.reg [⟨(some 2), .mov (.c (.int .i64 0)), none, []⟩])
  (.seq (.reg [⟨(some 3), .mov (.t 0), none, []⟩,
    ⟨(some 4), .mov (.t 0), none, []⟩,
    ⟨(some 5), .un .neg (.t 4), none, []⟩,
    ⟨(some 6), .ext true (.t 3) [.t 5], none, []⟩,
    ⟨(some 2), .mov (.t 6), none, []⟩])
  (.ret)), 7, [.t 2]⟩
structure DxACode (X : FuncId → Option XFunc) : Prop where
  h8 : X 8 = some xf8
  h45 : X 45 = some xf45
  h9 : X 9 = some xf9
  h46 : X 46 = some xf46
  h47 : X 47 = some xf47
  h20 : X 20 = some xf20
  h26 : X 26 = some xf26
  h48 : X 48 = some xf48
  h49 : X 49 = some xf49
  h50 : X 50 = some xf50
  h51 : X 51 = some xf51
  h52 : X 52 = some xf52
  h33 : X 33 = some xf33
  h69 : X 69 = some xf69
  h70 : X 70 = some xf70
  h71 : X 71 = some xf71
  h76 : X 76 = some xf76
  h101 : X 101 = some xf101
  h102 : X 102 = some xf102
  h103 : X 103 = some xf103
end Go.Proofs.Ytgijgcmcpgepaaa.Eng

/-
  CODE of DxB.
-/
namespace Go.Proofs.Ytgijgcmcpgepaaa.Eng
set_option linter.unusedSimpArgs false
set_option linter.unusedVariables false
def xf15 : XFunc := ⟨.seq (.reg [⟨(some 1), .box 24 (.t 0), none, []⟩,
    ⟨(some 2), .mov (.c (.int .i64 0)), none, []⟩,
    ⟨(some 3), .mov (.c (.int .i64 0)), none, []⟩])
  (.seq (.seq (.dreg [⟨(some 6), .faddr 0 (.t 1), none, []⟩,
    ⟨(some 7), .load1 (.t 6), none, [0]⟩,
    ⟨(some 8), .faddr 1 (.t 1), none, []⟩,
    ⟨(some 9), .load1 (.t 8), none, [2]⟩,
    ⟨(some 10), .buildSlice 3 1 2 false [.int .i64 0, .int .i64 0] [(0, 1, .t 7), (1, 1, .t 9)], none, [2, 0, 3, 1]⟩,
    ⟨(some 11), .call (.c (.fn 70 [] [])) [.c (.int .i64 0), .c (.int .i64 1000000), .t 10], none, [1, 3, 0, 2, 4]⟩,
    ⟨(some 12), .faddr 0 (.t 1), none, []⟩,
    ⟨(some 13), .load1 (.t 12), none, [6]⟩,
    ⟨(some 14), .faddr 1 (.t 1), none, []⟩,
    ⟨(some 15), .load1 (.t 14), none, [8]⟩,
    ⟨(some 16), .bin .leq (.t 13) (.t 15), none, [8, 6, 9, 7]⟩,
    ⟨(some 17), .call (.c (.fn 71 [] [])) [.t 16, .c (.int .i64 9)], none, [4, 2, 0, 3, 1, 7, 9, 6, 8, 5, 10]⟩,
    ⟨(some 18), .faddr 1 (.t 1), none, []⟩,
    ⟨(some 19), .load1 (.t 18), none, [12]⟩,
    ⟨(some 20), .faddr 0 (.t 1), none, []⟩,
    ⟨(some 21), .load1 (.t 20), none, [14]⟩,
    ⟨(some 22), .bin .sub (.t 19) (.t 21), none, [14, 12, 15, 13]⟩,
    ⟨(some 23), .bin .lss (.t 22) (.c (.int .i64 40)), none, [13, 15, 12, 14, 16]⟩,
    ⟨(some 24), .call (.c (.fn 71 [] [])) [.t 23, .c (.int .i64 8)], none, [10, 5, 8, 6, 9, 7, 1, 3, 0, 2, 4, 16, 14, 12, 15, 13, 11, 17]⟩,
    ⟨(some 25), .faddr 2 (.t 1), none, []⟩,
    ⟨(some 26), .load1 (.t 25), none, [19]⟩,
    ⟨(some 27), .len (.t 26), none, [19, 20]⟩,
    ⟨(some 28), .call (.c (.fn 72 [] [])) [.t 27, .c (.int .i64 5)], none, [17, 11, 13, 15, 12, 14, 16, 4, 2, 0, 3, 1, 7, 9, 6, 8, 5, 10, 20, 19, 18, 21]⟩,
    ⟨(some 29), .buildSlice 32 1 4 false [.int .i64 0, .int .i64 0, .int .i64 0, .int .i64 0] [(0, 1, .t 11), (1, 1, .t 17), (2, 1, .t 24), (3, 1, .t 28)], none, [21, 19, 20, 17, 13, 15, 12, 14, 16, 10, 8, 6, 9, 7, 4, 2, 0, 3, 1, 22, 18, 11, 5]⟩,
    ⟨(some 30), .call (.c (.fn 69 [] [])) [.t 29], none, [5, 11, 18, 1, 3, 0, 2, 4, 7, 9, 6, 8, 10, 16, 14, 12, 15, 13, 17, 20, 19, 21, 22, 23]⟩,
    ⟨(some 4), .mov (.t 30), none, [23, 22, 21, 20, 19, 18, 17, 16, 15, 14, 13, 12, 11, 10, 9, 8, 7, 6, 5, 4, 3, 2, 1, 0, 24]⟩])
  (.seq (.reg [⟨(some 31), .mov (.t 4), none, []⟩,
    ⟨(some 32), .bin .neq (.t 31) (.c (.int .i64 0)), none, []⟩])
  (.cond (.t 32)
    (.seq (.reg [⟨(some 33), .mov (.t 4), none, []⟩,
      ⟨(some 2), .mov (.c (.int .i64 0)), none, []⟩,
      ⟨(some 3), .mov (.t 33), none, []⟩])
    (.ret))
    (.skip))))
  (.seq (.reg [⟨(some 34), .callK 73 [], none, []⟩,
    ⟨(some 5), .new 113 [.nilfn], none, []⟩,
    ⟨none, .store 1 (.t 5) (.t 34), none, []⟩])
  (.seq (.reg [⟨(some 35), .faddr 2 (.t 1), none, []⟩,
    ⟨(some 36), .load1 (.t 35), none, []⟩,
    ⟨(some 37), .fn false 75 [] [.t 5], none, []⟩,
    ⟨(some 38), .call (.c (.fn 74 [] [])) [.t 36, .t 37], none, []⟩,
    ⟨(some 39), .extract (.t 38) 0, none, []⟩,
    ⟨(some 40), .extract (.t 38) 1, none, []⟩,
    ⟨(some 2), .mov (.t 39), none, []⟩,
    ⟨(some 3), .mov (.t 40), none, []⟩])
  (.ret)))), 41, [.t 2, .t 3]⟩
def xf75 : XFunc := ⟨.seq (.reg [⟨(some 2), .box 108 (.t 0), none, []⟩,
    ⟨(some 3), .mov (.c (.int .i64 0)), none, []⟩])
  (.seq (.dreg [⟨(some 4), .load1 (.t 1), none, []⟩,
    ⟨(some 5), .faddr 0 (.t 2), none, []⟩,
    ⟨(some 6), .load1 (.t 5), none, [1]⟩,
    ⟨(some 7), .call (.t 4) [.t 6], none, [1, 2, 0]⟩,
    ⟨(some 8), .faddr 1 (.t 2), none, []⟩,
    ⟨(some 9), .load1 (.t 8), none, [4]⟩,
    ⟨(some 10), .faddr 2 (.t 2), none, []⟩,
    ⟨(some 11), .load1 (.t 10), none, [6]⟩,
    ⟨(some 12), .buildSlice 3 1 2 false [.int .i64 0, .int .i64 0] [(0, 1, .t 9), (1, 1, .t 11)], none, [6, 4, 7, 5]⟩,
    ⟨(some 13), .call (.c (.fn 76 [] [])) [.c (.int .i64 10000), .t 12], none, [0, 2, 1, 5, 7, 4, 6, 3, 8]⟩,
    ⟨(some 14), .faddr 3 (.t 2), none, []⟩,
    ⟨(some 15), .load1 (.t 14), none, [10]⟩,
    ⟨(some 16), .buildSlice 3 1 1 false [.int .i64 0] [(0, 1, .t 15)], none, [10, 11]⟩,
    ⟨(some 17), .call (.c (.fn 70 [] [])) [.c (.int .i64 0), .c (.int .i64 10000), .t 16], none, [8, 3, 6, 4, 7, 5, 1, 2, 0, 11, 10, 9, 12]⟩,
    ⟨(some 18), .buildSlice 32 1 3 false [.int .i64 0, .int .i64 0, .int .i64 0] [(0, 1, .t 7), (1, 1, .t 13), (2, 1, .t 17)], none, [12, 10, 11, 8, 6, 4, 7, 5, 0, 2, 1, 13, 9, 3]⟩,
    ⟨(some 19), .call (.c (.fn 69 [] [])) [.t 18], none, [3, 9, 1, 2, 0, 5, 7, 4, 6, 8, 11, 10, 12, 13, 14]⟩,
    ⟨(some 3), .mov (.t 19), none, [14, 13, 12, 11, 10, 9, 8, 7, 6, 5, 4, 3, 2, 1, 0, 15]⟩])
  (.ret)), 20, [.t 3]⟩
def xf74l0 : XCode := .seq (.reg [⟨(some 12), .bin .lss (.t 11) (.t 10), none, []⟩])
  (.seq (.cond (.t 12)
    (.skip)
    (.exit 0))
  (.seq (.block 1 (.seq (.reg [⟨(some 13), .mov (.t 11), none, []⟩,
     ⟨(some 14), .iaddr 4 (.t 9) (.t 11), none, []⟩,
     ⟨(some 15), .loadn 4 (.t 14), none, []⟩,
     ⟨(some 7), .new 108 [.str ⟨#[]⟩, .int .i64 0, .int .i64 0, .int .i64 0], none, []⟩,
     ⟨(some 6), .mov (.t 13), none, []⟩,
     ⟨none, .store 4 (.t 7) (.t 15), none, []⟩])
   (.seq (.reg [⟨(some 16), .mov (.t 1), none, []⟩,
     ⟨(some 17), .loadn 4 (.t 7), none, []⟩,
     ⟨(some 18), .call (.t 16) [.t 17], none, []⟩,
     ⟨(some 8), .mov (.t 18), none, []⟩])
   (.seq (.reg [⟨(some 19), .mov (.t 8), none, []⟩,
     ⟨(some 20), .bin .neq (.t 19) (.c (.int .i64 0)), none, []⟩])
   (.cond (.t 20)
     (.seq (.reg [⟨(some 21), .mov (.t 6), none, []⟩,
       ⟨(some 22), .mov (.t 8), none, []⟩,
       ⟨(some 4), .mov (.t 21), none, []⟩,
       ⟨(some 5), .mov (.t 22), none, []⟩])
     (.ret))
     (.skip))))))
  (.reg [⟨(some 23), .bin .add (.t 11) (.c (.int .i64 1)), none, []⟩,
    ⟨(some 11), .mov (.t 23), none, []⟩])))
def xf74 : XFunc := ⟨.seq (.reg [⟨(some 4), .mov (.c (.int .i64 0)), none, []⟩,
    ⟨(some 5), .mov (.c (.int .i64 0)), none, []⟩])
  (.seq (.seq (.reg [⟨(some 9), .mov (.t 0), none, []⟩,
    ⟨(some 10), .len (.t 9), none, []⟩,
    ⟨(some 11), .mov (.c (.int .i64 0)), none, []⟩])
  (.block 0 (.loop xf74l0)))
  (.seq (.reg [⟨(some 4), .mov (.c (.int .i64 0)), none, []⟩,
    ⟨(some 5), .mov (.c (.int .i64 0)), none, []⟩])
  (.ret))), 24, [.t 4, .t 5]⟩
def xf72 : XFunc := ⟨.seq (.reg [⟨(some 4), .mov (.c (.int .i64 0)), none, []⟩])
  (.seq (.reg [⟨(some 5), .mov (.t 0), none, []⟩,
    ⟨(some 6), .bin .gtr (.t 5) (.c (.int .i64 0)), none, []⟩,
    ⟨(some 7), .call (.c (.fn 71 [] [])) [.t 6, .c (.int .i64 10)], none, []⟩,
    ⟨(some 8), .mov (.t 0), none, []⟩,
    ⟨(some 9), .mov (.t 1), none, []⟩,
    ⟨(some 10), .bin .leq (.t 8) (.t 9), none, []⟩,
    ⟨(some 11), .call (.c (.fn 71 [] [])) [.t 10, .c (.int .i64 8)], none, []⟩,
    ⟨(some 12), .buildSlice 32 1 2 false [.int .i64 0, .int .i64 0] [(0, 1, .t 7), (1, 1, .t 11)], none, []⟩,
    ⟨(some 13), .call (.c (.fn 69 [] [])) [.t 12], none, []⟩,
    ⟨(some 4), .mov (.t 13), none, []⟩])
  (.ret)), 14, [.t 4]⟩
def xf17 : XFunc := ⟨.seq (.reg [⟨(some 2), .box 24 (.t 0), none, []⟩,
    ⟨(some 3), .box 27 (.t 1), none, []⟩,
    ⟨(some 4), .mov (.c (.int .i64 0)), none, []⟩,
    ⟨(some 5), .mov (.c (.int .i64 0)), none, []⟩])
  (.seq (.reg [⟨(some 10), .loadn 3 (.t 2), none, []⟩,
    ⟨(some 11), .call (.c (.fn 15 [] [])) [.t 10], none, []⟩,
    ⟨(some 9), .mov (.t 11), none, []⟩,
    ⟨(some 12), .extract (.t 9) 0, none, []⟩,
    ⟨(some 13), .extract (.t 9) 1, none, []⟩,
    ⟨(some 6), .mov (.t 12), none, []⟩,
    ⟨(some 7), .mov (.t 13), none, []⟩])
  (.seq (.seq (.dreg [⟨(some 14), .mov (.t 7), none, []⟩,
    ⟨(some 15), .faddr 0 (.t 2), none, []⟩,
    ⟨(some 16), .load1 (.t 15), none, [1]⟩,
    ⟨(some 17), .faddr 1 (.t 2), none, []⟩,
    ⟨(some 18), .load1 (.t 17), none, [3]⟩,
    ⟨(some 19), .faddr 0 (.t 3), none, []⟩,
    ⟨(some 20), .load1 (.t 19), none, [5]⟩,
    ⟨(some 21), .buildSlice 3 1 1 false [.int .i64 0] [(0, 1, .t 20)], none, [5, 6]⟩,
    ⟨(some 22), .call (.c (.fn 70 [] [])) [.t 16, .t 18, .t 21], none, [6, 5, 3, 1, 7, 4, 2]⟩,
    ⟨(some 23), .faddr 1 (.t 3), none, []⟩,
    ⟨(some 24), .load1 (.t 23), none, [9]⟩,
    ⟨(some 25), .faddr 2 (.t 2), none, []⟩,
    ⟨(some 26), .load1 (.t 25), none, [11]⟩,
    ⟨(some 27), .len (.t 26), none, [11, 12]⟩,
    ⟨(some 28), .call (.c (.fn 77 [] [])) [.t 24, .t 27], none, [2, 4, 7, 1, 3, 5, 6, 12, 11, 9, 8, 13, 10]⟩,
    ⟨(some 29), .faddr 2 (.t 3), none, []⟩,
    ⟨(some 30), .load1 (.t 29), none, [15]⟩,
    ⟨(some 31), .buildSlice 3 1 1 false [.int .i64 0] [(0, 1, .t 30)], none, [15, 16]⟩,
    ⟨(some 32), .call (.c (.fn 76 [] [])) [.c (.int .i64 10000), .t 31], none, [10, 13, 8, 9, 11, 12, 6, 5, 3, 1, 7, 4, 2, 16, 15, 14, 17]⟩,
    ⟨(some 33), .faddr 3 (.t 3), none, []⟩,
    ⟨(some 34), .load1 (.t 33), none, [19]⟩,
    ⟨(some 35), .len (.t 34), none, [19, 20]⟩,
    ⟨(some 36), .call (.c (.fn 72 [] [])) [.t 35, .c (.int .i64 10)], none, [17, 14, 15, 16, 2, 4, 7, 1, 3, 5, 6, 12, 11, 9, 8, 13, 10, 20, 19, 18, 21]⟩,
    ⟨(some 37), .buildSlice 32 1 5 false [.int .i64 0, .int .i64 0, .int .i64 0, .int .i64 0, .int .i64 0] [(0, 1, .t 14), (1, 1, .t 22), (2, 1, .t 28), (3, 1, .t 32), (4, 1, .t 36)], none, [21, 19, 20, 17, 15, 16, 10, 13, 9, 11, 12, 2, 4, 7, 1, 3, 5, 6, 22, 18, 14, 8, 0]⟩,
    ⟨(some 38), .call (.c (.fn 69 [] [])) [.t 37], none, [0, 8, 14, 18, 6, 5, 3, 1, 7, 4, 2, 12, 11, 9, 13, 10, 16, 15, 17, 20, 19, 21, 22, 23]⟩,
    ⟨(some 8), .mov (.t 38), none, [23, 22, 21, 20, 19, 18, 17, 16, 15, 14, 13, 12, 11, 10, 9, 8, 7, 6, 5, 4, 3, 2, 1, 0, 24]⟩])
  (.seq (.reg [⟨(some 39), .mov (.t 8), none, []⟩,
    ⟨(some 40), .bin .neq (.t 39) (.c (.int .i64 0)), none, []⟩])
  (.cond (.t 40)
    (.seq (.reg [⟨(some 41), .mov (.t 8), none, []⟩,
      ⟨(some 4), .mov (.c (.int .i64 0)), none, []⟩,
      ⟨(some 5), .mov (.t 41), none, []⟩])
    (.ret))
    (.skip))))
  (.seq (.reg [⟨(some 42), .faddr 3 (.t 3), none, []⟩,
    ⟨(some 43), .load1 (.t 42), none, []⟩,
    ⟨(some 44), .call (.c (.fn 78 [] [])) [.t 43, .c (.fn 79 [] [])], none, []⟩,
    ⟨(some 45), .extract (.t 44) 0, none, []⟩,
    ⟨(some 46), .extract (.t 44) 1, none, []⟩,
    ⟨(some 4), .mov (.t 45), none, []⟩,
    ⟨(some 5), .mov (.t 46), none, []⟩])
  (.ret)))), 47, [.t 4, .t 5]⟩
def xf79 : XFunc := ⟨.seq (.reg [⟨(some 1), .box 120 (.t 0), none, []⟩,
    ⟨(some 2), .mov (.c (.int .i64 0)), none, []⟩])
  (.seq (.dreg [⟨(some 3), .faddr 0 (.t 1), none, []⟩,
    ⟨(some 4), .load1 (.t 3), none, [0]⟩,
    ⟨(some 5), .faddr 1 (.t 1), none, []⟩,
    ⟨(some 6), .load1 (.t 5), none, [2]⟩,
    ⟨(some 7), .faddr 2 (.t 1), none, []⟩,
    ⟨(some 8), .load1 (.t 7), none, [4]⟩,
    ⟨(some 9), .buildSlice 3 1 3 false [.int .i64 0, .int .i64 0, .int .i64 0] [(0, 1, .t 4), (1, 1, .t 6), (2, 1, .t 8)], none, [4, 2, 0, 5, 3, 1]⟩,
    ⟨(some 10), .call (.c (.fn 76 [] [])) [.c (.int .i64 10000), .t 9], none, [1, 3, 5, 0, 2, 4, 6]⟩,
    ⟨(some 11), .faddr 1 (.t 1), none, []⟩,
    ⟨(some 12), .load1 (.t 11), none, [8]⟩,
    ⟨(some 13), .faddr 0 (.t 1), none, []⟩,
    ⟨(some 14), .load1 (.t 13), none, [10]⟩,
    ⟨(some 15), .bin .leq (.t 12) (.t 14), none, [10, 8, 11, 9]⟩,
    ⟨(some 16), .call (.c (.fn 71 [] [])) [.t 15, .c (.int .i64 9)], none, [6, 4, 2, 0, 5, 3, 1, 9, 11, 8, 10, 7, 12]⟩,
    ⟨(some 17), .buildSlice 32 1 2 false [.int .i64 0, .int .i64 0] [(0, 1, .t 10), (1, 1, .t 16)], none, [12, 10, 8, 11, 9, 6, 4, 2, 0, 5, 3, 1, 13, 7]⟩,
    ⟨(some 18), .call (.c (.fn 69 [] [])) [.t 17], none, [7, 1, 3, 5, 0, 2, 4, 6, 9, 11, 8, 10, 12, 13, 14]⟩,
    ⟨(some 2), .mov (.t 18), none, [14, 13, 12, 11, 10, 9, 8, 7, 6, 5, 4, 3, 2, 1, 0, 15]⟩])
  (.ret)), 19, [.t 2]⟩
def xf78l0 : XCode := .seq (.reg [⟨(some 12), .bin .lss (.t 11) (.t 10), none, []⟩])
  (.seq (.cond (.t 12)
    (.skip)
    (.exit 0))
  (.seq (.block 1 (.seq (.reg [⟨(some 13), .mov (.t 11), none, []⟩,
     ⟨(some 14), .iaddr 3 (.t 9) (.t 11), none, []⟩,
     ⟨(some 15), .loadn 3 (.t 14), none, []⟩,
     ⟨(some 7), .new 120 [.int .i64 0, .int .i64 0, .int .i64 0], none, []⟩,
     ⟨(some 6), .mov (.t 13), none, []⟩,
     ⟨none, .store 3 (.t 7) (.t 15), none, []⟩])
   (.seq (.reg [⟨(some 16), .mov (.t 1), none, []⟩,
     ⟨(some 17), .loadn 3 (.t 7), none, []⟩,
     ⟨(some 18), .call (.t 16) [.t 17], none, []⟩,
     ⟨(some 8), .mov (.t 18), none, []⟩])
   (.seq (.reg [⟨(some 19), .mov (.t 8), none, []⟩,
     ⟨(some 20), .bin .neq (.t 19) (.c (.int .i64 0)), none, []⟩])
   (.cond (.t 20)
     (.seq (.reg [⟨(some 21), .mov (.t 6), none, []⟩,
       ⟨(some 22), .mov (.t 8), none, []⟩,
       ⟨(some 4), .mov (.t 21), none, []⟩,
       ⟨(some 5), .mov (.t 22), none, []⟩])
     (.ret))
     (.skip))))))
  (.reg [⟨(some 23), .bin .add (.t 11) (.c (.int .i64 1)), none, []⟩,
    ⟨(some 11), .mov (.t 23), none, []⟩])))
def xf78 : XFunc := ⟨.seq (.reg [⟨(some 4), .mov (.c (.int .i64 0)), none, []⟩,
    ⟨(some 5), .mov (.c (.int .i64 0)), none, []⟩])
  (.seq (.seq (.reg [⟨(some 9), .mov (.t 0), none, []⟩,
    ⟨(some 10), .len (.t 9), none, []⟩,
    ⟨(some 11), .mov (.c (.int .i64 0)), none, []⟩])
  (.block 0 (.loop xf78l0)))
  (.seq (.reg [⟨(some 4), .mov (.c (.int .i64 0)), none, []⟩,
    ⟨(some 5), .mov (.c (.int .i64 0)), none, []⟩])
  (.ret))), 24, [.t 4, .t 5]⟩
def xf77 : XFunc := ⟨.seq (.reg [⟨(some 4), .mov (.c (.int .i64 0)), none, []⟩])
  (.seq (.reg [⟨(some 5), .mov (.t 0), none, []⟩,
    ⟨(some 6), .bin .leq (.c (.int .i64 0)) (.t 5), none, []⟩,
    ⟨(some 7), .mov (.t 6), none, []⟩,
    ⟨(some 8), .mov (.t 0), (some (7, true)), []⟩,
    ⟨(some 9), .mov (.t 1), (some (7, true)), []⟩,
    ⟨(some 10), .bin .lss (.t 8) (.t 9), (some (7, true)), []⟩,
    ⟨(some 11), .pick (.t 7) (.t 10) (.c (.bool false)), none, []⟩,
    ⟨(some 12), .call (.c (.fn 71 [] [])) [.t 11, .c (.int .i64 6)], none, []⟩,
    ⟨(some 4), .mov (.t 12), none, []⟩])
  (.ret)), 13, [.t 4]⟩
def xf89 : XFunc := ⟨.seq (.reg [⟨(some 2), .box 24 (.t 0), none, []⟩,
    ⟨(some 3), .box 27 (.t 1), none, []⟩,
    ⟨(some 4), .new 125 [.int .i64 0, .int .i64 0, .nils, .int .i64 0, .int .i64 0, .int .i64 0, .nils], none, []⟩,
    ⟨(some 5), .mov (.c (.int .i64 0)), none, []⟩])
  (.seq (.seq (.reg [⟨(some 9), .loadn 3 (.t 2), none, []⟩,
    ⟨(some 10), .loadn 4 (.t 3), none, []⟩,
    ⟨(some 11), .call (.c (.fn 17 [] [])) [.t 9, .t 10], none, []⟩,
    ⟨(some 8), .mov (.t 11), none, []⟩,
    ⟨(some 12), .extract (.t 8) 0, none, []⟩,
    ⟨(some 13), .extract (.t 8) 1, none, []⟩,
    ⟨(some 6), .mov (.t 12), none, []⟩,
    ⟨(some 7), .mov (.t 13), none, []⟩])
  (.seq (.reg [⟨(some 14), .mov (.t 7), none, []⟩,
    ⟨(some 15), .bin .neq (.t 14) (.c (.int .i64 0)), none, []⟩])
  (.cond (.t 15)
    (.seq (.reg [⟨(some 16), .build [.int .i64 0, .int .i64 0, .nils, .int .i64 0, .int .i64 0, .int .i64 0, .nils] [], none, []⟩,
      ⟨(some 17), .mov (.t 7), none, []⟩,
      ⟨none, .store 7 (.t 4) (.t 16), none, []⟩,
      ⟨(some 5), .mov (.t 17), none, []⟩])
    (.ret))
    (.skip))))
  (.seq (.reg [⟨(some 18), .loadn 3 (.t 2), none, []⟩,
    ⟨(some 19), .build [.int .i64 0, .int .i64 0, .nils] [(0, 3, .t 18)], none, []⟩,
    ⟨(some 20), .loadn 4 (.t 3), none, []⟩,
    ⟨(some 21), .build [.int .i64 0, .int .i64 0, .nils, .int .i64 0, .int .i64 0, .int .i64 0, .nils] [(0, 3, .t 19), (3, 4, .t 20)], none, []⟩,
    ⟨none, .store 7 (.t 4) (.t 21), none, []⟩,
    ⟨(some 5), .mov (.c (.int .i64 0)), none, []⟩])
  (.ret))), 22, [.cn 4 7, .t 5]⟩
def xf16 : XFunc := ⟨.seq (.reg [⟨(some 1), .box 24 (.t 0), none, []⟩,
    ⟨(some 2), .new 24 [.int .i64 0, .int .i64 0, .nils], none, []⟩])
  (.seq (.reg [⟨(some 3), .buildSlice 108 4 0 true [] [], none, []⟩,
    ⟨(some 4), .faddr 2 (.t 1), none, []⟩,
    ⟨(some 5), .load1 (.t 4), none, []⟩,
    ⟨(some 6), .append 108 4 40 (.t 3) (.t 5), none, []⟩,
    ⟨(some 7), .faddr 2 (.t 1), none, []⟩,
    ⟨none, .store 1 (.t 7) (.t 6), none, []⟩])
  (.seq (.reg [⟨(some 8), .loadn 3 (.t 1), none, []⟩,
    ⟨none, .store 3 (.t 2) (.t 8), none, []⟩])
  (.ret))), 9, [.cn 2 3]⟩
def xf18 : XFunc := ⟨.seq (.reg [⟨(some 1), .box 27 (.t 0), none, []⟩,
    ⟨(some 2), .new 27 [.int .i64 0, .int .i64 0, .int .i64 0, .nils], none, []⟩])
  (.seq (.reg [⟨(some 3), .buildSlice 120 3 0 true [] [], none, []⟩,
    ⟨(some 4), .faddr 3 (.t 1), none, []⟩,
    ⟨(some 5), .load1 (.t 4), none, []⟩,
    ⟨(some 6), .append 120 3 24 (.t 3) (.t 5), none, []⟩,
    ⟨(some 7), .faddr 3 (.t 1), none, []⟩,
    ⟨none, .store 1 (.t 7) (.t 6), none, []⟩])
  (.seq (.reg [⟨(some 8), .loadn 4 (.t 1), none, []⟩,
    ⟨none, .store 4 (.t 2) (.t 8), none, []⟩])
  (.ret))), 9, [.cn 2 4]⟩
def xf23l0 : XCode := .seq (.seq (.reg [⟨(some 36), .mov (.t 5), none, []⟩,
    ⟨(some 37), .faddr 2 (.t 1), none, []⟩,
    ⟨(some 38), .load1 (.t 37), none, []⟩,
    ⟨(some 39), .len (.t 38), none, []⟩,
    ⟨(some 40), .bin .lss (.t 36) (.t 39), none, []⟩])
  (.cond (.t 40)
    (.skip)
    (.exit 0)))
  (.seq (.block 1 (.seq (.seq (.reg [⟨(some 43), .faddr 2 (.t 1), none, []⟩,
     ⟨(some 44), .load1 (.t 43), none, []⟩,
     ⟨(some 45), .mov (.t 5), none, []⟩,
     ⟨(some 46), .iaddr 4 (.t 44) (.t 45), none, []⟩,
     ⟨(some 47), .loadn 4 (.t 46), none, []⟩,
     ⟨(some 48), .mov (.t 4), none, []⟩,
     ⟨(some 49), .call (.c (.fn 84 [] [])) [.t 47, .t 48], none, []⟩,
     ⟨(some 6), .mov (.t 49), none, []⟩])
   (.seq (.reg [⟨(some 50), .mov (.t 6), none, []⟩,
     ⟨(some 51), .bin .neq (.t 50) (.c (.int .i64 0)), none, []⟩])
   (.cond (.t 51)
     (.seq (.reg [⟨(some 52), .mov (.t 5), none, []⟩,
       ⟨(some 53), .mov (.t 6), none, []⟩,
       ⟨(some 2), .mov (.t 52), none, []⟩,
       ⟨(some 3), .mov (.t 53), none, []⟩])
     (.ret))
     (.skip))))
   (.reg [⟨(some 54), .mov (.t 4), none, []⟩,
     ⟨(some 55), .faddr 2 (.t 1), none, []⟩,
     ⟨(some 56), .load1 (.t 55), none, []⟩,
     ⟨(some 57), .mov (.t 5), none, []⟩,
     ⟨(some 58), .iaddr 4 (.t 56) (.t 57), none, []⟩,
     ⟨(some 59), .faddr 0 (.t 58), none, []⟩,
     ⟨(some 60), .load1 (.t 59), none, []⟩,
     ⟨(some 61), .buildSlice 9 1 1 false [.str ⟨#[]⟩] [(0, 1, .t 60)], none, []⟩,
     ⟨(some 62), .append 9 1 16 (.t 54) (.t 61), none, []⟩,
     ⟨(some 4), .mov (.t 62), none, []⟩])))
  (.reg [⟨(some 41), .mov (.t 5), none, []⟩,
    ⟨(some 42), .bin .add (.t 41) (.c (.int .i64 1)), none, []⟩,
    ⟨(some 5), .mov (.t 42), none, []⟩]))
def xf23 : XFunc := ⟨.seq (.reg [⟨(some 1), .box 24 (.t 0), none, []⟩,
    ⟨(some 2), .mov (.c (.int .i64 0)), none, []⟩,
    ⟨(some 3), .mov (.c (.int .i64 0)), none, []⟩])
  (.seq (.seq (.reg [⟨(some 7), .faddr 0 (.t 1), none, []⟩,
    ⟨(some 8), .load1 (.t 7), none, []⟩,
    ⟨(some 9), .call (.c (.fn 33 [] [])) [.t 8, .c (.int .i64 0), .c (.int .i64 1000000)], none, []⟩,
    ⟨(some 10), .un .not (.t 9), none, []⟩,
    ⟨(some 11), .mov (.t 10), none, []⟩,
    ⟨(some 12), .faddr 1 (.t 1), (some (11, false)), []⟩,
    ⟨(some 13), .load1 (.t 12), (some (11, false)), []⟩,
    ⟨(some 14), .call (.c (.fn 33 [] [])) [.t 13, .c (.int .i64 0), .c (.int .i64 1000000)], (some (11, false)), []⟩,
    ⟨(some 15), .un .not (.t 14), (some (11, false)), []⟩,
    ⟨(some 16), .pick (.t 11) (.c (.bool true)) (.t 15), none, []⟩])
  (.cond (.t 16)
    (.seq (.reg [⟨(some 2), .mov (.c (.int .i64 0)), none, []⟩,
      ⟨(some 3), .mov (.c (.int .i64 2)), none, []⟩])
    (.ret))
    (.skip)))
  (.seq (.seq (.reg [⟨(some 17), .faddr 0 (.t 1), none, []⟩,
    ⟨(some 18), .load1 (.t 17), none, []⟩,
    ⟨(some 19), .faddr 1 (.t 1), none, []⟩,
    ⟨(some 20), .load1 (.t 19), none, []⟩,
    ⟨(some 21), .bin .gtr (.t 18) (.t 20), none, []⟩])
  (.cond (.t 21)
    (.seq (.reg [⟨(some 2), .mov (.c (.int .i64 0)), none, []⟩,
      ⟨(some 3), .mov (.c (.int .i64 9)), none, []⟩])
    (.ret))
    (.skip)))
  (.seq (.seq (.reg [⟨(some 22), .faddr 1 (.t 1), none, []⟩,
    ⟨(some 23), .load1 (.t 22), none, []⟩,
    ⟨(some 24), .faddr 0 (.t 1), none, []⟩,
    ⟨(some 25), .load1 (.t 24), none, []⟩,
    ⟨(some 26), .bin .sub (.t 23) (.t 25), none, []⟩,
    ⟨(some 27), .bin .geq (.t 26) (.c (.int .i64 40)), none, []⟩])
  (.cond (.t 27)
    (.seq (.reg [⟨(some 2), .mov (.c (.int .i64 0)), none, []⟩,
      ⟨(some 3), .mov (.c (.int .i64 8)), none, []⟩])
    (.ret))
    (.skip)))
  (.seq (.seq (.reg [⟨(some 28), .faddr 2 (.t 1), none, []⟩,
    ⟨(some 29), .load1 (.t 28), none, []⟩,
    ⟨(some 30), .len (.t 29), none, []⟩,
    ⟨(some 31), .bin .eql (.t 30) (.c (.int .i64 0)), none, []⟩])
  (.cond (.t 31)
    (.seq (.reg [⟨(some 2), .mov (.c (.int .i64 0)), none, []⟩,
      ⟨(some 3), .mov (.c (.int .i64 10)), none, []⟩])
    (.ret))
    (.skip)))
  (.seq (.seq (.reg [⟨(some 32), .faddr 2 (.t 1), none, []⟩,
    ⟨(some 33), .load1 (.t 32), none, []⟩,
    ⟨(some 34), .len (.t 33), none, []⟩,
    ⟨(some 35), .bin .gtr (.t 34) (.c (.int .i64 5)), none, []⟩])
  (.cond (.t 35)
    (.seq (.reg [⟨(some 2), .mov (.c (.int .i64 0)), none, []⟩,
      ⟨(some 3), .mov (.c (.int .i64 8)), none, []⟩])
    (.ret))
    (.skip)))
  (.seq (.reg [⟨(some 4), .mov (.c (.nils)), none, []⟩])
  (.seq (.seq (.reg [⟨(some 5), .mov (.c (.int .i64 0)), none, []⟩])
  (.block 0 (.loop xf23l0)))
  (.seq (.reg [⟨(some 2), .mov (.c (.int .i64 0)), none, []⟩,
    ⟨(some 3), .mov (.c (.int .i64 0)), none, []⟩])
  (.ret))))))))), 63, [.t 2, .t 3]⟩
def xf24l0 : XCode := .seq (.seq (.reg [⟨(some 42), .mov (.t 7), none, []⟩,
    ⟨(some 43), .faddr 3 (.t 3), none, []⟩,
    ⟨(some 44), .load1 (.t 43), none, []⟩,
    ⟨(some 45), .len (.t 44), none, []⟩,
    ⟨(some 46), .bin .lss (.t 42) (.t 45), none, []⟩])
  (.cond (.t 46)
    (.skip)
    (.exit 0)))
  (.seq (.block 1 (.seq (.reg [⟨(some 49), .faddr 3 (.t 3), none, []⟩,
     ⟨(some 50), .load1 (.t 49), none, []⟩,
     ⟨(some 51), .mov (.t 7), none, []⟩,
     ⟨(some 52), .iaddr 3 (.t 50) (.t 51), none, []⟩,
     ⟨(some 53), .loadn 3 (.t 52), none, []⟩,
     ⟨(some 8), .new 120 [.int .i64 0, .int .i64 0, .int .i64 0], none, []⟩,
     ⟨none, .store 3 (.t 8) (.t 53), none, []⟩])
   (.seq (.seq (.reg [⟨(some 54), .faddr 0 (.t 8), none, []⟩,
     ⟨(some 55), .load1 (.t 54), none, []⟩,
     ⟨(some 56), .call (.c (.fn 86 [] [])) [.t 55], none, []⟩,
     ⟨(some 57), .un .not (.t 56), none, []⟩,
     ⟨(some 58), .mov (.t 57), none, []⟩,
     ⟨(some 59), .faddr 1 (.t 8), (some (58, false)), []⟩,
     ⟨(some 60), .load1 (.t 59), (some (58, false)), []⟩,
     ⟨(some 61), .call (.c (.fn 86 [] [])) [.t 60], (some (58, false)), []⟩,
     ⟨(some 62), .un .not (.t 61), (some (58, false)), []⟩,
     ⟨(some 63), .pick (.t 58) (.c (.bool true)) (.t 62), none, []⟩,
     ⟨(some 64), .mov (.t 63), none, []⟩,
     ⟨(some 65), .faddr 2 (.t 8), (some (64, false)), []⟩,
     ⟨(some 66), .load1 (.t 65), (some (64, false)), []⟩,
     ⟨(some 67), .call (.c (.fn 86 [] [])) [.t 66], (some (64, false)), []⟩,
     ⟨(some 68), .un .not (.t 67), (some (64, false)), []⟩,
     ⟨(some 69), .pick (.t 64) (.c (.bool true)) (.t 68), none, []⟩])
   (.cond (.t 69)
     (.seq (.reg [⟨(some 70), .mov (.t 7), none, []⟩,
       ⟨(some 4), .mov (.t 70), none, []⟩,
       ⟨(some 5), .mov (.c (.int .i64 2)), none, []⟩])
     (.ret))
     (.skip)))
   (.seq (.reg [⟨(some 71), .faddr 1 (.t 8), none, []⟩,
     ⟨(some 72), .load1 (.t 71), none, []⟩,
     ⟨(some 73), .faddr 0 (.t 8), none, []⟩,
     ⟨(some 74), .load1 (.t 73), none, []⟩,
     ⟨(some 75), .bin .gtr (.t 72) (.t 74), none, []⟩])
   (.cond (.t 75)
     (.seq (.reg [⟨(some 76), .mov (.t 7), none, []⟩,
       ⟨(some 4), .mov (.t 76), none, []⟩,
       ⟨(some 5), .mov (.c (.int .i64 9)), none, []⟩])
     (.ret))
     (.skip))))))
  (.reg [⟨(some 47), .mov (.t 7), none, []⟩,
    ⟨(some 48), .bin .add (.t 47) (.c (.int .i64 1)), none, []⟩,
    ⟨(some 7), .mov (.t 48), none, []⟩]))
def xf24 : XFunc := ⟨.seq (.reg [⟨(some 2), .box 24 (.t 0), none, []⟩,
    ⟨(some 3), .box 27 (.t 1), none, []⟩,
    ⟨(some 4), .mov (.c (.int .i64 0)), none, []⟩,
    ⟨(some 5), .mov (.c (.int .i64 0)), none, []⟩])
  (.seq (.seq (.reg [⟨(some 9), .loadn 3 (.t 2), none, []⟩,
    ⟨(some 10), .call (.c (.fn 85 [] [])) [.t 9], none, []⟩,
    ⟨(some 6), .mov (.t 10), none, []⟩])
  (.seq (.reg [⟨(some 11), .mov (.t 6), none, []⟩,
    ⟨(some 12), .bin .neq (.t 11) (.c (.int .i64 0)), none, []⟩])
  (.cond (.t 12)
    (.seq (.reg [⟨(some 13), .mov (.t 6), none, []⟩,
      ⟨(some 4), .mov (.c (.int .i64 0)), none, []⟩,
      ⟨(some 5), .mov (.t 13), none, []⟩])
    (.ret))
    (.skip))))
  (.seq (.seq (.reg [⟨(some 14), .faddr 0 (.t 3), none, []⟩,
    ⟨(some 15), .load1 (.t 14), none, []⟩,
    ⟨(some 16), .faddr 0 (.t 2), none, []⟩,
    ⟨(some 17), .load1 (.t 16), none, []⟩,
    ⟨(some 18), .faddr 1 (.t 2), none, []⟩,
    ⟨(some 19), .load1 (.t 18), none, []⟩,
    ⟨(some 20), .call (.c (.fn 33 [] [])) [.t 15, .t 17, .t 19], none, []⟩,
    ⟨(some 21), .un .not (.t 20), none, []⟩])
  (.cond (.t 21)
    (.seq (.reg [⟨(some 4), .mov (.c (.int .i64 0)), none, []⟩,
      ⟨(some 5), .mov (.c (.int .i64 2)), none, []⟩])
    (.ret))
    (.skip)))
  (.seq (.seq (.reg [⟨(some 22), .faddr 1 (.t 3), none, []⟩,
    ⟨(some 23), .load1 (.t 22), none, []⟩,
    ⟨(some 24), .faddr 2 (.t 2), none, []⟩,
    ⟨(some 25), .load1 (.t 24), none, []⟩,
    ⟨(some 26), .len (.t 25), none, []⟩,
    ⟨(some 27), .bin .sub (.t 26) (.c (.int .i64 1)), none, []⟩,
    ⟨(some 28), .call (.c (.fn 33 [] [])) [.t 23, .c (.int .i64 0), .t 27], none, []⟩,
    ⟨(some 29), .un .not (.t 28), none, []⟩])
  (.cond (.t 29)
    (.seq (.reg [⟨(some 4), .mov (.c (.int .i64 0)), none, []⟩,
      ⟨(some 5), .mov (.c (.int .i64 6)), none, []⟩])
    (.ret))
    (.skip)))
  (.seq (.seq (.reg [⟨(some 30), .faddr 2 (.t 3), none, []⟩,
    ⟨(some 31), .load1 (.t 30), none, []⟩,
    ⟨(some 32), .call (.c (.fn 86 [] [])) [.t 31], none, []⟩,
    ⟨(some 33), .un .not (.t 32), none, []⟩])
  (.cond (.t 33)
    (.seq (.reg [⟨(some 4), .mov (.c (.int .i64 0)), none, []⟩,
      ⟨(some 5), .mov (.c (.int .i64 2)), none, []⟩])
    (.ret))
    (.skip)))
  (.seq (.seq (.reg [⟨(some 34), .faddr 3 (.t 3), none, []⟩,
    ⟨(some 35), .load1 (.t 34), none, []⟩,
    ⟨(some 36), .len (.t 35), none, []⟩,
    ⟨(some 37), .bin .eql (.t 36) (.c (.int .i64 0)), none, []⟩])
  (.cond (.t 37)
    (.seq (.reg [⟨(some 4), .mov (.c (.int .i64 0)), none, []⟩,
      ⟨(some 5), .mov (.c (.int .i64 10)), none, []⟩])
    (.ret))
    (.skip)))
  (.seq (.seq (.reg [⟨(some 38), .faddr 3 (.t 3), none, []⟩,
    ⟨(some 39), .load1 (.t 38), none, []⟩,
    ⟨(some 40), .len (.t 39), none, []⟩,
    ⟨(some 41), .bin .gtr (.t 40) (.c (.int .i64 10)), none, []⟩])
  (.cond (.t 41)
    (.seq (.reg [⟨(some 4), .mov (.c (.int .i64 0)), none, []⟩,
      ⟨(some 5), .mov (.c (.int .i64 8)), none, []⟩])
    (.ret))
    (.skip)))
  (.seq (.seq (.reg [⟨(some 7), .mov (.c (.int .i64 0)), none, []⟩])
  (.block 0 (.loop xf24l0)))
  (.seq (.reg [⟨(some 4), .mov (.c (.int .i64 0)), none, []⟩,
    ⟨(some 5), .mov (.c (.int .i64 0)), none, []⟩])
  (.ret))))))))), 77, [.t 4, .t 5]⟩
def xf84 : XFunc := ⟨.seq (.reg [⟨(some 2), .box 108 (.t 0), none, []⟩,
    ⟨(some 4), .mov (.c (.int .i64 0)), none, []⟩])
  (.seq (.seq (.reg [⟨(some 5), .faddr 0 (.t 2), none, []⟩,
    ⟨(some 6), .load1 (.t 5), none, []⟩,
    ⟨(some 7), .call (.c (.fn 115 [] [])) [.t 6], none, []⟩,
    ⟨(some 8), .un .not (.t 7), none, []⟩])
  (.cond (.t 8)
    (.seq (.reg [⟨(some 4), .mov (.c (.int .i64 4)), none, []⟩])
    (.ret))
    (.skip)))
  (.seq (.seq (.reg [⟨(some 9), .mov (.t 1), none, []⟩,
    ⟨(some 10), .faddr 0 (.t 2), none, []⟩,
    ⟨(some 11), .load1 (.t 10), none, []⟩,
    ⟨(some 12), .call (.c (.fn 116 [] [])) [.t 9, .t 11], none, []⟩])
  (.cond (.t 12)
    (.seq (.reg [⟨(some 4), .mov (.c (.int .i64 5)), none, []⟩])
    (.ret))
    (.skip)))
  (.seq (.seq (.reg [⟨(some 13), .faddr 1 (.t 2), none, []⟩,
    ⟨(some 14), .load1 (.t 13), none, []⟩,
    ⟨(some 15), .call (.c (.fn 33 [] [])) [.t 14, .c (.int .i64 (-10000)), .c (.int .i64 10000)], none, []⟩,
    ⟨(some 16), .un .not (.t 15), none, []⟩,
    ⟨(some 17), .mov (.t 16), none, []⟩,
    ⟨(some 18), .faddr 2 (.t 2), (some (17, false)), []⟩,
    ⟨(some 19), .load1 (.t 18), (some (17, false)), []⟩,
    ⟨(some 20), .call (.c (.fn 33 [] [])) [.t 19, .c (.int .i64 (-10000)), .c (.int .i64 10000)], (some (17, false)), []⟩,
    ⟨(some 21), .un .not (.t 20), (some (17, false)), []⟩,
    ⟨(some 22), .pick (.t 17) (.c (.bool true)) (.t 21), none, []⟩,
    ⟨(some 23), .mov (.t 22), none, []⟩,
    ⟨(some 24), .faddr 3 (.t 2), (some (23, false)), []⟩,
    ⟨(some 25), .load1 (.t 24), (some (23, false)), []⟩,
    ⟨(some 26), .call (.c (.fn 33 [] [])) [.t 25, .c (.int .i64 0), .c (.int .i64 10000)], (some (23, false)), []⟩,
    ⟨(some 27), .un .not (.t 26), (some (23, false)), []⟩,
    ⟨(some 28), .pick (.t 23) (.c (.bool true)) (.t 27), none, []⟩])
  (.cond (.t 28)
    (.seq (.reg [⟨(some 4), .mov (.c (.int .i64 2)), none, []⟩])
    (.ret))
    (.skip)))
  (.seq (.reg [⟨(some 4), .mov (.c (.int .i64 0)), none, []⟩])
  (.ret))))), 29, [.t 4]⟩
def xf85 : XFunc := ⟨.seq (.reg [⟨(some 1), .box 24 (.t 0), none, []⟩,
    ⟨(some 2), .mov (.c (.int .i64 0)), none, []⟩])
  (.seq (.reg [⟨(some 6), .loadn 3 (.t 1), none, []⟩,
    ⟨(some 7), .call (.c (.fn 23 [] [])) [.t 6], none, []⟩,
    ⟨(some 5), .mov (.t 7), none, []⟩,
    ⟨(some 8), .extract (.t 5) 0, none, []⟩,
    ⟨(some 9), .extract (.t 5) 1, none, []⟩,
    ⟨(some 3), .mov (.t 8), none, []⟩,
    ⟨(some 4), .mov (.t 9), none, []⟩])
  (.seq (.reg [⟨(some 10), .mov (.t 4), none, []⟩,
    ⟨(some 2), .mov (.t 10), none, []⟩])
  (.ret))), 11, [.t 2]⟩
def xf32 : XFunc := ⟨.seq (.reg [⟨(some 2), .box 24 (.t 0), none, []⟩,
    ⟨(some 3), .box 27 (.t 1), none, []⟩,
    ⟨(some 4), .mov (.c (.int .i64 0)), none, []⟩])
  (.seq (.reg [⟨(some 8), .loadn 3 (.t 2), none, []⟩,
    ⟨(some 9), .loadn 4 (.t 3), none, []⟩,
    ⟨(some 10), .call (.c (.fn 24 [] [])) [.t 8, .t 9], none, []⟩,
    ⟨(some 7), .mov (.t 10), none, []⟩,
    ⟨(some 11), .extract (.t 7) 0, none, []⟩,
    ⟨(some 12), .extract (.t 7) 1, none, []⟩,
    ⟨(some 5), .mov (.t 11), none, []⟩,
    ⟨(some 6), .mov (.t 12), none, []⟩])
  (.seq (.reg [⟨(some 13), .mov (.t 6), none, []⟩,
    ⟨(some 4), .mov (.t 13), none, []⟩])
  (.ret))), 14, [.t 4]⟩
def xf86 : XFunc := ⟨.seq (.reg [⟨(some 2), .mov (.c (.bool false)), none, []⟩])
  (.seq (.reg [⟨(some 3), .mov (.t 0), none, []⟩,
    ⟨(some 4), .call (.c (.fn 33 [] [])) [.t 3, .c (.int .i64 (-10000)), .c (.int .i64 10000)], none, []⟩,
    ⟨(some 2), .mov (.t 4), none, []⟩])
  (.ret)), 5, [.t 2]⟩
def xf13l0 : XCode := .seq (.seq (.reg [⟨(some 8), .mov (.t 3), none, []⟩,
    ⟨(some 9), .faddr 2 (.t 1), none, []⟩,
    ⟨(some 10), .load1 (.t 9), none, []⟩,
    ⟨(some 11), .len (.t 10), none, []⟩,
    ⟨(some 12), .bin .lss (.t 8) (.t 11), none, []⟩])
  (.cond (.t 12)
    (.skip)
    (.exit 0)))
  (.seq (.block 1 (.seq (.reg [⟨(some 15), .faddr 2 (.t 1), none, []⟩,
     ⟨(some 16), .load1 (.t 15), none, []⟩,
     ⟨(some 17), .mov (.t 3), none, []⟩,
     ⟨(some 18), .iaddr 4 (.t 16) (.t 17), none, []⟩,
     ⟨(some 19), .faddr 0 (.t 18), none, []⟩,
     ⟨(some 20), .load1 (.t 19), none, []⟩,
     ⟨(some 21), .lenS (.t 20), none, []⟩,
     ⟨(some 22), .bin .gtr (.t 21) (.c (.int .i64 20)), none, []⟩])
   (.cond (.t 22)
     (.seq (.reg [⟨(some 2), .mov (.c (.bool false)), none, []⟩])
     (.ret))
     (.skip))))
  (.reg [⟨(some 13), .mov (.t 3), none, []⟩,
    ⟨(some 14), .bin .add (.t 13) (.c (.int .i64 1)), none, []⟩,
    ⟨(some 3), .mov (.t 14), none, []⟩]))
def xf13 : XFunc := ⟨.seq (.reg [⟨(some 1), .box 24 (.t 0), none, []⟩,
    ⟨(some 2), .mov (.c (.bool false)), none, []⟩])
  (.seq (.seq (.reg [⟨(some 4), .faddr 2 (.t 1), none, []⟩,
    ⟨(some 5), .load1 (.t 4), none, []⟩,
    ⟨(some 6), .len (.t 5), none, []⟩,
    ⟨(some 7), .bin .gtr (.t 6) (.c (.int .i64 7)), none, []⟩])
  (.cond (.t 7)
    (.seq (.reg [⟨(some 2), .mov (.c (.bool false)), none, []⟩])
    (.ret))
    (.skip)))
  (.seq (.seq (.reg [⟨(some 3), .mov (.c (.int .i64 0)), none, []⟩])
  (.block 0 (.loop xf13l0)))
  (.seq (.reg [⟨(some 2), .mov (.c (.bool true)), none, []⟩])
  (.ret)))), 23, [.t 2]⟩
def xf14 : XFunc := ⟨.seq (.reg [⟨(some 1), .box 27 (.t 0), none, []⟩,
    ⟨(some 2), .mov (.c (.bool false)), none, []⟩])
  (.seq (.reg [⟨(some 3), .faddr 3 (.t 1), none, []⟩,
    ⟨(some 4), .load1 (.t 3), none, []⟩,
    ⟨(some 5), .len (.t 4), none, []⟩,
    ⟨(some 6), .bin .leq (.t 5) (.c (.int .i64 12)), none, []⟩,
    ⟨(some 2), .mov (.t 6), none, []⟩])
  (.ret)), 7, [.t 2]⟩
structure DxBCode (X : FuncId → Option XFunc) : Prop where
  dxA : DxACode X
  dxN : DxNCode X
  h15 : X 15 = some xf15
  h75 : X 75 = some xf75
  h74 : X 74 = some xf74
  h72 : X 72 = some xf72
  h17 : X 17 = some xf17
  h79 : X 79 = some xf79
  h78 : X 78 = some xf78
  h77 : X 77 = some xf77
  h89 : X 89 = some xf89
  h16 : X 16 = some xf16
  h18 : X 18 = some xf18
  h23 : X 23 = some xf23
  h24 : X 24 = some xf24
  h84 : X 84 = some xf84
  h85 : X 85 = some xf85
  h32 : X 32 = some xf32
  h86 : X 86 = some xf86
  h13 : X 13 = some xf13
  h14 : X 14 = some xf14
end Go.Proofs.Ytgijgcmcpgepaaa.Eng

/-
  CODE of DxC.
-/
namespace Go.Proofs.Ytgijgcmcpgepaaa.Eng
set_option linter.unusedSimpArgs false
set_option linter.unusedVariables false
def xf80 : XFunc := ⟨.seq (.reg [⟨(some 3), .box 24 (.t 0), none, []⟩,
    ⟨(some 4), .box 27 (.t 1), none, []⟩,
    ⟨(some 6), .new 127 [.int .i64 0, .int .i64 0, .nils, .int .i64 0, .int .i64 0, .int .i64 0, .nils, .nils], none, []⟩,
    ⟨(some 7), .mov (.c (.int .i64 0)), none, []⟩])
  (.seq (.reg [⟨(some 11), .loadn 3 (.t 3), none, []⟩,
    ⟨(some 12), .loadn 4 (.t 4), none, []⟩,
    ⟨(some 13), .call (.c (.fn 89 [] [])) [.t 11, .t 12], none, []⟩,
    ⟨(some 10), .mov (.t 13), none, []⟩,
    ⟨(some 14), .extract (.t 10) 0, none, []⟩,
    ⟨(some 15), .extract (.t 10) 1, none, []⟩,
    ⟨(some 8), .new 125 [.int .i64 0, .int .i64 0, .nils, .int .i64 0, .int .i64 0, .int .i64 0, .nils], none, []⟩,
    ⟨none, .store 7 (.t 8) (.t 14), none, []⟩,
    ⟨(some 9), .mov (.t 15), none, []⟩])
  (.seq (.seq (.reg [⟨(some 16), .mov (.t 9), none, []⟩,
    ⟨(some 17), .bin .eql (.t 16) (.c (.int .i64 0)), none, []⟩])
  (.cond (.t 17)
    (.reg [⟨(some 18), .loadn 7 (.t 8), none, []⟩,
      ⟨(some 19), .mov (.t 2), none, []⟩,
      ⟨(some 20), .call (.c (.fn 121 [] [])) [.t 18, .t 19], none, []⟩,
      ⟨(some 9), .mov (.t 20), none, []⟩])
    (.skip)))
  (.seq (.seq (.reg [⟨(some 21), .mov (.t 9), none, []⟩,
    ⟨(some 22), .bin .neq (.t 21) (.c (.int .i64 0)), none, []⟩])
  (.cond (.t 22)
    (.seq (.reg [⟨(some 23), .build [.int .i64 0, .int .i64 0, .nils, .int .i64 0, .int .i64 0, .int .i64 0, .nils, .nils] [], none, []⟩,
      ⟨(some 24), .mov (.t 9), none, []⟩,
      ⟨none, .store 8 (.t 6) (.t 23), none, []⟩,
      ⟨(some 7), .mov (.t 24), none, []⟩])
    (.ret))
    (.skip)))
  (.seq (.reg [⟨(some 25), .loadn 7 (.t 8), none, []⟩,
    ⟨(some 26), .mov (.t 2), none, []⟩,
    ⟨(some 27), .build [.int .i64 0, .int .i64 0, .nils, .int .i64 0, .int .i64 0, .int .i64 0, .nils, .nils] [(0, 7, .t 25), (7, 1, .t 26)], none, []⟩,
    ⟨none, .store 8 (.t 6) (.t 27), none, []⟩,
    ⟨(some 7), .mov (.c (.int .i64 0)), none, []⟩])
  (.ret))))), 28, [.cn 6 8, .t 7]⟩
def xf81l0 : XCode := .seq (.reg [⟨(some 15), .bin .lss (.t 14) (.t 13), none, []⟩])
  (.seq (.cond (.t 15)
    (.skip)
    (.exit 0))
  (.seq (.block 1 (.seq (.reg [⟨(some 16), .mov (.t 14), none, []⟩,
     ⟨(some 17), .iaddr 1 (.t 12) (.t 14), none, []⟩,
     ⟨(some 18), .load1 (.t 17), none, []⟩,
     ⟨(some 4), .mov (.t 16), none, []⟩,
     ⟨(some 5), .mov (.t 18), none, []⟩])
   (.dreg [⟨(some 19), .mov (.t 3), none, []⟩,
     ⟨(some 20), .faddr 0 (.t 1), none, []⟩,
     ⟨(some 21), .loadn 7 (.t 20), none, [1]⟩,
     ⟨(some 22), .mov (.t 4), none, []⟩,
     ⟨(some 23), .mov (.t 3), none, []⟩,
     ⟨(some 24), .mov (.t 4), none, []⟩,
     ⟨(some 25), .iaddr 1 (.t 23) (.t 24), none, [5, 4]⟩,
     ⟨(some 26), .load1 (.t 25), none, [4, 5, 6]⟩,
     ⟨(some 27), .mov (.t 5), none, []⟩,
     ⟨(some 28), .call (.c (.fn 122 [] [])) [.t 21, .t 22, .t 26, .t 27], none, [6, 5, 4, 1, 8, 7, 3, 2]⟩,
     ⟨(some 29), .buildSlice 3 1 1 false [.int .i64 0] [(0, 1, .t 28)], none, [2, 3, 7, 8, 1, 4, 5, 6, 9]⟩,
     ⟨(some 30), .append 3 1 8 (.t 19) (.t 29), none, [6, 5, 4, 1, 8, 7, 3, 2, 9, 10, 0]⟩,
     ⟨(some 3), .mov (.t 30), none, [10, 9, 8, 7, 6, 5, 4, 3, 2, 1, 0, 11]⟩])))
  (.reg [⟨(some 31), .bin .add (.t 14) (.c (.int .i64 1)), none, []⟩,
    ⟨(some 14), .mov (.t 31), none, []⟩])))
def xf81 : XFunc := ⟨.seq (.reg [⟨(some 1), .box 127 (.t 0), none, []⟩,
    ⟨(some 2), .mov (.c (.nils)), none, []⟩])
  (.seq (.reg [⟨(some 6), .faddr 0 (.t 1), none, []⟩,
    ⟨(some 7), .faddr 3 (.t 6), none, []⟩,
    ⟨(some 8), .faddr 0 (.t 7), none, []⟩,
    ⟨(some 9), .load1 (.t 8), none, []⟩,
    ⟨(some 10), .buildSlice 3 1 1 false [.int .i64 0] [(0, 1, .t 9)], none, []⟩,
    ⟨(some 3), .mov (.t 10), none, []⟩])
  (.seq (.seq (.reg [⟨(some 11), .faddr 7 (.t 1), none, []⟩,
    ⟨(some 12), .load1 (.t 11), none, []⟩,
    ⟨(some 13), .len (.t 12), none, []⟩,
    ⟨(some 14), .mov (.c (.int .i64 0)), none, []⟩])
  (.block 0 (.loop xf81l0)))
  (.seq (.reg [⟨(some 32), .mov (.t 3), none, []⟩,
    ⟨(some 2), .mov (.t 32), none, []⟩])
  (.ret)))), 33, [.t 2]⟩
def xf82l0 : XCode := .seq (.reg [⟨(some 15), .bin .lss (.t 14) (.t 13), none, []⟩])
  (.seq (.cond (.t 15)
    (.skip)
    (.exit 0))
  (.seq (.block 1 (.seq (.reg [⟨(some 16), .mov (.t 14), none, []⟩,
     ⟨(some 17), .iaddr 1 (.t 12) (.t 14), none, []⟩,
     ⟨(some 18), .load1 (.t 17), none, []⟩,
     ⟨(some 5), .mov (.t 16), none, []⟩,
     ⟨(some 6), .mov (.t 18), none, []⟩])
   (.seq (.reg [⟨(some 19), .mov (.t 3), none, []⟩,
     ⟨(some 20), .faddr 0 (.t 1), none, []⟩,
     ⟨(some 21), .loadn 7 (.t 20), none, []⟩,
     ⟨(some 22), .mov (.t 5), none, []⟩,
     ⟨(some 23), .mov (.t 4), none, []⟩,
     ⟨(some 24), .mov (.t 6), none, []⟩,
     ⟨(some 25), .call (.c (.fn 123 [] [])) [.t 21, .t 22, .t 23, .t 24], none, []⟩,
     ⟨(some 26), .bin .add (.t 19) (.t 25), none, []⟩,
     ⟨(some 3), .mov (.t 26), none, []⟩])
   (.reg [⟨(some 27), .mov (.t 6), none, []⟩,
     ⟨(some 4), .mov (.t 27), none, []⟩]))))
  (.reg [⟨(some 28), .bin .add (.t 14) (.c (.int .i64 1)), none, []⟩,
    ⟨(some 14), .mov (.t 28), none, []⟩])))
def xf82 : XFunc := ⟨.seq (.reg [⟨(some 1), .box 127 (.t 0), none, []⟩,
    ⟨(some 2), .mov (.c (.int .i64 0)), none, []⟩])
  (.seq (.dreg [⟨(some 7), .faddr 0 (.t 1), none, []⟩,
    ⟨(some 8), .faddr 3 (.t 7), none, [0]⟩,
    ⟨(some 9), .faddr 1 (.t 8), none, [0, 1]⟩,
    ⟨(some 10), .load1 (.t 9), none, [1, 0, 2]⟩,
    ⟨(some 3), .mov (.c (.int .i64 0)), none, []⟩,
    ⟨(some 4), .mov (.t 10), none, [2, 1, 0, 4, 3]⟩])
  (.seq (.seq (.reg [⟨(some 11), .faddr 7 (.t 1), none, []⟩,
    ⟨(some 12), .load1 (.t 11), none, []⟩,
    ⟨(some 13), .len (.t 12), none, []⟩,
    ⟨(some 14), .mov (.c (.int .i64 0)), none, []⟩])
  (.block 0 (.loop xf82l0)))
  (.seq (.dreg [⟨(some 29), .mov (.t 3), none, []⟩,
    ⟨(some 30), .faddr 0 (.t 1), none, []⟩,
    ⟨(some 31), .faddr 3 (.t 30), none, [1]⟩,
    ⟨(some 32), .faddr 2 (.t 31), none, [1, 2]⟩,
    ⟨(some 33), .load1 (.t 32), none, [2, 1, 3]⟩,
    ⟨(some 34), .loadn 8 (.t 1), none, []⟩,
    ⟨(some 35), .call (.c (.fn 81 [] [])) [.t 34], none, [5]⟩,
    ⟨(some 36), .faddr 7 (.t 1), none, []⟩,
    ⟨(some 37), .load1 (.t 36), none, [7]⟩,
    ⟨(some 38), .len (.t 37), none, [7, 8]⟩,
    ⟨(some 39), .iaddr 1 (.t 35) (.t 38), none, [8, 7, 5, 9, 6]⟩,
    ⟨(some 40), .load1 (.t 39), none, [6, 9, 5, 7, 8, 10]⟩,
    ⟨(some 41), .bin .mul (.t 33) (.t 40), none, [10, 8, 7, 5, 9, 6, 3, 1, 2, 11, 4]⟩,
    ⟨(some 42), .bin .add (.t 29) (.t 41), none, [4, 11, 2, 1, 3, 6, 9, 5, 7, 8, 10, 12, 0]⟩,
    ⟨(some 2), .mov (.t 42), none, [12, 11, 10, 9, 8, 7, 5, 4, 3, 2, 1, 0, 6, 13]⟩])
  (.ret)))), 43, [.t 2]⟩
def xf83l0 : XCode := .seq (.reg [⟨(some 15), .bin .lss (.t 14) (.t 13), none, []⟩])
  (.seq (.cond (.t 15)
    (.skip)
    (.exit 0))
  (.seq (.block 1 (.seq (.reg [⟨(some 16), .iaddr 1 (.t 12) (.t 14), none, []⟩,
     ⟨(some 17), .load1 (.t 16), none, []⟩,
     ⟨(some 6), .mov (.t 17), none, []⟩])
   (.seq (.seq (.reg [⟨(some 18), .mov (.t 6), none, []⟩,
     ⟨(some 19), .mov (.t 4), none, []⟩,
     ⟨(some 20), .bin .neq (.t 18) (.t 19), none, []⟩])
   (.cond (.t 20)
     (.reg [⟨(some 21), .mov (.t 3), none, []⟩,
       ⟨(some 22), .bin .add (.t 21) (.c (.int .i64 1)), none, []⟩,
       ⟨(some 3), .mov (.t 22), none, []⟩])
     (.skip)))
   (.reg [⟨(some 23), .mov (.t 6), none, []⟩,
     ⟨(some 4), .mov (.t 23), none, []⟩]))))
  (.reg [⟨(some 24), .bin .add (.t 14) (.c (.int .i64 1)), none, []⟩,
    ⟨(some 14), .mov (.t 24), none, []⟩])))
def xf83 : XFunc := ⟨.seq (.reg [⟨(some 1), .box 127 (.t 0), none, []⟩,
    ⟨(some 2), .mov (.c (.int .i64 0)), none, []⟩])
  (.seq (.dreg [⟨(some 7), .faddr 0 (.t 1), none, []⟩,
    ⟨(some 8), .faddr 3 (.t 7), none, [0]⟩,
    ⟨(some 9), .faddr 1 (.t 8), none, [0, 1]⟩,
    ⟨(some 10), .load1 (.t 9), none, [1, 0, 2]⟩,
    ⟨(some 3), .mov (.c (.int .i64 0)), none, []⟩,
    ⟨(some 4), .mov (.t 10), none, [2, 1, 0, 4, 3]⟩])
  (.seq (.seq (.reg [⟨(some 11), .faddr 7 (.t 1), none, []⟩,
    ⟨(some 12), .load1 (.t 11), none, []⟩,
    ⟨(some 13), .len (.t 12), none, []⟩,
    ⟨(some 14), .mov (.c (.int .i64 0)), none, []⟩])
  (.block 0 (.loop xf83l0)))
  (.seq (.reg [⟨(some 25), .mov (.t 3), none, []⟩,
    ⟨(some 2), .mov (.t 25), none, []⟩])
  (.ret)))), 26, [.t 2]⟩
def xf121 : XFunc := ⟨.seq (.reg [⟨(some 2), .box 125 (.t 0), none, []⟩,
    ⟨(some 4), .mov (.c (.int .i64 0)), none, []⟩])
  (.seq (.reg [⟨(some 11), .mov (.t 1), none, []⟩,
    ⟨(some 12), .fn true 140 [] [.t 2], none, []⟩,
    ⟨(some 13), .call (.c (.fn 139 [] [])) [.t 11, .t 12], none, []⟩,
    ⟨(some 10), .mov (.t 13), none, []⟩,
    ⟨(some 14), .extract (.t 10) 0, none, []⟩,
    ⟨(some 15), .extract (.t 10) 1, none, []⟩,
    ⟨(some 5), .mov (.t 14), none, []⟩,
    ⟨(some 6), .mov (.t 15), none, []⟩])
  (.seq (.seq (.reg [⟨(some 16), .mov (.t 1), none, []⟩,
    ⟨(some 17), .len (.t 16), none, []⟩,
    ⟨(some 18), .faddr 3 (.t 2), none, []⟩,
    ⟨(some 19), .faddr 3 (.t 18), none, []⟩,
    ⟨(some 20), .load1 (.t 19), none, []⟩,
    ⟨(some 21), .len (.t 20), none, []⟩,
    ⟨(some 22), .bin .eql (.t 17) (.t 21), none, []⟩,
    ⟨(some 23), .call (.c (.fn 71 [] [])) [.t 22, .c (.int .i64 10)], none, []⟩,
    ⟨(some 24), .mov (.t 6), none, []⟩,
    ⟨(some 25), .buildSlice 32 1 2 false [.int .i64 0, .int .i64 0] [(0, 1, .t 23), (1, 1, .t 24)], none, []⟩,
    ⟨(some 26), .call (.c (.fn 69 [] [])) [.t 25], none, []⟩,
    ⟨(some 7), .mov (.t 26), none, []⟩])
  (.seq (.reg [⟨(some 27), .mov (.t 7), none, []⟩,
    ⟨(some 28), .bin .neq (.t 27) (.c (.int .i64 0)), none, []⟩])
  (.cond (.t 28)
    (.seq (.reg [⟨(some 29), .mov (.t 7), none, []⟩,
      ⟨(some 4), .mov (.t 29), none, []⟩])
    (.ret))
    (.skip))))
  (.seq (.reg [⟨(some 31), .loadn 7 (.t 2), none, []⟩,
    ⟨(some 32), .mov (.t 1), none, []⟩,
    ⟨(some 33), .build [.int .i64 0, .int .i64 0, .nils, .int .i64 0, .int .i64 0, .int .i64 0, .nils, .nils] [(0, 7, .t 31), (7, 1, .t 32)], none, []⟩,
    ⟨(some 34), .call (.c (.fn 81 [] [])) [.t 33], none, []⟩,
    ⟨(some 35), .fn true 141 [] [.t 2], none, []⟩,
    ⟨(some 36), .call (.c (.fn 139 [] [])) [.t 34, .t 35], none, []⟩,
    ⟨(some 30), .mov (.t 36), none, []⟩,
    ⟨(some 37), .extract (.t 30) 0, none, []⟩,
    ⟨(some 38), .extract (.t 30) 1, none, []⟩,
    ⟨(some 8), .mov (.t 37), none, []⟩,
    ⟨(some 9), .mov (.t 38), none, []⟩])
  (.seq (.reg [⟨(some 39), .mov (.t 9), none, []⟩,
    ⟨(some 4), .mov (.t 39), none, []⟩])
  (.ret))))), 40, [.t 4]⟩
def xf139l0 : XCode := .seq (.reg [⟨(some 12), .bin .lss (.t 11) (.t 10), none, []⟩])
  (.seq (.cond (.t 12)
    (.skip)
    (.exit 0))
  (.seq (.block 1 (.seq (.reg [⟨(some 13), .mov (.t 11), none, []⟩,
     ⟨(some 14), .iaddr 1 (.t 9) (.t 11), none, []⟩,
     ⟨(some 15), .load1 (.t 14), none, []⟩,
     ⟨(some 6), .mov (.t 13), none, []⟩,
     ⟨(some 7), .mov (.t 15), none, []⟩])
   (.seq (.reg [⟨(some 16), .mov (.t 1), none, []⟩,
     ⟨(some 17), .mov (.t 7), none, []⟩,
     ⟨(some 18), .call (.t 16) [.t 17], none, []⟩,
     ⟨(some 8), .mov (.t 18), none, []⟩])
   (.seq (.reg [⟨(some 19), .mov (.t 8), none, []⟩,
     ⟨(some 20), .bin .neq (.t 19) (.c (.int .i64 0)), none, []⟩])
   (.cond (.t 20)
     (.seq (.reg [⟨(some 21), .mov (.t 6), none, []⟩,
       ⟨(some 22), .mov (.t 8), none, []⟩,
       ⟨(some 4), .mov (.t 21), none, []⟩,
       ⟨(some 5), .mov (.t 22), none, []⟩])
     (.ret))
     (.skip))))))
  (.reg [⟨(some 23), .bin .add (.t 11) (.c (.int .i64 1)), none, []⟩,
    ⟨(some 11), .mov (.t 23), none, []⟩])))
def xf139 : XFunc := ⟨.seq (.reg [⟨(some 4), .mov (.c (.int .i64 0)), none, []⟩,
    ⟨(some 5), .mov (.c (.int .i64 0)), none, []⟩])
  (.seq (.seq (.reg [⟨(some 9), .mov (.t 0), none, []⟩,
    ⟨(some 10), .len (.t 9), none, []⟩,
    ⟨(some 11), .mov (.c (.int .i64 0)), none, []⟩])
  (.block 0 (.loop xf139l0)))
  (.seq (.reg [⟨(some 4), .mov (.c (.int .i64 0)), none, []⟩,
    ⟨(some 5), .mov (.c (.int .i64 0)), none, []⟩])
  (.ret))), 24, [.t 4, .t 5]⟩
def xf140 : XFunc := ⟨.seq (.reg [⟨(some 3), .mov (.c (.int .i64 0)), none, []⟩])
  (.seq (.reg [⟨(some 4), .mov (.t 0), none, []⟩,
    ⟨(some 5), .faddr 0 (.t 1), none, []⟩,
    ⟨(some 6), .faddr 0 (.t 5), none, []⟩,
    ⟨(some 7), .faddr 2 (.t 6), none, []⟩,
    ⟨(some 8), .load1 (.t 7), none, []⟩,
    ⟨(some 9), .len (.t 8), none, []⟩,
    ⟨(some 10), .call (.c (.fn 77 [] [])) [.t 4, .t 9], none, []⟩,
    ⟨(some 3), .mov (.t 10), none, []⟩])
  (.ret)), 11, [.t 3]⟩
def xf141 : XFunc := ⟨.seq (.reg [⟨(some 3), .mov (.c (.int .i64 0)), none, []⟩])
  (.seq (.reg [⟨(some 4), .faddr 0 (.t 1), none, []⟩,
    ⟨(some 5), .loadn 3 (.t 4), none, []⟩,
    ⟨(some 6), .mov (.t 0), none, []⟩,
    ⟨(some 7), .call (.c (.fn 130 [] [])) [.t 5, .t 6], none, []⟩,
    ⟨(some 8), .call (.c (.fn 71 [] [])) [.t 7, .c (.int .i64 22)], none, []⟩,
    ⟨(some 3), .mov (.t 8), none, []⟩])
  (.ret)), 9, [.t 3]⟩
def xf122 : XFunc := ⟨.seq (.reg [⟨(some 4), .box 125 (.t 0), none, []⟩,
    ⟨(some 8), .mov (.c (.int .i64 0)), none, []⟩])
  (.seq (.dreg [⟨(some 9), .mov (.t 2), none, []⟩,
    ⟨(some 10), .faddr 3 (.t 4), none, []⟩,
    ⟨(some 11), .faddr 3 (.t 10), none, [1]⟩,
    ⟨(some 12), .load1 (.t 11), none, [1, 2]⟩,
    ⟨(some 13), .mov (.t 1), none, []⟩,
    ⟨(some 14), .iaddr 3 (.t 12) (.t 13), none, [2, 1, 4, 3]⟩,
    ⟨(some 15), .faddr 2 (.t 14), none, [3, 4, 1, 2, 5]⟩,
    ⟨(some 16), .load1 (.t 15), none, [5, 2, 1, 4, 3, 6]⟩,
    ⟨(some 17), .bin .add (.t 9) (.t 16), none, [6, 3, 4, 1, 2, 5, 7, 0]⟩,
    ⟨(some 18), .faddr 0 (.t 4), none, []⟩,
    ⟨(some 19), .faddr 0 (.t 18), none, [9]⟩,
    ⟨(some 20), .faddr 2 (.t 19), none, [9, 10]⟩,
    ⟨(some 21), .load1 (.t 20), none, [10, 9, 11]⟩,
    ⟨(some 22), .mov (.t 3), none, []⟩,
    ⟨(some 23), .iaddr 4 (.t 21) (.t 22), none, [11, 9, 10, 13, 12]⟩,
    ⟨(some 24), .faddr 1 (.t 23), none, [12, 13, 10, 9, 11, 14]⟩,
    ⟨(some 25), .load1 (.t 24), none, [14, 11, 9, 10, 13, 12, 15]⟩,
    ⟨(some 26), .bin .add (.t 17) (.t 25), none, [15, 12, 13, 10, 9, 11, 14, 0, 7, 5, 2, 1, 4, 3, 6, 16, 8]⟩,
    ⟨(some 8), .mov (.t 26), none, [16, 15, 14, 13, 12, 11, 10, 9, 8, 7, 6, 5, 4, 3, 2, 1, 0, 17]⟩])
  (.ret)), 27, [.t 8]⟩
def xf123 : XFunc := ⟨.seq (.reg [⟨(some 4), .box 125 (.t 0), none, []⟩,
    ⟨(some 8), .mov (.c (.int .i64 0)), none, []⟩])
  (.seq (.dreg [⟨(some 12), .faddr 0 (.t 4), none, []⟩,
    ⟨(some 13), .faddr 0 (.t 12), none, [0]⟩,
    ⟨(some 14), .faddr 2 (.t 13), none, [0, 1]⟩,
    ⟨(some 15), .load1 (.t 14), none, [1, 0, 2]⟩,
    ⟨(some 16), .mov (.t 3), none, []⟩,
    ⟨(some 17), .iaddr 4 (.t 15) (.t 16), none, [2, 0, 1, 4, 3]⟩,
    ⟨(some 18), .loadn 4 (.t 17), none, [3, 4, 1, 0, 2, 5]⟩,
    ⟨(some 19), .faddr 3 (.t 4), none, []⟩,
    ⟨(some 20), .faddr 3 (.t 19), none, [7]⟩,
    ⟨(some 21), .load1 (.t 20), none, [7, 8]⟩,
    ⟨(some 22), .mov (.t 1), none, []⟩,
    ⟨(some 23), .iaddr 3 (.t 21) (.t 22), none, [8, 7, 10, 9]⟩,
    ⟨(some 24), .loadn 3 (.t 23), none, [9, 10, 7, 8, 11]⟩,
    ⟨(some 9), .new 108 [.str ⟨#[]⟩, .int .i64 0, .int .i64 0, .int .i64 0], none, []⟩,
    ⟨(some 10), .new 120 [.int .i64 0, .int .i64 0, .int .i64 0], none, []⟩,
    ⟨none, .store 4 (.t 9) (.t 18), none, [14, 5, 4, 3, 2, 1, 0, 6, 13]⟩,
    ⟨none, .store 3 (.t 10) (.t 24), none, [13, 11, 10, 9, 8, 7, 6, 5, 4, 3, 2, 1, 0, 15, 12, 14]⟩])
  (.seq (.reg [⟨(some 25), .faddr 2 (.t 9), none, []⟩,
    ⟨(some 26), .load1 (.t 25), none, []⟩,
    ⟨(some 27), .faddr 0 (.t 10), none, []⟩,
    ⟨(some 28), .load1 (.t 27), none, []⟩,
    ⟨(some 29), .bin .mul (.t 26) (.t 28), none, []⟩,
    ⟨(some 11), .mov (.t 29), none, []⟩])
  (.seq (.seq (.reg [⟨(some 30), .faddr 2 (.t 9), none, []⟩,
    ⟨(some 31), .load1 (.t 30), none, []⟩,
    ⟨(some 32), .bin .gtr (.t 31) (.c (.int .i64 0)), none, []⟩])
  (.cond (.t 32)
    (.reg [⟨(some 33), .faddr 2 (.t 9), none, []⟩,
      ⟨(some 34), .load1 (.t 33), none, []⟩,
      ⟨(some 35), .faddr 1 (.t 10), none, []⟩,
      ⟨(some 36), .load1 (.t 35), none, []⟩,
      ⟨(some 37), .bin .mul (.t 34) (.t 36), none, []⟩,
      ⟨(some 11), .mov (.t 37), none, []⟩])
    (.skip)))
  (.seq (.seq (.reg [⟨(some 38), .mov (.t 3), none, []⟩,
    ⟨(some 39), .mov (.t 2), none, []⟩,
    ⟨(some 40), .bin .neq (.t 38) (.t 39), none, []⟩])
  (.cond (.t 40)
    (.reg [⟨(some 41), .mov (.t 11), none, []⟩,
      ⟨(some 42), .faddr 3 (.t 9), none, []⟩,
      ⟨(some 43), .load1 (.t 42), none, []⟩,
      ⟨(some 44), .bin .sub (.t 41) (.t 43), none, []⟩,
      ⟨(some 11), .mov (.t 44), none, []⟩])
    (.skip)))
  (.seq (.reg [⟨(some 45), .mov (.t 11), none, []⟩,
    ⟨(some 8), .mov (.t 45), none, []⟩])
  (.ret)))))), 46, [.t 8]⟩
def xf130 : XFunc := ⟨.seq (.reg [⟨(some 2), .box 123 (.t 0), none, []⟩,
    ⟨(some 4), .mov (.c (.bool false)), none, []⟩])
  (.seq (.reg [⟨(some 5), .faddr 0 (.t 2), none, []⟩,
    ⟨(some 6), .faddr 0 (.t 5), none, []⟩,
    ⟨(some 7), .load1 (.t 6), none, []⟩,
    ⟨(some 8), .mov (.t 1), none, []⟩,
    ⟨(some 9), .bin .leq (.t 7) (.t 8), none, []⟩,
    ⟨(some 10), .mov (.t 9), none, []⟩,
    ⟨(some 11), .mov (.t 1), (some (10, true)), []⟩,
    ⟨(some 12), .faddr 0 (.t 2), (some (10, true)), []⟩,
    ⟨(some 13), .faddr 1 (.t 12), (some (10, true)), []⟩,
    ⟨(some 14), .load1 (.t 13), (some (10, true)), []⟩,
    ⟨(some 15), .bin .leq (.t 11) (.t 14), (some (10, true)), []⟩,
    ⟨(some 16), .pick (.t 10) (.t 15) (.c (.bool false)), none, []⟩,
    ⟨(some 4), .mov (.t 16), none, []⟩])
  (.ret)), 17, [.t 4]⟩
def xf19 : XFunc := ⟨.seq (.reg [⟨(some 3), .box 24 (.t 0), none, []⟩,
    ⟨(some 4), .box 27 (.t 1), none, []⟩,
    ⟨(some 6), .mov (.c (.nils)), none, []⟩,
    ⟨(some 7), .mov (.c (.int .i64 0)), none, []⟩])
  (.seq (.reg [⟨(some 11), .loadn 3 (.t 3), none, []⟩,
    ⟨(some 12), .loadn 4 (.t 4), none, []⟩,
    ⟨(some 13), .mov (.t 2), none, []⟩,
    ⟨(some 14), .call (.c (.fn 80 [] [])) [.t 11, .t 12, .t 13], none, []⟩,
    ⟨(some 10), .mov (.t 14), none, []⟩,
    ⟨(some 15), .extract (.t 10) 0, none, []⟩,
    ⟨(some 16), .extract (.t 10) 1, none, []⟩,
    ⟨(some 8), .new 127 [.int .i64 0, .int .i64 0, .nils, .int .i64 0, .int .i64 0, .int .i64 0, .nils, .nils], none, []⟩,
    ⟨none, .store 8 (.t 8) (.t 15), none, []⟩,
    ⟨(some 9), .mov (.t 16), none, []⟩])
  (.seq (.seq (.reg [⟨(some 17), .mov (.t 9), none, []⟩,
    ⟨(some 18), .bin .neq (.t 17) (.c (.int .i64 0)), none, []⟩])
  (.cond (.t 18)
    (.seq (.reg [⟨(some 19), .mov (.t 9), none, []⟩,
      ⟨(some 6), .mov (.c (.nils)), none, []⟩,
      ⟨(some 7), .mov (.t 19), none, []⟩])
    (.ret))
    (.skip)))
  (.seq (.reg [⟨(some 20), .loadn 8 (.t 8), none, []⟩,
    ⟨(some 21), .call (.c (.fn 81 [] [])) [.t 20], none, []⟩,
    ⟨(some 6), .mov (.t 21), none, []⟩,
    ⟨(some 7), .mov (.c (.int .i64 0)), none, []⟩])
  (.ret)))), 22, [.t 6, .t 7]⟩
def xf21 : XFunc := ⟨.seq (.reg [⟨(some 3), .box 24 (.t 0), none, []⟩,
    ⟨(some 4), .box 27 (.t 1), none, []⟩,
    ⟨(some 6), .mov (.c (.int .i64 0)), none, []⟩,
    ⟨(some 7), .mov (.c (.int .i64 0)), none, []⟩])
  (.seq (.reg [⟨(some 11), .loadn 3 (.t 3), none, []⟩,
    ⟨(some 12), .loadn 4 (.t 4), none, []⟩,
    ⟨(some 13), .mov (.t 2), none, []⟩,
    ⟨(some 14), .call (.c (.fn 80 [] [])) [.t 11, .t 12, .t 13], none, []⟩,
    ⟨(some 10), .mov (.t 14), none, []⟩,
    ⟨(some 15), .extract (.t 10) 0, none, []⟩,
    ⟨(some 16), .extract (.t 10) 1, none, []⟩,
    ⟨(some 8), .new 127 [.int .i64 0, .int .i64 0, .nils, .int .i64 0, .int .i64 0, .int .i64 0, .nils, .nils], none, []⟩,
    ⟨none, .store 8 (.t 8) (.t 15), none, []⟩,
    ⟨(some 9), .mov (.t 16), none, []⟩])
  (.seq (.seq (.reg [⟨(some 17), .mov (.t 9), none, []⟩,
    ⟨(some 18), .bin .neq (.t 17) (.c (.int .i64 0)), none, []⟩])
  (.cond (.t 18)
    (.seq (.reg [⟨(some 19), .mov (.t 9), none, []⟩,
      ⟨(some 6), .mov (.c (.int .i64 0)), none, []⟩,
      ⟨(some 7), .mov (.t 19), none, []⟩])
    (.ret))
    (.skip)))
  (.seq (.reg [⟨(some 20), .loadn 8 (.t 8), none, []⟩,
    ⟨(some 21), .call (.c (.fn 82 [] [])) [.t 20], none, []⟩,
    ⟨(some 6), .mov (.t 21), none, []⟩,
    ⟨(some 7), .mov (.c (.int .i64 0)), none, []⟩])
  (.ret)))), 22, [.t 6, .t 7]⟩
def xf22 : XFunc := ⟨.seq (.reg [⟨(some 3), .box 24 (.t 0), none, []⟩,
    ⟨(some 4), .box 27 (.t 1), none, []⟩,
    ⟨(some 6), .mov (.c (.int .i64 0)), none, []⟩,
    ⟨(some 7), .mov (.c (.int .i64 0)), none, []⟩])
  (.seq (.reg [⟨(some 11), .loadn 3 (.t 3), none, []⟩,
    ⟨(some 12), .loadn 4 (.t 4), none, []⟩,
    ⟨(some 13), .mov (.t 2), none, []⟩,
    ⟨(some 14), .call (.c (.fn 80 [] [])) [.t 11, .t 12, .t 13], none, []⟩,
    ⟨(some 10), .mov (.t 14), none, []⟩,
    ⟨(some 15), .extract (.t 10) 0, none, []⟩,
    ⟨(some 16), .extract (.t 10) 1, none, []⟩,
    ⟨(some 8), .new 127 [.int .i64 0, .int .i64 0, .nils, .int .i64 0, .int .i64 0, .int .i64 0, .nils, .nils], none, []⟩,
    ⟨none, .store 8 (.t 8) (.t 15), none, []⟩,
    ⟨(some 9), .mov (.t 16), none, []⟩])
  (.seq (.seq (.reg [⟨(some 17), .mov (.t 9), none, []⟩,
    ⟨(some 18), .bin .neq (.t 17) (.c (.int .i64 0)), none, []⟩])
  (.cond (.t 18)
    (.seq (.reg [⟨(some 19), .mov (.t 9), none, []⟩,
      ⟨(some 6), .mov (.c (.int .i64 0)), none, []⟩,
      ⟨(some 7), .mov (.t 19), none, []⟩])
    (.ret))
    (.skip)))
  (.seq (.reg [⟨(some 20), .loadn 8 (.t 8), none, []⟩,
    ⟨(some 21), .call (.c (.fn 83 [] [])) [.t 20], none, []⟩,
    ⟨(some 6), .mov (.t 21), none, []⟩,
    ⟨(some 7), .mov (.c (.int .i64 0)), none, []⟩])
  (.ret)))), 22, [.t 6, .t 7]⟩
def xf25l0 : XCode := .seq (.seq (.reg [⟨(some 14), .mov (.t 7), none, []⟩,
    ⟨(some 15), .mov (.t 2), none, []⟩,
    ⟨(some 16), .len (.t 15), none, []⟩,
    ⟨(some 17), .bin .lss (.t 14) (.t 16), none, []⟩])
  (.cond (.t 17)
    (.skip)
    (.exit 0)))
  (.seq (.block 1 (.seq (.dreg [⟨(some 20), .mov (.t 2), none, []⟩,
     ⟨(some 21), .mov (.t 7), none, []⟩,
     ⟨(some 22), .iaddr 1 (.t 20) (.t 21), none, [1, 0]⟩,
     ⟨(some 23), .load1 (.t 22), none, [0, 1, 2]⟩,
     ⟨(some 24), .faddr 2 (.t 3), none, []⟩,
     ⟨(some 25), .load1 (.t 24), none, [4]⟩,
     ⟨(some 26), .len (.t 25), none, [4, 5]⟩,
     ⟨(some 27), .bin .sub (.t 26) (.c (.int .i64 1)), none, [5, 4, 6]⟩,
     ⟨(some 28), .call (.c (.fn 33 [] [])) [.t 23, .c (.int .i64 0), .t 27], none, [6, 4, 5, 2, 1, 0, 7, 3]⟩,
     ⟨(some 29), .un .not (.t 28), none, [3, 7, 0, 1, 2, 5, 4, 6, 8]⟩])
   (.cond (.t 29)
     (.seq (.reg [⟨(some 6), .mov (.c (.int .i64 6)), none, []⟩])
     (.ret))
     (.skip))))
  (.reg [⟨(some 18), .mov (.t 7), none, []⟩,
    ⟨(some 19), .bin .add (.t 18) (.c (.int .i64 1)), none, []⟩,
    ⟨(some 7), .mov (.t 19), none, []⟩]))
def xf25 : XFunc := ⟨.seq (.reg [⟨(some 3), .box 24 (.t 0), none, []⟩,
    ⟨(some 4), .box 27 (.t 1), none, []⟩,
    ⟨(some 6), .mov (.c (.int .i64 0)), none, []⟩])
  (.seq (.seq (.reg [⟨(some 8), .mov (.t 2), none, []⟩,
    ⟨(some 9), .len (.t 8), none, []⟩,
    ⟨(some 10), .faddr 3 (.t 4), none, []⟩,
    ⟨(some 11), .load1 (.t 10), none, []⟩,
    ⟨(some 12), .len (.t 11), none, []⟩,
    ⟨(some 13), .bin .neq (.t 9) (.t 12), none, []⟩])
  (.cond (.t 13)
    (.seq (.reg [⟨(some 6), .mov (.c (.int .i64 10)), none, []⟩])
    (.ret))
    (.skip)))
  (.seq (.seq (.reg [⟨(some 7), .mov (.c (.int .i64 0)), none, []⟩])
  (.block 0 (.loop xf25l0)))
  (.seq (.seq (.reg [⟨(some 30), .loadn 3 (.t 3), none, []⟩,
    ⟨(some 31), .loadn 4 (.t 4), none, []⟩,
    ⟨(some 32), .mov (.t 2), none, []⟩,
    ⟨(some 33), .call (.c (.fn 87 [] [])) [.t 30, .t 31, .t 32], none, []⟩,
    ⟨(some 34), .un .not (.t 33), none, []⟩])
  (.cond (.t 34)
    (.seq (.reg [⟨(some 6), .mov (.c (.int .i64 22)), none, []⟩])
    (.ret))
    (.skip)))
  (.seq (.reg [⟨(some 6), .mov (.c (.int .i64 0)), none, []⟩])
  (.ret))))), 35, [.t 6]⟩
def xf27l0 : XCode := .seq (.seq (.reg [⟨(some 12), .mov (.t 8), none, []⟩,
    ⟨(some 13), .mov (.t 2), none, []⟩,
    ⟨(some 14), .len (.t 13), none, []⟩,
    ⟨(some 15), .bin .lss (.t 12) (.t 14), none, []⟩])
  (.cond (.t 15)
    (.skip)
    (.exit 0)))
  (.seq (.block 1 (.dreg [⟨(some 18), .mov (.t 7), none, []⟩,
     ⟨(some 19), .mov (.t 7), none, []⟩,
     ⟨(some 20), .mov (.t 8), none, []⟩,
     ⟨(some 21), .iaddr 1 (.t 19) (.t 20), none, [2, 1]⟩,
     ⟨(some 22), .load1 (.t 21), none, [1, 2, 3]⟩,
     ⟨(some 23), .faddr 3 (.t 4), none, []⟩,
     ⟨(some 24), .load1 (.t 23), none, [5]⟩,
     ⟨(some 25), .mov (.t 8), none, []⟩,
     ⟨(some 26), .iaddr 3 (.t 24) (.t 25), none, [5, 7, 6]⟩,
     ⟨(some 27), .faddr 2 (.t 26), none, [6, 7, 5, 8]⟩,
     ⟨(some 28), .load1 (.t 27), none, [8, 5, 7, 6, 9]⟩,
     ⟨(some 29), .bin .add (.t 22) (.t 28), none, [9, 6, 7, 5, 8, 3, 2, 1, 10, 4]⟩,
     ⟨(some 30), .faddr 2 (.t 3), none, []⟩,
     ⟨(some 31), .load1 (.t 30), none, [12]⟩,
     ⟨(some 32), .mov (.t 2), none, []⟩,
     ⟨(some 33), .mov (.t 8), none, []⟩,
     ⟨(some 34), .iaddr 1 (.t 32) (.t 33), none, [15, 14]⟩,
     ⟨(some 35), .load1 (.t 34), none, [14, 15, 16]⟩,
     ⟨(some 36), .iaddr 4 (.t 31) (.t 35), none, [16, 15, 14, 12, 17, 13]⟩,
     ⟨(some 37), .faddr 1 (.t 36), none, [13, 17, 12, 14, 15, 16, 18]⟩,
     ⟨(some 38), .load1 (.t 37), none, [18, 16, 15, 14, 12, 17, 13, 19]⟩,
     ⟨(some 39), .bin .add (.t 29) (.t 38), none, [19, 13, 17, 12, 14, 15, 16, 18, 4, 10, 1, 2, 3, 8, 5, 7, 6, 9, 20, 11]⟩,
     ⟨(some 40), .buildSlice 3 1 1 false [.int .i64 0] [(0, 1, .t 39)], none, [11, 20, 9, 6, 7, 5, 8, 3, 2, 1, 10, 4, 18, 16, 15, 14, 12, 17, 13, 19, 21]⟩,
     ⟨(some 41), .append 3 1 8 (.t 18) (.t 40), none, [21, 19, 13, 17, 12, 14, 15, 16, 18, 4, 10, 1, 2, 3, 8, 5, 7, 6, 9, 20, 11, 22, 0]⟩,
     ⟨(some 7), .mov (.t 41), none, [22, 21, 20, 19, 18, 17, 16, 15, 14, 13, 12, 11, 10, 9, 8, 7, 6, 5, 4, 3, 2, 1, 0, 23]⟩]))
  (.reg [⟨(some 16), .mov (.t 8), none, []⟩,
    ⟨(some 17), .bin .add (.t 16) (.c (.int .i64 1)), none, []⟩,
    ⟨(some 8), .mov (.t 17), none, []⟩]))
def xf27 : XFunc := ⟨.seq (.reg [⟨(some 3), .box 24 (.t 0), none, []⟩,
    ⟨(some 4), .box 27 (.t 1), none, []⟩,
    ⟨(some 6), .mov (.c (.nils)), none, []⟩])
  (.seq (.reg [⟨(some 9), .faddr 0 (.t 4), none, []⟩,
    ⟨(some 10), .load1 (.t 9), none, []⟩,
    ⟨(some 11), .buildSlice 3 1 1 false [.int .i64 0] [(0, 1, .t 10)], none, []⟩,
    ⟨(some 7), .mov (.t 11), none, []⟩])
  (.seq (.seq (.reg [⟨(some 8), .mov (.c (.int .i64 0)), none, []⟩])
  (.block 0 (.loop xf27l0)))
  (.seq (.reg [⟨(some 42), .mov (.t 7), none, []⟩,
    ⟨(some 6), .mov (.t 42), none, []⟩])
  (.ret)))), 43, [.t 6]⟩
def xf28l0 : XCode := .seq (.seq (.reg [⟨(some 13), .mov (.t 9), none, []⟩,
    ⟨(some 14), .mov (.t 2), none, []⟩,
    ⟨(some 15), .len (.t 14), none, []⟩,
    ⟨(some 16), .bin .lss (.t 13) (.t 15), none, []⟩])
  (.cond (.t 16)
    (.skip)
    (.exit 0)))
  (.seq (.block 1 (.seq (.dreg [⟨(some 19), .mov (.t 7), none, []⟩,
     ⟨(some 20), .loadn 3 (.t 3), none, []⟩,
     ⟨(some 21), .faddr 3 (.t 4), none, []⟩,
     ⟨(some 22), .load1 (.t 21), none, [2]⟩,
     ⟨(some 23), .mov (.t 9), none, []⟩,
     ⟨(some 24), .iaddr 3 (.t 22) (.t 23), none, [2, 4, 3]⟩,
     ⟨(some 25), .loadn 3 (.t 24), none, [3, 4, 2, 5]⟩,
     ⟨(some 26), .mov (.t 2), none, []⟩,
     ⟨(some 27), .mov (.t 9), none, []⟩,
     ⟨(some 28), .iaddr 1 (.t 26) (.t 27), none, [8, 7]⟩,
     ⟨(some 29), .load1 (.t 28), none, [7, 8, 9]⟩,
     ⟨(some 30), .mov (.t 8), none, []⟩,
     ⟨(some 31), .call (.c (.fn 88 [] [])) [.t 20, .t 25, .t 29, .t 30], none, [9, 8, 7, 5, 2, 4, 3, 11, 10, 6, 1]⟩,
     ⟨(some 32), .bin .add (.t 19) (.t 31), none, [1, 6, 10, 11, 3, 4, 2, 5, 7, 8, 9, 12, 0]⟩,
     ⟨(some 7), .mov (.t 32), none, [11, 10, 9, 8, 7, 6, 5, 4, 3, 2, 1, 0, 12, 13]⟩])
   (.reg [⟨(some 33), .mov (.t 2), none, []⟩,
     ⟨(some 34), .mov (.t 9), none, []⟩,
     ⟨(some 35), .iaddr 1 (.t 33) (.t 34), none, []⟩,
     ⟨(some 36), .load1 (.t 35), none, []⟩,
     ⟨(some 8), .mov (.t 36), none, []⟩])))
  (.reg [⟨(some 17), .mov (.t 9), none, []⟩,
    ⟨(some 18), .bin .add (.t 17) (.c (.int .i64 1)), none, []⟩,
    ⟨(some 9), .mov (.t 18), none, []⟩]))
def xf28 : XFunc := ⟨.seq (.reg [⟨(some 3), .box 24 (.t 0), none, []⟩,
    ⟨(some 4), .box 27 (.t 1), none, []⟩,
    ⟨(some 6), .mov (.c (.int .i64 0)), none, []⟩])
  (.seq (.dreg [⟨(some 11), .faddr 1 (.t 4), none, []⟩,
    ⟨(some 12), .load1 (.t 11), none, [0]⟩,
    ⟨(some 7), .mov (.c (.int .i64 0)), none, []⟩,
    ⟨(some 8), .mov (.t 12), none, [0, 2, 1]⟩])
  (.seq (.seq (.reg [⟨(some 9), .mov (.c (.int .i64 0)), none, []⟩])
  (.block 0 (.loop xf28l0)))
  (.seq (.reg [⟨(some 37), .loadn 3 (.t 3), none, []⟩,
    ⟨(some 38), .loadn 4 (.t 4), none, []⟩,
    ⟨(some 39), .mov (.t 2), none, []⟩,
    ⟨(some 40), .call (.c (.fn 27 [] [])) [.t 37, .t 38, .t 39], none, []⟩,
    ⟨(some 10), .mov (.t 40), none, []⟩])
  (.seq (.dreg [⟨(some 41), .mov (.t 7), none, []⟩,
    ⟨(some 42), .faddr 2 (.t 4), none, []⟩,
    ⟨(some 43), .load1 (.t 42), none, [1]⟩,
    ⟨(some 44), .mov (.t 10), none, []⟩,
    ⟨(some 45), .mov (.t 10), none, []⟩,
    ⟨(some 46), .len (.t 45), none, [4]⟩,
    ⟨(some 47), .bin .sub (.t 46) (.c (.int .i64 1)), none, [4, 5]⟩,
    ⟨(some 48), .iaddr 1 (.t 44) (.t 47), none, [5, 4, 6, 3]⟩,
    ⟨(some 49), .load1 (.t 48), none, [3, 6, 4, 5, 7]⟩,
    ⟨(some 50), .bin .mul (.t 43) (.t 49), none, [7, 5, 4, 6, 3, 1, 8, 2]⟩,
    ⟨(some 51), .bin .add (.t 41) (.t 50), none, [2, 8, 1, 3, 6, 4, 5, 7, 9, 0]⟩,
    ⟨(some 6), .mov (.t 51), none, [9, 8, 7, 6, 5, 4, 3, 2, 1, 0, 10]⟩])
  (.ret))))), 52, [.t 6]⟩
def xf29l0 : XCode := .seq (.seq (.reg [⟨(some 10), .mov (.t 7), none, []⟩,
    ⟨(some 11), .mov (.t 1), none, []⟩,
    ⟨(some 12), .len (.t 11), none, []⟩,
    ⟨(some 13), .bin .lss (.t 10) (.t 12), none, []⟩])
  (.cond (.t 13)
    (.skip)
    (.exit 0)))
  (.seq (.block 1 (.seq (.seq (.reg [⟨(some 16), .mov (.t 1), none, []⟩,
     ⟨(some 17), .mov (.t 7), none, []⟩,
     ⟨(some 18), .iaddr 1 (.t 16) (.t 17), none, []⟩,
     ⟨(some 19), .load1 (.t 18), none, []⟩,
     ⟨(some 20), .mov (.t 6), none, []⟩,
     ⟨(some 21), .bin .neq (.t 19) (.t 20), none, []⟩])
   (.cond (.t 21)
     (.reg [⟨(some 22), .mov (.t 5), none, []⟩,
       ⟨(some 23), .bin .add (.t 22) (.c (.int .i64 1)), none, []⟩,
       ⟨(some 5), .mov (.t 23), none, []⟩])
     (.skip)))
   (.reg [⟨(some 24), .mov (.t 1), none, []⟩,
     ⟨(some 25), .mov (.t 7), none, []⟩,
     ⟨(some 26), .iaddr 1 (.t 24) (.t 25), none, []⟩,
     ⟨(some 27), .load1 (.t 26), none, []⟩,
     ⟨(some 6), .mov (.t 27), none, []⟩])))
  (.reg [⟨(some 14), .mov (.t 7), none, []⟩,
    ⟨(some 15), .bin .add (.t 14) (.c (.int .i64 1)), none, []⟩,
    ⟨(some 7), .mov (.t 15), none, []⟩]))
def xf29 : XFunc := ⟨.seq (.reg [⟨(some 2), .box 27 (.t 0), none, []⟩,
    ⟨(some 4), .mov (.c (.int .i64 0)), none, []⟩])
  (.seq (.dreg [⟨(some 8), .faddr 1 (.t 2), none, []⟩,
    ⟨(some 9), .load1 (.t 8), none, [0]⟩,
    ⟨(some 5), .mov (.c (.int .i64 0)), none, []⟩,
    ⟨(some 6), .mov (.t 9), none, [0, 2, 1]⟩])
  (.seq (.seq (.reg [⟨(some 7), .mov (.c (.int .i64 0)), none, []⟩])
  (.block 0 (.loop xf29l0)))
  (.seq (.reg [⟨(some 28), .mov (.t 5), none, []⟩,
    ⟨(some 4), .mov (.t 28), none, []⟩])
  (.ret)))), 29, [.t 4]⟩
def xf87l0 : XCode := .seq (.seq (.reg [⟨(some 13), .mov (.t 8), none, []⟩,
    ⟨(some 14), .mov (.t 7), none, []⟩,
    ⟨(some 15), .len (.t 14), none, []⟩,
    ⟨(some 16), .bin .lss (.t 13) (.t 15), none, []⟩])
  (.cond (.t 16)
    (.skip)
    (.exit 0)))
  (.seq (.block 1 (.seq (.dreg [⟨(some 19), .mov (.t 7), none, []⟩,
     ⟨(some 20), .mov (.t 8), none, []⟩,
     ⟨(some 21), .iaddr 1 (.t 19) (.t 20), none, [1, 0]⟩,
     ⟨(some 22), .load1 (.t 21), none, [0, 1, 2]⟩,
     ⟨(some 23), .faddr 0 (.t 3), none, []⟩,
     ⟨(some 24), .load1 (.t 23), none, [4]⟩,
     ⟨(some 25), .faddr 1 (.t 3), none, []⟩,
     ⟨(some 26), .load1 (.t 25), none, [6]⟩,
     ⟨(some 27), .call (.c (.fn 33 [] [])) [.t 22, .t 24, .t 26], none, [6, 4, 2, 1, 0, 7, 5, 3]⟩,
     ⟨(some 28), .un .not (.t 27), none, [3, 5, 7, 0, 1, 2, 4, 6, 8]⟩])
   (.cond (.t 28)
     (.seq (.reg [⟨(some 6), .mov (.c (.bool false)), none, []⟩])
     (.ret))
     (.skip))))
  (.reg [⟨(some 17), .mov (.t 8), none, []⟩,
    ⟨(some 18), .bin .add (.t 17) (.c (.int .i64 1)), none, []⟩,
    ⟨(some 8), .mov (.t 18), none, []⟩]))
def xf87 : XFunc := ⟨.seq (.reg [⟨(some 3), .box 24 (.t 0), none, []⟩,
    ⟨(some 4), .box 27 (.t 1), none, []⟩,
    ⟨(some 6), .mov (.c (.bool false)), none, []⟩])
  (.seq (.reg [⟨(some 9), .loadn 3 (.t 3), none, []⟩,
    ⟨(some 10), .loadn 4 (.t 4), none, []⟩,
    ⟨(some 11), .mov (.t 2), none, []⟩,
    ⟨(some 12), .call (.c (.fn 27 [] [])) [.t 9, .t 10, .t 11], none, []⟩,
    ⟨(some 7), .mov (.t 12), none, []⟩])
  (.seq (.seq (.reg [⟨(some 8), .mov (.c (.int .i64 0)), none, []⟩])
  (.block 0 (.loop xf87l0)))
  (.seq (.reg [⟨(some 6), .mov (.c (.bool true)), none, []⟩])
  (.ret)))), 29, [.t 6]⟩
def xf88 : XFunc := ⟨.seq (.reg [⟨(some 4), .box 24 (.t 0), none, []⟩,
    ⟨(some 5), .box 120 (.t 1), none, []⟩,
    ⟨(some 8), .mov (.c (.int .i64 0)), none, []⟩])
  (.seq (.reg [⟨(some 11), .faddr 2 (.t 4), none, []⟩,
    ⟨(some 12), .load1 (.t 11), none, []⟩,
    ⟨(some 13), .mov (.t 2), none, []⟩,
    ⟨(some 14), .iaddr 4 (.t 12) (.t 13), none, []⟩,
    ⟨(some 15), .loadn 4 (.t 14), none, []⟩,
    ⟨(some 9), .new 108 [.str ⟨#[]⟩, .int .i64 0, .int .i64 0, .int .i64 0], none, []⟩,
    ⟨none, .store 4 (.t 9) (.t 15), none, []⟩])
  (.seq (.reg [⟨(some 16), .faddr 2 (.t 9), none, []⟩,
    ⟨(some 17), .load1 (.t 16), none, []⟩,
    ⟨(some 18), .faddr 0 (.t 5), none, []⟩,
    ⟨(some 19), .load1 (.t 18), none, []⟩,
    ⟨(some 20), .bin .mul (.t 17) (.t 19), none, []⟩,
    ⟨(some 10), .mov (.t 20), none, []⟩])
  (.seq (.seq (.reg [⟨(some 21), .faddr 2 (.t 9), none, []⟩,
    ⟨(some 22), .load1 (.t 21), none, []⟩,
    ⟨(some 23), .bin .gtr (.t 22) (.c (.int .i64 0)), none, []⟩])
  (.cond (.t 23)
    (.reg [⟨(some 24), .faddr 2 (.t 9), none, []⟩,
      ⟨(some 25), .load1 (.t 24), none, []⟩,
      ⟨(some 26), .faddr 1 (.t 5), none, []⟩,
      ⟨(some 27), .load1 (.t 26), none, []⟩,
      ⟨(some 28), .bin .mul (.t 25) (.t 27), none, []⟩,
      ⟨(some 10), .mov (.t 28), none, []⟩])
    (.skip)))
  (.seq (.seq (.reg [⟨(some 29), .mov (.t 2), none, []⟩,
    ⟨(some 30), .mov (.t 3), none, []⟩,
    ⟨(some 31), .bin .neq (.t 29) (.t 30), none, []⟩])
  (.cond (.t 31)
    (.reg [⟨(some 32), .mov (.t 10), none, []⟩,
      ⟨(some 33), .faddr 3 (.t 9), none, []⟩,
      ⟨(some 34), .load1 (.t 33), none, []⟩,
      ⟨(some 35), .bin .sub (.t 32) (.t 34), none, []⟩,
      ⟨(some 10), .mov (.t 35), none, []⟩])
    (.skip)))
  (.seq (.reg [⟨(some 36), .mov (.t 10), none, []⟩,
    ⟨(some 8), .mov (.t 36), none, []⟩])
  (.ret)))))), 37, [.t 8]⟩
def xf3 : XFunc := ⟨.seq (.reg [⟨(some 3), .box 24 (.t 0), none, []⟩,
    ⟨(some 4), .box 27 (.t 1), none, []⟩,
    ⟨(some 6), .mov (.c (.bool false)), none, []⟩])
  (.seq (.seq (.reg [⟨(some 19), .call (.c (.fn 12 [] [])) [], none, []⟩,
    ⟨(some 20), .un .not (.t 19), none, []⟩])
  (.cond (.t 20)
    (.seq (.reg [⟨(some 6), .mov (.c (.bool false)), none, []⟩])
    (.ret))
    (.skip)))
  (.seq (.seq (.reg [⟨(some 21), .loadn 3 (.t 3), none, []⟩,
    ⟨(some 22), .call (.c (.fn 13 [] [])) [.t 21], none, []⟩,
    ⟨(some 23), .un .not (.t 22), none, []⟩,
    ⟨(some 24), .mov (.t 23), none, []⟩,
    ⟨(some 25), .loadn 4 (.t 4), (some (24, false)), []⟩,
    ⟨(some 26), .call (.c (.fn 14 [] [])) [.t 25], (some (24, false)), []⟩,
    ⟨(some 27), .un .not (.t 26), (some (24, false)), []⟩,
    ⟨(some 28), .pick (.t 24) (.c (.bool true)) (.t 27), none, []⟩,
    ⟨(some 29), .mov (.t 28), none, []⟩,
    ⟨(some 30), .mov (.t 2), (some (29, false)), []⟩,
    ⟨(some 31), .len (.t 30), (some (29, false)), []⟩,
    ⟨(some 32), .bin .gtr (.t 31) (.c (.int .i64 12)), (some (29, false)), []⟩,
    ⟨(some 33), .pick (.t 29) (.c (.bool true)) (.t 32), none, []⟩])
  (.cond (.t 33)
    (.seq (.reg [⟨(some 6), .mov (.c (.bool true)), none, []⟩])
    (.ret))
    (.skip)))
  (.seq (.reg [⟨(some 35), .loadn 3 (.t 3), none, []⟩,
    ⟨(some 36), .call (.c (.fn 16 [] [])) [.t 35], none, []⟩,
    ⟨(some 37), .call (.c (.fn 15 [] [])) [.t 36], none, []⟩,
    ⟨(some 34), .mov (.t 37), none, []⟩,
    ⟨(some 38), .extract (.t 34) 0, none, []⟩,
    ⟨(some 39), .extract (.t 34) 1, none, []⟩,
    ⟨(some 7), .mov (.t 38), none, []⟩,
    ⟨(some 8), .mov (.t 39), none, []⟩])
  (.seq (.dreg [⟨(some 41), .loadn 3 (.t 3), none, []⟩,
    ⟨(some 42), .call (.c (.fn 16 [] [])) [.t 41], none, [0]⟩,
    ⟨(some 43), .loadn 4 (.t 4), none, []⟩,
    ⟨(some 44), .call (.c (.fn 18 [] [])) [.t 43], none, [0, 1, 2]⟩,
    ⟨(some 45), .call (.c (.fn 17 [] [])) [.t 42, .t 44], none, [2, 0, 3, 1]⟩,
    ⟨(some 40), .mov (.t 45), none, [1, 3, 0, 2, 4]⟩,
    ⟨(some 46), .extract (.t 40) 0, none, [4, 2, 0, 3, 1, 5]⟩,
    ⟨(some 47), .extract (.t 40) 1, none, [4, 2, 0, 3, 1, 5]⟩,
    ⟨(some 9), .mov (.t 46), none, [5, 3, 2, 1, 0, 4, 6]⟩,
    ⟨(some 10), .mov (.t 47), none, [6, 5, 4, 3, 2, 1, 0, 8, 7]⟩])
  (.seq (.dreg [⟨(some 49), .loadn 3 (.t 3), none, []⟩,
    ⟨(some 50), .call (.c (.fn 16 [] [])) [.t 49], none, [0]⟩,
    ⟨(some 51), .loadn 4 (.t 4), none, []⟩,
    ⟨(some 52), .call (.c (.fn 18 [] [])) [.t 51], none, [0, 1, 2]⟩,
    ⟨(some 53), .mov (.t 2), none, []⟩,
    ⟨(some 54), .call (.c (.fn 20 [] [])) [.t 53], none, [2, 1, 0, 3, 4]⟩,
    ⟨(some 55), .call (.c (.fn 19 [] [])) [.t 50, .t 52, .t 54], none, [4, 2, 0, 5, 3, 1]⟩,
    ⟨(some 48), .mov (.t 55), none, [1, 3, 5, 0, 2, 4, 6]⟩,
    ⟨(some 56), .extract (.t 48) 0, none, [6, 4, 2, 0, 5, 3, 1, 7]⟩,
    ⟨(some 57), .extract (.t 48) 1, none, [6, 4, 2, 0, 5, 3, 1, 7]⟩,
    ⟨(some 11), .mov (.t 56), none, [7, 5, 4, 3, 2, 1, 0, 6, 8]⟩,
    ⟨(some 12), .mov (.t 57), none, [8, 7, 6, 5, 4, 3, 2, 1, 0, 10, 9]⟩])
  (.seq (.dreg [⟨(some 59), .loadn 3 (.t 3), none, []⟩,
    ⟨(some 60), .call (.c (.fn 16 [] [])) [.t 59], none, [0]⟩,
    ⟨(some 61), .loadn 4 (.t 4), none, []⟩,
    ⟨(some 62), .call (.c (.fn 18 [] [])) [.t 61], none, [0, 1, 2]⟩,
    ⟨(some 63), .mov (.t 2), none, []⟩,
    ⟨(some 64), .call (.c (.fn 20 [] [])) [.t 63], none, [2, 1, 0, 3, 4]⟩,
    ⟨(some 65), .call (.c (.fn 21 [] [])) [.t 60, .t 62, .t 64], none, [4, 2, 0, 5, 3, 1]⟩,
    ⟨(some 58), .mov (.t 65), none, [1, 3, 5, 0, 2, 4, 6]⟩,
    ⟨(some 66), .extract (.t 58) 0, none, [6, 4, 2, 0, 5, 3, 1, 7]⟩,
    ⟨(some 67), .extract (.t 58) 1, none, [6, 4, 2, 0, 5, 3, 1, 7]⟩,
    ⟨(some 13), .mov (.t 66), none, [7, 5, 4, 3, 2, 1, 0, 6, 8]⟩,
    ⟨(some 14), .mov (.t 67), none, [8, 7, 6, 5, 4, 3, 2, 1, 0, 10, 9]⟩])
  (.seq (.dreg [⟨(some 69), .loadn 3 (.t 3), none, []⟩,
    ⟨(some 70), .call (.c (.fn 16 [] [])) [.t 69], none, [0]⟩,
    ⟨(some 71), .loadn 4 (.t 4), none, []⟩,
    ⟨(some 72), .call (.c (.fn 18 [] [])) [.t 71], none, [0, 1, 2]⟩,
    ⟨(some 73), .mov (.t 2), none, []⟩,
    ⟨(some 74), .call (.c (.fn 20 [] [])) [.t 73], none, [2, 1, 0, 3, 4]⟩,
    ⟨(some 75), .call (.c (.fn 22 [] [])) [.t 70, .t 72, .t 74], none, [4, 2, 0, 5, 3, 1]⟩,
    ⟨(some 68), .mov (.t 75), none, [1, 3, 5, 0, 2, 4, 6]⟩,
    ⟨(some 76), .extract (.t 68) 0, none, [6, 4, 2, 0, 5, 3, 1, 7]⟩,
    ⟨(some 77), .extract (.t 68) 1, none, [6, 4, 2, 0, 5, 3, 1, 7]⟩,
    ⟨(some 15), .mov (.t 76), none, [7, 5, 4, 3, 2, 1, 0, 6, 8]⟩,
    ⟨(some 16), .mov (.t 77), none, [8, 7, 6, 5, 4, 3, 2, 1, 0, 10, 9]⟩])
  (.seq (.reg [⟨(some 79), .loadn 3 (.t 3), none, []⟩,
    ⟨(some 80), .call (.c (.fn 23 [] [])) [.t 79], none, []⟩,
    ⟨(some 78), .mov (.t 80), none, []⟩,
    ⟨(some 81), .extract (.t 78) 0, none, []⟩,
    ⟨(some 82), .extract (.t 78) 1, none, []⟩,
    ⟨(some 17), .mov (.t 81), none, []⟩,
    ⟨(some 18), .mov (.t 82), none, []⟩])
  (.seq (.seq (.reg [⟨(some 83), .mov (.t 8), none, []⟩,
    ⟨(some 84), .mov (.t 18), none, []⟩,
    ⟨(some 85), .bin .neq (.t 83) (.t 84), none, []⟩,
    ⟨(some 86), .mov (.t 85), none, []⟩,
    ⟨(some 87), .mov (.t 7), (some (86, false)), []⟩,
    ⟨(some 88), .mov (.t 17), (some (86, false)), []⟩,
    ⟨(some 89), .bin .neq (.t 87) (.t 88), (some (86, false)), []⟩,
    ⟨(some 90), .pick (.t 86) (.c (.bool true)) (.t 89), none, []⟩])
  (.cond (.t 90)
    (.seq (.reg [⟨(some 6), .mov (.c (.bool false)), none, []⟩])
    (.ret))
    (.skip)))
  (.seq (.reg [⟨(some 92), .loadn 3 (.t 3), none, []⟩,
    ⟨(some 93), .loadn 4 (.t 4), none, []⟩,
    ⟨(some 94), .call (.c (.fn 24 [] [])) [.t 92, .t 93], none, []⟩,
    ⟨(some 91), .mov (.t 94), none, []⟩,
    ⟨(some 95), .extract (.t 91) 0, none, []⟩,
    ⟨(some 96), .extract (.t 91) 1, none, []⟩,
    ⟨(some 17), .mov (.t 95), none, []⟩,
    ⟨(some 18), .mov (.t 96), none, []⟩])
  (.seq (.seq (.reg [⟨(some 97), .mov (.t 10), none, []⟩,
    ⟨(some 98), .mov (.t 18), none, []⟩,
    ⟨(some 99), .bin .neq (.t 97) (.t 98), none, []⟩,
    ⟨(some 100), .mov (.t 99), none, []⟩,
    ⟨(some 101), .mov (.t 9), (some (100, false)), []⟩,
    ⟨(some 102), .mov (.t 17), (some (100, false)), []⟩,
    ⟨(some 103), .bin .neq (.t 101) (.t 102), (some (100, false)), []⟩,
    ⟨(some 104), .pick (.t 100) (.c (.bool true)) (.t 103), none, []⟩])
  (.cond (.t 104)
    (.seq (.reg [⟨(some 6), .mov (.c (.bool false)), none, []⟩])
    (.ret))
    (.skip)))
  (.seq (.seq (.reg [⟨(some 105), .mov (.t 18), none, []⟩,
    ⟨(some 106), .bin .eql (.t 105) (.c (.int .i64 0)), none, []⟩])
  (.cond (.t 106)
    (.reg [⟨(some 107), .loadn 3 (.t 3), none, []⟩,
      ⟨(some 108), .loadn 4 (.t 4), none, []⟩,
      ⟨(some 109), .mov (.t 2), none, []⟩,
      ⟨(some 110), .call (.c (.fn 25 [] [])) [.t 107, .t 108, .t 109], none, []⟩,
      ⟨(some 18), .mov (.t 110), none, []⟩])
    (.skip)))
  (.seq (.seq (.reg [⟨(some 111), .mov (.t 18), none, []⟩,
    ⟨(some 112), .bin .neq (.t 111) (.c (.int .i64 0)), none, []⟩])
  (.cond (.t 112)
    (.seq (.reg [⟨(some 113), .mov (.t 12), none, []⟩,
      ⟨(some 114), .mov (.t 18), none, []⟩,
      ⟨(some 115), .bin .eql (.t 113) (.t 114), none, []⟩,
      ⟨(some 116), .mov (.t 115), none, []⟩,
      ⟨(some 117), .mov (.t 14), (some (116, true)), []⟩,
      ⟨(some 118), .mov (.t 18), (some (116, true)), []⟩,
      ⟨(some 119), .bin .eql (.t 117) (.t 118), (some (116, true)), []⟩,
      ⟨(some 120), .pick (.t 116) (.t 119) (.c (.bool false)), none, []⟩,
      ⟨(some 121), .mov (.t 120), none, []⟩,
      ⟨(some 122), .mov (.t 16), (some (121, true)), []⟩,
      ⟨(some 123), .mov (.t 18), (some (121, true)), []⟩,
      ⟨(some 124), .bin .eql (.t 122) (.t 123), (some (121, true)), []⟩,
      ⟨(some 125), .pick (.t 121) (.t 124) (.c (.bool false)), none, []⟩,
      ⟨(some 126), .mov (.t 125), none, []⟩,
      ⟨(some 127), .mov (.t 11), (some (126, true)), []⟩,
      ⟨(some 128), .len (.t 127), (some (126, true)), []⟩,
      ⟨(some 129), .bin .eql (.t 128) (.c (.int .i64 0)), (some (126, true)), []⟩,
      ⟨(some 130), .pick (.t 126) (.t 129) (.c (.bool false)), none, []⟩,
      ⟨(some 131), .mov (.t 130), none, []⟩,
      ⟨(some 132), .mov (.t 13), (some (131, true)), []⟩,
      ⟨(some 133), .bin .eql (.t 132) (.c (.int .i64 0)), (some (131, true)), []⟩,
      ⟨(some 134), .pick (.t 131) (.t 133) (.c (.bool false)), none, []⟩,
      ⟨(some 135), .mov (.t 134), none, []⟩,
      ⟨(some 136), .mov (.t 15), (some (135, true)), []⟩,
      ⟨(some 137), .bin .eql (.t 136) (.c (.int .i64 0)), (some (135, true)), []⟩,
      ⟨(some 138), .pick (.t 135) (.t 137) (.c (.bool false)), none, []⟩,
      ⟨(some 6), .mov (.t 138), none, []⟩])
    (.ret))
    (.skip)))
  (.seq (.reg [⟨(some 139), .mov (.t 12), none, []⟩,
    ⟨(some 140), .bin .eql (.t 139) (.c (.int .i64 0)), none, []⟩,
    ⟨(some 141), .mov (.t 140), none, []⟩,
    ⟨(some 142), .mov (.t 11), (some (141, true)), []⟩,
    ⟨(some 143), .loadn 3 (.t 3), (some (141, true)), []⟩,
    ⟨(some 144), .loadn 4 (.t 4), (some (141, true)), []⟩,
    ⟨(some 145), .mov (.t 2), (some (141, true)), []⟩,
    ⟨(some 146), .call (.c (.fn 27 [] [])) [.t 143, .t 144, .t 145], (some (141, true)), []⟩,
    ⟨(some 147), .call (.c (.fn 26 [] [])) [.t 142, .t 146], (some (141, true)), []⟩,
    ⟨(some 148), .pick (.t 141) (.t 147) (.c (.bool false)), none, []⟩,
    ⟨(some 149), .mov (.t 148), none, []⟩,
    ⟨(some 150), .mov (.t 14), (some (149, true)), []⟩,
    ⟨(some 151), .bin .eql (.t 150) (.c (.int .i64 0)), (some (149, true)), []⟩,
    ⟨(some 152), .pick (.t 149) (.t 151) (.c (.bool false)), none, []⟩,
    ⟨(some 153), .mov (.t 152), none, []⟩,
    ⟨(some 154), .mov (.t 13), (some (153, true)), []⟩,
    ⟨(some 155), .loadn 3 (.t 3), (some (153, true)), []⟩,
    ⟨(some 156), .loadn 4 (.t 4), (some (153, true)), []⟩,
    ⟨(some 157), .mov (.t 2), (some (153, true)), []⟩,
    ⟨(some 158), .call (.c (.fn 28 [] [])) [.t 155, .t 156, .t 157], (some (153, true)), []⟩,
    ⟨(some 159), .bin .eql (.t 154) (.t 158), (some (153, true)), []⟩,
    ⟨(some 160), .pick (.t 153) (.t 159) (.c (.bool false)), none, []⟩,
    ⟨(some 161), .mov (.t 160), none, []⟩,
    ⟨(some 162), .mov (.t 16), (some (161, true)), []⟩,
    ⟨(some 163), .bin .eql (.t 162) (.c (.int .i64 0)), (some (161, true)), []⟩,
    ⟨(some 164), .pick (.t 161) (.t 163) (.c (.bool false)), none, []⟩,
    ⟨(some 165), .mov (.t 164), none, []⟩,
    ⟨(some 166), .mov (.t 15), (some (165, true)), []⟩,
    ⟨(some 167), .loadn 4 (.t 4), (some (165, true)), []⟩,
    ⟨(some 168), .mov (.t 2), (some (165, true)), []⟩,
    ⟨(some 169), .call (.c (.fn 29 [] [])) [.t 167, .t 168], (some (165, true)), []⟩,
    ⟨(some 170), .bin .eql (.t 166) (.t 169), (some (165, true)), []⟩,
    ⟨(some 171), .pick (.t 165) (.t 170) (.c (.bool false)), none, []⟩,
    ⟨(some 6), .mov (.t 171), none, []⟩])
  (.ret))))))))))))))), 172, [.t 6]⟩
structure DxCCode (X : FuncId → Option XFunc) : Prop where
  dxB : DxBCode X
  h80 : X 80 = some xf80
  h81 : X 81 = some xf81
  h82 : X 82 = some xf82
  h83 : X 83 = some xf83
  h121 : X 121 = some xf121
  h139 : X 139 = some xf139
  h140 : X 140 = some xf140
  h141 : X 141 = some xf141
  h122 : X 122 = some xf122
  h123 : X 123 = some xf123
  h130 : X 130 = some xf130
  h19 : X 19 = some xf19
  h21 : X 21 = some xf21
  h22 : X 22 = some xf22
  h25 : X 25 = some xf25
  h27 : X 27 = some xf27
  h28 : X 28 = some xf28
  h29 : X 29 = some xf29
  h87 : X 87 = some xf87
  h88 : X 88 = some xf88
  h3 : X 3 = some xf3
end Go.Proofs.Ytgijgcmcpgepaaa.Eng

/-
  CODE of DxD.
-/
namespace Go.Proofs.Ytgijgcmcpgepaaa.Eng
set_option linter.unusedSimpArgs false
set_option linter.unusedVariables false
def xf36l0 : XCode := .seq (.reg [⟨(some 40), .bin .lss (.t 39) (.t 38), none, []⟩])
  (.seq (.cond (.t 40)
    (.skip)
    (.exit 0))
  (.seq (.block 1 (.seq (.reg [⟨(some 41), .mov (.t 39), none, []⟩,
     ⟨(some 13), .mov (.t 41), none, []⟩])
   (.dreg [⟨(some 42), .mov (.t 12), none, []⟩,
     ⟨(some 43), .faddr 0 (.t 8), none, []⟩,
     ⟨(some 44), .loadn 7 (.t 43), none, [1]⟩,
     ⟨(some 45), .mov (.t 13), none, []⟩,
     ⟨(some 46), .mov (.t 11), none, []⟩,
     ⟨(some 47), .mov (.t 13), none, []⟩,
     ⟨(some 48), .iaddr 1 (.t 46) (.t 47), none, [5, 4]⟩,
     ⟨(some 49), .load1 (.t 48), none, [4, 5, 6]⟩,
     ⟨(some 50), .faddr 1 (.t 5), none, []⟩,
     ⟨(some 51), .load1 (.t 50), none, [8]⟩,
     ⟨(some 52), .call (.c (.fn 98 [] [])) [.t 44, .t 45, .t 49, .t 51], none, [8, 6, 5, 4, 1, 9, 7, 3, 2]⟩,
     ⟨(some 53), .buildSlice 3 1 1 false [.int .i64 0] [(0, 1, .t 52)], none, [2, 3, 7, 9, 1, 4, 5, 6, 8, 10]⟩,
     ⟨(some 54), .append 3 1 8 (.t 42) (.t 53), none, [8, 6, 5, 4, 1, 9, 7, 3, 2, 10, 11, 0]⟩,
     ⟨(some 12), .mov (.t 54), none, [11, 10, 9, 8, 7, 6, 5, 4, 3, 2, 1, 0, 12]⟩])))
  (.reg [⟨(some 55), .bin .add (.t 39) (.c (.int .i64 1)), none, []⟩,
    ⟨(some 39), .mov (.t 55), none, []⟩])))
def xf36 : XFunc := ⟨.seq (.reg [⟨(some 3), .box 24 (.t 0), none, []⟩,
    ⟨(some 4), .box 27 (.t 1), none, []⟩,
    ⟨(some 5), .box 60 (.t 2), none, []⟩,
    ⟨(some 6), .mov (.c (.nils)), none, []⟩,
    ⟨(some 7), .mov (.c (.int .i64 0)), none, []⟩])
  (.seq (.reg [⟨(some 15), .loadn 3 (.t 3), none, []⟩,
    ⟨(some 16), .loadn 4 (.t 4), none, []⟩,
    ⟨(some 17), .faddr 0 (.t 5), none, []⟩,
    ⟨(some 18), .load1 (.t 17), none, []⟩,
    ⟨(some 19), .call (.c (.fn 80 [] [])) [.t 15, .t 16, .t 18], none, []⟩,
    ⟨(some 14), .mov (.t 19), none, []⟩,
    ⟨(some 20), .extract (.t 14) 0, none, []⟩,
    ⟨(some 21), .extract (.t 14) 1, none, []⟩,
    ⟨(some 8), .new 127 [.int .i64 0, .int .i64 0, .nils, .int .i64 0, .int .i64 0, .int .i64 0, .nils, .nils], none, []⟩,
    ⟨none, .store 8 (.t 8) (.t 20), none, []⟩,
    ⟨(some 9), .mov (.t 21), none, []⟩])
  (.seq (.seq (.reg [⟨(some 22), .mov (.t 9), none, []⟩,
    ⟨(some 23), .faddr 1 (.t 5), none, []⟩,
    ⟨(some 24), .load1 (.t 23), none, []⟩,
    ⟨(some 25), .faddr 2 (.t 3), none, []⟩,
    ⟨(some 26), .load1 (.t 25), none, []⟩,
    ⟨(some 27), .len (.t 26), none, []⟩,
    ⟨(some 28), .call (.c (.fn 77 [] [])) [.t 24, .t 27], none, []⟩,
    ⟨(some 29), .buildSlice 32 1 2 false [.int .i64 0, .int .i64 0] [(0, 1, .t 22), (1, 1, .t 28)], none, []⟩,
    ⟨(some 30), .call (.c (.fn 69 [] [])) [.t 29], none, []⟩,
    ⟨(some 10), .mov (.t 30), none, []⟩])
  (.seq (.reg [⟨(some 31), .mov (.t 10), none, []⟩,
    ⟨(some 32), .bin .neq (.t 31) (.c (.int .i64 0)), none, []⟩])
  (.cond (.t 32)
    (.seq (.reg [⟨(some 33), .mov (.t 10), none, []⟩,
      ⟨(some 6), .mov (.c (.nils)), none, []⟩,
      ⟨(some 7), .mov (.t 33), none, []⟩])
    (.ret))
    (.skip))))
  (.seq (.reg [⟨(some 34), .loadn 8 (.t 8), none, []⟩,
    ⟨(some 35), .call (.c (.fn 81 [] [])) [.t 34], none, []⟩,
    ⟨(some 11), .mov (.t 35), none, []⟩])
  (.seq (.reg [⟨(some 12), .mov (.c (.nils)), none, []⟩])
  (.seq (.seq (.reg [⟨(some 36), .faddr 3 (.t 4), none, []⟩,
    ⟨(some 37), .load1 (.t 36), none, []⟩,
    ⟨(some 38), .len (.t 37), none, []⟩,
    ⟨(some 39), .mov (.c (.int .i64 0)), none, []⟩])
  (.block 0 (.loop xf36l0)))
  (.seq (.reg [⟨(some 56), .mov (.t 12), none, []⟩,
    ⟨(some 6), .mov (.t 56), none, []⟩,
    ⟨(some 7), .mov (.c (.int .i64 0)), none, []⟩])
  (.ret))))))), 57, [.t 6, .t 7]⟩
def xf98l0 : XCode := .seq (.seq (.reg [⟨(some 11), .mov (.t 9), none, []⟩,
    ⟨(some 12), .faddr 3 (.t 4), none, []⟩,
    ⟨(some 13), .faddr 3 (.t 12), none, []⟩,
    ⟨(some 14), .load1 (.t 13), none, []⟩,
    ⟨(some 15), .len (.t 14), none, []⟩,
    ⟨(some 16), .bin .lss (.t 11) (.t 15), none, []⟩])
  (.cond (.t 16)
    (.skip)
    (.exit 0)))
  (.seq (.block 1 (.seq (.reg [⟨(some 19), .loadn 7 (.t 4), none, []⟩,
     ⟨(some 20), .mov (.t 9), none, []⟩,
     ⟨(some 21), .mov (.t 2), none, []⟩,
     ⟨(some 22), .mov (.t 3), none, []⟩,
     ⟨(some 23), .call (.c (.fn 122 [] [])) [.t 19, .t 20, .t 21, .t 22], none, []⟩,
     ⟨(some 2), .mov (.t 23), none, []⟩])
   (.seq (.reg [⟨(some 24), .faddr 0 (.t 4), none, []⟩,
     ⟨(some 25), .loadn 3 (.t 24), none, []⟩,
     ⟨(some 26), .mov (.t 2), none, []⟩,
     ⟨(some 27), .call (.c (.fn 130 [] [])) [.t 25, .t 26], none, []⟩,
     ⟨(some 28), .un .not (.t 27), none, []⟩])
   (.cond (.t 28)
     (.seq (.reg [⟨(some 29), .mov (.t 9), none, []⟩,
       ⟨(some 30), .mov (.t 1), none, []⟩,
       ⟨(some 31), .bin .sub (.t 29) (.t 30), none, []⟩,
       ⟨(some 8), .mov (.t 31), none, []⟩])
     (.ret))
     (.skip)))))
  (.reg [⟨(some 17), .mov (.t 9), none, []⟩,
    ⟨(some 18), .bin .add (.t 17) (.c (.int .i64 1)), none, []⟩,
    ⟨(some 9), .mov (.t 18), none, []⟩]))
def xf98 : XFunc := ⟨.seq (.reg [⟨(some 4), .box 125 (.t 0), none, []⟩,
    ⟨(some 8), .mov (.c (.int .i64 0)), none, []⟩])
  (.seq (.seq (.reg [⟨(some 10), .mov (.t 1), none, []⟩,
    ⟨(some 9), .mov (.t 10), none, []⟩])
  (.block 0 (.loop xf98l0)))
  (.seq (.reg [⟨(some 32), .faddr 3 (.t 4), none, []⟩,
    ⟨(some 33), .faddr 3 (.t 32), none, []⟩,
    ⟨(some 34), .load1 (.t 33), none, []⟩,
    ⟨(some 35), .len (.t 34), none, []⟩,
    ⟨(some 36), .mov (.t 1), none, []⟩,
    ⟨(some 37), .bin .sub (.t 35) (.t 36), none, []⟩,
    ⟨(some 8), .mov (.t 37), none, []⟩])
  (.ret))), 38, [.t 8]⟩
def xf38l0 : XCode := .seq (.reg [⟨(some 26), .bin .lss (.t 25) (.t 24), none, []⟩])
  (.seq (.cond (.t 26)
    (.skip)
    (.exit 0))
  (.seq (.block 1 (.seq (.reg [⟨(some 27), .mov (.t 25), none, []⟩,
     ⟨(some 28), .iaddr 1 (.t 23) (.t 25), none, []⟩,
     ⟨(some 29), .load1 (.t 28), none, []⟩,
     ⟨(some 11), .mov (.t 27), none, []⟩,
     ⟨(some 12), .mov (.t 29), none, []⟩])
   (.seq (.reg [⟨(some 30), .mov (.t 11), none, []⟩,
     ⟨(some 31), .mov (.t 12), none, []⟩,
     ⟨(some 32), .bin .add (.t 30) (.t 31), none, []⟩,
     ⟨(some 33), .mov (.t 8), none, []⟩,
     ⟨(some 34), .len (.t 33), none, []⟩,
     ⟨(some 35), .bin .lss (.t 32) (.t 34), none, []⟩])
   (.cond (.t 35)
     (.reg [⟨(some 36), .mov (.t 10), none, []⟩,
       ⟨(some 37), .mov (.t 12), none, []⟩,
       ⟨(some 38), .ext false (.t 36) [.t 37], none, []⟩,
       ⟨(some 10), .mov (.t 38), none, []⟩])
     (.skip)))))
  (.reg [⟨(some 39), .bin .add (.t 25) (.c (.int .i64 1)), none, []⟩,
    ⟨(some 25), .mov (.t 39), none, []⟩])))
def xf38 : XFunc := ⟨.seq (.reg [⟨(some 3), .box 24 (.t 0), none, []⟩,
    ⟨(some 4), .box 27 (.t 1), none, []⟩,
    ⟨(some 5), .box 60 (.t 2), none, []⟩,
    ⟨(some 6), .mov (.c (.int .i64 0)), none, []⟩,
    ⟨(some 7), .mov (.c (.int .i64 0)), none, []⟩])
  (.seq (.reg [⟨(some 14), .loadn 3 (.t 3), none, []⟩,
    ⟨(some 15), .loadn 4 (.t 4), none, []⟩,
    ⟨(some 16), .loadn 2 (.t 5), none, []⟩,
    ⟨(some 17), .call (.c (.fn 36 [] [])) [.t 14, .t 15, .t 16], none, []⟩,
    ⟨(some 13), .mov (.t 17), none, []⟩,
    ⟨(some 18), .extract (.t 13) 0, none, []⟩,
    ⟨(some 19), .extract (.t 13) 1, none, []⟩,
    ⟨(some 8), .mov (.t 18), none, []⟩,
    ⟨(some 9), .mov (.t 19), none, []⟩])
  (.seq (.seq (.reg [⟨(some 20), .mov (.t 9), none, []⟩,
    ⟨(some 21), .bin .neq (.t 20) (.c (.int .i64 0)), none, []⟩])
  (.cond (.t 21)
    (.seq (.reg [⟨(some 22), .mov (.t 9), none, []⟩,
      ⟨(some 6), .mov (.c (.int .i64 0)), none, []⟩,
      ⟨(some 7), .mov (.t 22), none, []⟩])
    (.ret))
    (.skip)))
  (.seq (.reg [⟨(some 10), .mov (.c (.int .i64 10)), none, []⟩])
  (.seq (.seq (.reg [⟨(some 23), .mov (.t 8), none, []⟩,
    ⟨(some 24), .len (.t 23), none, []⟩,
    ⟨(some 25), .mov (.c (.int .i64 0)), none, []⟩])
  (.block 0 (.loop xf38l0)))
  (.seq (.reg [⟨(some 40), .mov (.t 10), none, []⟩,
    ⟨(some 6), .mov (.t 40), none, []⟩,
    ⟨(some 7), .mov (.c (.int .i64 0)), none, []⟩])
  (.ret)))))), 41, [.t 6, .t 7]⟩
def xf99l0 : XCode := .seq (.seq (.reg [⟨(some 14), .mov (.t 12), none, []⟩,
    ⟨(some 15), .faddr 3 (.t 6), none, []⟩,
    ⟨(some 16), .load1 (.t 15), none, []⟩,
    ⟨(some 17), .len (.t 16), none, []⟩,
    ⟨(some 18), .bin .lss (.t 14) (.t 17), none, []⟩])
  (.cond (.t 18)
    (.skip)
    (.exit 0)))
  (.seq (.block 1 (.seq (.dreg [⟨(some 21), .mov (.t 3), none, []⟩,
     ⟨(some 22), .faddr 3 (.t 6), none, []⟩,
     ⟨(some 23), .load1 (.t 22), none, [1]⟩,
     ⟨(some 24), .mov (.t 12), none, []⟩,
     ⟨(some 25), .iaddr 3 (.t 23) (.t 24), none, [1, 3, 2]⟩,
     ⟨(some 26), .faddr 2 (.t 25), none, [2, 3, 1, 4]⟩,
     ⟨(some 27), .load1 (.t 26), none, [4, 1, 3, 2, 5]⟩,
     ⟨(some 28), .bin .add (.t 21) (.t 27), none, [5, 2, 3, 1, 4, 6, 0]⟩,
     ⟨(some 29), .faddr 2 (.t 5), none, []⟩,
     ⟨(some 30), .load1 (.t 29), none, [8]⟩,
     ⟨(some 31), .mov (.t 4), none, []⟩,
     ⟨(some 32), .iaddr 4 (.t 30) (.t 31), none, [8, 10, 9]⟩,
     ⟨(some 33), .faddr 1 (.t 32), none, [9, 10, 8, 11]⟩,
     ⟨(some 34), .load1 (.t 33), none, [11, 8, 10, 9, 12]⟩,
     ⟨(some 35), .bin .add (.t 28) (.t 34), none, [12, 9, 10, 8, 11, 0, 6, 4, 1, 3, 2, 5, 13, 7]⟩,
     ⟨(some 3), .mov (.t 35), none, [13, 12, 11, 10, 9, 8, 7, 6, 5, 4, 3, 2, 1, 0, 14]⟩])
   (.seq (.seq (.reg [⟨(some 36), .mov (.t 3), none, []⟩,
     ⟨(some 37), .faddr 0 (.t 5), none, []⟩,
     ⟨(some 38), .load1 (.t 37), none, []⟩,
     ⟨(some 39), .faddr 1 (.t 5), none, []⟩,
     ⟨(some 40), .load1 (.t 39), none, []⟩,
     ⟨(some 41), .call (.c (.fn 33 [] [])) [.t 36, .t 38, .t 40], none, []⟩,
     ⟨(some 42), .un .not (.t 41), none, []⟩])
   (.cond (.t 42)
     (.seq (.reg [⟨(some 43), .mov (.t 11), none, []⟩,
       ⟨(some 10), .mov (.t 43), none, []⟩])
     (.ret))
     (.skip)))
   (.reg [⟨(some 44), .mov (.t 11), none, []⟩,
     ⟨(some 45), .bin .add (.t 44) (.c (.int .i64 1)), none, []⟩,
     ⟨(some 11), .mov (.t 45), none, []⟩]))))
  (.reg [⟨(some 19), .mov (.t 12), none, []⟩,
    ⟨(some 20), .bin .add (.t 19) (.c (.int .i64 1)), none, []⟩,
    ⟨(some 12), .mov (.t 20), none, []⟩]))
def xf99 : XFunc := ⟨.seq (.reg [⟨(some 5), .box 24 (.t 0), none, []⟩,
    ⟨(some 6), .box 27 (.t 1), none, []⟩,
    ⟨(some 10), .mov (.c (.int .i64 0)), none, []⟩])
  (.seq (.reg [⟨(some 11), .mov (.c (.int .i64 0)), none, []⟩])
  (.seq (.seq (.reg [⟨(some 13), .mov (.t 2), none, []⟩,
    ⟨(some 12), .mov (.t 13), none, []⟩])
  (.block 0 (.loop xf99l0)))
  (.seq (.reg [⟨(some 46), .mov (.t 11), none, []⟩,
    ⟨(some 10), .mov (.t 46), none, []⟩])
  (.ret)))), 47, [.t 10]⟩
def xf39 : XFunc := ⟨.seq (.reg [⟨(some 3), .box 24 (.t 0), none, []⟩,
    ⟨(some 4), .box 27 (.t 1), none, []⟩,
    ⟨(some 5), .box 60 (.t 2), none, []⟩,
    ⟨(some 6), .mov (.c (.int .i64 0)), none, []⟩])
  (.seq (.seq (.reg [⟨(some 8), .loadn 3 (.t 3), none, []⟩,
    ⟨(some 9), .loadn 4 (.t 4), none, []⟩,
    ⟨(some 10), .faddr 0 (.t 5), none, []⟩,
    ⟨(some 11), .load1 (.t 10), none, []⟩,
    ⟨(some 12), .call (.c (.fn 25 [] [])) [.t 8, .t 9, .t 11], none, []⟩,
    ⟨(some 7), .mov (.t 12), none, []⟩])
  (.seq (.reg [⟨(some 13), .mov (.t 7), none, []⟩,
    ⟨(some 14), .bin .neq (.t 13) (.c (.int .i64 0)), none, []⟩])
  (.cond (.t 14)
    (.seq (.reg [⟨(some 15), .mov (.t 7), none, []⟩,
      ⟨(some 6), .mov (.t 15), none, []⟩])
    (.ret))
    (.skip))))
  (.seq (.seq (.reg [⟨(some 16), .faddr 1 (.t 5), none, []⟩,
    ⟨(some 17), .load1 (.t 16), none, []⟩,
    ⟨(some 18), .faddr 2 (.t 3), none, []⟩,
    ⟨(some 19), .load1 (.t 18), none, []⟩,
    ⟨(some 20), .len (.t 19), none, []⟩,
    ⟨(some 21), .bin .sub (.t 20) (.c (.int .i64 1)), none, []⟩,
    ⟨(some 22), .call (.c (.fn 33 [] [])) [.t 17, .c (.int .i64 0), .t 21], none, []⟩,
    ⟨(some 23), .un .not (.t 22), none, []⟩])
  (.cond (.t 23)
    (.seq (.reg [⟨(some 6), .mov (.c (.int .i64 6)), none, []⟩])
    (.ret))
    (.skip)))
  (.seq (.reg [⟨(some 6), .mov (.c (.int .i64 0)), none, []⟩])
  (.ret)))), 24, [.t 6]⟩
def xf40l0 : XCode := .seq (.seq (.reg [⟨(some 15), .mov (.t 9), none, []⟩,
    ⟨(some 16), .faddr 3 (.t 4), none, []⟩,
    ⟨(some 17), .load1 (.t 16), none, []⟩,
    ⟨(some 18), .len (.t 17), none, []⟩,
    ⟨(some 19), .bin .lss (.t 15) (.t 18), none, []⟩])
  (.cond (.t 19)
    (.skip)
    (.exit 0)))
  (.seq (.block 1 (.dreg [⟨(some 22), .mov (.t 8), none, []⟩,
     ⟨(some 23), .loadn 3 (.t 3), none, []⟩,
     ⟨(some 24), .loadn 4 (.t 4), none, []⟩,
     ⟨(some 25), .mov (.t 9), none, []⟩,
     ⟨(some 26), .mov (.t 7), none, []⟩,
     ⟨(some 27), .mov (.t 9), none, []⟩,
     ⟨(some 28), .iaddr 1 (.t 26) (.t 27), none, [5, 4]⟩,
     ⟨(some 29), .load1 (.t 28), none, [4, 5, 6]⟩,
     ⟨(some 30), .faddr 1 (.t 5), none, []⟩,
     ⟨(some 31), .load1 (.t 30), none, [8]⟩,
     ⟨(some 32), .call (.c (.fn 99 [] [])) [.t 23, .t 24, .t 25, .t 29, .t 31], none, [8, 6, 5, 4, 9, 7, 3, 2, 1]⟩,
     ⟨(some 33), .buildSlice 3 1 1 false [.int .i64 0] [(0, 1, .t 32)], none, [1, 2, 3, 7, 9, 4, 5, 6, 8, 10]⟩,
     ⟨(some 34), .append 3 1 8 (.t 22) (.t 33), none, [8, 6, 5, 4, 9, 7, 3, 2, 1, 10, 11, 0]⟩,
     ⟨(some 8), .mov (.t 34), none, [11, 10, 9, 8, 7, 6, 5, 4, 3, 2, 1, 0, 12]⟩]))
  (.reg [⟨(some 20), .mov (.t 9), none, []⟩,
    ⟨(some 21), .bin .add (.t 20) (.c (.int .i64 1)), none, []⟩,
    ⟨(some 9), .mov (.t 21), none, []⟩]))
def xf40 : XFunc := ⟨.seq (.reg [⟨(some 3), .box 24 (.t 0), none, []⟩,
    ⟨(some 4), .box 27 (.t 1), none, []⟩,
    ⟨(some 5), .box 60 (.t 2), none, []⟩,
    ⟨(some 6), .mov (.c (.nils)), none, []⟩])
  (.seq (.reg [⟨(some 10), .loadn 3 (.t 3), none, []⟩,
    ⟨(some 11), .loadn 4 (.t 4), none, []⟩,
    ⟨(some 12), .faddr 0 (.t 5), none, []⟩,
    ⟨(some 13), .load1 (.t 12), none, []⟩,
    ⟨(some 14), .call (.c (.fn 27 [] [])) [.t 10, .t 11, .t 13], none, []⟩,
    ⟨(some 7), .mov (.t 14), none, []⟩])
  (.seq (.reg [⟨(some 8), .mov (.c (.nils)), none, []⟩])
  (.seq (.seq (.reg [⟨(some 9), .mov (.c (.int .i64 0)), none, []⟩])
  (.block 0 (.loop xf40l0)))
  (.seq (.reg [⟨(some 35), .mov (.t 8), none, []⟩,
    ⟨(some 6), .mov (.t 35), none, []⟩])
  (.ret))))), 36, [.t 6]⟩
def xf41l0 : XCode := .seq (.seq (.reg [⟨(some 14), .mov (.t 9), none, []⟩,
    ⟨(some 15), .mov (.t 8), none, []⟩,
    ⟨(some 16), .len (.t 15), none, []⟩,
    ⟨(some 17), .bin .lss (.t 14) (.t 16), none, []⟩])
  (.cond (.t 17)
    (.skip)
    (.exit 0)))
  (.seq (.block 1 (.seq (.reg [⟨(some 20), .mov (.t 8), none, []⟩,
     ⟨(some 21), .mov (.t 9), none, []⟩,
     ⟨(some 22), .iaddr 1 (.t 20) (.t 21), none, []⟩,
     ⟨(some 23), .load1 (.t 22), none, []⟩,
     ⟨(some 24), .mov (.t 8), none, []⟩,
     ⟨(some 25), .len (.t 24), none, []⟩,
     ⟨(some 26), .mov (.t 9), none, []⟩,
     ⟨(some 27), .bin .sub (.t 25) (.t 26), none, []⟩,
     ⟨(some 28), .bin .lss (.t 23) (.t 27), none, []⟩])
   (.cond (.t 28)
     (.reg [⟨(some 29), .mov (.t 7), none, []⟩,
       ⟨(some 30), .mov (.t 8), none, []⟩,
       ⟨(some 31), .mov (.t 9), none, []⟩,
       ⟨(some 32), .iaddr 1 (.t 30) (.t 31), none, []⟩,
       ⟨(some 33), .load1 (.t 32), none, []⟩,
       ⟨(some 34), .ext false (.t 29) [.t 33], none, []⟩,
       ⟨(some 7), .mov (.t 34), none, []⟩])
     (.skip))))
  (.reg [⟨(some 18), .mov (.t 9), none, []⟩,
    ⟨(some 19), .bin .add (.t 18) (.c (.int .i64 1)), none, []⟩,
    ⟨(some 9), .mov (.t 19), none, []⟩]))
def xf41 : XFunc := ⟨.seq (.reg [⟨(some 3), .box 24 (.t 0), none, []⟩,
    ⟨(some 4), .box 27 (.t 1), none, []⟩,
    ⟨(some 5), .box 60 (.t 2), none, []⟩,
    ⟨(some 6), .mov (.c (.int .i64 0)), none, []⟩])
  (.seq (.reg [⟨(some 7), .mov (.c (.int .i64 10)), none, []⟩])
  (.seq (.reg [⟨(some 10), .loadn 3 (.t 3), none, []⟩,
    ⟨(some 11), .loadn 4 (.t 4), none, []⟩,
    ⟨(some 12), .loadn 2 (.t 5), none, []⟩,
    ⟨(some 13), .call (.c (.fn 40 [] [])) [.t 10, .t 11, .t 12], none, []⟩,
    ⟨(some 8), .mov (.t 13), none, []⟩])
  (.seq (.seq (.reg [⟨(some 9), .mov (.c (.int .i64 0)), none, []⟩])
  (.block 0 (.loop xf41l0)))
  (.seq (.reg [⟨(some 35), .mov (.t 7), none, []⟩,
    ⟨(some 6), .mov (.t 35), none, []⟩])
  (.ret))))), 36, [.t 6]⟩
def xf37 : XFunc := ⟨.seq (.reg [⟨(some 1), .box 60 (.t 0), none, []⟩,
    ⟨(some 2), .new 60 [.nils, .int .i64 0], none, []⟩])
  (.seq (.reg [⟨(some 3), .faddr 0 (.t 1), none, []⟩,
    ⟨(some 4), .load1 (.t 3), none, []⟩,
    ⟨(some 5), .call (.c (.fn 20 [] [])) [.t 4], none, []⟩,
    ⟨(some 6), .faddr 0 (.t 1), none, []⟩,
    ⟨none, .store 1 (.t 6) (.t 5), none, []⟩])
  (.seq (.reg [⟨(some 7), .loadn 2 (.t 1), none, []⟩,
    ⟨none, .store 2 (.t 2) (.t 7), none, []⟩])
  (.ret))), 8, [.cn 2 2]⟩
def xf5 : XFunc := ⟨.seq (.reg [⟨(some 3), .box 24 (.t 0), none, []⟩,
    ⟨(some 4), .box 27 (.t 1), none, []⟩,
    ⟨(some 5), .box 60 (.t 2), none, []⟩,
    ⟨(some 6), .mov (.c (.bool false)), none, []⟩])
  (.seq (.seq (.reg [⟨(some 12), .call (.c (.fn 12 [] [])) [], none, []⟩,
    ⟨(some 13), .un .not (.t 12), none, []⟩])
  (.cond (.t 13)
    (.seq (.reg [⟨(some 6), .mov (.c (.bool false)), none, []⟩])
    (.ret))
    (.skip)))
  (.seq (.seq (.reg [⟨(some 14), .loadn 3 (.t 3), none, []⟩,
    ⟨(some 15), .call (.c (.fn 13 [] [])) [.t 14], none, []⟩,
    ⟨(some 16), .un .not (.t 15), none, []⟩,
    ⟨(some 17), .mov (.t 16), none, []⟩,
    ⟨(some 18), .loadn 4 (.t 4), (some (17, false)), []⟩,
    ⟨(some 19), .call (.c (.fn 14 [] [])) [.t 18], (some (17, false)), []⟩,
    ⟨(some 20), .un .not (.t 19), (some (17, false)), []⟩,
    ⟨(some 21), .pick (.t 17) (.c (.bool true)) (.t 20), none, []⟩,
    ⟨(some 22), .mov (.t 21), none, []⟩,
    ⟨(some 23), .faddr 0 (.t 5), (some (22, false)), []⟩,
    ⟨(some 24), .load1 (.t 23), (some (22, false)), []⟩,
    ⟨(some 25), .len (.t 24), (some (22, false)), []⟩,
    ⟨(some 26), .bin .gtr (.t 25) (.c (.int .i64 12)), (some (22, false)), []⟩,
    ⟨(some 27), .pick (.t 22) (.c (.bool true)) (.t 26), none, []⟩])
  (.cond (.t 27)
    (.seq (.reg [⟨(some 6), .mov (.c (.bool true)), none, []⟩])
    (.ret))
    (.skip)))
  (.seq (.dreg [⟨(some 29), .loadn 3 (.t 3), none, []⟩,
    ⟨(some 30), .call (.c (.fn 16 [] [])) [.t 29], none, [0]⟩,
    ⟨(some 31), .loadn 4 (.t 4), none, []⟩,
    ⟨(some 32), .call (.c (.fn 18 [] [])) [.t 31], none, [0, 1, 2]⟩,
    ⟨(some 33), .loadn 2 (.t 5), none, []⟩,
    ⟨(some 34), .call (.c (.fn 37 [] [])) [.t 33], none, [2, 1, 0, 3, 4]⟩,
    ⟨(some 35), .call (.c (.fn 36 [] [])) [.t 30, .t 32, .t 34], none, [4, 2, 0, 5, 3, 1]⟩,
    ⟨(some 28), .mov (.t 35), none, [1, 3, 5, 0, 2, 4, 6]⟩,
    ⟨(some 36), .extract (.t 28) 0, none, [6, 4, 2, 0, 5, 3, 1, 7]⟩,
    ⟨(some 37), .extract (.t 28) 1, none, [6, 4, 2, 0, 5, 3, 1, 7]⟩,
    ⟨(some 7), .mov (.t 36), none, [7, 5, 4, 3, 2, 1, 0, 6, 8]⟩,
    ⟨(some 8), .mov (.t 37), none, [8, 7, 6, 5, 4, 3, 2, 1, 0, 10, 9]⟩])
  (.seq (.dreg [⟨(some 39), .loadn 3 (.t 3), none, []⟩,
    ⟨(some 40), .call (.c (.fn 16 [] [])) [.t 39], none, [0]⟩,
    ⟨(some 41), .loadn 4 (.t 4), none, []⟩,
    ⟨(some 42), .call (.c (.fn 18 [] [])) [.t 41], none, [0, 1, 2]⟩,
    ⟨(some 43), .loadn 2 (.t 5), none, []⟩,
    ⟨(some 44), .call (.c (.fn 37 [] [])) [.t 43], none, [2, 1, 0, 3, 4]⟩,
    ⟨(some 45), .call (.c (.fn 38 [] [])) [.t 40, .t 42, .t 44], none, [4, 2, 0, 5, 3, 1]⟩,
    ⟨(some 38), .mov (.t 45), none, [1, 3, 5, 0, 2, 4, 6]⟩,
    ⟨(some 46), .extract (.t 38) 0, none, [6, 4, 2, 0, 5, 3, 1, 7]⟩,
    ⟨(some 47), .extract (.t 38) 1, none, [6, 4, 2, 0, 5, 3, 1, 7]⟩,
    ⟨(some 9), .mov (.t 46), none, [7, 5, 4, 3, 2, 1, 0, 6, 8]⟩,
    ⟨(some 10), .mov (.t 47), none, [8, 7, 6, 5, 4, 3, 2, 1, 0, 10, 9]⟩])
  (.seq (.reg [⟨(some 48), .loadn 3 (.t 3), none, []⟩,
    ⟨(some 49), .loadn 4 (.t 4), none, []⟩,
    ⟨(some 50), .call (.c (.fn 32 [] [])) [.t 48, .t 49], none, []⟩,
    ⟨(some 11), .mov (.t 50), none, []⟩])
  (.seq (.seq (.reg [⟨(some 51), .mov (.t 11), none, []⟩,
    ⟨(some 52), .bin .eql (.t 51) (.c (.int .i64 0)), none, []⟩])
  (.cond (.t 52)
    (.reg [⟨(some 53), .loadn 3 (.t 3), none, []⟩,
      ⟨(some 54), .loadn 4 (.t 4), none, []⟩,
      ⟨(some 55), .loadn 2 (.t 5), none, []⟩,
      ⟨(some 56), .call (.c (.fn 39 [] [])) [.t 53, .t 54, .t 55], none, []⟩,
      ⟨(some 11), .mov (.t 56), none, []⟩])
    (.skip)))
  (.seq (.seq (.reg [⟨(some 57), .mov (.t 11), none, []⟩,
    ⟨(some 58), .bin .neq (.t 57) (.c (.int .i64 0)), none, []⟩])
  (.cond (.t 58)
    (.seq (.reg [⟨(some 59), .mov (.t 8), none, []⟩,
      ⟨(some 60), .mov (.t 11), none, []⟩,
      ⟨(some 61), .bin .eql (.t 59) (.t 60), none, []⟩,
      ⟨(some 62), .mov (.t 61), none, []⟩,
      ⟨(some 63), .mov (.t 10), (some (62, true)), []⟩,
      ⟨(some 64), .mov (.t 11), (some (62, true)), []⟩,
      ⟨(some 65), .bin .eql (.t 63) (.t 64), (some (62, true)), []⟩,
      ⟨(some 66), .pick (.t 62) (.t 65) (.c (.bool false)), none, []⟩,
      ⟨(some 67), .mov (.t 66), none, []⟩,
      ⟨(some 68), .mov (.t 7), (some (67, true)), []⟩,
      ⟨(some 69), .len (.t 68), (some (67, true)), []⟩,
      ⟨(some 70), .bin .eql (.t 69) (.c (.int .i64 0)), (some (67, true)), []⟩,
      ⟨(some 71), .pick (.t 67) (.t 70) (.c (.bool false)), none, []⟩,
      ⟨(some 72), .mov (.t 71), none, []⟩,
      ⟨(some 73), .mov (.t 9), (some (72, true)), []⟩,
      ⟨(some 74), .bin .eql (.t 73) (.c (.int .i64 0)), (some (72, true)), []⟩,
      ⟨(some 75), .pick (.t 72) (.t 74) (.c (.bool false)), none, []⟩,
      ⟨(some 6), .mov (.t 75), none, []⟩])
    (.ret))
    (.skip)))
  (.seq (.reg [⟨(some 76), .mov (.t 8), none, []⟩,
    ⟨(some 77), .bin .eql (.t 76) (.c (.int .i64 0)), none, []⟩,
    ⟨(some 78), .mov (.t 77), none, []⟩,
    ⟨(some 79), .mov (.t 7), (some (78, true)), []⟩,
    ⟨(some 80), .loadn 3 (.t 3), (some (78, true)), []⟩,
    ⟨(some 81), .loadn 4 (.t 4), (some (78, true)), []⟩,
    ⟨(some 82), .loadn 2 (.t 5), (some (78, true)), []⟩,
    ⟨(some 83), .call (.c (.fn 40 [] [])) [.t 80, .t 81, .t 82], (some (78, true)), []⟩,
    ⟨(some 84), .call (.c (.fn 26 [] [])) [.t 79, .t 83], (some (78, true)), []⟩,
    ⟨(some 85), .pick (.t 78) (.t 84) (.c (.bool false)), none, []⟩,
    ⟨(some 86), .mov (.t 85), none, []⟩,
    ⟨(some 87), .mov (.t 10), (some (86, true)), []⟩,
    ⟨(some 88), .bin .eql (.t 87) (.c (.int .i64 0)), (some (86, true)), []⟩,
    ⟨(some 89), .pick (.t 86) (.t 88) (.c (.bool false)), none, []⟩,
    ⟨(some 90), .mov (.t 89), none, []⟩,
    ⟨(some 91), .mov (.t 9), (some (90, true)), []⟩,
    ⟨(some 92), .loadn 3 (.t 3), (some (90, true)), []⟩,
    ⟨(some 93), .loadn 4 (.t 4), (some (90, true)), []⟩,
    ⟨(some 94), .loadn 2 (.t 5), (some (90, true)), []⟩,
    ⟨(some 95), .call (.c (.fn 41 [] [])) [.t 92, .t 93, .t 94], (some (90, true)), []⟩,
    ⟨(some 96), .bin .eql (.t 91) (.t 95), (some (90, true)), []⟩,
    ⟨(some 97), .pick (.t 90) (.t 96) (.c (.bool false)), none, []⟩,
    ⟨(some 6), .mov (.t 97), none, []⟩])
  (.ret))))))))), 98, [.t 6]⟩
structure DxDCode (X : FuncId → Option XFunc) : Prop where
  dxC : DxCCode X
  h36 : X 36 = some xf36
  h98 : X 98 = some xf98
  h38 : X 38 = some xf38
  h99 : X 99 = some xf99
  h39 : X 39 = some xf39
  h40 : X 40 = some xf40
  h41 : X 41 = some xf41
  h37 : X 37 = some xf37
  h5 : X 5 = some xf5
end Go.Proofs.Ytgijgcmcpgepaaa.Eng
