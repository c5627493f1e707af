/-
  CODE of VSea.
-/
import Derived.Test.YtbgjmclpahganaaEngY
namespace Go.Proofs.Ytbgjmclpahganaa.Eng
set_option linter.unusedSimpArgs false
set_option linter.unusedVariables false
def xf11 : XFunc := ⟨.seq (.reg [⟨(some 6), .mov (.c (.bool false)), none, []⟩])
  (.seq (.reg [⟨(some 7), .mov (.t 1), none, []⟩,
      ⟨(some 8), .mov (.t 0), none, []⟩,
      ⟨(some 9), .bin .leq (.t 7) (.t 8), none, []⟩,
      ⟨(some 10), .mov (.t 9), none, []⟩,
      ⟨(some 11), .mov (.t 0), (some (10, true)), []⟩,
      ⟨(some 12), .mov (.t 2), (some (10, true)), []⟩,
      ⟨(some 13), .bin .leq (.t 11) (.t 12), (some (10, true)), []⟩,
      ⟨(some 14), .pick (.t 10) (.t 13) (.c (.bool false)), none, []⟩,
      ⟨(some 6), .mov (.t 14), none, []⟩])
  (.ret)), 15, [.t 6]⟩
def xf42l0 : XCode := .seq (.reg [⟨(some 9), .bin .lss (.t 8) (.t 7), none, []⟩])
  (.seq (.cond (.t 9) .skip (.exit 0))
  (.seq (.block 1 (.seq (.reg [⟨(some 10), .iaddr 1 (.t 6) (.t 8), none, []⟩,
        ⟨(some 11), .load1 (.t 10), none, []⟩,
        ⟨(some 4), .mov (.t 11), none, []⟩])
    (.seq (.reg [⟨(some 12), .mov (.t 4), none, []⟩,
        ⟨(some 13), .call (.t 12) [], none, []⟩,
        ⟨(some 5), .mov (.t 13), none, []⟩])
    (.seq (.reg [⟨(some 14), .mov (.t 5), none, []⟩,
        ⟨(some 15), .bin .neq (.t 14) (.c (.int .i64 0)), none, []⟩])
    (.cond (.t 15) (.seq (.reg [⟨(some 16), .mov (.t 5), none, []⟩,
          ⟨(some 2), .mov (.t 16), none, []⟩])
      (.ret)) .skip)))))
  (.reg [⟨(some 17), .bin .add (.t 8) (.c (.int .i64 1)), none, []⟩,
      ⟨(some 8), .mov (.t 17), none, []⟩])))
def xf42 : XFunc := ⟨.seq (.reg [⟨(some 2), .mov (.c (.int .i64 0)), none, []⟩])
  (.seq (.seq (.reg [⟨(some 6), .mov (.t 0), none, []⟩,
      ⟨(some 7), .len (.t 6), none, []⟩,
      ⟨(some 8), .mov (.c (.int .i64 0)), none, []⟩])
  (.block 0 (.loop xf42l0)))
  (.seq (.reg [⟨(some 2), .mov (.c (.int .i64 0)), none, []⟩])
  (.ret))), 18, [.t 2]⟩
def xf43 : XFunc := ⟨.seq (.reg [⟨(some 2), .box 4 (.t 0), none, []⟩,
      ⟨(some 3), .box 47 (.t 1), none, []⟩,
      ⟨(some 4), .mov (.c .nilfn), none, []⟩])
  (.seq (.reg [⟨(some 5), .fn true 65 [] [.t 2, .t 3], none, []⟩,
      ⟨(some 4), .mov (.t 5), none, []⟩])
  (.ret)), 6, [.t 4]⟩
def xf39l0 : XCode := .seq (.reg [⟨(some 10), .bin .lss (.t 9) (.t 8), none, []⟩])
  (.seq (.cond (.t 10) .skip (.exit 0))
  (.seq (.block 1 (.seq (.reg [⟨(some 11), .mov (.t 9), none, []⟩,
        ⟨(some 6), .mov (.t 11), none, []⟩])
    (.seq (.reg [⟨(some 12), .mov (.t 1), none, []⟩,
        ⟨(some 13), .mov (.t 6), none, []⟩,
        ⟨(some 14), .call (.t 12) [.t 13], none, []⟩,
        ⟨(some 7), .mov (.t 14), none, []⟩])
    (.seq (.reg [⟨(some 15), .mov (.t 7), none, []⟩,
        ⟨(some 16), .bin .neq (.t 15) (.c (.int .i64 0)), none, []⟩])
    (.cond (.t 16) (.seq (.reg [⟨(some 17), .mov (.t 6), none, []⟩,
          ⟨(some 18), .mov (.t 7), none, []⟩,
          ⟨(some 4), .mov (.t 17), none, []⟩,
          ⟨(some 5), .mov (.t 18), none, []⟩])
      (.ret)) .skip)))))
  (.reg [⟨(some 19), .bin .add (.t 9) (.c (.int .i64 1)), none, []⟩,
      ⟨(some 9), .mov (.t 19), none, []⟩])))
def xf39 : XFunc := ⟨.seq (.reg [⟨(some 4), .mov (.c (.int .i64 0)), none, []⟩,
      ⟨(some 5), .mov (.c (.int .i64 0)), none, []⟩])
  (.seq (.seq (.reg [⟨(some 8), .mov (.t 0), none, []⟩,
      ⟨(some 9), .mov (.c (.int .i64 0)), none, []⟩])
  (.block 0 (.loop xf39l0)))
  (.seq (.reg [⟨(some 4), .mov (.c (.int .i64 0)), none, []⟩,
      ⟨(some 5), .mov (.c (.int .i64 0)), none, []⟩])
  (.ret))), 20, [.t 4, .t 5]⟩
def xf44 : XFunc := ⟨.seq (.reg [⟨(some 2), .box 3 (.t 0), none, []⟩,
      ⟨(some 3), .box 114 (.t 1), none, []⟩,
      ⟨(some 4), .mov (.c .nilfn), none, []⟩])
  (.seq (.reg [⟨(some 5), .fn true 66 [] [.t 2, .t 3], none, []⟩,
      ⟨(some 4), .mov (.t 5), none, []⟩])
  (.ret)), 6, [.t 4]⟩
def xf52 : XFunc := ⟨.seq (.reg [⟨(some 6), .mov (.c (.bool false)), none, []⟩])
  (.seq (.reg [⟨(some 7), .mov (.t 1), none, []⟩,
      ⟨(some 8), .mov (.t 0), none, []⟩,
      ⟨(some 9), .bin .leq (.t 7) (.t 8), none, []⟩,
      ⟨(some 10), .mov (.t 9), none, []⟩,
      ⟨(some 11), .mov (.t 0), (some (10, true)), []⟩,
      ⟨(some 12), .mov (.t 2), (some (10, true)), []⟩,
      ⟨(some 13), .bin .leq (.t 11) (.t 12), (some (10, true)), []⟩,
      ⟨(some 14), .pick (.t 10) (.t 13) (.c (.bool false)), none, []⟩,
      ⟨(some 6), .mov (.t 14), none, []⟩])
  (.ret)), 15, [.t 6]⟩
def xf65 : XFunc := ⟨.seq (.reg [⟨(some 2), .mov (.c (.int .i64 0)), none, []⟩])
  (.seq (.seq (.reg [⟨(some 3), .load1 (.t 0), none, []⟩])
  (.cond (.t 3) (.seq (.reg [⟨(some 4), .load1 (.t 1), none, []⟩,
        ⟨(some 2), .mov (.t 4), none, []⟩])
    (.ret)) .skip))
  (.seq (.reg [⟨(some 2), .mov (.c (.int .i64 0)), none, []⟩])
  (.ret))), 5, [.t 2]⟩
def xf66 : XFunc := ⟨.seq (.reg [⟨(some 2), .mov (.c (.int .i64 0)), none, []⟩])
  (.seq (.reg [⟨(some 6), .load1 (.t 0), none, []⟩,
      ⟨(some 7), .load1 (.t 1), none, []⟩,
      ⟨(some 8), .call (.c (.fn 39 [] [])) [.t 6, .t 7], none, []⟩,
      ⟨(some 5), .mov (.t 8), none, []⟩,
      ⟨(some 9), .extract (.t 5) 0, none, []⟩,
      ⟨(some 10), .extract (.t 5) 1, none, []⟩,
      ⟨(some 3), .mov (.t 9), none, []⟩,
      ⟨(some 4), .mov (.t 10), none, []⟩])
  (.seq (.reg [⟨(some 11), .mov (.t 4), none, []⟩,
      ⟨(some 2), .mov (.t 11), none, []⟩])
  (.ret))), 12, [.t 2]⟩
structure SeaCode (X : FuncId → Option XFunc) : Prop where
  h11 : X 11 = some xf11
  h42 : X 42 = some xf42
  h43 : X 43 = some xf43
  h39 : X 39 = some xf39
  h44 : X 44 = some xf44
  h52 : X 52 = some xf52
  h65 : X 65 = some xf65
  h66 : X 66 = some xf66
end Go.Proofs.Ytbgjmclpahganaa.Eng

/-
  CODE of VWide.
-/
namespace Go.Proofs.Ytbgjmclpahganaa.Eng
set_option linter.unusedSimpArgs false
set_option linter.unusedVariables false
def xf92l0 : XCode := .seq (.seq (.reg [⟨(some 6), .mov (.t 3), none, []⟩,
      ⟨(some 7), .bin .gtr (.t 6) (.c (.int .i64 0)), none, []⟩,
      ⟨(some 8), .mov (.t 7), none, []⟩,
      ⟨(some 9), .mov (.t 0), (some (8, true)), []⟩,
      ⟨(some 10), .mov (.t 3), (some (8, true)), []⟩,
      ⟨(some 11), .bin .sub (.t 10) (.c (.int .i64 1)), (some (8, true)), []⟩,
      ⟨(some 12), .iaddr 1 (.t 9) (.t 11), (some (8, true)), []⟩,
      ⟨(some 13), .load1 (.t 12), (some (8, true)), []⟩,
      ⟨(some 14), .bin .eql (.t 13) (.c (.int .i64 0)), (some (8, true)), []⟩,
      ⟨(some 15), .pick (.t 8) (.t 14) (.c (.bool false)), none, []⟩])
  (.cond (.t 15) .skip (.exit 0)))
  (.block 1 (.reg [⟨(some 16), .mov (.t 3), none, []⟩,
        ⟨(some 17), .bin .sub (.t 16) (.c (.int .i64 1)), none, []⟩,
        ⟨(some 3), .mov (.t 17), none, []⟩]))
def xf92 : XFunc := ⟨.seq (.reg [⟨(some 2), .mov (.c .nils), none, []⟩])
  (.seq (.reg [⟨(some 4), .mov (.t 0), none, []⟩,
      ⟨(some 5), .len (.t 4), none, []⟩,
      ⟨(some 3), .mov (.t 5), none, []⟩])
  (.seq (.block 0 (.loop xf92l0))
  (.seq (.reg [⟨(some 18), .mov (.t 0), none, []⟩,
      ⟨(some 19), .mov (.t 3), none, []⟩,
      ⟨(some 20), .slice 1 (.t 18) none (some (.t 19)), none, []⟩,
      ⟨(some 2), .mov (.t 20), none, []⟩])
  (.ret)))), 21, [.t 2]⟩
def xf87 : XFunc := ⟨.seq (.reg [⟨(some 4), .new 150 [.int .i64 0, .nils], none, []⟩])
  (.seq (.reg [⟨(some 5), .mov (.t 1), none, []⟩,
      ⟨(some 6), .call (.c (.fn 92 [] [])) [.t 5], none, []⟩,
      ⟨(some 1), .mov (.t 6), none, []⟩])
  (.seq (.seq (.reg [⟨(some 7), .mov (.t 1), none, []⟩,
      ⟨(some 8), .len (.t 7), none, []⟩,
      ⟨(some 9), .bin .eql (.t 8) (.c (.int .i64 0)), none, []⟩])
  (.cond (.t 9) (.reg [⟨(some 0), .mov (.c (.int .i64 0)), none, []⟩]) .skip))
  (.seq (.reg [⟨(some 10), .mov (.t 0), none, []⟩,
      ⟨(some 11), .mov (.t 1), none, []⟩,
      ⟨(some 12), .build [.int .i64 0, .nils] [(0, 1, .t 10), (1, 1, .t 11)], none, []⟩,
      ⟨none, .store 2 (.t 4) (.t 12), none, []⟩])
  (.ret)))), 13, [.cn 4 2]⟩
def xf89l0 : XCode := .seq (.seq (.reg [⟨(some 7), .mov (.t 0), none, []⟩,
      ⟨(some 8), .bin .neq (.t 7) (.c (.int .i64 0)), none, []⟩])
  (.cond (.t 8) .skip (.exit 0)))
  (.block 1 (.seq (.reg [⟨(some 9), .mov (.t 4), none, []⟩,
        ⟨(some 10), .mov (.t 0), none, []⟩,
        ⟨(some 11), .bin .rem (.t 10) (.c (.int .i64 1000000000)), none, []⟩,
        ⟨(some 12), .call (.c (.fn 96 [] [])) [.t 11], none, []⟩,
        ⟨(some 13), .buildSlice 3 1 1 false [.int .i64 0] [(0, 1, .t 12)], none, []⟩,
        ⟨(some 14), .append 3 1 8 (.t 9) (.t 13), none, []⟩,
        ⟨(some 4), .mov (.t 14), none, []⟩])
    (.reg [⟨(some 15), .mov (.t 0), none, []⟩,
        ⟨(some 16), .bin .quo (.t 15) (.c (.int .i64 1000000000)), none, []⟩,
        ⟨(some 0), .mov (.t 16), none, []⟩])))
def xf89 : XFunc := ⟨.seq (.reg [⟨(some 2), .new 150 [.int .i64 0, .nils], none, []⟩])
  (.seq (.reg [⟨(some 3), .mov (.c (.int .i64 1)), none, []⟩])
  (.seq (.seq (.reg [⟨(some 5), .mov (.t 0), none, []⟩,
      ⟨(some 6), .bin .lss (.t 5) (.c (.int .i64 0)), none, []⟩])
  (.cond (.t 6) (.reg [⟨(some 3), .mov (.c (.int .i64 (-1))), none, []⟩]) .skip))
  (.seq (.reg [⟨(some 4), .mov (.c .nils), none, []⟩])
  (.seq (.block 0 (.loop xf89l0))
  (.seq (.reg [⟨(some 17), .movf (.t 3), none, []⟩,
      ⟨(some 18), .movf (.t 4), none, []⟩,
      ⟨(some 19), .call (.c (.fn 87 [] [])) [.t 17, .t 18], none, []⟩,
      ⟨none, .store 2 (.t 2) (.t 19), none, []⟩])
  (.ret)))))), 20, [.cn 2 2]⟩
def xf96 : XFunc := ⟨.seq (.reg [⟨(some 2), .mov (.c (.int .i64 0)), none, []⟩])
  (.seq (.reg [⟨(some 3), .mov (.t 0), none, []⟩,
      ⟨(some 4), .mov (.t 0), none, []⟩,
      ⟨(some 5), .un .neg (.t 4), none, []⟩,
      ⟨(some 6), .ext true (.t 3) [.t 5], none, []⟩,
      ⟨(some 2), .mov (.t 6), none, []⟩])
  (.ret)), 7, [.t 2]⟩
def xf98l0 : XCode := .seq (.seq (.reg [⟨(some 19), .mov (.t 5), none, []⟩,
      ⟨(some 20), .bin .geq (.t 19) (.c (.int .i64 0)), none, []⟩])
  (.cond (.t 20) .skip (.exit 0)))
  (.seq (.block 1 (.seq (.seq (.dreg [⟨(some 23), .mov (.t 0), none, []⟩,
        ⟨(some 24), .mov (.t 5), none, []⟩,
        ⟨(some 25), .iaddr 1 (.t 23) (.t 24), none, [1, 0]⟩,
        ⟨(some 26), .load1 (.t 25), none, [0, 1, 2]⟩,
        ⟨(some 27), .mov (.t 1), none, []⟩,
        ⟨(some 28), .mov (.t 5), none, []⟩,
        ⟨(some 29), .iaddr 1 (.t 27) (.t 28), none, [5, 4]⟩,
        ⟨(some 30), .load1 (.t 29), none, [4, 5, 6]⟩,
        ⟨(some 31), .bin .lss (.t 26) (.t 30), none, [6, 5, 4, 2, 1, 0, 7, 3]⟩])
    (.cond (.t 31) (.seq (.reg [⟨(some 4), .mov (.c (.int .i64 (-1))), none, []⟩])
      (.ret)) .skip))
    (.seq (.dreg [⟨(some 32), .mov (.t 0), none, []⟩,
        ⟨(some 33), .mov (.t 5), none, []⟩,
        ⟨(some 34), .iaddr 1 (.t 32) (.t 33), none, [1, 0]⟩,
        ⟨(some 35), .load1 (.t 34), none, [0, 1, 2]⟩,
        ⟨(some 36), .mov (.t 1), none, []⟩,
        ⟨(some 37), .mov (.t 5), none, []⟩,
        ⟨(some 38), .iaddr 1 (.t 36) (.t 37), none, [5, 4]⟩,
        ⟨(some 39), .load1 (.t 38), none, [4, 5, 6]⟩,
        ⟨(some 40), .bin .gtr (.t 35) (.t 39), none, [6, 5, 4, 2, 1, 0, 7, 3]⟩])
    (.cond (.t 40) (.seq (.reg [⟨(some 4), .mov (.c (.int .i64 1)), none, []⟩])
      (.ret)) .skip))))
  (.reg [⟨(some 21), .mov (.t 5), none, []⟩,
      ⟨(some 22), .bin .sub (.t 21) (.c (.int .i64 1)), none, []⟩,
      ⟨(some 5), .mov (.t 22), none, []⟩]))
def xf98 : XFunc := ⟨.seq (.reg [⟨(some 4), .mov (.c (.int .i64 0)), none, []⟩])
  (.seq (.seq (.reg [⟨(some 6), .mov (.t 0), none, []⟩,
      ⟨(some 7), .len (.t 6), none, []⟩,
      ⟨(some 8), .mov (.t 1), none, []⟩,
      ⟨(some 9), .len (.t 8), none, []⟩,
      ⟨(some 10), .bin .neq (.t 7) (.t 9), none, []⟩])
  (.cond (.t 10) (.seq (.seq (.reg [⟨(some 11), .mov (.t 0), none, []⟩,
        ⟨(some 12), .len (.t 11), none, []⟩,
        ⟨(some 13), .mov (.t 1), none, []⟩,
        ⟨(some 14), .len (.t 13), none, []⟩,
        ⟨(some 15), .bin .lss (.t 12) (.t 14), none, []⟩])
    (.cond (.t 15) (.seq (.reg [⟨(some 4), .mov (.c (.int .i64 (-1))), none, []⟩])
      (.ret)) .skip))
    (.seq (.reg [⟨(some 4), .mov (.c (.int .i64 1)), none, []⟩])
    (.ret))) .skip))
  (.seq (.seq (.reg [⟨(some 16), .mov (.t 0), none, []⟩,
      ⟨(some 17), .len (.t 16), none, []⟩,
      ⟨(some 18), .bin .sub (.t 17) (.c (.int .i64 1)), none, []⟩,
      ⟨(some 5), .mov (.t 18), none, []⟩])
  (.block 0 (.loop xf98l0)))
  (.seq (.reg [⟨(some 4), .mov (.c (.int .i64 0)), none, []⟩])
  (.ret)))), 41, [.t 4]⟩
def xf101 : XFunc := ⟨.seq (.reg [⟨(some 4), .mov (.c (.int .i64 0)), none, []⟩])
  (.seq (.seq (.reg [⟨(some 5), .mov (.t 1), none, []⟩,
      ⟨(some 6), .mov (.t 0), none, []⟩,
      ⟨(some 7), .len (.t 6), none, []⟩,
      ⟨(some 8), .bin .lss (.t 5) (.t 7), none, []⟩])
  (.cond (.t 8) (.seq (.reg [⟨(some 9), .mov (.t 0), none, []⟩,
        ⟨(some 10), .mov (.t 1), none, []⟩,
        ⟨(some 11), .iaddr 1 (.t 9) (.t 10), none, []⟩,
        ⟨(some 12), .load1 (.t 11), none, []⟩,
        ⟨(some 4), .mov (.t 12), none, []⟩])
    (.ret)) .skip))
  (.seq (.reg [⟨(some 4), .mov (.c (.int .i64 0)), none, []⟩])
  (.ret))), 13, [.t 4]⟩
def xf97l0 : XCode := .seq (.seq (.reg [⟨(some 9), .mov (.t 7), none, []⟩,
      ⟨(some 10), .mov (.t 0), none, []⟩,
      ⟨(some 11), .len (.t 10), none, []⟩,
      ⟨(some 12), .bin .lss (.t 9) (.t 11), none, []⟩,
      ⟨(some 13), .mov (.t 12), none, []⟩,
      ⟨(some 14), .mov (.t 7), (some (13, false)), []⟩,
      ⟨(some 15), .mov (.t 1), (some (13, false)), []⟩,
      ⟨(some 16), .len (.t 15), (some (13, false)), []⟩,
      ⟨(some 17), .bin .lss (.t 14) (.t 16), (some (13, false)), []⟩,
      ⟨(some 18), .pick (.t 13) (.c (.bool true)) (.t 17), none, []⟩,
      ⟨(some 19), .mov (.t 18), none, []⟩,
      ⟨(some 20), .mov (.t 6), (some (19, false)), []⟩,
      ⟨(some 21), .bin .gtr (.t 20) (.c (.int .i64 0)), (some (19, false)), []⟩,
      ⟨(some 22), .pick (.t 19) (.c (.bool true)) (.t 21), none, []⟩])
  (.cond (.t 22) .skip (.exit 0)))
  (.seq (.block 1 (.seq (.reg [⟨(some 25), .mov (.t 0), none, []⟩,
        ⟨(some 26), .mov (.t 7), none, []⟩,
        ⟨(some 27), .call (.c (.fn 101 [] [])) [.t 25, .t 26], none, []⟩,
        ⟨(some 28), .mov (.t 1), none, []⟩,
        ⟨(some 29), .mov (.t 7), none, []⟩,
        ⟨(some 30), .call (.c (.fn 101 [] [])) [.t 28, .t 29], none, []⟩,
        ⟨(some 31), .bin .add (.t 27) (.t 30), none, []⟩,
        ⟨(some 32), .mov (.t 6), none, []⟩,
        ⟨(some 33), .bin .add (.t 31) (.t 32), none, []⟩,
        ⟨(some 8), .mov (.t 33), none, []⟩])
    (.reg [⟨(some 34), .mov (.t 5), none, []⟩,
        ⟨(some 35), .mov (.t 8), none, []⟩,
        ⟨(some 36), .bin .rem (.t 35) (.c (.int .i64 1000000000)), none, []⟩,
        ⟨(some 37), .buildSlice 3 1 1 false [.int .i64 0] [(0, 1, .t 36)], none, []⟩,
        ⟨(some 38), .append 3 1 8 (.t 34) (.t 37), none, []⟩,
        ⟨(some 39), .mov (.t 8), none, []⟩,
        ⟨(some 40), .bin .quo (.t 39) (.c (.int .i64 1000000000)), none, []⟩,
        ⟨(some 5), .mov (.t 38), none, []⟩,
        ⟨(some 6), .mov (.t 40), none, []⟩])))
  (.reg [⟨(some 23), .mov (.t 7), none, []⟩,
      ⟨(some 24), .bin .add (.t 23) (.c (.int .i64 1)), none, []⟩,
      ⟨(some 7), .mov (.t 24), none, []⟩]))
def xf97 : XFunc := ⟨.seq (.reg [⟨(some 4), .mov (.c .nils), none, []⟩])
  (.seq (.reg [⟨(some 5), .mov (.c .nils), none, []⟩])
  (.seq (.reg [⟨(some 6), .mov (.c (.int .i64 0)), none, []⟩])
  (.seq (.seq (.reg [⟨(some 7), .mov (.c (.int .i64 0)), none, []⟩])
  (.block 0 (.loop xf97l0)))
  (.seq (.reg [⟨(some 41), .mov (.t 5), none, []⟩,
      ⟨(some 4), .mov (.t 41), none, []⟩])
  (.ret))))), 42, [.t 4]⟩
def xf99l0 : XCode := .seq (.seq (.reg [⟨(some 9), .mov (.t 7), none, []⟩,
      ⟨(some 10), .mov (.t 0), none, []⟩,
      ⟨(some 11), .len (.t 10), none, []⟩,
      ⟨(some 12), .bin .lss (.t 9) (.t 11), none, []⟩])
  (.cond (.t 12) .skip (.exit 0)))
  (.seq (.block 1 (.seq (.dreg [⟨(some 15), .mov (.t 0), none, []⟩,
        ⟨(some 16), .mov (.t 7), none, []⟩,
        ⟨(some 17), .iaddr 1 (.t 15) (.t 16), none, [1, 0]⟩,
        ⟨(some 18), .load1 (.t 17), none, [0, 1, 2]⟩,
        ⟨(some 19), .mov (.t 1), none, []⟩,
        ⟨(some 20), .mov (.t 7), none, []⟩,
        ⟨(some 21), .call (.c (.fn 101 [] [])) [.t 19, .t 20], none, [5, 4]⟩,
        ⟨(some 22), .bin .sub (.t 18) (.t 21), none, [4, 5, 2, 1, 0, 6, 3]⟩,
        ⟨(some 23), .mov (.t 6), none, []⟩,
        ⟨(some 24), .bin .sub (.t 22) (.t 23), none, [3, 6, 0, 1, 2, 5, 4, 8, 7]⟩,
        ⟨(some 8), .mov (.t 24), none, [8, 7, 5, 4, 3, 2, 1, 0, 6, 9]⟩])
    (.seq (.reg [⟨(some 6), .mov (.c (.int .i64 0)), none, []⟩])
    (.seq (.seq (.reg [⟨(some 25), .mov (.t 8), none, []⟩,
        ⟨(some 26), .bin .lss (.t 25) (.c (.int .i64 0)), none, []⟩])
    (.cond (.t 26) (.reg [⟨(some 27), .mov (.t 8), none, []⟩,
          ⟨(some 28), .bin .add (.t 27) (.c (.int .i64 1000000000)), none, []⟩,
          ⟨(some 8), .mov (.t 28), none, []⟩,
          ⟨(some 6), .mov (.c (.int .i64 1)), none, []⟩]) .skip))
    (.reg [⟨(some 29), .mov (.t 5), none, []⟩,
        ⟨(some 30), .mov (.t 8), none, []⟩,
        ⟨(some 31), .buildSlice 3 1 1 false [.int .i64 0] [(0, 1, .t 30)], none, []⟩,
        ⟨(some 32), .append 3 1 8 (.t 29) (.t 31), none, []⟩,
        ⟨(some 5), .mov (.t 32), none, []⟩])))))
  (.reg [⟨(some 13), .mov (.t 7), none, []⟩,
      ⟨(some 14), .bin .add (.t 13) (.c (.int .i64 1)), none, []⟩,
      ⟨(some 7), .mov (.t 14), none, []⟩]))
def xf99 : XFunc := ⟨.seq (.reg [⟨(some 4), .mov (.c .nils), none, []⟩])
  (.seq (.reg [⟨(some 5), .mov (.c .nils), none, []⟩])
  (.seq (.reg [⟨(some 6), .mov (.c (.int .i64 0)), none, []⟩])
  (.seq (.seq (.reg [⟨(some 7), .mov (.c (.int .i64 0)), none, []⟩])
  (.block 0 (.loop xf99l0)))
  (.seq (.reg [⟨(some 33), .mov (.t 5), none, []⟩,
      ⟨(some 34), .call (.c (.fn 92 [] [])) [.t 33], none, []⟩,
      ⟨(some 4), .mov (.t 34), none, []⟩])
  (.ret))))), 35, [.t 4]⟩
def xf91 : XFunc := ⟨.seq (.reg [⟨(some 1), .box 150 (.t 0), none, []⟩,
      ⟨(some 2), .new 150 [.int .i64 0, .nils], none, []⟩])
  (.seq (.reg [⟨(some 3), .faddr 0 (.t 1), none, []⟩,
      ⟨(some 4), .load1 (.t 3), none, []⟩,
      ⟨(some 5), .un .neg (.t 4), none, []⟩,
      ⟨(some 6), .faddr 1 (.t 1), none, []⟩,
      ⟨(some 7), .load1 (.t 6), none, []⟩,
      ⟨(some 8), .build [.int .i64 0, .nils] [(0, 1, .t 5), (1, 1, .t 7)], none, []⟩,
      ⟨none, .store 2 (.t 2) (.t 8), none, []⟩])
  (.ret)), 9, [.cn 2 2]⟩
def xf90 : XFunc := ⟨.seq (.reg [⟨(some 2), .box 150 (.t 0), none, []⟩,
      ⟨(some 3), .box 150 (.t 1), none, []⟩,
      ⟨(some 4), .new 150 [.int .i64 0, .nils], none, []⟩])
  (.seq (.seq (.reg [⟨(some 6), .faddr 0 (.t 2), none, []⟩,
      ⟨(some 7), .load1 (.t 6), none, []⟩,
      ⟨(some 8), .bin .eql (.t 7) (.c (.int .i64 0)), none, []⟩])
  (.cond (.t 8) (.seq (.reg [⟨(some 9), .loadn 2 (.t 3), none, []⟩,
        ⟨none, .store 2 (.t 4) (.t 9), none, []⟩])
    (.ret)) .skip))
  (.seq (.seq (.reg [⟨(some 10), .faddr 0 (.t 3), none, []⟩,
      ⟨(some 11), .load1 (.t 10), none, []⟩,
      ⟨(some 12), .bin .eql (.t 11) (.c (.int .i64 0)), none, []⟩])
  (.cond (.t 12) (.seq (.reg [⟨(some 13), .loadn 2 (.t 2), none, []⟩,
        ⟨none, .store 2 (.t 4) (.t 13), none, []⟩])
    (.ret)) .skip))
  (.seq (.seq (.reg [⟨(some 14), .faddr 0 (.t 2), none, []⟩,
      ⟨(some 15), .load1 (.t 14), none, []⟩,
      ⟨(some 16), .faddr 0 (.t 3), none, []⟩,
      ⟨(some 17), .load1 (.t 16), none, []⟩,
      ⟨(some 18), .bin .eql (.t 15) (.t 17), none, []⟩])
  (.cond (.t 18) (.seq (.dreg [⟨(some 19), .faddr 0 (.t 2), none, []⟩,
        ⟨(some 20), .load1 (.t 19), none, [0]⟩,
        ⟨(some 21), .faddr 1 (.t 2), none, []⟩,
        ⟨(some 22), .load1 (.t 21), none, [2]⟩,
        ⟨(some 23), .faddr 1 (.t 3), none, []⟩,
        ⟨(some 24), .load1 (.t 23), none, [4]⟩,
        ⟨(some 25), .call (.c (.fn 97 [] [])) [.t 22, .t 24], none, [4, 2, 5, 3]⟩,
        ⟨(some 26), .call (.c (.fn 87 [] [])) [.t 20, .t 25], none, [3, 5, 2, 4, 0, 6, 1]⟩,
        ⟨none, .store 2 (.t 4) (.t 26), none, [6, 5, 4, 3, 2, 1, 0, 7]⟩])
    (.ret)) .skip))
  (.seq (.reg [⟨(some 27), .faddr 1 (.t 2), none, []⟩,
      ⟨(some 28), .load1 (.t 27), none, []⟩,
      ⟨(some 29), .faddr 1 (.t 3), none, []⟩,
      ⟨(some 30), .load1 (.t 29), none, []⟩,
      ⟨(some 31), .call (.c (.fn 98 [] [])) [.t 28, .t 30], none, []⟩,
      ⟨(some 5), .mov (.t 31), none, []⟩])
  (.seq (.seq (.reg [⟨(some 32), .mov (.t 5), none, []⟩,
      ⟨(some 33), .bin .eql (.t 32) (.c (.int .i64 0)), none, []⟩])
  (.cond (.t 33) (.seq (.reg [⟨(some 34), .build [.int .i64 0, .nils] [], none, []⟩,
        ⟨none, .store 2 (.t 4) (.t 34), none, []⟩])
    (.ret)) .skip))
  (.seq (.seq (.reg [⟨(some 35), .mov (.t 5), none, []⟩,
      ⟨(some 36), .bin .gtr (.t 35) (.c (.int .i64 0)), none, []⟩])
  (.cond (.t 36) (.seq (.dreg [⟨(some 37), .faddr 0 (.t 2), none, []⟩,
        ⟨(some 38), .load1 (.t 37), none, [0]⟩,
        ⟨(some 39), .faddr 1 (.t 2), none, []⟩,
        ⟨(some 40), .load1 (.t 39), none, [2]⟩,
        ⟨(some 41), .faddr 1 (.t 3), none, []⟩,
        ⟨(some 42), .load1 (.t 41), none, [4]⟩,
        ⟨(some 43), .call (.c (.fn 99 [] [])) [.t 40, .t 42], none, [4, 2, 5, 3]⟩,
        ⟨(some 44), .call (.c (.fn 87 [] [])) [.t 38, .t 43], none, [3, 5, 2, 4, 0, 6, 1]⟩,
        ⟨none, .store 2 (.t 4) (.t 44), none, [6, 5, 4, 3, 2, 1, 0, 7]⟩])
    (.ret)) .skip))
  (.seq (.dreg [⟨(some 45), .faddr 0 (.t 3), none, []⟩,
      ⟨(some 46), .load1 (.t 45), none, [0]⟩,
      ⟨(some 47), .faddr 1 (.t 3), none, []⟩,
      ⟨(some 48), .load1 (.t 47), none, [2]⟩,
      ⟨(some 49), .faddr 1 (.t 2), none, []⟩,
      ⟨(some 50), .load1 (.t 49), none, [4]⟩,
      ⟨(some 51), .call (.c (.fn 99 [] [])) [.t 48, .t 50], none, [4, 2, 5, 3]⟩,
      ⟨(some 52), .call (.c (.fn 87 [] [])) [.t 46, .t 51], none, [3, 5, 2, 4, 0, 6, 1]⟩,
      ⟨none, .store 2 (.t 4) (.t 52), none, [6, 5, 4, 3, 2, 1, 0, 7]⟩])
  (.ret)))))))), 53, [.cn 4 2]⟩
def xf86 : XFunc := ⟨.seq (.reg [⟨(some 2), .box 150 (.t 0), none, []⟩,
      ⟨(some 3), .box 150 (.t 1), none, []⟩,
      ⟨(some 4), .new 150 [.int .i64 0, .nils], none, []⟩])
  (.seq (.dreg [⟨(some 5), .loadn 2 (.t 2), none, []⟩,
      ⟨(some 6), .loadn 2 (.t 3), none, []⟩,
      ⟨(some 7), .call (.c (.fn 91 [] [])) [.t 6], none, [1]⟩,
      ⟨(some 8), .call (.c (.fn 90 [] [])) [.t 5, .t 7], none, [1, 2, 0]⟩,
      ⟨none, .store 2 (.t 4) (.t 8), none, [2, 1, 0, 3]⟩])
  (.ret)), 9, [.cn 4 2]⟩
def xf82 : XFunc := ⟨.seq (.reg [⟨(some 2), .box 150 (.t 0), none, []⟩,
      ⟨(some 3), .box 150 (.t 1), none, []⟩,
      ⟨(some 4), .mov (.c (.int .i64 0)), none, []⟩])
  (.seq (.reg [⟨(some 5), .loadn 2 (.t 2), none, []⟩,
      ⟨(some 6), .loadn 2 (.t 3), none, []⟩,
      ⟨(some 7), .call (.c (.fn 86 [] [])) [.t 5, .t 6], none, []⟩,
      ⟨(some 8), .field 0 1 false (.t 7), none, []⟩,
      ⟨(some 4), .mov (.t 8), none, []⟩])
  (.ret)), 9, [.t 4]⟩
def xf83l0 : XCode := .seq (.seq (.reg [⟨(some 26), .mov (.t 8), none, []⟩,
      ⟨(some 27), .faddr 1 (.t 3), none, []⟩,
      ⟨(some 28), .load1 (.t 27), none, []⟩,
      ⟨(some 29), .len (.t 28), none, []⟩,
      ⟨(some 30), .bin .lss (.t 26) (.t 29), none, []⟩])
  (.cond (.t 30) .skip (.exit 2)))
  (.seq (.block 3 (.seq (.dreg [⟨(some 33), .mov (.t 5), none, []⟩,
        ⟨(some 34), .mov (.t 6), none, []⟩,
        ⟨(some 35), .mov (.t 8), none, []⟩,
        ⟨(some 36), .bin .add (.t 34) (.t 35), none, [2, 1]⟩,
        ⟨(some 37), .iaddr 1 (.t 33) (.t 36), none, [1, 2, 3, 0]⟩,
        ⟨(some 38), .load1 (.t 37), none, [0, 3, 2, 1, 4]⟩,
        ⟨(some 39), .faddr 1 (.t 2), none, []⟩,
        ⟨(some 40), .load1 (.t 39), none, [6]⟩,
        ⟨(some 41), .mov (.t 6), none, []⟩,
        ⟨(some 42), .iaddr 1 (.t 40) (.t 41), none, [6, 8, 7]⟩,
        ⟨(some 43), .load1 (.t 42), none, [7, 8, 6, 9]⟩,
        ⟨(some 44), .faddr 1 (.t 3), none, []⟩,
        ⟨(some 45), .load1 (.t 44), none, [11]⟩,
        ⟨(some 46), .mov (.t 8), none, []⟩,
        ⟨(some 47), .iaddr 1 (.t 45) (.t 46), none, [11, 13, 12]⟩,
        ⟨(some 48), .load1 (.t 47), none, [12, 13, 11, 14]⟩,
        ⟨(some 49), .bin .mul (.t 43) (.t 48), none, [14, 11, 13, 12, 9, 6, 8, 7, 15, 10]⟩,
        ⟨(some 50), .bin .add (.t 38) (.t 49), none, [10, 15, 7, 8, 6, 9, 12, 13, 11, 14, 4, 1, 2, 3, 0, 16, 5]⟩,
        ⟨(some 51), .mov (.t 7), none, []⟩,
        ⟨(some 52), .bin .add (.t 50) (.t 51), none, [5, 16, 0, 3, 2, 1, 4, 14, 11, 13, 12, 9, 6, 8, 7, 15, 10, 18, 17]⟩,
        ⟨(some 9), .mov (.t 52), none, [18, 17, 16, 15, 14, 13, 12, 11, 10, 9, 8, 7, 6, 5, 4, 3, 2, 1, 0, 19]⟩])
    (.reg [⟨(some 53), .mov (.t 5), none, []⟩,
        ⟨(some 54), .mov (.t 6), none, []⟩,
        ⟨(some 55), .mov (.t 8), none, []⟩,
        ⟨(some 56), .bin .add (.t 54) (.t 55), none, []⟩,
        ⟨(some 57), .mov (.t 9), none, []⟩,
        ⟨(some 58), .bin .rem (.t 57) (.c (.int .i64 1000000000)), none, []⟩,
        ⟨(some 59), .mov (.t 9), none, []⟩,
        ⟨(some 60), .bin .quo (.t 59) (.c (.int .i64 1000000000)), none, []⟩,
        ⟨(some 61), .iaddr 1 (.t 53) (.t 56), none, []⟩,
        ⟨none, .store 1 (.t 61) (.t 58), none, []⟩,
        ⟨(some 7), .mov (.t 60), none, []⟩])))
  (.reg [⟨(some 31), .mov (.t 8), none, []⟩,
      ⟨(some 32), .bin .add (.t 31) (.c (.int .i64 1)), none, []⟩,
      ⟨(some 8), .mov (.t 32), none, []⟩]))
def xf83l1 : XCode := .seq (.seq (.reg [⟨(some 19), .mov (.t 6), none, []⟩,
      ⟨(some 20), .faddr 1 (.t 2), none, []⟩,
      ⟨(some 21), .load1 (.t 20), none, []⟩,
      ⟨(some 22), .len (.t 21), none, []⟩,
      ⟨(some 23), .bin .lss (.t 19) (.t 22), none, []⟩])
  (.cond (.t 23) .skip (.exit 0)))
  (.seq (.block 1 (.seq (.reg [⟨(some 7), .mov (.c (.int .i64 0)), none, []⟩])
    (.seq (.seq (.reg [⟨(some 8), .mov (.c (.int .i64 0)), none, []⟩])
    (.block 2 (.loop xf83l0)))
    (.dreg [⟨(some 62), .mov (.t 5), none, []⟩,
        ⟨(some 63), .mov (.t 6), none, []⟩,
        ⟨(some 64), .faddr 1 (.t 3), none, []⟩,
        ⟨(some 65), .load1 (.t 64), none, [2]⟩,
        ⟨(some 66), .len (.t 65), none, [2, 3]⟩,
        ⟨(some 67), .bin .add (.t 63) (.t 66), none, [3, 2, 4, 1]⟩,
        ⟨(some 68), .mov (.t 5), none, []⟩,
        ⟨(some 69), .mov (.t 6), none, []⟩,
        ⟨(some 70), .faddr 1 (.t 3), none, []⟩,
        ⟨(some 71), .load1 (.t 70), none, [8]⟩,
        ⟨(some 72), .len (.t 71), none, [8, 9]⟩,
        ⟨(some 73), .bin .add (.t 69) (.t 72), none, [9, 8, 10, 7]⟩,
        ⟨(some 74), .iaddr 1 (.t 68) (.t 73), none, [7, 10, 8, 9, 11, 6]⟩,
        ⟨(some 75), .load1 (.t 74), none, [6, 11, 9, 8, 10, 7, 12]⟩,
        ⟨(some 76), .mov (.t 7), none, []⟩,
        ⟨(some 77), .bin .add (.t 75) (.t 76), none, [12, 7, 10, 8, 9, 11, 6, 14, 13]⟩,
        ⟨(some 78), .iaddr 1 (.t 62) (.t 67), none, [15, 14, 13, 12, 11, 10, 9, 8, 7, 6, 4, 3, 2, 1, 5, 0]⟩,
        ⟨none, .store 1 (.t 78) (.t 77), none, [14, 13, 12, 11, 10, 9, 8, 7, 6, 5, 4, 3, 2, 1, 0, 15, 16]⟩]))))
  (.reg [⟨(some 24), .mov (.t 6), none, []⟩,
      ⟨(some 25), .bin .add (.t 24) (.c (.int .i64 1)), none, []⟩,
      ⟨(some 6), .mov (.t 25), none, []⟩]))
def xf83 : XFunc := ⟨.seq (.reg [⟨(some 2), .box 150 (.t 0), none, []⟩,
      ⟨(some 3), .box 150 (.t 1), none, []⟩,
      ⟨(some 4), .new 150 [.int .i64 0, .nils], none, []⟩])
  (.seq (.reg [⟨(some 10), .faddr 1 (.t 2), none, []⟩,
      ⟨(some 11), .load1 (.t 10), none, []⟩,
      ⟨(some 12), .len (.t 11), none, []⟩,
      ⟨(some 13), .faddr 1 (.t 3), none, []⟩,
      ⟨(some 14), .load1 (.t 13), none, []⟩,
      ⟨(some 15), .len (.t 14), none, []⟩,
      ⟨(some 16), .bin .add (.t 12) (.t 15), none, []⟩,
      ⟨(some 17), .bin .add (.t 16) (.c (.int .i64 1)), none, []⟩,
      ⟨(some 18), .makeS 3 1 8 [.int .i64 0] (.t 17) (.t 17), none, []⟩,
      ⟨(some 5), .mov (.t 18), none, []⟩])
  (.seq (.seq (.reg [⟨(some 6), .mov (.c (.int .i64 0)), none, []⟩])
  (.block 0 (.loop xf83l1)))
  (.seq (.reg [⟨(some 79), .faddr 0 (.t 2), none, []⟩,
      ⟨(some 80), .load1 (.t 79), none, []⟩,
      ⟨(some 81), .faddr 0 (.t 3), none, []⟩,
      ⟨(some 82), .load1 (.t 81), none, []⟩,
      ⟨(some 83), .bin .mul (.t 80) (.t 82), none, []⟩,
      ⟨(some 84), .movf (.t 5), none, []⟩,
      ⟨(some 85), .call (.c (.fn 87 [] [])) [.t 83, .t 84], none, []⟩,
      ⟨none, .store 2 (.t 4) (.t 85), none, []⟩])
  (.ret)))), 86, [.cn 4 2]⟩
def xf95l0 : XCode := .seq (.seq (.reg [⟨(some 38), .mov (.t 8), none, []⟩,
      ⟨(some 39), .mov (.t 9), none, []⟩,
      ⟨(some 40), .bin .lss (.t 38) (.t 39), none, []⟩])
  (.cond (.t 40) .skip (.exit 2)))
  (.block 3 (.seq (.reg [⟨(some 41), .mov (.t 8), none, []⟩,
        ⟨(some 42), .mov (.t 9), none, []⟩,
        ⟨(some 43), .bin .add (.t 41) (.t 42), none, []⟩,
        ⟨(some 44), .bin .add (.t 43) (.c (.int .i64 1)), none, []⟩,
        ⟨(some 45), .bin .quo (.t 44) (.c (.int .i64 2)), none, []⟩,
        ⟨(some 10), .mov (.t 45), none, []⟩])
    (.seq (.reg [⟨(some 46), .faddr 1 (.t 3), none, []⟩,
        ⟨(some 47), .load1 (.t 46), none, []⟩,
        ⟨(some 48), .call (.c (.fn 87 [] [])) [.c (.int .i64 1), .t 47], none, []⟩,
        ⟨(some 49), .mov (.t 10), none, []⟩,
        ⟨(some 50), .call (.c (.fn 89 [] [])) [.t 49], none, []⟩,
        ⟨(some 51), .call (.c (.fn 83 [] [])) [.t 48, .t 50], none, []⟩,
        ⟨(some 52), .field 1 1 false (.t 51), none, []⟩,
        ⟨(some 53), .mov (.t 6), none, []⟩,
        ⟨(some 54), .call (.c (.fn 98 [] [])) [.t 52, .t 53], none, []⟩,
        ⟨(some 55), .bin .leq (.t 54) (.c (.int .i64 0)), none, []⟩])
    (.cond (.t 55) (.reg [⟨(some 56), .mov (.t 10), none, []⟩,
          ⟨(some 8), .mov (.t 56), none, []⟩]) (.reg [⟨(some 57), .mov (.t 10), none, []⟩,
          ⟨(some 58), .bin .sub (.t 57) (.c (.int .i64 1)), none, []⟩,
          ⟨(some 9), .mov (.t 58), none, []⟩])))))
def xf95l1 : XCode := .seq (.seq (.reg [⟨(some 25), .mov (.t 7), none, []⟩,
      ⟨(some 26), .bin .geq (.t 25) (.c (.int .i64 0)), none, []⟩])
  (.cond (.t 26) .skip (.exit 0)))
  (.seq (.block 1 (.seq (.reg [⟨(some 29), .faddr 1 (.t 2), none, []⟩,
        ⟨(some 30), .load1 (.t 29), none, []⟩,
        ⟨(some 31), .mov (.t 7), none, []⟩,
        ⟨(some 32), .iaddr 1 (.t 30) (.t 31), none, []⟩,
        ⟨(some 33), .load1 (.t 32), none, []⟩,
        ⟨(some 34), .buildSlice 3 1 1 false [.int .i64 0] [(0, 1, .t 33)], none, []⟩,
        ⟨(some 35), .mov (.t 6), none, []⟩,
        ⟨(some 36), .append 3 1 8 (.t 34) (.t 35), none, []⟩,
        ⟨(some 37), .call (.c (.fn 92 [] [])) [.t 36], none, []⟩,
        ⟨(some 6), .mov (.t 37), none, []⟩])
    (.seq (.reg [⟨(some 8), .mov (.c (.int .i64 0)), none, []⟩,
        ⟨(some 9), .mov (.c (.int .i64 999999999)), none, []⟩])
    (.seq (.block 2 (.loop xf95l0))
    (.seq (.reg [⟨(some 59), .mov (.t 5), none, []⟩,
        ⟨(some 60), .mov (.t 7), none, []⟩,
        ⟨(some 61), .mov (.t 8), none, []⟩,
        ⟨(some 62), .iaddr 1 (.t 59) (.t 60), none, []⟩,
        ⟨none, .store 1 (.t 62) (.t 61), none, []⟩])
    (.reg [⟨(some 63), .mov (.t 6), none, []⟩,
        ⟨(some 64), .faddr 1 (.t 3), none, []⟩,
        ⟨(some 65), .load1 (.t 64), none, []⟩,
        ⟨(some 66), .call (.c (.fn 87 [] [])) [.c (.int .i64 1), .t 65], none, []⟩,
        ⟨(some 67), .mov (.t 8), none, []⟩,
        ⟨(some 68), .call (.c (.fn 89 [] [])) [.t 67], none, []⟩,
        ⟨(some 69), .call (.c (.fn 83 [] [])) [.t 66, .t 68], none, []⟩,
        ⟨(some 70), .field 1 1 false (.t 69), none, []⟩,
        ⟨(some 71), .call (.c (.fn 99 [] [])) [.t 63, .t 70], none, []⟩,
        ⟨(some 6), .mov (.t 71), none, []⟩]))))))
  (.reg [⟨(some 27), .mov (.t 7), none, []⟩,
      ⟨(some 28), .bin .sub (.t 27) (.c (.int .i64 1)), none, []⟩,
      ⟨(some 7), .mov (.t 28), none, []⟩]))
def xf95 : XFunc := ⟨.seq (.reg [⟨(some 2), .box 150 (.t 0), none, []⟩,
      ⟨(some 3), .box 150 (.t 1), none, []⟩,
      ⟨(some 4), .new 150 [.int .i64 0, .nils], none, []⟩])
  (.seq (.seq (.reg [⟨(some 12), .faddr 0 (.t 2), none, []⟩,
      ⟨(some 13), .load1 (.t 12), none, []⟩,
      ⟨(some 14), .bin .eql (.t 13) (.c (.int .i64 0)), none, []⟩])
  (.cond (.t 14) (.seq (.reg [⟨(some 15), .build [.int .i64 0, .nils] [], none, []⟩,
        ⟨none, .store 2 (.t 4) (.t 15), none, []⟩])
    (.ret)) .skip))
  (.seq (.reg [⟨(some 16), .faddr 1 (.t 2), none, []⟩,
      ⟨(some 17), .load1 (.t 16), none, []⟩,
      ⟨(some 18), .len (.t 17), none, []⟩,
      ⟨(some 19), .makeS 3 1 8 [.int .i64 0] (.t 18) (.t 18), none, []⟩,
      ⟨(some 20), .buildSlice 3 1 0 false [] [], none, []⟩,
      ⟨(some 5), .mov (.t 19), none, []⟩,
      ⟨(some 6), .mov (.t 20), none, []⟩])
  (.seq (.seq (.reg [⟨(some 21), .faddr 1 (.t 2), none, []⟩,
      ⟨(some 22), .load1 (.t 21), none, []⟩,
      ⟨(some 23), .len (.t 22), none, []⟩,
      ⟨(some 24), .bin .sub (.t 23) (.c (.int .i64 1)), none, []⟩,
      ⟨(some 7), .mov (.t 24), none, []⟩])
  (.block 0 (.loop xf95l1)))
  (.seq (.reg [⟨(some 72), .faddr 0 (.t 2), none, []⟩,
      ⟨(some 73), .load1 (.t 72), none, []⟩,
      ⟨(some 74), .movf (.t 5), none, []⟩,
      ⟨(some 75), .call (.c (.fn 87 [] [])) [.t 73, .t 74], none, []⟩,
      ⟨(some 11), .new 150 [.int .i64 0, .nils], none, []⟩,
      ⟨none, .store 2 (.t 11) (.t 75), none, []⟩])
  (.seq (.seq (.reg [⟨(some 76), .faddr 0 (.t 2), none, []⟩,
      ⟨(some 77), .load1 (.t 76), none, []⟩,
      ⟨(some 78), .bin .lss (.t 77) (.c (.int .i64 0)), none, []⟩,
      ⟨(some 79), .mov (.t 78), none, []⟩,
      ⟨(some 80), .mov (.t 6), (some (79, true)), []⟩,
      ⟨(some 81), .len (.t 80), (some (79, true)), []⟩,
      ⟨(some 82), .bin .gtr (.t 81) (.c (.int .i64 0)), (some (79, true)), []⟩,
      ⟨(some 83), .pick (.t 79) (.t 82) (.c (.bool false)), none, []⟩])
  (.cond (.t 83) (.dreg [⟨(some 84), .loadn 2 (.t 11), none, []⟩,
        ⟨(some 85), .call (.c (.fn 89 [] [])) [.c (.int .i64 1)], none, []⟩,
        ⟨(some 86), .call (.c (.fn 86 [] [])) [.t 84, .t 85], none, [1, 0]⟩,
        ⟨none, .store 2 (.t 11) (.t 86), none, [1, 0, 2]⟩]) .skip))
  (.seq (.reg [⟨(some 87), .loadn 2 (.t 11), none, []⟩,
      ⟨none, .store 2 (.t 4) (.t 87), none, []⟩])
  (.ret))))))), 88, [.cn 4 2]⟩
def xf93 : XFunc := ⟨.seq (.reg [⟨(some 1), .box 150 (.t 0), none, []⟩,
      ⟨(some 2), .mov (.c (.int .i64 0)), none, []⟩])
  (.seq (.reg [⟨(some 3), .faddr 0 (.t 1), none, []⟩,
      ⟨(some 4), .load1 (.t 3), none, []⟩,
      ⟨(some 2), .mov (.t 4), none, []⟩])
  (.ret)), 5, [.t 2]⟩
def xf100 : XFunc := ⟨.seq (.reg [⟨(some 1), .box 150 (.t 0), none, []⟩,
      ⟨(some 2), .new 150 [.int .i64 0, .nils], none, []⟩])
  (.seq (.seq (.reg [⟨(some 3), .faddr 0 (.t 1), none, []⟩,
      ⟨(some 4), .load1 (.t 3), none, []⟩,
      ⟨(some 5), .bin .lss (.t 4) (.c (.int .i64 0)), none, []⟩])
  (.cond (.t 5) (.seq (.reg [⟨(some 6), .loadn 2 (.t 1), none, []⟩,
        ⟨(some 7), .call (.c (.fn 91 [] [])) [.t 6], none, []⟩,
        ⟨none, .store 2 (.t 2) (.t 7), none, []⟩])
    (.ret)) .skip))
  (.seq (.reg [⟨(some 8), .loadn 2 (.t 1), none, []⟩,
      ⟨none, .store 2 (.t 2) (.t 8), none, []⟩])
  (.ret))), 9, [.cn 2 2]⟩
def xf94l0 : XCode := .seq (.seq (.reg [⟨(some 10), .loadn 2 (.t 3), none, []⟩,
      ⟨(some 11), .call (.c (.fn 93 [] [])) [.t 10], none, []⟩,
      ⟨(some 12), .bin .neq (.t 11) (.c (.int .i64 0)), none, []⟩])
  (.cond (.t 12) .skip (.exit 0)))
  (.block 1 (.seq (.dreg [⟨(some 13), .loadn 2 (.t 2), none, []⟩,
        ⟨(some 14), .loadn 2 (.t 2), none, []⟩,
        ⟨(some 15), .loadn 2 (.t 3), none, []⟩,
        ⟨(some 16), .call (.c (.fn 95 [] [])) [.t 14, .t 15], none, [2, 1]⟩,
        ⟨(some 17), .loadn 2 (.t 3), none, []⟩,
        ⟨(some 18), .call (.c (.fn 83 [] [])) [.t 16, .t 17], none, [1, 2, 4, 3]⟩,
        ⟨(some 19), .call (.c (.fn 86 [] [])) [.t 13, .t 18], none, [3, 4, 2, 1, 5, 0]⟩,
        ⟨(some 5), .new 150 [.int .i64 0, .nils], none, []⟩,
        ⟨none, .store 2 (.t 5) (.t 19), none, [5, 4, 3, 2, 1, 0, 6, 7]⟩])
    (.dreg [⟨(some 20), .loadn 2 (.t 3), none, []⟩,
        ⟨(some 21), .loadn 2 (.t 5), none, []⟩,
        ⟨none, .store 2 (.t 2) (.t 20), none, [0]⟩,
        ⟨none, .store 2 (.t 3) (.t 21), none, [0, 2, 1]⟩])))
def xf94 : XFunc := ⟨.seq (.reg [⟨(some 2), .box 150 (.t 0), none, []⟩,
      ⟨(some 3), .box 150 (.t 1), none, []⟩,
      ⟨(some 4), .new 150 [.int .i64 0, .nils], none, []⟩])
  (.seq (.dreg [⟨(some 6), .loadn 2 (.t 2), none, []⟩,
      ⟨(some 7), .call (.c (.fn 100 [] [])) [.t 6], none, [0]⟩,
      ⟨(some 8), .loadn 2 (.t 3), none, []⟩,
      ⟨(some 9), .call (.c (.fn 100 [] [])) [.t 8], none, [0, 1, 2]⟩,
      ⟨none, .store 2 (.t 2) (.t 7), none, [2, 0, 3, 1]⟩,
      ⟨none, .store 2 (.t 3) (.t 9), none, [2, 1, 0, 4, 3]⟩])
  (.seq (.block 0 (.loop xf94l0))
  (.seq (.reg [⟨(some 22), .loadn 2 (.t 2), none, []⟩,
      ⟨none, .store 2 (.t 4) (.t 22), none, []⟩])
  (.ret)))), 23, [.cn 4 2]⟩
def xf88 : XFunc := ⟨.seq (.reg [⟨(some 2), .box 150 (.t 0), none, []⟩,
      ⟨(some 3), .box 150 (.t 1), none, []⟩,
      ⟨(some 4), .new 152 [.int .i64 0, .nils, .int .i64 0, .nils], none, []⟩])
  (.seq (.seq (.reg [⟨(some 6), .loadn 2 (.t 3), none, []⟩,
      ⟨(some 7), .call (.c (.fn 93 [] [])) [.t 6], none, []⟩,
      ⟨(some 8), .bin .lss (.t 7) (.c (.int .i64 0)), none, []⟩])
  (.cond (.t 8) (.dreg [⟨(some 9), .loadn 2 (.t 2), none, []⟩,
        ⟨(some 10), .call (.c (.fn 91 [] [])) [.t 9], none, [0]⟩,
        ⟨(some 11), .loadn 2 (.t 3), none, []⟩,
        ⟨(some 12), .call (.c (.fn 91 [] [])) [.t 11], none, [0, 1, 2]⟩,
        ⟨none, .store 2 (.t 2) (.t 10), none, [2, 0, 3, 1]⟩,
        ⟨none, .store 2 (.t 3) (.t 12), none, [2, 1, 0, 4, 3]⟩]) .skip))
  (.seq (.reg [⟨(some 13), .loadn 2 (.t 2), none, []⟩,
      ⟨(some 14), .loadn 2 (.t 3), none, []⟩,
      ⟨(some 15), .call (.c (.fn 94 [] [])) [.t 13, .t 14], none, []⟩,
      ⟨(some 5), .new 150 [.int .i64 0, .nils], none, []⟩,
      ⟨none, .store 2 (.t 5) (.t 15), none, []⟩])
  (.seq (.seq (.dreg [⟨(some 16), .loadn 2 (.t 5), none, []⟩,
      ⟨(some 17), .call (.c (.fn 89 [] [])) [.c (.int .i64 1)], none, []⟩,
      ⟨(some 18), .call (.c (.fn 82 [] [])) [.t 16, .t 17], none, [1, 0]⟩,
      ⟨(some 19), .bin .eql (.t 18) (.c (.int .i64 0)), none, [0, 1, 2]⟩])
  (.cond (.t 19) (.seq (.reg [⟨(some 20), .loadn 2 (.t 2), none, []⟩,
        ⟨(some 21), .loadn 2 (.t 3), none, []⟩,
        ⟨(some 22), .build [.int .i64 0, .nils, .int .i64 0, .nils] [(0, 2, .t 20), (2, 2, .t 21)], none, []⟩,
        ⟨none, .store 4 (.t 4) (.t 22), none, []⟩])
    (.ret)) .skip))
  (.seq (.dreg [⟨(some 23), .loadn 2 (.t 2), none, []⟩,
      ⟨(some 24), .loadn 2 (.t 5), none, []⟩,
      ⟨(some 25), .call (.c (.fn 95 [] [])) [.t 23, .t 24], none, [1, 0]⟩,
      ⟨(some 26), .loadn 2 (.t 3), none, []⟩,
      ⟨(some 27), .loadn 2 (.t 5), none, []⟩,
      ⟨(some 28), .call (.c (.fn 95 [] [])) [.t 26, .t 27], none, [0, 1, 2, 4, 3]⟩,
      ⟨(some 29), .build [.int .i64 0, .nils, .int .i64 0, .nils] [(0, 2, .t 25), (2, 2, .t 28)], none, [3, 4, 0, 1, 5, 2]⟩,
      ⟨none, .store 4 (.t 4) (.t 29), none, [4, 3, 2, 1, 0, 5, 6]⟩])
  (.ret))))), 30, [.cn 4 4]⟩
def xf84 : XFunc := ⟨.seq (.reg [⟨(some 4), .new 152 [.int .i64 0, .nils, .int .i64 0, .nils], none, []⟩])
  (.seq (.reg [⟨(some 5), .mov (.t 0), none, []⟩,
      ⟨(some 6), .call (.c (.fn 89 [] [])) [.t 5], none, []⟩,
      ⟨(some 7), .mov (.t 1), none, []⟩,
      ⟨(some 8), .call (.c (.fn 89 [] [])) [.t 7], none, []⟩,
      ⟨(some 9), .call (.c (.fn 88 [] [])) [.t 6, .t 8], none, []⟩,
      ⟨none, .store 4 (.t 4) (.t 9), none, []⟩])
  (.ret)), 10, [.cn 4 4]⟩
def xf75 : XFunc := ⟨.seq (.reg [⟨(some 2), .box 152 (.t 0), none, []⟩,
      ⟨(some 3), .box 152 (.t 1), none, []⟩,
      ⟨(some 4), .mov (.c (.int .i64 0)), none, []⟩])
  (.seq (.dreg [⟨(some 5), .faddr 0 (.t 2), none, []⟩,
      ⟨(some 6), .loadn 2 (.t 5), none, [0]⟩,
      ⟨(some 7), .faddr 2 (.t 3), none, []⟩,
      ⟨(some 8), .loadn 2 (.t 7), none, [2]⟩,
      ⟨(some 9), .call (.c (.fn 83 [] [])) [.t 6, .t 8], none, [2, 0, 3, 1]⟩,
      ⟨(some 10), .faddr 0 (.t 3), none, []⟩,
      ⟨(some 11), .loadn 2 (.t 10), none, [5]⟩,
      ⟨(some 12), .faddr 2 (.t 2), none, []⟩,
      ⟨(some 13), .loadn 2 (.t 12), none, [7]⟩,
      ⟨(some 14), .call (.c (.fn 83 [] [])) [.t 11, .t 13], none, [1, 3, 0, 2, 7, 5, 4, 8, 6]⟩,
      ⟨(some 15), .call (.c (.fn 82 [] [])) [.t 9, .t 14], none, [6, 8, 5, 7, 1, 3, 0, 2, 9, 4]⟩,
      ⟨(some 4), .mov (.t 15), none, [9, 8, 7, 6, 5, 4, 3, 2, 1, 0, 10]⟩])
  (.ret)), 16, [.t 4]⟩
structure WideCode (X : FuncId → Option XFunc) : Prop where
  h92 : X 92 = some xf92
  h87 : X 87 = some xf87
  h89 : X 89 = some xf89
  h96 : X 96 = some xf96
  h98 : X 98 = some xf98
  h101 : X 101 = some xf101
  h97 : X 97 = some xf97
  h99 : X 99 = some xf99
  h91 : X 91 = some xf91
  h90 : X 90 = some xf90
  h86 : X 86 = some xf86
  h82 : X 82 = some xf82
  h83 : X 83 = some xf83
  h95 : X 95 = some xf95
  h93 : X 93 = some xf93
  h100 : X 100 = some xf100
  h94 : X 94 = some xf94
  h88 : X 88 = some xf88
  h84 : X 84 = some xf84
  h75 : X 75 = some xf75
end Go.Proofs.Ytbgjmclpahganaa.Eng

/-
  CODE of VTab.
-/
namespace Go.Proofs.Ytbgjmclpahganaa.Eng
set_option linter.unusedSimpArgs false
set_option linter.unusedVariables false
def xf17 : XFunc := ⟨.seq (.reg [⟨(some 1), .box 24 (.t 0), none, []⟩,
      ⟨(some 2), .mov (.c (.bool false)), none, []⟩])
  (.seq (.reg [⟨(some 3), .faddr 0 (.t 1), none, []⟩,
      ⟨(some 4), .load1 (.t 3), none, []⟩,
      ⟨(some 5), .len (.t 4), none, []⟩,
      ⟨(some 6), .bin .leq (.t 5) (.c (.int .i64 12)), none, []⟩,
      ⟨(some 2), .mov (.t 6), none, []⟩])
  (.ret)), 7, [.t 2]⟩
def xf72 : XFunc := ⟨.seq (.reg [⟨(some 1), .box 24 (.t 0), none, []⟩,
      ⟨(some 2), .mov (.c (.int .i64 0)), none, []⟩,
      ⟨(some 3), .mov (.c (.int .i64 0)), none, []⟩])
  (.seq (.dreg [⟨(some 5), .faddr 0 (.t 1), none, []⟩,
      ⟨(some 6), .load1 (.t 5), none, [0]⟩,
      ⟨(some 7), .len (.t 6), none, [0, 1]⟩,
      ⟨(some 8), .bin .lss (.t 7) (.c (.int .i64 2)), none, [1, 0, 2]⟩,
      ⟨(some 9), .call (.c (.fn 43 [] [])) [.t 8, .c (.int .i64 10)], none, [2, 0, 1, 3]⟩,
      ⟨(some 10), .faddr 0 (.t 1), none, []⟩,
      ⟨(some 11), .load1 (.t 10), none, [5]⟩,
      ⟨(some 12), .len (.t 11), none, [5, 6]⟩,
      ⟨(some 13), .bin .gtr (.t 12) (.c (.int .i64 10)), none, [6, 5, 7]⟩,
      ⟨(some 14), .call (.c (.fn 43 [] [])) [.t 13, .c (.int .i64 8)], none, [3, 1, 0, 2, 7, 5, 6, 4, 8]⟩,
      ⟨(some 15), .buildSlice 116 1 2 false [.nilfn, .nilfn] [(0, 1, .t 9), (1, 1, .t 14)], none, [8, 6, 5, 7, 3, 1, 0, 2, 9, 4]⟩,
      ⟨(some 16), .call (.c (.fn 42 [] [])) [.t 15], none, [4, 2, 0, 1, 3, 7, 5, 6, 8, 9, 10]⟩,
      ⟨(some 4), .mov (.t 16), none, [10, 9, 8, 7, 6, 5, 4, 3, 2, 1, 0, 11]⟩])
  (.seq (.seq (.reg [⟨(some 17), .mov (.t 4), none, []⟩,
      ⟨(some 18), .bin .neq (.t 17) (.c (.int .i64 0)), none, []⟩])
  (.cond (.t 18) (.seq (.reg [⟨(some 19), .mov (.t 4), none, []⟩,
        ⟨(some 2), .mov (.c (.int .i64 0)), none, []⟩,
        ⟨(some 3), .mov (.t 19), none, []⟩])
    (.ret)) .skip))
  (.seq (.reg [⟨(some 20), .faddr 0 (.t 1), none, []⟩,
      ⟨(some 21), .load1 (.t 20), none, []⟩,
      ⟨(some 22), .len (.t 21), none, []⟩,
      ⟨(some 23), .fn true 80 [] [.t 1], none, []⟩,
      ⟨(some 24), .call (.c (.fn 39 [] [])) [.t 22, .t 23], none, []⟩,
      ⟨(some 25), .extract (.t 24) 0, none, []⟩,
      ⟨(some 26), .extract (.t 24) 1, none, []⟩,
      ⟨(some 2), .mov (.t 25), none, []⟩,
      ⟨(some 3), .mov (.t 26), none, []⟩])
  (.ret)))), 27, [.t 2, .t 3]⟩
def xf26 : XFunc := ⟨.seq (.reg [⟨(some 1), .box 24 (.t 0), none, []⟩,
      ⟨(some 2), .new 24 [.nils], none, []⟩])
  (.seq (.reg [⟨(some 3), .buildSlice 104 2 0 true [] [], none, []⟩,
      ⟨(some 4), .faddr 0 (.t 1), none, []⟩,
      ⟨(some 5), .load1 (.t 4), none, []⟩,
      ⟨(some 6), .append 104 2 16 (.t 3) (.t 5), none, []⟩,
      ⟨(some 7), .build [.nils] [(0, 1, .t 6)], none, []⟩,
      ⟨none, .store 1 (.t 2) (.t 7), none, []⟩])
  (.ret)), 8, [.cn 2 1]⟩
def xf15 : XFunc := ⟨.seq (.reg [⟨(some 2), .box 24 (.t 0), none, []⟩,
      ⟨(some 4), .new 30 [.int .i64 0, .int .i64 0], none, []⟩,
      ⟨(some 5), .mov (.c (.int .i64 0)), none, []⟩])
  (.seq (.reg [⟨(some 9), .loadn 1 (.t 2), none, []⟩,
      ⟨(some 10), .mov (.t 1), none, []⟩,
      ⟨(some 11), .call (.c (.fn 31 [] [])) [.t 9, .t 10], none, []⟩,
      ⟨(some 8), .mov (.t 11), none, []⟩,
      ⟨(some 12), .extract (.t 8) 0, none, []⟩,
      ⟨(some 13), .extract (.t 8) 1, none, []⟩,
      ⟨(some 6), .new 69 [.nils], none, []⟩,
      ⟨none, .store 1 (.t 6) (.t 12), none, []⟩,
      ⟨(some 7), .mov (.t 13), none, []⟩])
  (.seq (.seq (.reg [⟨(some 14), .mov (.t 7), none, []⟩,
      ⟨(some 15), .bin .neq (.t 14) (.c (.int .i64 0)), none, []⟩])
  (.cond (.t 15) (.seq (.reg [⟨(some 16), .build [.int .i64 0, .int .i64 0] [], none, []⟩,
        ⟨(some 17), .mov (.t 7), none, []⟩,
        ⟨none, .store 2 (.t 4) (.t 16), none, []⟩,
        ⟨(some 5), .mov (.t 17), none, []⟩])
    (.ret)) .skip))
  (.seq (.reg [⟨(some 18), .loadn 1 (.t 6), none, []⟩,
      ⟨(some 19), .mov (.t 1), none, []⟩,
      ⟨(some 20), .call (.c (.fn 32 [] [])) [.t 18, .t 19], none, []⟩,
      ⟨(some 21), .call (.c (.fn 33 [] [])) [.t 20], none, []⟩,
      ⟨none, .store 2 (.t 4) (.t 21), none, []⟩,
      ⟨(some 5), .mov (.c (.int .i64 0)), none, []⟩])
  (.ret)))), 22, [.cn 4 2, .t 5]⟩
def xf60l0 : XCode := .seq (.seq (.reg [⟨(some 14), .mov (.t 4), none, []⟩,
      ⟨(some 15), .faddr 0 (.t 1), none, []⟩,
      ⟨(some 16), .load1 (.t 15), none, []⟩,
      ⟨(some 17), .len (.t 16), none, []⟩,
      ⟨(some 18), .bin .lss (.t 14) (.t 17), none, []⟩])
  (.cond (.t 18) .skip (.exit 0)))
  (.seq (.block 1 (.seq (.reg [⟨(some 21), .faddr 0 (.t 1), none, []⟩,
        ⟨(some 22), .load1 (.t 21), none, []⟩,
        ⟨(some 23), .mov (.t 4), none, []⟩,
        ⟨(some 24), .iaddr 2 (.t 22) (.t 23), none, []⟩,
        ⟨(some 25), .loadn 2 (.t 24), none, []⟩,
        ⟨(some 5), .new 104 [.int .i64 0, .int .i64 0], none, []⟩,
        ⟨none, .store 2 (.t 5) (.t 25), none, []⟩])
    (.seq (.seq (.reg [⟨(some 26), .faddr 0 (.t 5), none, []⟩,
        ⟨(some 27), .load1 (.t 26), none, []⟩,
        ⟨(some 28), .call (.c (.fn 11 [] [])) [.t 27, .c (.int .i64 0), .c (.int .i64 1000000)], none, []⟩,
        ⟨(some 29), .un .not (.t 28), none, []⟩,
        ⟨(some 30), .mov (.t 29), none, []⟩,
        ⟨(some 31), .faddr 1 (.t 5), (some (30, false)), []⟩,
        ⟨(some 32), .load1 (.t 31), (some (30, false)), []⟩,
        ⟨(some 33), .call (.c (.fn 11 [] [])) [.t 32, .c (.int .i64 0), .c (.int .i64 1000000000)], (some (30, false)), []⟩,
        ⟨(some 34), .un .not (.t 33), (some (30, false)), []⟩,
        ⟨(some 35), .pick (.t 30) (.c (.bool true)) (.t 34), none, []⟩])
    (.cond (.t 35) (.seq (.reg [⟨(some 36), .mov (.t 4), none, []⟩,
          ⟨(some 2), .mov (.t 36), none, []⟩,
          ⟨(some 3), .mov (.c (.int .i64 2)), none, []⟩])
      (.ret)) .skip))
    (.seq (.seq (.reg [⟨(some 37), .mov (.t 4), none, []⟩,
        ⟨(some 38), .bin .eql (.t 37) (.c (.int .i64 0)), none, []⟩])
    (.cond (.t 38) (.exit 1) .skip))
    (.seq (.seq (.dreg [⟨(some 39), .faddr 0 (.t 5), none, []⟩,
        ⟨(some 40), .load1 (.t 39), none, [0]⟩,
        ⟨(some 41), .faddr 0 (.t 1), none, []⟩,
        ⟨(some 42), .load1 (.t 41), none, [2]⟩,
        ⟨(some 43), .mov (.t 4), none, []⟩,
        ⟨(some 44), .bin .sub (.t 43) (.c (.int .i64 1)), none, [4]⟩,
        ⟨(some 45), .iaddr 2 (.t 42) (.t 44), none, [4, 2, 5, 3]⟩,
        ⟨(some 46), .faddr 0 (.t 45), none, [3, 5, 2, 4, 6]⟩,
        ⟨(some 47), .load1 (.t 46), none, [6, 4, 2, 5, 3, 7]⟩,
        ⟨(some 48), .bin .leq (.t 40) (.t 47), none, [7, 3, 5, 2, 4, 6, 0, 8, 1]⟩,
        ⟨(some 49), .mov (.t 48), none, [1, 8, 0, 6, 4, 2, 5, 3, 7, 9]⟩,
        ⟨(some 50), .faddr 1 (.t 5), (some (49, false)), [9, 7, 3, 5, 2, 4, 6, 0, 8, 1, 10]⟩,
        ⟨(some 51), .load1 (.t 50), (some (49, false)), [1, 8, 0, 6, 4, 2, 5, 3, 7, 9, 10, 11]⟩,
        ⟨(some 52), .faddr 0 (.t 1), (some (49, false)), [9, 7, 3, 5, 2, 4, 6, 0, 8, 1, 10]⟩,
        ⟨(some 53), .load1 (.t 52), (some (49, false)), [1, 8, 0, 6, 4, 2, 5, 3, 7, 9, 10, 13]⟩,
        ⟨(some 54), .mov (.t 4), (some (49, false)), [9, 7, 3, 5, 2, 4, 6, 0, 8, 1, 10]⟩,
        ⟨(some 55), .bin .sub (.t 54) (.c (.int .i64 1)), (some (49, false)), [1, 8, 0, 6, 4, 2, 5, 3, 7, 9, 10, 15]⟩,
        ⟨(some 56), .iaddr 2 (.t 53) (.t 55), (some (49, false)), [15, 13, 9, 7, 3, 5, 2, 4, 6, 0, 8, 1, 10, 16, 14]⟩,
        ⟨(some 57), .faddr 1 (.t 56), (some (49, false)), [14, 16, 1, 8, 0, 6, 4, 2, 5, 3, 7, 9, 13, 15, 10, 17]⟩,
        ⟨(some 58), .load1 (.t 57), (some (49, false)), [17, 15, 13, 9, 7, 3, 5, 2, 4, 6, 0, 8, 1, 16, 14, 10, 18]⟩,
        ⟨(some 59), .bin .leq (.t 51) (.t 58), (some (49, false)), [18, 14, 16, 13, 15, 17, 11, 9, 7, 3, 5, 2, 4, 6, 0, 8, 1, 10, 19, 12]⟩,
        ⟨(some 60), .pick (.t 49) (.c (.bool true)) (.t 59), none, [12, 19, 11, 17, 15, 13, 16, 14, 18, 9, 7, 3, 5, 2, 4, 6, 0, 8, 1, 20, 10]⟩])
    (.cond (.t 60) (.seq (.reg [⟨(some 61), .mov (.t 4), none, []⟩,
          ⟨(some 2), .mov (.t 61), none, []⟩,
          ⟨(some 3), .mov (.c (.int .i64 9)), none, []⟩])
      (.ret)) .skip))
    (.seq (.dreg [⟨(some 62), .mov (.t 4), none, []⟩,
        ⟨(some 63), .bin .gtr (.t 62) (.c (.int .i64 1)), none, [0]⟩,
        ⟨(some 64), .mov (.t 63), none, [0, 1]⟩,
        ⟨(some 65), .loadn 1 (.t 1), (some (64, true)), [1, 0, 2]⟩,
        ⟨(some 66), .mov (.t 4), (some (64, true)), [1, 0, 2]⟩,
        ⟨(some 67), .call (.c (.fn 76 [] [])) [.t 65, .t 66], (some (64, true)), [0, 1, 2, 4, 3]⟩,
        ⟨(some 68), .loadn 1 (.t 1), (some (64, true)), [1, 0, 2]⟩,
        ⟨(some 69), .mov (.t 4), (some (64, true)), [1, 0, 2]⟩,
        ⟨(some 70), .bin .sub (.t 69) (.c (.int .i64 1)), (some (64, true)), [0, 1, 2, 7]⟩,
        ⟨(some 71), .call (.c (.fn 76 [] [])) [.t 68, .t 70], (some (64, true)), [3, 4, 7, 0, 1, 2, 5, 8, 6]⟩,
        ⟨(some 72), .call (.c (.fn 75 [] [])) [.t 67, .t 71], (some (64, true)), [6, 8, 7, 3, 4, 1, 0, 2, 9, 5]⟩,
        ⟨(some 73), .bin .lss (.t 72) (.c (.int .i64 0)), (some (64, true)), [5, 9, 0, 1, 4, 3, 7, 8, 6, 2, 10]⟩,
        ⟨(some 74), .pick (.t 64) (.t 73) (.c (.bool false)), none, [10, 6, 8, 7, 3, 4, 9, 5, 1, 0, 11, 2]⟩])
    (.cond (.t 74) (.seq (.reg [⟨(some 75), .mov (.t 4), none, []⟩,
          ⟨(some 2), .mov (.t 75), none, []⟩,
          ⟨(some 3), .mov (.c (.int .i64 22)), none, []⟩])
      (.ret)) .skip)))))))
  (.reg [⟨(some 19), .mov (.t 4), none, []⟩,
      ⟨(some 20), .bin .add (.t 19) (.c (.int .i64 1)), none, []⟩,
      ⟨(some 4), .mov (.t 20), none, []⟩]))
def xf60 : XFunc := ⟨.seq (.reg [⟨(some 1), .box 24 (.t 0), none, []⟩,
      ⟨(some 2), .mov (.c (.int .i64 0)), none, []⟩,
      ⟨(some 3), .mov (.c (.int .i64 0)), none, []⟩])
  (.seq (.seq (.reg [⟨(some 6), .faddr 0 (.t 1), none, []⟩,
      ⟨(some 7), .load1 (.t 6), none, []⟩,
      ⟨(some 8), .len (.t 7), none, []⟩,
      ⟨(some 9), .bin .lss (.t 8) (.c (.int .i64 2)), none, []⟩])
  (.cond (.t 9) (.seq (.reg [⟨(some 2), .mov (.c (.int .i64 0)), none, []⟩,
        ⟨(some 3), .mov (.c (.int .i64 10)), none, []⟩])
    (.ret)) .skip))
  (.seq (.seq (.reg [⟨(some 10), .faddr 0 (.t 1), none, []⟩,
      ⟨(some 11), .load1 (.t 10), none, []⟩,
      ⟨(some 12), .len (.t 11), none, []⟩,
      ⟨(some 13), .bin .gtr (.t 12) (.c (.int .i64 10)), none, []⟩])
  (.cond (.t 13) (.seq (.reg [⟨(some 2), .mov (.c (.int .i64 0)), none, []⟩,
        ⟨(some 3), .mov (.c (.int .i64 8)), none, []⟩])
    (.ret)) .skip))
  (.seq (.seq (.reg [⟨(some 4), .mov (.c (.int .i64 0)), none, []⟩])
  (.block 0 (.loop xf60l0)))
  (.seq (.reg [⟨(some 2), .mov (.c (.int .i64 0)), none, []⟩,
      ⟨(some 3), .mov (.c (.int .i64 0)), none, []⟩])
  (.ret))))), 76, [.t 2, .t 3]⟩
def xf63 : XFunc := ⟨.seq (.reg [⟨(some 2), .box 24 (.t 0), none, []⟩,
      ⟨(some 4), .mov (.c (.bool false)), none, []⟩])
  (.seq (.dreg [⟨(some 5), .mov (.t 1), none, []⟩,
      ⟨(some 6), .loadn 1 (.t 2), none, []⟩,
      ⟨(some 7), .call (.c (.fn 61 [] [])) [.t 6], none, [1]⟩,
      ⟨(some 8), .field 0 1 false (.t 7), none, [1, 2]⟩,
      ⟨(some 9), .loadn 1 (.t 2), none, []⟩,
      ⟨(some 10), .call (.c (.fn 62 [] [])) [.t 9], none, [1, 2, 4]⟩,
      ⟨(some 11), .field 0 1 false (.t 10), none, [4, 2, 1, 5]⟩,
      ⟨(some 12), .call (.c (.fn 11 [] [])) [.t 5, .t 8, .t 11], none, [4, 2, 1, 5, 6, 3, 0]⟩,
      ⟨(some 4), .mov (.t 12), none, [6, 5, 4, 3, 2, 1, 0, 7]⟩])
  (.ret)), 13, [.t 4]⟩
def xf35 : XFunc := ⟨.seq (.reg [⟨(some 2), .box 24 (.t 0), none, []⟩,
      ⟨(some 4), .mov (.c (.bool false)), none, []⟩])
  (.seq (.dreg [⟨(some 5), .mov (.t 1), none, []⟩,
      ⟨(some 6), .loadn 1 (.t 2), none, []⟩,
      ⟨(some 7), .call (.c (.fn 61 [] [])) [.t 6], none, [1]⟩,
      ⟨(some 8), .field 1 1 false (.t 7), none, [1, 2]⟩,
      ⟨(some 9), .loadn 1 (.t 2), none, []⟩,
      ⟨(some 10), .call (.c (.fn 62 [] [])) [.t 9], none, [1, 2, 4]⟩,
      ⟨(some 11), .field 1 1 false (.t 10), none, [4, 2, 1, 5]⟩,
      ⟨(some 12), .call (.c (.fn 11 [] [])) [.t 5, .t 8, .t 11], none, [4, 2, 1, 5, 6, 3, 0]⟩,
      ⟨(some 4), .mov (.t 12), none, [6, 5, 4, 3, 2, 1, 0, 7]⟩])
  (.ret)), 13, [.t 4]⟩
def xf34 : XFunc := ⟨.seq (.reg [⟨(some 1), .box 24 (.t 0), none, []⟩,
      ⟨(some 2), .mov (.c (.int .i64 0)), none, []⟩])
  (.seq (.reg [⟨(some 6), .loadn 1 (.t 1), none, []⟩,
      ⟨(some 7), .call (.c (.fn 60 [] [])) [.t 6], none, []⟩,
      ⟨(some 5), .mov (.t 7), none, []⟩,
      ⟨(some 8), .extract (.t 5) 0, none, []⟩,
      ⟨(some 9), .extract (.t 5) 1, none, []⟩,
      ⟨(some 3), .mov (.t 8), none, []⟩,
      ⟨(some 4), .mov (.t 9), none, []⟩])
  (.seq (.reg [⟨(some 10), .mov (.t 4), none, []⟩,
      ⟨(some 2), .mov (.t 10), none, []⟩])
  (.ret))), 11, [.t 2]⟩
def xf62 : XFunc := ⟨.seq (.reg [⟨(some 1), .box 24 (.t 0), none, []⟩,
      ⟨(some 2), .new 104 [.int .i64 0, .int .i64 0], none, []⟩])
  (.seq (.reg [⟨(some 3), .faddr 0 (.t 1), none, []⟩,
      ⟨(some 4), .load1 (.t 3), none, []⟩,
      ⟨(some 5), .faddr 0 (.t 1), none, []⟩,
      ⟨(some 6), .load1 (.t 5), none, []⟩,
      ⟨(some 7), .len (.t 6), none, []⟩,
      ⟨(some 8), .bin .sub (.t 7) (.c (.int .i64 1)), none, []⟩,
      ⟨(some 9), .iaddr 2 (.t 4) (.t 8), none, []⟩,
      ⟨(some 10), .loadn 2 (.t 9), none, []⟩,
      ⟨none, .store 2 (.t 2) (.t 10), none, []⟩])
  (.ret)), 11, [.cn 2 2]⟩
def xf80 : XFunc := ⟨.seq (.reg [⟨(some 3), .mov (.c (.int .i64 0)), none, []⟩])
  (.seq (.reg [⟨(some 4), .faddr 0 (.t 1), none, []⟩,
      ⟨(some 5), .load1 (.t 4), none, []⟩,
      ⟨(some 6), .mov (.t 0), none, []⟩,
      ⟨(some 7), .bin .add (.t 6) (.c (.int .i64 1)), none, []⟩,
      ⟨(some 8), .slice 2 (.t 5) none (some (.t 7)), none, []⟩,
      ⟨(some 9), .call (.c (.fn 81 [] [])) [.t 8], none, []⟩,
      ⟨(some 3), .mov (.t 9), none, []⟩])
  (.ret)), 10, [.t 3]⟩
def xf81 : XFunc := ⟨.seq (.reg [⟨(some 2), .mov (.c (.int .i64 0)), none, []⟩])
  (.seq (.reg [⟨(some 6), .mov (.t 0), none, []⟩,
      ⟨(some 7), .len (.t 6), none, []⟩,
      ⟨(some 3), .mov (.t 7), none, []⟩])
  (.seq (.reg [⟨(some 8), .mov (.t 0), none, []⟩,
      ⟨(some 9), .mov (.t 3), none, []⟩,
      ⟨(some 10), .bin .sub (.t 9) (.c (.int .i64 1)), none, []⟩,
      ⟨(some 11), .iaddr 2 (.t 8) (.t 10), none, []⟩,
      ⟨(some 12), .loadn 2 (.t 11), none, []⟩,
      ⟨(some 4), .new 104 [.int .i64 0, .int .i64 0], none, []⟩,
      ⟨none, .store 2 (.t 4) (.t 12), none, []⟩])
  (.seq (.seq (.reg [⟨(some 13), .faddr 0 (.t 4), none, []⟩,
      ⟨(some 14), .load1 (.t 13), none, []⟩,
      ⟨(some 15), .call (.c (.fn 52 [] [])) [.t 14, .c (.int .i64 0), .c (.int .i64 1000000)], none, []⟩,
      ⟨(some 16), .un .not (.t 15), none, []⟩,
      ⟨(some 17), .mov (.t 16), none, []⟩,
      ⟨(some 18), .faddr 1 (.t 4), (some (17, false)), []⟩,
      ⟨(some 19), .load1 (.t 18), (some (17, false)), []⟩,
      ⟨(some 20), .call (.c (.fn 52 [] [])) [.t 19, .c (.int .i64 0), .c (.int .i64 1000000000)], (some (17, false)), []⟩,
      ⟨(some 21), .un .not (.t 20), (some (17, false)), []⟩,
      ⟨(some 22), .pick (.t 17) (.c (.bool true)) (.t 21), none, []⟩])
  (.cond (.t 22) (.seq (.reg [⟨(some 2), .mov (.c (.int .i64 2)), none, []⟩])
    (.ret)) .skip))
  (.seq (.seq (.reg [⟨(some 23), .mov (.t 3), none, []⟩,
      ⟨(some 24), .bin .lss (.t 23) (.c (.int .i64 2)), none, []⟩])
  (.cond (.t 24) (.seq (.reg [⟨(some 2), .mov (.c (.int .i64 0)), none, []⟩])
    (.ret)) .skip))
  (.seq (.dreg [⟨(some 25), .mov (.t 0), none, []⟩,
      ⟨(some 26), .mov (.t 3), none, []⟩,
      ⟨(some 27), .bin .sub (.t 26) (.c (.int .i64 2)), none, [1]⟩,
      ⟨(some 28), .iaddr 2 (.t 25) (.t 27), none, [1, 2, 0]⟩,
      ⟨(some 29), .loadn 2 (.t 28), none, [0, 2, 1, 3]⟩,
      ⟨(some 30), .loadn 2 (.t 4), none, []⟩,
      ⟨(some 31), .build [.int .i64 0, .int .i64 0, .int .i64 0, .int .i64 0] [(0, 2, .t 29), (2, 2, .t 30)], none, [3, 1, 2, 0, 5, 4]⟩,
      ⟨(some 5), .new 132 [.int .i64 0, .int .i64 0, .int .i64 0, .int .i64 0], none, []⟩,
      ⟨none, .store 4 (.t 5) (.t 31), none, [5, 4, 3, 2, 1, 0, 6, 7]⟩])
  (.seq (.seq (.reg [⟨(some 32), .loadn 4 (.t 5), none, []⟩,
      ⟨(some 33), .call (.c (.fn 71 [] [])) [.t 32], none, []⟩,
      ⟨(some 34), .bin .leq (.t 33) (.c (.int .i64 0)), none, []⟩,
      ⟨(some 35), .mov (.t 34), none, []⟩,
      ⟨(some 36), .loadn 4 (.t 5), (some (35, false)), []⟩,
      ⟨(some 37), .call (.c (.fn 70 [] [])) [.t 36], (some (35, false)), []⟩,
      ⟨(some 38), .bin .leq (.t 37) (.c (.int .i64 0)), (some (35, false)), []⟩,
      ⟨(some 39), .pick (.t 35) (.c (.bool true)) (.t 38), none, []⟩])
  (.cond (.t 39) (.seq (.reg [⟨(some 2), .mov (.c (.int .i64 9)), none, []⟩])
    (.ret)) .skip))
  (.seq (.seq (.dreg [⟨(some 40), .mov (.t 3), none, []⟩,
      ⟨(some 41), .bin .gtr (.t 40) (.c (.int .i64 2)), none, [0]⟩,
      ⟨(some 42), .mov (.t 41), none, [0, 1]⟩,
      ⟨(some 43), .loadn 4 (.t 5), (some (42, true)), [1, 0, 2]⟩,
      ⟨(some 44), .mov (.t 0), (some (42, true)), [1, 0, 2]⟩,
      ⟨(some 45), .mov (.t 3), (some (42, true)), [1, 0, 2]⟩,
      ⟨(some 46), .bin .sub (.t 45) (.c (.int .i64 3)), (some (42, true)), [0, 1, 2, 5]⟩,
      ⟨(some 47), .iaddr 2 (.t 44) (.t 46), (some (42, true)), [5, 0, 1, 2, 6, 4]⟩,
      ⟨(some 48), .loadn 2 (.t 47), (some (42, true)), [4, 6, 1, 0, 5, 2, 7]⟩,
      ⟨(some 49), .mov (.t 0), (some (42, true)), [1, 0, 2]⟩,
      ⟨(some 50), .mov (.t 3), (some (42, true)), [1, 0, 2]⟩,
      ⟨(some 51), .bin .sub (.t 50) (.c (.int .i64 2)), (some (42, true)), [0, 1, 2, 10]⟩,
      ⟨(some 52), .iaddr 2 (.t 49) (.t 51), (some (42, true)), [10, 0, 1, 2, 11, 9]⟩,
      ⟨(some 53), .loadn 2 (.t 52), (some (42, true)), [9, 11, 1, 0, 10, 2, 12]⟩,
      ⟨(some 54), .build [.int .i64 0, .int .i64 0, .int .i64 0, .int .i64 0] [(0, 2, .t 48), (2, 2, .t 53)], (some (42, true)), [12, 10, 11, 9, 7, 5, 0, 1, 6, 4, 2, 13, 8]⟩,
      ⟨(some 55), .call (.c (.fn 85 [] [])) [.t 43, .t 54], (some (42, true)), [8, 13, 4, 6, 5, 7, 9, 11, 10, 12, 0, 1, 2, 14, 3]⟩,
      ⟨(some 56), .pick (.t 42) (.t 55) (.c (.bool false)), none, [3, 14, 12, 10, 11, 9, 7, 5, 6, 4, 13, 8, 1, 0, 15, 2]⟩])
  (.cond (.t 56) (.seq (.reg [⟨(some 2), .mov (.c (.int .i64 22)), none, []⟩])
    (.ret)) .skip))
  (.seq (.reg [⟨(some 2), .mov (.c (.int .i64 0)), none, []⟩])
  (.ret))))))))), 57, [.t 2]⟩
def xf56 : XFunc := ⟨.seq (.reg [⟨(some 1), .box 24 (.t 0), none, []⟩,
      ⟨(some 2), .new 69 [.nils], none, []⟩,
      ⟨(some 3), .mov (.c (.int .i64 0)), none, []⟩])
  (.seq (.reg [⟨(some 7), .loadn 1 (.t 1), none, []⟩,
      ⟨(some 8), .call (.c (.fn 72 [] [])) [.t 7], none, []⟩,
      ⟨(some 6), .mov (.t 8), none, []⟩,
      ⟨(some 9), .extract (.t 6) 0, none, []⟩,
      ⟨(some 10), .extract (.t 6) 1, none, []⟩,
      ⟨(some 4), .mov (.t 9), none, []⟩,
      ⟨(some 5), .mov (.t 10), none, []⟩])
  (.seq (.reg [⟨(some 11), .loadn 1 (.t 1), none, []⟩,
      ⟨(some 12), .build [.nils] [(0, 1, .t 11)], none, []⟩,
      ⟨(some 13), .mov (.t 5), none, []⟩,
      ⟨none, .store 1 (.t 2) (.t 12), none, []⟩,
      ⟨(some 3), .mov (.t 13), none, []⟩])
  (.ret))), 14, [.cn 2 1, .t 3]⟩
def xf77 : XFunc := ⟨.seq (.reg [⟨(some 2), .box 69 (.t 0), none, []⟩,
      ⟨(some 4), .mov (.c (.bool false)), none, []⟩])
  (.seq (.dreg [⟨(some 5), .mov (.t 1), none, []⟩,
      ⟨(some 6), .loadn 1 (.t 2), none, []⟩,
      ⟨(some 7), .call (.c (.fn 54 [] [])) [.t 6], none, [1]⟩,
      ⟨(some 8), .field 0 1 false (.t 7), none, [1, 2]⟩,
      ⟨(some 9), .loadn 1 (.t 2), none, []⟩,
      ⟨(some 10), .call (.c (.fn 55 [] [])) [.t 9], none, [1, 2, 4]⟩,
      ⟨(some 11), .field 0 1 false (.t 10), none, [4, 2, 1, 5]⟩,
      ⟨(some 12), .call (.c (.fn 52 [] [])) [.t 5, .t 8, .t 11], none, [4, 2, 1, 5, 6, 3, 0]⟩,
      ⟨(some 4), .mov (.t 12), none, [6, 5, 4, 3, 2, 1, 0, 7]⟩])
  (.ret)), 13, [.t 4]⟩
def xf33 : XFunc := ⟨.seq (.reg [⟨(some 1), .box 100 (.t 0), none, []⟩,
      ⟨(some 2), .new 30 [.int .i64 0, .int .i64 0], none, []⟩])
  (.seq (.dreg [⟨(some 3), .faddr 0 (.t 1), none, []⟩,
      ⟨(some 4), .load1 (.t 3), none, [0]⟩,
      ⟨(some 5), .loadn 3 (.t 1), none, []⟩,
      ⟨(some 6), .call (.c (.fn 59 [] [])) [.t 5], none, [2]⟩,
      ⟨(some 7), .build [.int .i64 0, .int .i64 0] [(0, 1, .t 4), (1, 1, .t 6)], none, [2, 0, 3, 1]⟩,
      ⟨none, .store 2 (.t 2) (.t 7), none, [2, 1, 0, 3, 4]⟩])
  (.ret)), 8, [.cn 2 2]⟩
def xf31 : XFunc := ⟨.seq (.reg [⟨(some 2), .box 24 (.t 0), none, []⟩,
      ⟨(some 4), .new 69 [.nils], none, []⟩,
      ⟨(some 5), .mov (.c (.int .i64 0)), none, []⟩])
  (.seq (.reg [⟨(some 9), .loadn 1 (.t 2), none, []⟩,
      ⟨(some 10), .call (.c (.fn 56 [] [])) [.t 9], none, []⟩,
      ⟨(some 8), .mov (.t 10), none, []⟩,
      ⟨(some 11), .extract (.t 8) 0, none, []⟩,
      ⟨(some 12), .extract (.t 8) 1, none, []⟩,
      ⟨(some 6), .new 69 [.nils], none, []⟩,
      ⟨none, .store 1 (.t 6) (.t 11), none, []⟩,
      ⟨(some 7), .mov (.t 12), none, []⟩])
  (.seq (.seq (.reg [⟨(some 13), .mov (.t 7), none, []⟩,
      ⟨(some 14), .bin .eql (.t 13) (.c (.int .i64 0)), none, []⟩,
      ⟨(some 15), .mov (.t 14), none, []⟩,
      ⟨(some 16), .loadn 1 (.t 6), (some (15, true)), []⟩,
      ⟨(some 17), .mov (.t 1), (some (15, true)), []⟩,
      ⟨(some 18), .call (.c (.fn 41 [] [])) [.t 16, .t 17], (some (15, true)), []⟩,
      ⟨(some 19), .un .not (.t 18), (some (15, true)), []⟩,
      ⟨(some 20), .pick (.t 15) (.t 19) (.c (.bool false)), none, []⟩])
  (.cond (.t 20) (.reg [⟨(some 7), .mov (.c (.int .i64 2)), none, []⟩]) .skip))
  (.seq (.reg [⟨(some 21), .loadn 1 (.t 6), none, []⟩,
      ⟨(some 22), .mov (.t 7), none, []⟩,
      ⟨none, .store 1 (.t 4) (.t 21), none, []⟩,
      ⟨(some 5), .mov (.t 22), none, []⟩])
  (.ret)))), 23, [.cn 4 1, .t 5]⟩
def xf32 : XFunc := ⟨.seq (.reg [⟨(some 2), .box 69 (.t 0), none, []⟩,
      ⟨(some 4), .new 100 [.int .i64 0, .int .i64 0, .int .i64 0], none, []⟩])
  (.seq (.reg [⟨(some 6), .loadn 1 (.t 2), none, []⟩,
      ⟨(some 7), .mov (.t 1), none, []⟩,
      ⟨(some 8), .call (.c (.fn 57 [] [])) [.t 6, .t 7], none, []⟩,
      ⟨(some 5), .new 132 [.int .i64 0, .int .i64 0, .int .i64 0, .int .i64 0], none, []⟩,
      ⟨none, .store 4 (.t 5) (.t 8), none, []⟩])
  (.seq (.reg [⟨(some 9), .mov (.t 1), none, []⟩,
      ⟨(some 10), .faddr 0 (.t 5), none, []⟩,
      ⟨(some 11), .faddr 1 (.t 10), none, []⟩,
      ⟨(some 12), .load1 (.t 11), none, []⟩,
      ⟨(some 13), .faddr 2 (.t 5), none, []⟩,
      ⟨(some 14), .faddr 1 (.t 13), none, []⟩,
      ⟨(some 15), .load1 (.t 14), none, []⟩,
      ⟨(some 16), .faddr 0 (.t 5), none, []⟩,
      ⟨(some 17), .faddr 0 (.t 16), none, []⟩,
      ⟨(some 18), .load1 (.t 17), none, []⟩,
      ⟨(some 19), .faddr 2 (.t 5), none, []⟩,
      ⟨(some 20), .faddr 0 (.t 19), none, []⟩,
      ⟨(some 21), .load1 (.t 20), none, []⟩,
      ⟨(some 22), .call (.c (.fn 58 [] [])) [.t 9, .t 12, .t 15, .t 18, .t 21], none, []⟩,
      ⟨none, .store 3 (.t 4) (.t 22), none, []⟩])
  (.ret))), 23, [.cn 4 3]⟩
def xf57 : XFunc := ⟨.seq (.reg [⟨(some 2), .box 69 (.t 0), none, []⟩,
      ⟨(some 3), .box 3 (.t 1), none, []⟩,
      ⟨(some 4), .new 132 [.int .i64 0, .int .i64 0, .int .i64 0, .int .i64 0], none, []⟩])
  (.seq (.reg [⟨(some 5), .loadn 1 (.t 2), none, []⟩,
      ⟨(some 6), .fn true 74 [] [.t 3], none, []⟩,
      ⟨(some 7), .call (.c (.fn 73 [] [])) [.t 5, .t 6], none, []⟩,
      ⟨none, .store 4 (.t 4) (.t 7), none, []⟩])
  (.ret)), 8, [.cn 4 4]⟩
def xf70 : XFunc := ⟨.seq (.reg [⟨(some 1), .box 132 (.t 0), none, []⟩,
      ⟨(some 2), .mov (.c (.int .i64 0)), none, []⟩])
  (.seq (.reg [⟨(some 3), .faddr 2 (.t 1), none, []⟩,
      ⟨(some 4), .faddr 1 (.t 3), none, []⟩,
      ⟨(some 5), .load1 (.t 4), none, []⟩,
      ⟨(some 6), .faddr 0 (.t 1), none, []⟩,
      ⟨(some 7), .faddr 1 (.t 6), none, []⟩,
      ⟨(some 8), .load1 (.t 7), none, []⟩,
      ⟨(some 9), .bin .sub (.t 5) (.t 8), none, []⟩,
      ⟨(some 2), .mov (.t 9), none, []⟩])
  (.ret)), 10, [.t 2]⟩
def xf71 : XFunc := ⟨.seq (.reg [⟨(some 1), .box 132 (.t 0), none, []⟩,
      ⟨(some 2), .mov (.c (.int .i64 0)), none, []⟩])
  (.seq (.reg [⟨(some 3), .faddr 2 (.t 1), none, []⟩,
      ⟨(some 4), .faddr 0 (.t 3), none, []⟩,
      ⟨(some 5), .load1 (.t 4), none, []⟩,
      ⟨(some 6), .faddr 0 (.t 1), none, []⟩,
      ⟨(some 7), .faddr 0 (.t 6), none, []⟩,
      ⟨(some 8), .load1 (.t 7), none, []⟩,
      ⟨(some 9), .bin .sub (.t 5) (.t 8), none, []⟩,
      ⟨(some 2), .mov (.t 9), none, []⟩])
  (.ret)), 10, [.t 2]⟩
def xf76 : XFunc := ⟨.seq (.reg [⟨(some 2), .box 24 (.t 0), none, []⟩,
      ⟨(some 4), .new 152 [.int .i64 0, .nils, .int .i64 0, .nils], none, []⟩])
  (.seq (.dreg [⟨(some 7), .faddr 0 (.t 2), none, []⟩,
      ⟨(some 8), .load1 (.t 7), none, [0]⟩,
      ⟨(some 9), .mov (.t 1), none, []⟩,
      ⟨(some 10), .bin .sub (.t 9) (.c (.int .i64 1)), none, [2]⟩,
      ⟨(some 11), .iaddr 2 (.t 8) (.t 10), none, [2, 0, 3, 1]⟩,
      ⟨(some 12), .loadn 2 (.t 11), none, [1, 3, 0, 2, 4]⟩,
      ⟨(some 13), .faddr 0 (.t 2), none, []⟩,
      ⟨(some 14), .load1 (.t 13), none, [6]⟩,
      ⟨(some 15), .mov (.t 1), none, []⟩,
      ⟨(some 16), .iaddr 2 (.t 14) (.t 15), none, [6, 8, 7]⟩,
      ⟨(some 17), .loadn 2 (.t 16), none, [7, 8, 6, 9]⟩,
      ⟨(some 5), .new 104 [.int .i64 0, .int .i64 0], none, []⟩,
      ⟨(some 6), .new 104 [.int .i64 0, .int .i64 0], none, []⟩,
      ⟨none, .store 2 (.t 5) (.t 12), none, [12, 4, 3, 2, 1, 0, 5, 11]⟩,
      ⟨none, .store 2 (.t 6) (.t 17), none, [11, 9, 8, 7, 6, 5, 4, 3, 2, 1, 0, 13, 10, 12]⟩])
  (.seq (.reg [⟨(some 18), .faddr 1 (.t 6), none, []⟩,
      ⟨(some 19), .load1 (.t 18), none, []⟩,
      ⟨(some 20), .faddr 1 (.t 5), none, []⟩,
      ⟨(some 21), .load1 (.t 20), none, []⟩,
      ⟨(some 22), .bin .sub (.t 19) (.t 21), none, []⟩,
      ⟨(some 23), .faddr 0 (.t 6), none, []⟩,
      ⟨(some 24), .load1 (.t 23), none, []⟩,
      ⟨(some 25), .faddr 0 (.t 5), none, []⟩,
      ⟨(some 26), .load1 (.t 25), none, []⟩,
      ⟨(some 27), .bin .sub (.t 24) (.t 26), none, []⟩,
      ⟨(some 28), .call (.c (.fn 84 [] [])) [.t 22, .t 27], none, []⟩,
      ⟨none, .store 4 (.t 4) (.t 28), none, []⟩])
  (.ret))), 29, [.cn 4 4]⟩
def xf61 : XFunc := ⟨.seq (.reg [⟨(some 1), .box 24 (.t 0), none, []⟩,
      ⟨(some 2), .new 104 [.int .i64 0, .int .i64 0], none, []⟩])
  (.seq (.reg [⟨(some 3), .faddr 0 (.t 1), none, []⟩,
      ⟨(some 4), .load1 (.t 3), none, []⟩,
      ⟨(some 5), .iaddr 2 (.t 4) (.c (.int .i64 0)), none, []⟩,
      ⟨(some 6), .loadn 2 (.t 5), none, []⟩,
      ⟨none, .store 2 (.t 2) (.t 6), none, []⟩])
  (.ret)), 7, [.cn 2 2]⟩
def xf55 : XFunc := ⟨.seq (.reg [⟨(some 1), .box 69 (.t 0), none, []⟩,
      ⟨(some 2), .new 104 [.int .i64 0, .int .i64 0], none, []⟩])
  (.seq (.reg [⟨(some 3), .faddr 0 (.t 1), none, []⟩,
      ⟨(some 4), .faddr 0 (.t 3), none, []⟩,
      ⟨(some 5), .load1 (.t 4), none, []⟩,
      ⟨(some 6), .faddr 0 (.t 1), none, []⟩,
      ⟨(some 7), .faddr 0 (.t 6), none, []⟩,
      ⟨(some 8), .load1 (.t 7), none, []⟩,
      ⟨(some 9), .len (.t 8), none, []⟩,
      ⟨(some 10), .bin .sub (.t 9) (.c (.int .i64 1)), none, []⟩,
      ⟨(some 11), .iaddr 2 (.t 5) (.t 10), none, []⟩,
      ⟨(some 12), .loadn 2 (.t 11), none, []⟩,
      ⟨none, .store 2 (.t 2) (.t 12), none, []⟩])
  (.ret)), 13, [.cn 2 2]⟩
def xf54 : XFunc := ⟨.seq (.reg [⟨(some 1), .box 69 (.t 0), none, []⟩,
      ⟨(some 2), .new 104 [.int .i64 0, .int .i64 0], none, []⟩])
  (.seq (.reg [⟨(some 3), .faddr 0 (.t 1), none, []⟩,
      ⟨(some 4), .faddr 0 (.t 3), none, []⟩,
      ⟨(some 5), .load1 (.t 4), none, []⟩,
      ⟨(some 6), .iaddr 2 (.t 5) (.c (.int .i64 0)), none, []⟩,
      ⟨(some 7), .loadn 2 (.t 6), none, []⟩,
      ⟨none, .store 2 (.t 2) (.t 7), none, []⟩])
  (.ret)), 8, [.cn 2 2]⟩
def xf85 : XFunc := ⟨.seq (.reg [⟨(some 2), .box 132 (.t 0), none, []⟩,
      ⟨(some 3), .box 132 (.t 1), none, []⟩,
      ⟨(some 4), .mov (.c (.bool false)), none, []⟩])
  (.seq (.dreg [⟨(some 5), .loadn 4 (.t 2), none, []⟩,
      ⟨(some 6), .call (.c (.fn 70 [] [])) [.t 5], none, [0]⟩,
      ⟨(some 7), .loadn 4 (.t 3), none, []⟩,
      ⟨(some 8), .call (.c (.fn 71 [] [])) [.t 7], none, [0, 1, 2]⟩,
      ⟨(some 9), .bin .mul (.t 6) (.t 8), none, [2, 0, 3, 1]⟩,
      ⟨(some 10), .loadn 4 (.t 3), none, []⟩,
      ⟨(some 11), .call (.c (.fn 70 [] [])) [.t 10], none, [2, 1, 0, 3, 5]⟩,
      ⟨(some 12), .loadn 4 (.t 2), none, []⟩,
      ⟨(some 13), .call (.c (.fn 71 [] [])) [.t 12], none, [5, 3, 0, 1, 2, 6, 7]⟩,
      ⟨(some 14), .bin .mul (.t 11) (.t 13), none, [7, 5, 3, 0, 1, 2, 8, 6]⟩,
      ⟨(some 15), .bin .lss (.t 9) (.t 14), none, [6, 8, 5, 7, 1, 3, 0, 2, 9, 4]⟩,
      ⟨(some 4), .mov (.t 15), none, [9, 7, 6, 5, 4, 3, 2, 1, 0, 8, 10]⟩])
  (.ret)), 16, [.t 4]⟩
def xf73l0 : XCode := .seq (.seq (.reg [⟨(some 6), .mov (.t 5), none, []⟩,
      ⟨(some 7), .faddr 0 (.t 2), none, []⟩,
      ⟨(some 8), .faddr 0 (.t 7), none, []⟩,
      ⟨(some 9), .load1 (.t 8), none, []⟩,
      ⟨(some 10), .len (.t 9), none, []⟩,
      ⟨(some 11), .bin .sub (.t 10) (.c (.int .i64 1)), none, []⟩,
      ⟨(some 12), .bin .lss (.t 6) (.t 11), none, []⟩,
      ⟨(some 13), .mov (.t 12), none, []⟩,
      ⟨(some 14), .mov (.t 1), (some (13, true)), []⟩,
      ⟨(some 15), .faddr 0 (.t 2), (some (13, true)), []⟩,
      ⟨(some 16), .faddr 0 (.t 15), (some (13, true)), []⟩,
      ⟨(some 17), .load1 (.t 16), (some (13, true)), []⟩,
      ⟨(some 18), .mov (.t 5), (some (13, true)), []⟩,
      ⟨(some 19), .iaddr 2 (.t 17) (.t 18), (some (13, true)), []⟩,
      ⟨(some 20), .loadn 2 (.t 19), (some (13, true)), []⟩,
      ⟨(some 21), .call (.t 14) [.t 20], (some (13, true)), []⟩,
      ⟨(some 22), .un .not (.t 21), (some (13, true)), []⟩,
      ⟨(some 23), .pick (.t 13) (.t 22) (.c (.bool false)), none, []⟩])
  (.cond (.t 23) .skip (.exit 0)))
  (.block 1 (.reg [⟨(some 24), .mov (.t 5), none, []⟩,
        ⟨(some 25), .bin .add (.t 24) (.c (.int .i64 1)), none, []⟩,
        ⟨(some 5), .mov (.t 25), none, []⟩]))
def xf73 : XFunc := ⟨.seq (.reg [⟨(some 2), .box 69 (.t 0), none, []⟩,
      ⟨(some 4), .new 132 [.int .i64 0, .int .i64 0, .int .i64 0, .int .i64 0], none, []⟩])
  (.seq (.reg [⟨(some 5), .mov (.c (.int .i64 1)), none, []⟩])
  (.seq (.block 0 (.loop xf73l0))
  (.seq (.dreg [⟨(some 26), .faddr 0 (.t 2), none, []⟩,
      ⟨(some 27), .faddr 0 (.t 26), none, [0]⟩,
      ⟨(some 28), .load1 (.t 27), none, [0, 1]⟩,
      ⟨(some 29), .mov (.t 5), none, []⟩,
      ⟨(some 30), .bin .sub (.t 29) (.c (.int .i64 1)), none, [3]⟩,
      ⟨(some 31), .iaddr 2 (.t 28) (.t 30), none, [3, 1, 0, 4, 2]⟩,
      ⟨(some 32), .loadn 2 (.t 31), none, [2, 4, 0, 1, 3, 5]⟩,
      ⟨(some 33), .faddr 0 (.t 2), none, []⟩,
      ⟨(some 34), .faddr 0 (.t 33), none, [7]⟩,
      ⟨(some 35), .load1 (.t 34), none, [7, 8]⟩,
      ⟨(some 36), .mov (.t 5), none, []⟩,
      ⟨(some 37), .iaddr 2 (.t 35) (.t 36), none, [8, 7, 10, 9]⟩,
      ⟨(some 38), .loadn 2 (.t 37), none, [9, 10, 7, 8, 11]⟩,
      ⟨(some 39), .build [.int .i64 0, .int .i64 0, .int .i64 0, .int .i64 0] [(0, 2, .t 32), (2, 2, .t 38)], none, [11, 8, 7, 10, 9, 5, 3, 1, 0, 4, 2, 12, 6]⟩,
      ⟨none, .store 4 (.t 4) (.t 39), none, [12, 11, 10, 9, 8, 7, 6, 5, 4, 3, 2, 1, 0, 13]⟩])
  (.ret)))), 40, [.cn 4 4]⟩
def xf58 : XFunc := ⟨.seq (.reg [⟨(some 10), .new 100 [.int .i64 0, .int .i64 0, .int .i64 0], none, []⟩])
  (.seq (.reg [⟨(some 13), .mov (.t 0), none, []⟩,
      ⟨(some 14), .mov (.t 1), none, []⟩,
      ⟨(some 15), .bin .sub (.t 13) (.t 14), none, []⟩,
      ⟨(some 16), .mov (.t 4), none, []⟩,
      ⟨(some 17), .mov (.t 3), none, []⟩,
      ⟨(some 18), .bin .sub (.t 16) (.t 17), none, []⟩,
      ⟨(some 19), .bin .mul (.t 15) (.t 18), none, []⟩,
      ⟨(some 20), .mov (.t 2), none, []⟩,
      ⟨(some 21), .mov (.t 1), none, []⟩,
      ⟨(some 22), .bin .sub (.t 20) (.t 21), none, []⟩,
      ⟨(some 11), .mov (.t 19), none, []⟩,
      ⟨(some 12), .mov (.t 22), none, []⟩])
  (.seq (.dreg [⟨(some 23), .mov (.t 3), none, []⟩,
      ⟨(some 24), .mov (.t 11), none, []⟩,
      ⟨(some 25), .mov (.t 12), none, []⟩,
      ⟨(some 26), .bin .quo (.t 24) (.t 25), none, [2, 1]⟩,
      ⟨(some 27), .bin .add (.t 23) (.t 26), none, [1, 2, 3, 0]⟩,
      ⟨(some 28), .mov (.t 11), none, []⟩,
      ⟨(some 29), .mov (.t 12), none, []⟩,
      ⟨(some 30), .bin .rem (.t 28) (.t 29), none, [6, 5]⟩,
      ⟨(some 31), .mov (.t 12), none, []⟩,
      ⟨(some 32), .build [.int .i64 0, .int .i64 0, .int .i64 0] [(0, 1, .t 27), (1, 1, .t 30), (2, 1, .t 31)], none, [5, 6, 0, 3, 2, 1, 8, 7, 4]⟩,
      ⟨none, .store 3 (.t 10) (.t 32), none, [8, 7, 6, 5, 4, 3, 2, 1, 0, 9]⟩])
  (.ret))), 33, [.cn 10 3]⟩
def xf59 : XFunc := ⟨.seq (.reg [⟨(some 1), .box 100 (.t 0), none, []⟩,
      ⟨(some 2), .mov (.c (.int .i64 0)), none, []⟩])
  (.seq (.seq (.reg [⟨(some 3), .faddr 1 (.t 1), none, []⟩,
      ⟨(some 4), .load1 (.t 3), none, []⟩,
      ⟨(some 5), .bin .gtr (.t 4) (.c (.int .i64 0)), none, []⟩])
  (.cond (.t 5) (.seq (.reg [⟨(some 6), .faddr 0 (.t 1), none, []⟩,
        ⟨(some 7), .load1 (.t 6), none, []⟩,
        ⟨(some 8), .bin .add (.t 7) (.c (.int .i64 1)), none, []⟩,
        ⟨(some 2), .mov (.t 8), none, []⟩])
    (.ret)) .skip))
  (.seq (.reg [⟨(some 9), .faddr 0 (.t 1), none, []⟩,
      ⟨(some 10), .load1 (.t 9), none, []⟩,
      ⟨(some 2), .mov (.t 10), none, []⟩])
  (.ret))), 11, [.t 2]⟩
def xf41 : XFunc := ⟨.seq (.reg [⟨(some 2), .box 69 (.t 0), none, []⟩,
      ⟨(some 4), .mov (.c (.bool false)), none, []⟩])
  (.seq (.dreg [⟨(some 5), .mov (.t 1), none, []⟩,
      ⟨(some 6), .loadn 1 (.t 2), none, []⟩,
      ⟨(some 7), .call (.c (.fn 54 [] [])) [.t 6], none, [1]⟩,
      ⟨(some 8), .field 1 1 false (.t 7), none, [1, 2]⟩,
      ⟨(some 9), .loadn 1 (.t 2), none, []⟩,
      ⟨(some 10), .call (.c (.fn 55 [] [])) [.t 9], none, [1, 2, 4]⟩,
      ⟨(some 11), .field 1 1 false (.t 10), none, [4, 2, 1, 5]⟩,
      ⟨(some 12), .call (.c (.fn 52 [] [])) [.t 5, .t 8, .t 11], none, [4, 2, 1, 5, 6, 3, 0]⟩,
      ⟨(some 4), .mov (.t 12), none, [6, 5, 4, 3, 2, 1, 0, 7]⟩])
  (.ret)), 13, [.t 4]⟩
def xf74 : XFunc := ⟨.seq (.reg [⟨(some 2), .box 104 (.t 0), none, []⟩,
      ⟨(some 3), .mov (.c (.bool false)), none, []⟩])
  (.seq (.reg [⟨(some 4), .faddr 1 (.t 2), none, []⟩,
      ⟨(some 5), .load1 (.t 4), none, []⟩,
      ⟨(some 6), .load1 (.t 1), none, []⟩,
      ⟨(some 7), .bin .geq (.t 5) (.t 6), none, []⟩,
      ⟨(some 3), .mov (.t 7), none, []⟩])
  (.ret)), 8, [.t 3]⟩
structure TabCode (X : FuncId → Option XFunc) : Prop where
  sea : SeaCode X
  wide : WideCode X
  h17 : X 17 = some xf17
  h72 : X 72 = some xf72
  h26 : X 26 = some xf26
  h15 : X 15 = some xf15
  h60 : X 60 = some xf60
  h63 : X 63 = some xf63
  h35 : X 35 = some xf35
  h34 : X 34 = some xf34
  h62 : X 62 = some xf62
  h80 : X 80 = some xf80
  h81 : X 81 = some xf81
  h56 : X 56 = some xf56
  h77 : X 77 = some xf77
  h33 : X 33 = some xf33
  h31 : X 31 = some xf31
  h32 : X 32 = some xf32
  h57 : X 57 = some xf57
  h70 : X 70 = some xf70
  h71 : X 71 = some xf71
  h76 : X 76 = some xf76
  h61 : X 61 = some xf61
  h55 : X 55 = some xf55
  h54 : X 54 = some xf54
  h85 : X 85 = some xf85
  h73 : X 73 = some xf73
  h58 : X 58 = some xf58
  h59 : X 59 = some xf59
  h41 : X 41 = some xf41
  h74 : X 74 = some xf74
end Go.Proofs.Ytbgjmclpahganaa.Eng

/-
  CODE of VPair.
-/
namespace Go.Proofs.Ytbgjmclpahganaa.Eng
set_option linter.unusedSimpArgs false
set_option linter.unusedVariables false
def xf38 : XFunc := ⟨.seq (.reg [⟨(some 1), .box 26 (.t 0), none, []⟩,
      ⟨(some 2), .new 72 [.nils, .nils, .int .i64 0], none, []⟩,
      ⟨(some 3), .mov (.c (.int .i64 0)), none, []⟩])
  (.seq (.reg [⟨(some 7), .faddr 0 (.t 1), none, []⟩,
      ⟨(some 8), .loadn 1 (.t 7), none, []⟩,
      ⟨(some 9), .faddr 1 (.t 1), none, []⟩,
      ⟨(some 10), .loadn 1 (.t 9), none, []⟩,
      ⟨(some 11), .build [.nils, .nils] [(0, 1, .t 8), (1, 1, .t 10)], none, []⟩,
      ⟨(some 4), .new 139 [.nils, .nils], none, []⟩,
      ⟨none, .store 2 (.t 4) (.t 11), none, []⟩])
  (.seq (.reg [⟨(some 12), .faddr 2 (.t 1), none, []⟩,
      ⟨(some 13), .load1 (.t 12), none, []⟩,
      ⟨(some 14), .build [.nils, .nils, .int .i64 0] [(2, 1, .t 13)], none, []⟩,
      ⟨(some 5), .new 72 [.nils, .nils, .int .i64 0], none, []⟩,
      ⟨none, .store 3 (.t 5) (.t 14), none, []⟩])
  (.seq (.dreg [⟨(some 15), .fn false 64 [] [.t 4, .t 5], none, []⟩,
      ⟨(some 16), .call (.c (.fn 44 [] [])) [.c (.int .i64 2), .t 15], none, [0]⟩,
      ⟨(some 17), .faddr 2 (.t 1), none, []⟩,
      ⟨(some 18), .load1 (.t 17), none, [2]⟩,
      ⟨(some 19), .call (.c (.fn 52 [] [])) [.t 18, .c (.int .i64 0), .c (.int .i64 1000)], none, [0, 2, 1, 3]⟩,
      ⟨(some 20), .un .not (.t 19), none, [3, 1, 2, 0, 4]⟩,
      ⟨(some 21), .call (.c (.fn 43 [] [])) [.t 20, .c (.int .i64 2)], none, [0, 2, 1, 3, 4, 5]⟩,
      ⟨(some 22), .buildSlice 116 1 2 false [.nilfn, .nilfn] [(0, 1, .t 16), (1, 1, .t 21)], none, [5, 4, 3, 2, 0, 6, 1]⟩,
      ⟨(some 23), .call (.c (.fn 42 [] [])) [.t 22], none, [1, 0, 2, 3, 4, 5, 6, 7]⟩,
      ⟨(some 6), .mov (.t 23), none, [7, 6, 5, 4, 3, 2, 1, 0, 8]⟩])
  (.seq (.reg [⟨(some 24), .loadn 3 (.t 5), none, []⟩,
      ⟨(some 25), .mov (.t 6), none, []⟩,
      ⟨none, .store 3 (.t 2) (.t 24), none, []⟩,
      ⟨(some 3), .mov (.t 25), none, []⟩])
  (.ret))))), 26, [.cn 2 3, .t 3]⟩
def xf64 : XFunc := ⟨.seq (.reg [⟨(some 4), .mov (.c (.int .i64 0)), none, []⟩])
  (.seq (.reg [⟨(some 8), .mov (.t 0), none, []⟩,
      ⟨(some 9), .iaddrA 1 2 (.t 1) (.t 8), none, []⟩,
      ⟨(some 10), .loadn 1 (.t 9), none, []⟩,
      ⟨(some 11), .call (.c (.fn 56 [] [])) [.t 10], none, []⟩,
      ⟨(some 7), .mov (.t 11), none, []⟩,
      ⟨(some 12), .extract (.t 7) 0, none, []⟩,
      ⟨(some 13), .extract (.t 7) 1, none, []⟩,
      ⟨(some 5), .new 69 [.nils], none, []⟩,
      ⟨none, .store 1 (.t 5) (.t 12), none, []⟩,
      ⟨(some 6), .mov (.t 13), none, []⟩])
  (.seq (.reg [⟨(some 14), .mov (.t 0), none, []⟩,
      ⟨(some 15), .loadn 1 (.t 5), none, []⟩,
      ⟨(some 16), .faddr 0 (.t 2), none, []⟩,
      ⟨(some 17), .iaddrA 1 2 (.t 16) (.t 14), none, []⟩,
      ⟨none, .store 1 (.t 17) (.t 15), none, []⟩])
  (.seq (.reg [⟨(some 18), .mov (.t 6), none, []⟩,
      ⟨(some 4), .mov (.t 18), none, []⟩])
  (.ret)))), 19, [.t 4]⟩
def xf22 : XFunc := ⟨.seq (.reg [⟨(some 2), .box 26 (.t 0), none, []⟩,
      ⟨(some 3), .box 28 (.t 1), none, []⟩,
      ⟨(some 4), .new 76 [.nils, .nils, .int .i64 0, .int .i64 0, .int .i64 0], none, []⟩,
      ⟨(some 5), .mov (.c (.int .i64 0)), none, []⟩])
  (.seq (.reg [⟨(some 10), .loadn 3 (.t 2), none, []⟩,
      ⟨(some 11), .call (.c (.fn 38 [] [])) [.t 10], none, []⟩,
      ⟨(some 9), .mov (.t 11), none, []⟩,
      ⟨(some 12), .extract (.t 9) 0, none, []⟩,
      ⟨(some 13), .extract (.t 9) 1, none, []⟩,
      ⟨(some 6), .new 72 [.nils, .nils, .int .i64 0], none, []⟩,
      ⟨none, .store 3 (.t 6) (.t 12), none, []⟩,
      ⟨(some 7), .mov (.t 13), none, []⟩])
  (.seq (.seq (.reg [⟨(some 14), .mov (.t 7), none, []⟩,
      ⟨(some 15), .bin .neq (.t 14) (.c (.int .i64 0)), none, []⟩])
  (.cond (.t 15) (.seq (.reg [⟨(some 16), .build [.nils, .nils, .int .i64 0, .int .i64 0, .int .i64 0] [], none, []⟩,
        ⟨(some 17), .mov (.t 7), none, []⟩,
        ⟨none, .store 5 (.t 4) (.t 16), none, []⟩,
        ⟨(some 5), .mov (.t 17), none, []⟩])
    (.ret)) .skip))
  (.seq (.reg [⟨(some 18), .faddr 0 (.t 3), none, []⟩,
      ⟨(some 19), .load1 (.t 18), none, []⟩,
      ⟨(some 20), .faddr 1 (.t 3), none, []⟩,
      ⟨(some 21), .load1 (.t 20), none, []⟩,
      ⟨(some 22), .build [.int .i64 0, .int .i64 0] [(0, 1, .t 19), (1, 1, .t 21)], none, []⟩,
      ⟨(some 8), .new 74 [.int .i64 0, .int .i64 0], none, []⟩,
      ⟨none, .store 2 (.t 8) (.t 22), none, []⟩])
  (.seq (.reg [⟨(some 24), .fn true 40 [] [.t 6, .t 8], none, []⟩,
      ⟨(some 25), .call (.c (.fn 39 [] [])) [.c (.int .i64 2), .t 24], none, []⟩,
      ⟨(some 23), .mov (.t 25), none, []⟩,
      ⟨(some 26), .extract (.t 23) 0, none, []⟩,
      ⟨(some 27), .extract (.t 23) 1, none, []⟩,
      ⟨(some 7), .mov (.t 27), none, []⟩])
  (.seq (.reg [⟨(some 28), .loadn 3 (.t 6), none, []⟩,
      ⟨(some 29), .loadn 2 (.t 8), none, []⟩,
      ⟨(some 30), .build [.nils, .nils, .int .i64 0, .int .i64 0, .int .i64 0] [(0, 3, .t 28), (3, 2, .t 29)], none, []⟩,
      ⟨(some 31), .mov (.t 7), none, []⟩,
      ⟨none, .store 5 (.t 4) (.t 30), none, []⟩,
      ⟨(some 5), .mov (.t 31), none, []⟩])
  (.ret)))))), 32, [.cn 4 5, .t 5]⟩
def xf40 : XFunc := ⟨.seq (.reg [⟨(some 4), .mov (.c (.int .i64 0)), none, []⟩])
  (.seq (.seq (.dreg [⟨(some 5), .mov (.t 0), none, []⟩,
      ⟨(some 6), .faddr 0 (.t 1), none, []⟩,
      ⟨(some 7), .iaddrA 1 2 (.t 6) (.t 5), none, [0, 1]⟩,
      ⟨(some 8), .loadn 1 (.t 7), none, [1, 0, 2]⟩,
      ⟨(some 9), .mov (.t 0), none, []⟩,
      ⟨(some 10), .iaddrA 1 2 (.t 2) (.t 9), none, [4]⟩,
      ⟨(some 11), .load1 (.t 10), none, [4, 5]⟩,
      ⟨(some 12), .call (.c (.fn 41 [] [])) [.t 8, .t 11], none, [5, 4, 2, 0, 1, 6, 3]⟩,
      ⟨(some 13), .un .not (.t 12), none, [3, 6, 1, 0, 2, 4, 5, 7]⟩])
  (.cond (.t 13) (.seq (.reg [⟨(some 4), .mov (.c (.int .i64 2)), none, []⟩])
    (.ret)) .skip))
  (.seq (.reg [⟨(some 4), .mov (.c (.int .i64 0)), none, []⟩])
  (.ret))), 14, [.t 4]⟩
def xf5 : XFunc := ⟨.seq (.reg [⟨(some 1), .box 26 (.t 0), none, []⟩,
      ⟨(some 2), .mov (.c (.bool false)), none, []⟩])
  (.seq (.reg [⟨(some 3), .faddr 0 (.t 1), none, []⟩,
      ⟨(some 4), .loadn 1 (.t 3), none, []⟩,
      ⟨(some 5), .call (.c (.fn 17 [] [])) [.t 4], none, []⟩,
      ⟨(some 6), .mov (.t 5), none, []⟩,
      ⟨(some 7), .faddr 1 (.t 1), (some (6, true)), []⟩,
      ⟨(some 8), .loadn 1 (.t 7), (some (6, true)), []⟩,
      ⟨(some 9), .call (.c (.fn 17 [] [])) [.t 8], (some (6, true)), []⟩,
      ⟨(some 10), .pick (.t 6) (.t 9) (.c (.bool false)), none, []⟩,
      ⟨(some 2), .mov (.t 10), none, []⟩])
  (.ret)), 11, [.t 2]⟩
def xf9 : XFunc := ⟨.seq (.reg [⟨(some 1), .box 26 (.t 0), none, []⟩,
      ⟨(some 2), .new 26 [.nils, .nils, .int .i64 0], none, []⟩])
  (.seq (.dreg [⟨(some 3), .faddr 0 (.t 1), none, []⟩,
      ⟨(some 4), .loadn 1 (.t 3), none, [0]⟩,
      ⟨(some 5), .call (.c (.fn 26 [] [])) [.t 4], none, [0, 1]⟩,
      ⟨(some 6), .faddr 1 (.t 1), none, []⟩,
      ⟨(some 7), .loadn 1 (.t 6), none, [3]⟩,
      ⟨(some 8), .call (.c (.fn 26 [] [])) [.t 7], none, [1, 0, 3, 2, 4]⟩,
      ⟨(some 9), .faddr 2 (.t 1), none, []⟩,
      ⟨(some 10), .load1 (.t 9), none, [6]⟩,
      ⟨(some 11), .build [.nils, .nils, .int .i64 0] [(0, 1, .t 5), (1, 1, .t 8), (2, 1, .t 10)], none, [6, 4, 3, 1, 0, 7, 5, 2]⟩,
      ⟨none, .store 3 (.t 2) (.t 11), none, [7, 6, 4, 3, 2, 1, 0, 5, 8]⟩])
  (.ret)), 12, [.cn 2 3]⟩
def xf13 : XFunc := ⟨.seq (.reg [⟨(some 3), .box 26 (.t 0), none, []⟩,
      ⟨(some 4), .box 28 (.t 1), none, []⟩,
      ⟨(some 5), .box 43 (.t 2), none, []⟩,
      ⟨(some 6), .new 28 [.int .i64 0, .int .i64 0], none, []⟩,
      ⟨(some 7), .new 46 [.int .i64 0, .int .i64 0], none, []⟩,
      ⟨(some 8), .mov (.c (.int .i64 0)), none, []⟩])
  (.seq (.reg [⟨(some 14), .loadn 3 (.t 3), none, []⟩,
      ⟨(some 15), .loadn 2 (.t 4), none, []⟩,
      ⟨(some 16), .call (.c (.fn 22 [] [])) [.t 14, .t 15], none, []⟩,
      ⟨(some 13), .mov (.t 16), none, []⟩,
      ⟨(some 17), .extract (.t 13) 0, none, []⟩,
      ⟨(some 18), .extract (.t 13) 1, none, []⟩,
      ⟨(some 9), .new 76 [.nils, .nils, .int .i64 0, .int .i64 0, .int .i64 0], none, []⟩,
      ⟨none, .store 5 (.t 9) (.t 17), none, []⟩,
      ⟨(some 10), .mov (.t 18), none, []⟩])
  (.seq (.seq (.reg [⟨(some 19), .mov (.t 10), none, []⟩,
      ⟨(some 20), .bin .neq (.t 19) (.c (.int .i64 0)), none, []⟩])
  (.cond (.t 20) (.seq (.reg [⟨(some 21), .build [.int .i64 0, .int .i64 0] [], none, []⟩,
        ⟨(some 22), .build [.int .i64 0, .int .i64 0] [], none, []⟩,
        ⟨(some 23), .mov (.t 10), none, []⟩,
        ⟨none, .store 2 (.t 6) (.t 21), none, []⟩,
        ⟨none, .store 2 (.t 7) (.t 22), none, []⟩,
        ⟨(some 8), .mov (.t 23), none, []⟩])
    (.ret)) .skip))
  (.seq (.seq (.reg [⟨(some 24), .loadn 3 (.t 5), none, []⟩,
      ⟨(some 25), .call (.c (.fn 29 [] [])) [.t 24], none, []⟩,
      ⟨(some 11), .mov (.t 25), none, []⟩])
  (.seq (.reg [⟨(some 26), .mov (.t 11), none, []⟩,
      ⟨(some 27), .bin .neq (.t 26) (.c (.int .i64 0)), none, []⟩])
  (.cond (.t 27) (.seq (.reg [⟨(some 28), .build [.int .i64 0, .int .i64 0] [], none, []⟩,
        ⟨(some 29), .build [.int .i64 0, .int .i64 0] [], none, []⟩,
        ⟨(some 30), .mov (.t 11), none, []⟩,
        ⟨none, .store 2 (.t 6) (.t 28), none, []⟩,
        ⟨none, .store 2 (.t 7) (.t 29), none, []⟩,
        ⟨(some 8), .mov (.t 30), none, []⟩])
    (.ret)) .skip)))
  (.seq (.reg [⟨(some 32), .faddr 0 (.t 9), none, []⟩,
      ⟨(some 33), .loadn 3 (.t 32), none, []⟩,
      ⟨(some 34), .faddr 3 (.t 9), none, []⟩,
      ⟨(some 35), .loadn 2 (.t 34), none, []⟩,
      ⟨(some 36), .loadn 3 (.t 5), none, []⟩,
      ⟨(some 37), .call (.c (.fn 30 [] [])) [.t 33, .t 35, .t 36], none, []⟩,
      ⟨(some 31), .mov (.t 37), none, []⟩,
      ⟨(some 38), .extract (.t 31) 0, none, []⟩,
      ⟨(some 39), .extract (.t 31) 1, none, []⟩,
      ⟨(some 12), .new 84 [.int .i64 0, .int .i64 0, .int .i64 0, .int .i64 0], none, []⟩,
      ⟨none, .store 4 (.t 12) (.t 38), none, []⟩,
      ⟨(some 10), .mov (.t 39), none, []⟩])
  (.seq (.dreg [⟨(some 40), .faddr 0 (.t 12), none, []⟩,
      ⟨(some 41), .loadn 2 (.t 40), none, [0]⟩,
      ⟨(some 42), .call (.c (.fn 25 [] [])) [.t 41], none, [0, 1]⟩,
      ⟨(some 43), .faddr 2 (.t 12), none, []⟩,
      ⟨(some 44), .loadn 2 (.t 43), none, [3]⟩,
      ⟨(some 45), .mov (.t 10), none, []⟩,
      ⟨none, .store 2 (.t 6) (.t 42), none, [1, 0, 2]⟩,
      ⟨none, .store 2 (.t 7) (.t 44), none, [3, 2, 1, 0, 6, 4]⟩,
      ⟨(some 8), .mov (.t 45), none, [6, 4, 3, 2, 1, 0, 7, 5]⟩])
  (.ret)))))), 46, [.cn 6 2, .cn 7 2, .t 8]⟩
def xf30l0 : XCode := .seq (.reg [⟨(some 28), .bin .lss (.t 27) (.c (.int .i64 2)), none, []⟩])
  (.seq (.cond (.t 28) .skip (.exit 0))
  (.seq (.block 1 (.seq (.reg [⟨(some 29), .mov (.t 27), none, []⟩,
        ⟨(some 30), .index 1 2 true (.t 26) (.t 27), none, []⟩,
        ⟨(some 11), .new 69 [.nils], none, []⟩,
        ⟨(some 10), .mov (.t 29), none, []⟩,
        ⟨none, .store 1 (.t 11) (.t 30), none, []⟩])
    (.seq (.dreg [⟨(some 31), .loadn 1 (.t 11), none, []⟩,
        ⟨(some 32), .mov (.t 10), none, []⟩,
        ⟨(some 33), .iaddrA 1 2 (.t 4) (.t 32), none, [1]⟩,
        ⟨(some 34), .load1 (.t 33), none, [1, 2]⟩,
        ⟨(some 35), .faddr 2 (.t 3), none, []⟩,
        ⟨(some 36), .load1 (.t 35), none, [4]⟩,
        ⟨(some 37), .call (.c (.fn 53 [] [])) [.t 31, .t 34, .t 36], none, [4, 2, 1, 5, 3, 0]⟩,
        ⟨(some 12), .mov (.t 37), none, [5, 4, 3, 2, 1, 0, 6]⟩])
    (.seq (.dreg [⟨(some 38), .mov (.t 10), none, []⟩,
        ⟨(some 39), .iaddrA 1 2 (.t 4) (.t 38), none, [0]⟩,
        ⟨(some 40), .load1 (.t 39), none, [0, 1]⟩,
        ⟨(some 41), .mov (.t 12), none, []⟩,
        ⟨(some 42), .bin .sub (.t 40) (.t 41), none, [1, 0, 3, 2]⟩,
        ⟨(some 43), .mov (.t 10), none, []⟩,
        ⟨(some 44), .iaddrA 1 2 (.t 8) (.t 43), none, [5]⟩,
        ⟨(some 45), .load1 (.t 44), none, [5, 6]⟩,
        ⟨(some 46), .bin .add (.t 42) (.t 45), none, [6, 5, 2, 3, 0, 1, 7, 4]⟩,
        ⟨(some 13), .mov (.t 46), none, [7, 6, 5, 4, 3, 2, 1, 0, 8]⟩])
    (.seq (.seq (.reg [⟨(some 47), .mov (.t 13), none, []⟩,
        ⟨(some 48), .loadn 1 (.t 11), none, []⟩,
        ⟨(some 49), .call (.c (.fn 54 [] [])) [.t 48], none, []⟩,
        ⟨(some 50), .field 1 1 false (.t 49), none, []⟩,
        ⟨(some 51), .bin .lss (.t 47) (.t 50), none, []⟩])
    (.cond (.t 51) (.seq (.reg [⟨(some 52), .build [.int .i64 0, .int .i64 0, .int .i64 0, .int .i64 0] [], none, []⟩,
          ⟨none, .store 4 (.t 6) (.t 52), none, []⟩,
          ⟨(some 7), .mov (.c (.int .i64 22)), none, []⟩])
      (.ret)) .skip))
    (.seq (.reg [⟨(some 53), .mov (.t 10), none, []⟩,
        ⟨(some 54), .mov (.t 13), none, []⟩,
        ⟨(some 55), .loadn 1 (.t 11), none, []⟩,
        ⟨(some 56), .call (.c (.fn 55 [] [])) [.t 55], none, []⟩,
        ⟨(some 57), .field 1 1 false (.t 56), none, []⟩,
        ⟨(some 58), .ext false (.t 54) [.t 57], none, []⟩,
        ⟨(some 59), .faddr 0 (.t 9), none, []⟩,
        ⟨(some 60), .iaddrA 1 2 (.t 59) (.t 53), none, []⟩,
        ⟨none, .store 1 (.t 60) (.t 58), none, []⟩])
    (.seq (.reg [⟨(some 61), .faddr 2 (.t 9), none, []⟩,
        ⟨(some 62), .faddr 0 (.t 61), none, []⟩,
        ⟨(some 63), .load1 (.t 62), none, []⟩,
        ⟨(some 64), .mov (.t 12), none, []⟩,
        ⟨(some 65), .bin .add (.t 63) (.t 64), none, []⟩,
        ⟨(some 66), .faddr 2 (.t 9), none, []⟩,
        ⟨(some 67), .faddr 0 (.t 66), none, []⟩,
        ⟨none, .store 1 (.t 67) (.t 65), none, []⟩])
    (.dreg [⟨(some 68), .faddr 2 (.t 9), none, []⟩,
        ⟨(some 69), .faddr 1 (.t 68), none, [0]⟩,
        ⟨(some 70), .load1 (.t 69), none, [0, 1]⟩,
        ⟨(some 71), .mov (.t 13), none, []⟩,
        ⟨(some 72), .mov (.t 10), none, []⟩,
        ⟨(some 73), .faddr 0 (.t 9), none, []⟩,
        ⟨(some 74), .iaddrA 1 2 (.t 73) (.t 72), none, [4, 5]⟩,
        ⟨(some 75), .load1 (.t 74), none, [5, 4, 6]⟩,
        ⟨(some 76), .bin .sub (.t 71) (.t 75), none, [6, 4, 5, 7, 3]⟩,
        ⟨(some 77), .bin .add (.t 70) (.t 76), none, [3, 7, 5, 4, 6, 1, 0, 8, 2]⟩,
        ⟨(some 78), .faddr 2 (.t 9), none, [9, 8, 7, 6, 5, 4, 3, 2, 1, 0]⟩,
        ⟨(some 79), .faddr 1 (.t 78), none, [9, 8, 7, 6, 5, 4, 3, 2, 1, 0, 10]⟩,
        ⟨none, .store 1 (.t 79) (.t 77), none, [10, 8, 7, 6, 5, 4, 3, 2, 1, 0, 9, 11]⟩]))))))))
  (.reg [⟨(some 80), .bin .add (.t 27) (.c (.int .i64 1)), none, []⟩,
      ⟨(some 27), .mov (.t 80), none, []⟩])))
def xf30 : XFunc := ⟨.seq (.reg [⟨(some 3), .box 72 (.t 0), none, []⟩,
      ⟨(some 4), .box 74 (.t 1), none, []⟩,
      ⟨(some 5), .box 43 (.t 2), none, []⟩,
      ⟨(some 6), .new 84 [.int .i64 0, .int .i64 0, .int .i64 0, .int .i64 0], none, []⟩,
      ⟨(some 7), .mov (.c (.int .i64 0)), none, []⟩])
  (.seq (.reg [⟨(some 14), .faddr 0 (.t 5), none, []⟩,
      ⟨(some 15), .load1 (.t 14), none, []⟩,
      ⟨(some 16), .faddr 2 (.t 5), none, []⟩,
      ⟨(some 17), .load1 (.t 16), none, []⟩,
      ⟨(some 18), .bin .add (.t 15) (.t 17), none, []⟩,
      ⟨(some 19), .faddr 1 (.t 5), none, []⟩,
      ⟨(some 20), .load1 (.t 19), none, []⟩,
      ⟨(some 21), .faddr 2 (.t 5), none, []⟩,
      ⟨(some 22), .load1 (.t 21), none, []⟩,
      ⟨(some 23), .bin .sub (.t 20) (.t 22), none, []⟩,
      ⟨(some 24), .build [.int .i64 0, .int .i64 0] [(0, 1, .t 18), (1, 1, .t 23)], none, []⟩,
      ⟨(some 8), .new 73 [.int .i64 0, .int .i64 0], none, []⟩,
      ⟨none, .store 2 (.t 8) (.t 24), none, []⟩])
  (.seq (.reg [⟨(some 9), .new 84 [.int .i64 0, .int .i64 0, .int .i64 0, .int .i64 0], none, []⟩])
  (.seq (.seq (.reg [⟨(some 25), .faddr 0 (.t 3), none, []⟩,
      ⟨(some 26), .loadn 2 (.t 25), none, []⟩,
      ⟨(some 27), .mov (.c (.int .i64 0)), none, []⟩])
  (.block 0 (.loop xf30l0)))
  (.seq (.reg [⟨(some 81), .loadn 4 (.t 9), none, []⟩,
      ⟨none, .store 4 (.t 6) (.t 81), none, []⟩,
      ⟨(some 7), .mov (.c (.int .i64 0)), none, []⟩])
  (.ret))))), 82, [.cn 6 4, .t 7]⟩
def xf29 : XFunc := ⟨.seq (.reg [⟨(some 1), .box 43 (.t 0), none, []⟩,
      ⟨(some 2), .mov (.c (.int .i64 0)), none, []⟩])
  (.seq (.seq (.reg [⟨(some 3), .faddr 0 (.t 1), none, []⟩,
      ⟨(some 4), .load1 (.t 3), none, []⟩,
      ⟨(some 5), .call (.c (.fn 52 [] [])) [.t 4, .c (.int .i64 0), .c (.int .i64 10000000)], none, []⟩,
      ⟨(some 6), .un .not (.t 5), none, []⟩,
      ⟨(some 7), .mov (.t 6), none, []⟩,
      ⟨(some 8), .faddr 1 (.t 1), (some (7, false)), []⟩,
      ⟨(some 9), .load1 (.t 8), (some (7, false)), []⟩,
      ⟨(some 10), .call (.c (.fn 52 [] [])) [.t 9, .c (.int .i64 0), .c (.int .i64 10000000)], (some (7, false)), []⟩,
      ⟨(some 11), .un .not (.t 10), (some (7, false)), []⟩,
      ⟨(some 12), .pick (.t 7) (.c (.bool true)) (.t 11), none, []⟩,
      ⟨(some 13), .mov (.t 12), none, []⟩,
      ⟨(some 14), .faddr 2 (.t 1), (some (13, false)), []⟩,
      ⟨(some 15), .load1 (.t 14), (some (13, false)), []⟩,
      ⟨(some 16), .call (.c (.fn 52 [] [])) [.t 15, .c (.int .i64 (-10000000)), .c (.int .i64 10000000)], (some (13, false)), []⟩,
      ⟨(some 17), .un .not (.t 16), (some (13, false)), []⟩,
      ⟨(some 18), .pick (.t 13) (.c (.bool true)) (.t 17), none, []⟩])
  (.cond (.t 18) (.seq (.reg [⟨(some 2), .mov (.c (.int .i64 2)), none, []⟩])
    (.ret)) .skip))
  (.seq (.reg [⟨(some 2), .mov (.c (.int .i64 0)), none, []⟩])
  (.ret))), 19, [.t 2]⟩
def xf25 : XFunc := ⟨.seq (.reg [⟨(some 1), .box 74 (.t 0), none, []⟩,
      ⟨(some 2), .new 28 [.int .i64 0, .int .i64 0], none, []⟩])
  (.seq (.reg [⟨(some 3), .iaddrA 1 2 (.t 1) (.c (.int .i64 0)), none, []⟩,
      ⟨(some 4), .load1 (.t 3), none, []⟩,
      ⟨(some 5), .iaddrA 1 2 (.t 1) (.c (.int .i64 1)), none, []⟩,
      ⟨(some 6), .load1 (.t 5), none, []⟩,
      ⟨(some 7), .build [.int .i64 0, .int .i64 0] [(0, 1, .t 4), (1, 1, .t 6)], none, []⟩,
      ⟨none, .store 2 (.t 2) (.t 7), none, []⟩])
  (.ret)), 8, [.cn 2 2]⟩
def xf53 : XFunc := ⟨.seq (.reg [⟨(some 3), .box 69 (.t 0), none, []⟩,
      ⟨(some 6), .mov (.c (.int .i64 0)), none, []⟩])
  (.seq (.reg [⟨(some 8), .loadn 1 (.t 3), none, []⟩,
      ⟨(some 9), .mov (.t 1), none, []⟩,
      ⟨(some 10), .call (.c (.fn 57 [] [])) [.t 8, .t 9], none, []⟩,
      ⟨(some 7), .new 132 [.int .i64 0, .int .i64 0, .int .i64 0, .int .i64 0], none, []⟩,
      ⟨none, .store 4 (.t 7) (.t 10), none, []⟩])
  (.seq (.dreg [⟨(some 11), .mov (.t 2), none, []⟩,
      ⟨(some 12), .loadn 4 (.t 7), none, []⟩,
      ⟨(some 13), .call (.c (.fn 70 [] [])) [.t 12], none, [1]⟩,
      ⟨(some 14), .bin .mul (.t 11) (.t 13), none, [1, 2, 0]⟩,
      ⟨(some 15), .loadn 4 (.t 7), none, []⟩,
      ⟨(some 16), .call (.c (.fn 71 [] [])) [.t 15], none, [1, 2, 4]⟩,
      ⟨(some 17), .bin .mul (.t 16) (.c (.int .i64 1000)), none, [4, 2, 1, 5]⟩,
      ⟨(some 18), .bin .quo (.t 14) (.t 17), none, [5, 4, 0, 2, 1, 6, 3]⟩,
      ⟨(some 19), .mov (.t 1), none, []⟩,
      ⟨(some 20), .loadn 1 (.t 3), none, []⟩,
      ⟨(some 21), .call (.c (.fn 54 [] [])) [.t 20], none, [4, 2, 1, 5, 9]⟩,
      ⟨(some 22), .field 1 1 false (.t 21), none, [9, 5, 1, 2, 4, 10]⟩,
      ⟨(some 23), .bin .sub (.t 19) (.t 22), none, [10, 4, 2, 1, 5, 9, 11, 8]⟩,
      ⟨(some 24), .ext false (.t 18) [.t 23], none, [8, 11, 9, 10, 3, 6, 1, 2, 0, 4, 5, 12, 7]⟩,
      ⟨(some 6), .mov (.t 24), none, [12, 11, 9, 8, 7, 6, 5, 4, 3, 2, 1, 0, 10, 13]⟩])
  (.ret))), 25, [.t 6]⟩
def xf18 : XFunc := ⟨.seq (.reg [⟨(some 1), .box 26 (.t 0), none, []⟩,
      ⟨(some 2), .mov (.c (.int .i64 0)), none, []⟩])
  (.seq (.seq (.reg [⟨(some 5), .faddr 0 (.t 1), none, []⟩,
      ⟨(some 6), .loadn 1 (.t 5), none, []⟩,
      ⟨(some 7), .call (.c (.fn 34 [] [])) [.t 6], none, []⟩,
      ⟨(some 3), .mov (.t 7), none, []⟩])
  (.seq (.reg [⟨(some 8), .mov (.t 3), none, []⟩,
      ⟨(some 9), .bin .neq (.t 8) (.c (.int .i64 0)), none, []⟩])
  (.cond (.t 9) (.seq (.reg [⟨(some 10), .mov (.t 3), none, []⟩,
        ⟨(some 2), .mov (.t 10), none, []⟩])
    (.ret)) .skip)))
  (.seq (.seq (.reg [⟨(some 11), .faddr 1 (.t 1), none, []⟩,
      ⟨(some 12), .loadn 1 (.t 11), none, []⟩,
      ⟨(some 13), .call (.c (.fn 34 [] [])) [.t 12], none, []⟩,
      ⟨(some 4), .mov (.t 13), none, []⟩])
  (.seq (.reg [⟨(some 14), .mov (.t 4), none, []⟩,
      ⟨(some 15), .bin .neq (.t 14) (.c (.int .i64 0)), none, []⟩])
  (.cond (.t 15) (.seq (.reg [⟨(some 16), .mov (.t 4), none, []⟩,
        ⟨(some 2), .mov (.t 16), none, []⟩])
    (.ret)) .skip)))
  (.seq (.seq (.reg [⟨(some 17), .faddr 2 (.t 1), none, []⟩,
      ⟨(some 18), .load1 (.t 17), none, []⟩,
      ⟨(some 19), .call (.c (.fn 11 [] [])) [.t 18, .c (.int .i64 0), .c (.int .i64 1000)], none, []⟩,
      ⟨(some 20), .un .not (.t 19), none, []⟩])
  (.cond (.t 20) (.seq (.reg [⟨(some 2), .mov (.c (.int .i64 2)), none, []⟩])
    (.ret)) .skip))
  (.seq (.reg [⟨(some 2), .mov (.c (.int .i64 0)), none, []⟩])
  (.ret))))), 21, [.t 2]⟩
def xf6 : XFunc := ⟨.seq (.reg [⟨(some 2), .box 26 (.t 0), none, []⟩,
      ⟨(some 3), .box 28 (.t 1), none, []⟩,
      ⟨(some 4), .mov (.c (.int .i64 0)), none, []⟩])
  (.seq (.seq (.reg [⟨(some 6), .loadn 3 (.t 2), none, []⟩,
      ⟨(some 7), .call (.c (.fn 18 [] [])) [.t 6], none, []⟩,
      ⟨(some 5), .mov (.t 7), none, []⟩])
  (.seq (.reg [⟨(some 8), .mov (.t 5), none, []⟩,
      ⟨(some 9), .bin .neq (.t 8) (.c (.int .i64 0)), none, []⟩])
  (.cond (.t 9) (.seq (.reg [⟨(some 10), .mov (.t 5), none, []⟩,
        ⟨(some 4), .mov (.t 10), none, []⟩])
    (.ret)) .skip)))
  (.seq (.reg [⟨(some 11), .loadn 3 (.t 2), none, []⟩,
      ⟨(some 12), .loadn 2 (.t 3), none, []⟩,
      ⟨(some 13), .call (.c (.fn 19 [] [])) [.t 11, .t 12], none, []⟩,
      ⟨(some 4), .mov (.t 13), none, []⟩])
  (.ret))), 14, [.t 4]⟩
def xf19 : XFunc := ⟨.seq (.reg [⟨(some 2), .box 26 (.t 0), none, []⟩,
      ⟨(some 3), .box 28 (.t 1), none, []⟩,
      ⟨(some 4), .mov (.c (.int .i64 0)), none, []⟩])
  (.seq (.seq (.reg [⟨(some 5), .faddr 0 (.t 2), none, []⟩,
      ⟨(some 6), .loadn 1 (.t 5), none, []⟩,
      ⟨(some 7), .faddr 0 (.t 3), none, []⟩,
      ⟨(some 8), .load1 (.t 7), none, []⟩,
      ⟨(some 9), .call (.c (.fn 35 [] [])) [.t 6, .t 8], none, []⟩,
      ⟨(some 10), .un .not (.t 9), none, []⟩,
      ⟨(some 11), .mov (.t 10), none, []⟩,
      ⟨(some 12), .faddr 1 (.t 2), (some (11, false)), []⟩,
      ⟨(some 13), .loadn 1 (.t 12), (some (11, false)), []⟩,
      ⟨(some 14), .faddr 1 (.t 3), (some (11, false)), []⟩,
      ⟨(some 15), .load1 (.t 14), (some (11, false)), []⟩,
      ⟨(some 16), .call (.c (.fn 35 [] [])) [.t 13, .t 15], (some (11, false)), []⟩,
      ⟨(some 17), .un .not (.t 16), (some (11, false)), []⟩,
      ⟨(some 18), .pick (.t 11) (.c (.bool true)) (.t 17), none, []⟩])
  (.cond (.t 18) (.seq (.reg [⟨(some 4), .mov (.c (.int .i64 2)), none, []⟩])
    (.ret)) .skip))
  (.seq (.reg [⟨(some 4), .mov (.c (.int .i64 0)), none, []⟩])
  (.ret))), 19, [.t 4]⟩
def xf37 : XFunc := ⟨.seq (.reg [⟨(some 1), .box 43 (.t 0), none, []⟩,
      ⟨(some 2), .mov (.c (.int .i64 0)), none, []⟩])
  (.seq (.seq (.reg [⟨(some 3), .faddr 0 (.t 1), none, []⟩,
      ⟨(some 4), .load1 (.t 3), none, []⟩,
      ⟨(some 5), .call (.c (.fn 11 [] [])) [.t 4, .c (.int .i64 0), .c (.int .i64 10000000)], none, []⟩,
      ⟨(some 6), .un .not (.t 5), none, []⟩,
      ⟨(some 7), .mov (.t 6), none, []⟩,
      ⟨(some 8), .faddr 1 (.t 1), (some (7, false)), []⟩,
      ⟨(some 9), .load1 (.t 8), (some (7, false)), []⟩,
      ⟨(some 10), .call (.c (.fn 11 [] [])) [.t 9, .c (.int .i64 0), .c (.int .i64 10000000)], (some (7, false)), []⟩,
      ⟨(some 11), .un .not (.t 10), (some (7, false)), []⟩,
      ⟨(some 12), .pick (.t 7) (.c (.bool true)) (.t 11), none, []⟩,
      ⟨(some 13), .mov (.t 12), none, []⟩,
      ⟨(some 14), .faddr 2 (.t 1), (some (13, false)), []⟩,
      ⟨(some 15), .load1 (.t 14), (some (13, false)), []⟩,
      ⟨(some 16), .call (.c (.fn 11 [] [])) [.t 15, .c (.int .i64 (-10000000)), .c (.int .i64 10000000)], (some (13, false)), []⟩,
      ⟨(some 17), .un .not (.t 16), (some (13, false)), []⟩,
      ⟨(some 18), .pick (.t 13) (.c (.bool true)) (.t 17), none, []⟩])
  (.cond (.t 18) (.seq (.reg [⟨(some 2), .mov (.c (.int .i64 2)), none, []⟩])
    (.ret)) .skip))
  (.seq (.reg [⟨(some 2), .mov (.c (.int .i64 0)), none, []⟩])
  (.ret))), 19, [.t 2]⟩
structure PairCode (X : FuncId → Option XFunc) : Prop where
  tab : TabCode X
  h38 : X 38 = some xf38
  h64 : X 64 = some xf64
  h22 : X 22 = some xf22
  h40 : X 40 = some xf40
  h5 : X 5 = some xf5
  h9 : X 9 = some xf9
  h13 : X 13 = some xf13
  h30 : X 30 = some xf30
  h29 : X 29 = some xf29
  h25 : X 25 = some xf25
  h53 : X 53 = some xf53
  h18 : X 18 = some xf18
  h6 : X 6 = some xf6
  h19 : X 19 = some xf19
  h37 : X 37 = some xf37
end Go.Proofs.Ytbgjmclpahganaa.Eng

/-
  CODE of VRead.
-/
namespace Go.Proofs.Ytbgjmclpahganaa.Eng
set_option linter.unusedSimpArgs false
set_option linter.unusedVariables false
structure ReadCode (X : FuncId → Option XFunc) : Prop where
  tab : TabCode X
end Go.Proofs.Ytbgjmclpahganaa.Eng

/-
  CODE of VRun.
-/
namespace Go.Proofs.Ytbgjmclpahganaa.Eng
set_option linter.unusedSimpArgs false
set_option linter.unusedVariables false
def xf23 : XFunc := ⟨.seq (.reg [⟨(some 1), .box 35 (.t 0), none, []⟩,
      ⟨(some 2), .mov (.c (.int .i64 0)), none, []⟩])
  (.seq (.dreg [⟨(some 3), .load1 (.t 1), none, []⟩,
      ⟨(some 4), .len (.t 3), none, [0]⟩,
      ⟨(some 5), .bin .gtr (.t 4) (.c (.int .i64 200)), none, [0, 1]⟩,
      ⟨(some 6), .call (.c (.fn 43 [] [])) [.t 5, .c (.int .i64 8)], none, [1, 0, 2]⟩,
      ⟨(some 7), .load1 (.t 1), none, []⟩,
      ⟨(some 8), .len (.t 7), none, [4]⟩,
      ⟨(some 9), .fn true 45 [] [.t 1], none, []⟩,
      ⟨(some 10), .call (.c (.fn 44 [] [])) [.t 8, .t 9], none, [2, 0, 1, 4, 3, 6, 5]⟩,
      ⟨(some 11), .buildSlice 116 1 2 false [.nilfn, .nilfn] [(0, 1, .t 6), (1, 1, .t 10)], none, [5, 6, 4, 2, 0, 1, 7, 3]⟩,
      ⟨(some 12), .call (.c (.fn 42 [] [])) [.t 11], none, [3, 1, 0, 2, 4, 6, 5, 7, 8]⟩,
      ⟨(some 2), .mov (.t 12), none, [8, 7, 6, 5, 4, 3, 2, 1, 0, 9]⟩])
  (.ret)), 13, [.t 2]⟩
def xf45 : XFunc := ⟨.seq (.reg [⟨(some 3), .mov (.c (.int .i64 0)), none, []⟩])
  (.seq (.reg [⟨(some 4), .load1 (.t 1), none, []⟩,
      ⟨(some 5), .mov (.t 0), none, []⟩,
      ⟨(some 6), .iaddr 3 (.t 4) (.t 5), none, []⟩,
      ⟨(some 7), .loadn 3 (.t 6), none, []⟩,
      ⟨(some 8), .call (.c (.fn 29 [] [])) [.t 7], none, []⟩,
      ⟨(some 3), .mov (.t 8), none, []⟩])
  (.ret)), 9, [.t 3]⟩
def xf24 : XFunc := ⟨.seq (.reg [⟨(some 2), .box 76 (.t 0), none, []⟩,
      ⟨(some 3), .box 35 (.t 1), none, []⟩,
      ⟨(some 4), .mov (.c .nilfn), none, []⟩])
  (.seq (.reg [⟨(some 5), .fn true 46 [] [.t 2, .t 3], none, []⟩,
      ⟨(some 4), .mov (.t 5), none, []⟩])
  (.ret)), 6, [.t 4]⟩
def xf46l0 : XCode := .seq (.reg [⟨(some 14), .bin .lss (.t 13) (.t 12), none, []⟩])
  (.seq (.cond (.t 14) .skip (.exit 0))
  (.seq (.block 1 (.seq (.reg [⟨(some 15), .iaddr 3 (.t 11) (.t 13), none, []⟩,
        ⟨(some 16), .loadn 3 (.t 15), none, []⟩,
        ⟨(some 6), .new 43 [.int .i64 0, .int .i64 0, .int .i64 0], none, []⟩,
        ⟨none, .store 3 (.t 6) (.t 16), none, []⟩])
    (.seq (.reg [⟨(some 18), .faddr 0 (.t 1), none, []⟩,
        ⟨(some 19), .loadn 3 (.t 18), none, []⟩,
        ⟨(some 20), .loadn 2 (.t 4), none, []⟩,
        ⟨(some 21), .loadn 3 (.t 6), none, []⟩,
        ⟨(some 22), .call (.c (.fn 30 [] [])) [.t 19, .t 20, .t 21], none, []⟩,
        ⟨(some 17), .mov (.t 22), none, []⟩,
        ⟨(some 23), .extract (.t 17) 0, none, []⟩,
        ⟨(some 24), .extract (.t 17) 1, none, []⟩,
        ⟨(some 7), .new 84 [.int .i64 0, .int .i64 0, .int .i64 0, .int .i64 0], none, []⟩,
        ⟨none, .store 4 (.t 7) (.t 23), none, []⟩,
        ⟨(some 8), .mov (.t 24), none, []⟩])
    (.seq (.seq (.reg [⟨(some 25), .mov (.t 0), none, []⟩,
        ⟨(some 26), .loadn 4 (.t 7), none, []⟩,
        ⟨(some 27), .mov (.t 8), none, []⟩,
        ⟨(some 28), .call (.t 25) [.t 26, .t 27], none, []⟩,
        ⟨(some 29), .un .not (.t 28), none, []⟩,
        ⟨(some 30), .mov (.t 29), none, []⟩,
        ⟨(some 31), .mov (.t 8), (some (30, false)), []⟩,
        ⟨(some 32), .bin .neq (.t 31) (.c (.int .i64 0)), (some (30, false)), []⟩,
        ⟨(some 33), .pick (.t 30) (.c (.bool true)) (.t 32), none, []⟩])
    (.cond (.t 33) .ret .skip))
    (.reg [⟨(some 34), .faddr 0 (.t 7), none, []⟩,
        ⟨(some 35), .loadn 2 (.t 34), none, []⟩,
        ⟨none, .store 2 (.t 4) (.t 35), none, []⟩])))))
  (.reg [⟨(some 36), .bin .add (.t 13) (.c (.int .i64 1)), none, []⟩,
      ⟨(some 13), .mov (.t 36), none, []⟩])))
def xf46 : XFunc := ⟨.seq (.reg [⟨(some 9), .faddr 3 (.t 1), none, []⟩,
      ⟨(some 10), .loadn 2 (.t 9), none, []⟩,
      ⟨(some 4), .new 74 [.int .i64 0, .int .i64 0], none, []⟩,
      ⟨none, .store 2 (.t 4) (.t 10), none, []⟩])
  (.seq (.reg [⟨(some 11), .load1 (.t 2), none, []⟩,
      ⟨(some 12), .len (.t 11), none, []⟩,
      ⟨(some 13), .mov (.c (.int .i64 0)), none, []⟩])
  (.block 0 (.loop xf46l0))), 37, []⟩
def xf8a0 : XCode := .seq (.reg [⟨(some 14), .new 84 [.int .i64 0, .int .i64 0, .int .i64 0, .int .i64 0], none, []⟩,
      ⟨none, .store 4 (.t 14) (.t 35), none, []⟩])
  (.reg [⟨(some 15), .mov (.t 36), none, []⟩])
def xf8b0 : XCode := .block 1 (.seq (.seq (.reg [⟨(some 37), .mov (.t 15), none, []⟩,
        ⟨(some 38), .bin .neq (.t 37) (.c (.int .i64 0)), none, []⟩])
    (.cond (.t 38) (.seq (.reg [⟨(some 39), .build [.int .i64 0, .int .i64 0] [], none, []⟩,
          ⟨(some 40), .mov (.t 15), none, []⟩,
          ⟨none, .store 1 (.t 6) (.c .nils), none, []⟩,
          ⟨none, .store 2 (.t 7) (.t 39), none, []⟩,
          ⟨none, .store 1 (.t 8) (.t 40), none, []⟩])
      (.ret)) .skip))
    (.seq (.dreg [⟨(some 41), .load1 (.t 12), none, []⟩,
        ⟨(some 42), .faddr 0 (.t 14), none, []⟩,
        ⟨(some 43), .loadn 2 (.t 42), none, [1]⟩,
        ⟨(some 44), .call (.c (.fn 25 [] [])) [.t 43], none, [1, 2]⟩,
        ⟨(some 45), .buildSlice 28 2 1 true [.int .i64 0, .int .i64 0] [(0, 2, .t 44)], none, [2, 1, 3]⟩,
        ⟨(some 46), .append 28 2 16 (.t 41) (.t 45), none, [1, 2, 3, 4, 0]⟩,
        ⟨none, .store 1 (.t 12) (.t 46), none, [4, 3, 2, 1, 0, 5]⟩])
    (.seq (.reg [⟨(some 47), .faddr 0 (.t 13), none, []⟩,
        ⟨(some 48), .load1 (.t 47), none, []⟩,
        ⟨(some 49), .faddr 2 (.t 14), none, []⟩,
        ⟨(some 50), .faddr 0 (.t 49), none, []⟩,
        ⟨(some 51), .load1 (.t 50), none, []⟩,
        ⟨(some 52), .bin .add (.t 48) (.t 51), none, []⟩,
        ⟨(some 53), .faddr 0 (.t 13), none, []⟩,
        ⟨none, .store 1 (.t 53) (.t 52), none, []⟩])
    (.reg [⟨(some 54), .faddr 1 (.t 13), none, []⟩,
        ⟨(some 55), .load1 (.t 54), none, []⟩,
        ⟨(some 56), .faddr 2 (.t 14), none, []⟩,
        ⟨(some 57), .faddr 1 (.t 56), none, []⟩,
        ⟨(some 58), .load1 (.t 57), none, []⟩,
        ⟨(some 59), .bin .add (.t 55) (.t 58), none, []⟩,
        ⟨(some 60), .faddr 1 (.t 13), none, []⟩,
        ⟨none, .store 1 (.t 60) (.t 59), none, []⟩]))))
def xf8 : XFunc := ⟨.seq (.reg [⟨(some 3), .box 26 (.t 0), none, []⟩,
      ⟨(some 4), .box 28 (.t 1), none, []⟩,
      ⟨(some 6), .new 44 [.nils], none, []⟩,
      ⟨(some 7), .new 46 [.int .i64 0, .int .i64 0], none, []⟩,
      ⟨(some 8), .new 47 [.int .i64 0], none, []⟩])
  (.seq (.reg [⟨(some 17), .loadn 3 (.t 3), none, []⟩,
      ⟨(some 18), .loadn 2 (.t 4), none, []⟩,
      ⟨(some 19), .call (.c (.fn 22 [] [])) [.t 17, .t 18], none, []⟩,
      ⟨(some 16), .mov (.t 19), none, []⟩,
      ⟨(some 20), .extract (.t 16) 0, none, []⟩,
      ⟨(some 21), .extract (.t 16) 1, none, []⟩,
      ⟨(some 9), .new 76 [.nils, .nils, .int .i64 0, .int .i64 0, .int .i64 0], none, []⟩,
      ⟨none, .store 5 (.t 9) (.t 20), none, []⟩,
      ⟨(some 10), .mov (.t 21), none, []⟩])
  (.seq (.seq (.reg [⟨(some 22), .mov (.t 10), none, []⟩,
      ⟨(some 23), .bin .neq (.t 22) (.c (.int .i64 0)), none, []⟩])
  (.cond (.t 23) (.seq (.reg [⟨(some 24), .build [.int .i64 0, .int .i64 0] [], none, []⟩,
        ⟨(some 25), .mov (.t 10), none, []⟩,
        ⟨none, .store 1 (.t 6) (.c .nils), none, []⟩,
        ⟨none, .store 2 (.t 7) (.t 24), none, []⟩,
        ⟨none, .store 1 (.t 8) (.t 25), none, []⟩])
    (.ret)) .skip))
  (.seq (.seq (.reg [⟨(some 26), .mov (.t 2), none, []⟩,
      ⟨(some 27), .call (.c (.fn 23 [] [])) [.t 26], none, []⟩,
      ⟨(some 11), .mov (.t 27), none, []⟩])
  (.seq (.reg [⟨(some 28), .mov (.t 11), none, []⟩,
      ⟨(some 29), .bin .neq (.t 28) (.c (.int .i64 0)), none, []⟩])
  (.cond (.t 29) (.seq (.reg [⟨(some 30), .build [.int .i64 0, .int .i64 0] [], none, []⟩,
        ⟨(some 31), .mov (.t 11), none, []⟩,
        ⟨none, .store 1 (.t 6) (.c .nils), none, []⟩,
        ⟨none, .store 2 (.t 7) (.t 30), none, []⟩,
        ⟨none, .store 1 (.t 8) (.t 31), none, []⟩])
    (.ret)) .skip)))
  (.seq (.reg [⟨(some 12), .new 44 [.nils], none, []⟩])
  (.seq (.reg [⟨(some 13), .new 46 [.int .i64 0, .int .i64 0], none, []⟩])
  (.seq (.seq (.reg [⟨(some 32), .loadn 5 (.t 9), none, []⟩,
      ⟨(some 33), .mov (.t 2), none, []⟩,
      ⟨(some 34), .call (.c (.fn 24 [] [])) [.t 32, .t 33], none, []⟩])
  (.block 0 (.rangeF (.t 34) [35, 36] xf8a0 xf8b0)))
  (.seq (.dreg [⟨(some 61), .load1 (.t 12), none, []⟩,
      ⟨(some 62), .loadn 2 (.t 13), none, []⟩,
      ⟨none, .store 1 (.t 6) (.t 61), none, [0]⟩,
      ⟨none, .store 2 (.t 7) (.t 62), none, [0, 2, 1]⟩,
      ⟨none, .store 1 (.t 8) (.c (.int .i64 0)), none, [2, 1, 0, 3]⟩])
  (.ret)))))))), 63, [.c1 6, .cn 7 2, .c1 8]⟩
def xf10 : XFunc := ⟨.seq (.reg [⟨(some 2), .mov (.c .nils), none, []⟩])
  (.seq (.reg [⟨(some 3), .buildSlice 43 3 0 true [] [], none, []⟩,
      ⟨(some 4), .mov (.t 0), none, []⟩,
      ⟨(some 5), .append 43 3 24 (.t 3) (.t 4), none, []⟩,
      ⟨(some 2), .mov (.t 5), none, []⟩])
  (.ret)), 6, [.t 2]⟩
def xf21l0 : XCode := .seq (.seq (.reg [⟨(some 8), .mov (.t 3), none, []⟩,
      ⟨(some 9), .mov (.t 0), none, []⟩,
      ⟨(some 10), .len (.t 9), none, []⟩,
      ⟨(some 11), .bin .lss (.t 8) (.t 10), none, []⟩])
  (.cond (.t 11) .skip (.exit 0)))
  (.seq (.block 1 (.seq (.reg [⟨(some 14), .mov (.t 0), none, []⟩,
        ⟨(some 15), .mov (.t 3), none, []⟩,
        ⟨(some 16), .iaddr 3 (.t 14) (.t 15), none, []⟩,
        ⟨(some 17), .loadn 3 (.t 16), none, []⟩,
        ⟨(some 18), .call (.c (.fn 37 [] [])) [.t 17], none, []⟩,
        ⟨(some 4), .mov (.t 18), none, []⟩])
    (.seq (.reg [⟨(some 19), .mov (.t 4), none, []⟩,
        ⟨(some 20), .bin .neq (.t 19) (.c (.int .i64 0)), none, []⟩])
    (.cond (.t 20) (.seq (.reg [⟨(some 21), .mov (.t 4), none, []⟩,
          ⟨(some 2), .mov (.t 21), none, []⟩])
      (.ret)) .skip))))
  (.reg [⟨(some 12), .mov (.t 3), none, []⟩,
      ⟨(some 13), .bin .add (.t 12) (.c (.int .i64 1)), none, []⟩,
      ⟨(some 3), .mov (.t 13), none, []⟩]))
def xf21 : XFunc := ⟨.seq (.reg [⟨(some 2), .mov (.c (.int .i64 0)), none, []⟩])
  (.seq (.seq (.reg [⟨(some 5), .mov (.t 0), none, []⟩,
      ⟨(some 6), .len (.t 5), none, []⟩,
      ⟨(some 7), .bin .gtr (.t 6) (.c (.int .i64 200)), none, []⟩])
  (.cond (.t 7) (.seq (.reg [⟨(some 2), .mov (.c (.int .i64 8)), none, []⟩])
    (.ret)) .skip))
  (.seq (.seq (.reg [⟨(some 3), .mov (.c (.int .i64 0)), none, []⟩])
  (.block 0 (.loop xf21l0)))
  (.seq (.reg [⟨(some 2), .mov (.c (.int .i64 0)), none, []⟩])
  (.ret)))), 22, [.t 2]⟩
structure RunCode (X : FuncId → Option XFunc) : Prop where
  pair : PairCode X
  read : ReadCode X
  h23 : X 23 = some xf23
  h45 : X 45 = some xf45
  h24 : X 24 = some xf24
  h46 : X 46 = some xf46
  h8 : X 8 = some xf8
  h10 : X 10 = some xf10
  h21 : X 21 = some xf21
end Go.Proofs.Ytbgjmclpahganaa.Eng

/-
  CODE of VRuns.
-/
namespace Go.Proofs.Ytbgjmclpahganaa.Eng
set_option linter.unusedSimpArgs false
set_option linter.unusedVariables false
structure VRunsCode (X : FuncId → Option XFunc) : Prop where
  run : RunCode X
end Go.Proofs.Ytbgjmclpahganaa.Eng

/-
  CODE of VVio.
-/
namespace Go.Proofs.Ytbgjmclpahganaa.Eng
set_option linter.unusedSimpArgs false
set_option linter.unusedVariables false
def xf12 : XFunc := ⟨.seq (.reg [⟨(some 3), .box 26 (.t 0), none, []⟩,
      ⟨(some 4), .box 28 (.t 1), none, []⟩,
      ⟨(some 5), .box 37 (.t 2), none, []⟩,
      ⟨(some 6), .new 54 [.int .i64 0, .int .i64 0, .int .i64 0], none, []⟩,
      ⟨(some 7), .mov (.c (.int .i64 0)), none, []⟩])
  (.seq (.reg [⟨(some 13), .loadn 3 (.t 3), none, []⟩,
      ⟨(some 14), .loadn 2 (.t 4), none, []⟩,
      ⟨(some 15), .loadn 11 (.t 5), none, []⟩,
      ⟨(some 16), .call (.c (.fn 27 [] [])) [.t 13, .t 14, .t 15], none, []⟩,
      ⟨(some 12), .mov (.t 16), none, []⟩,
      ⟨(some 17), .extract (.t 12) 0, none, []⟩,
      ⟨(some 18), .extract (.t 12) 1, none, []⟩,
      ⟨(some 8), .new 89 [.nils, .nils, .int .i64 0, .int .i64 0, .int .i64 0, .int .i64 0, .int .i64 0, .int .i64 0, .int .i64 0, .int .i64 0, .int .i64 0, .int .i64 0, .int .i64 0, .int .i64 0, .int .i64 0], none, []⟩,
      ⟨none, .store 15 (.t 8) (.t 17), none, []⟩,
      ⟨(some 9), .mov (.t 18), none, []⟩])
  (.seq (.seq (.reg [⟨(some 19), .mov (.t 9), none, []⟩,
      ⟨(some 20), .bin .neq (.t 19) (.c (.int .i64 0)), none, []⟩])
  (.cond (.t 20) (.seq (.reg [⟨(some 21), .build [.int .i64 0, .int .i64 0, .int .i64 0] [], none, []⟩,
        ⟨(some 22), .mov (.t 9), none, []⟩,
        ⟨none, .store 3 (.t 6) (.t 21), none, []⟩,
        ⟨(some 7), .mov (.t 22), none, []⟩])
    (.ret)) .skip))
  (.seq (.reg [⟨(some 24), .loadn 15 (.t 8), none, []⟩,
      ⟨(some 25), .faddr 10 (.t 5), none, []⟩,
      ⟨(some 26), .load1 (.t 25), none, []⟩,
      ⟨(some 27), .call (.c (.fn 28 [] [])) [.t 24, .t 26], none, []⟩,
      ⟨(some 23), .mov (.t 27), none, []⟩,
      ⟨(some 28), .extract (.t 23) 0, none, []⟩,
      ⟨(some 29), .extract (.t 23) 1, none, []⟩,
      ⟨(some 30), .extract (.t 23) 2, none, []⟩,
      ⟨(some 11), .new 54 [.int .i64 0, .int .i64 0, .int .i64 0], none, []⟩,
      ⟨(some 10), .mov (.t 28), none, []⟩,
      ⟨none, .store 3 (.t 11) (.t 29), none, []⟩,
      ⟨(some 9), .mov (.t 30), none, []⟩])
  (.seq (.reg [⟨(some 31), .loadn 3 (.t 11), none, []⟩,
      ⟨(some 32), .mov (.t 9), none, []⟩,
      ⟨none, .store 3 (.t 6) (.t 31), none, []⟩,
      ⟨(some 7), .mov (.t 32), none, []⟩])
  (.ret))))), 33, [.cn 6 3, .t 7]⟩
def xf20 : XFunc := ⟨.seq (.reg [⟨(some 2), .box 26 (.t 0), none, []⟩,
      ⟨(some 3), .box 34 (.t 1), none, []⟩,
      ⟨(some 4), .mov (.c (.int .i64 0)), none, []⟩])
  (.seq (.seq (.reg [⟨(some 6), .faddr 0 (.t 2), none, []⟩,
      ⟨(some 7), .loadn 1 (.t 6), none, []⟩,
      ⟨(some 8), .faddr 0 (.t 3), none, []⟩,
      ⟨(some 9), .loadn 5 (.t 8), none, []⟩,
      ⟨(some 10), .call (.c (.fn 36 [] [])) [.t 7, .t 9], none, []⟩,
      ⟨(some 5), .mov (.t 10), none, []⟩])
  (.seq (.reg [⟨(some 11), .mov (.t 5), none, []⟩,
      ⟨(some 12), .bin .neq (.t 11) (.c (.int .i64 0)), none, []⟩])
  (.cond (.t 12) (.seq (.reg [⟨(some 13), .mov (.t 5), none, []⟩,
        ⟨(some 4), .mov (.t 13), none, []⟩])
    (.ret)) .skip)))
  (.seq (.reg [⟨(some 14), .faddr 1 (.t 2), none, []⟩,
      ⟨(some 15), .loadn 1 (.t 14), none, []⟩,
      ⟨(some 16), .faddr 5 (.t 3), none, []⟩,
      ⟨(some 17), .loadn 5 (.t 16), none, []⟩,
      ⟨(some 18), .call (.c (.fn 36 [] [])) [.t 15, .t 17], none, []⟩,
      ⟨(some 4), .mov (.t 18), none, []⟩])
  (.ret))), 19, [.t 4]⟩
def xf7 : XFunc := ⟨.seq (.reg [⟨(some 2), .box 26 (.t 0), none, []⟩,
      ⟨(some 3), .box 37 (.t 1), none, []⟩,
      ⟨(some 4), .mov (.c (.int .i64 0)), none, []⟩])
  (.seq (.seq (.reg [⟨(some 6), .loadn 3 (.t 2), none, []⟩,
      ⟨(some 7), .faddr 0 (.t 3), none, []⟩,
      ⟨(some 8), .loadn 10 (.t 7), none, []⟩,
      ⟨(some 9), .call (.c (.fn 20 [] [])) [.t 6, .t 8], none, []⟩,
      ⟨(some 5), .mov (.t 9), none, []⟩])
  (.seq (.reg [⟨(some 10), .mov (.t 5), none, []⟩,
      ⟨(some 11), .bin .neq (.t 10) (.c (.int .i64 0)), none, []⟩])
  (.cond (.t 11) (.seq (.reg [⟨(some 12), .mov (.t 5), none, []⟩,
        ⟨(some 4), .mov (.t 12), none, []⟩])
    (.ret)) .skip)))
  (.seq (.reg [⟨(some 13), .faddr 10 (.t 3), none, []⟩,
      ⟨(some 14), .load1 (.t 13), none, []⟩,
      ⟨(some 15), .call (.c (.fn 21 [] [])) [.t 14], none, []⟩,
      ⟨(some 4), .mov (.t 15), none, []⟩])
  (.ret))), 16, [.t 4]⟩
def xf27 : XFunc := ⟨.seq (.reg [⟨(some 3), .box 26 (.t 0), none, []⟩,
      ⟨(some 4), .box 28 (.t 1), none, []⟩,
      ⟨(some 5), .box 37 (.t 2), none, []⟩,
      ⟨(some 6), .new 89 [.nils, .nils, .int .i64 0, .int .i64 0, .int .i64 0, .int .i64 0, .int .i64 0, .int .i64 0, .int .i64 0, .int .i64 0, .int .i64 0, .int .i64 0, .int .i64 0, .int .i64 0, .int .i64 0], none, []⟩,
      ⟨(some 7), .mov (.c (.int .i64 0)), none, []⟩])
  (.seq (.reg [⟨(some 12), .loadn 3 (.t 3), none, []⟩,
      ⟨(some 13), .loadn 2 (.t 4), none, []⟩,
      ⟨(some 14), .call (.c (.fn 22 [] [])) [.t 12, .t 13], none, []⟩,
      ⟨(some 11), .mov (.t 14), none, []⟩,
      ⟨(some 15), .extract (.t 11) 0, none, []⟩,
      ⟨(some 16), .extract (.t 11) 1, none, []⟩,
      ⟨(some 8), .new 76 [.nils, .nils, .int .i64 0, .int .i64 0, .int .i64 0], none, []⟩,
      ⟨none, .store 5 (.t 8) (.t 15), none, []⟩,
      ⟨(some 9), .mov (.t 16), none, []⟩])
  (.seq (.seq (.reg [⟨(some 17), .mov (.t 9), none, []⟩,
      ⟨(some 18), .bin .neq (.t 17) (.c (.int .i64 0)), none, []⟩])
  (.cond (.t 18) (.seq (.reg [⟨(some 19), .build [.nils, .nils, .int .i64 0, .int .i64 0, .int .i64 0, .int .i64 0, .int .i64 0, .int .i64 0, .int .i64 0, .int .i64 0, .int .i64 0, .int .i64 0, .int .i64 0, .int .i64 0, .int .i64 0] [], none, []⟩,
        ⟨(some 20), .mov (.t 9), none, []⟩,
        ⟨none, .store 15 (.t 6) (.t 19), none, []⟩,
        ⟨(some 7), .mov (.t 20), none, []⟩])
    (.ret)) .skip))
  (.seq (.reg [⟨(some 21), .loadn 5 (.t 8), none, []⟩,
      ⟨(some 22), .faddr 0 (.t 5), none, []⟩,
      ⟨(some 23), .faddr 0 (.t 22), none, []⟩,
      ⟨(some 24), .loadn 5 (.t 23), none, []⟩,
      ⟨(some 25), .faddr 0 (.t 5), none, []⟩,
      ⟨(some 26), .faddr 5 (.t 25), none, []⟩,
      ⟨(some 27), .loadn 5 (.t 26), none, []⟩,
      ⟨(some 28), .build [.int .i64 0, .int .i64 0, .int .i64 0, .int .i64 0, .int .i64 0, .int .i64 0, .int .i64 0, .int .i64 0, .int .i64 0, .int .i64 0] [(0, 5, .t 24), (5, 5, .t 27)], none, []⟩,
      ⟨(some 29), .build [.nils, .nils, .int .i64 0, .int .i64 0, .int .i64 0, .int .i64 0, .int .i64 0, .int .i64 0, .int .i64 0, .int .i64 0, .int .i64 0, .int .i64 0, .int .i64 0, .int .i64 0, .int .i64 0] [(0, 5, .t 21), (5, 10, .t 28)], none, []⟩,
      ⟨(some 10), .new 89 [.nils, .nils, .int .i64 0, .int .i64 0, .int .i64 0, .int .i64 0, .int .i64 0, .int .i64 0, .int .i64 0, .int .i64 0, .int .i64 0, .int .i64 0, .int .i64 0, .int .i64 0, .int .i64 0], none, []⟩,
      ⟨none, .store 15 (.t 10) (.t 29), none, []⟩])
  (.seq (.reg [⟨(some 30), .fn true 47 [] [.t 10], none, []⟩,
      ⟨(some 31), .fn true 49 [] [.t 5], none, []⟩,
      ⟨(some 32), .buildSlice 116 1 2 false [.nilfn, .nilfn] [(0, 1, .t 30), (1, 1, .t 31)], none, []⟩,
      ⟨(some 33), .call (.c (.fn 42 [] [])) [.t 32], none, []⟩,
      ⟨(some 9), .mov (.t 33), none, []⟩])
  (.seq (.reg [⟨(some 34), .loadn 15 (.t 10), none, []⟩,
      ⟨(some 35), .mov (.t 9), none, []⟩,
      ⟨none, .store 15 (.t 6) (.t 34), none, []⟩,
      ⟨(some 7), .mov (.t 35), none, []⟩])
  (.ret)))))), 36, [.cn 6 15, .t 7]⟩
def xf28a0 : XCode := .seq (.reg [⟨(some 8), .new 84 [.int .i64 0, .int .i64 0, .int .i64 0, .int .i64 0], none, []⟩,
      ⟨none, .store 4 (.t 8) (.t 25), none, []⟩])
  (.reg [⟨(some 9), .mov (.t 26), none, []⟩])
def xf28b0 : XCode := .block 1 (.seq (.reg [⟨(some 27), .load1 (.t 7), none, []⟩,
        ⟨(some 28), .len (.t 27), none, []⟩,
        ⟨(some 29), .bin .sub (.t 28) (.c (.int .i64 1)), none, []⟩,
        ⟨(some 10), .mov (.t 29), none, []⟩])
    (.seq (.seq (.reg [⟨(some 30), .mov (.t 9), none, []⟩,
        ⟨(some 31), .bin .neq (.t 30) (.c (.int .i64 0)), none, []⟩])
    (.cond (.t 31) (.seq (.reg [⟨(some 32), .mov (.t 10), none, []⟩,
          ⟨(some 33), .build [.int .i64 0, .int .i64 0, .int .i64 0] [], none, []⟩,
          ⟨(some 34), .mov (.t 9), none, []⟩,
          ⟨none, .store 1 (.t 4) (.t 32), none, []⟩,
          ⟨none, .store 3 (.t 5) (.t 33), none, []⟩,
          ⟨none, .store 1 (.t 6) (.t 34), none, []⟩])
      (.ret)) .skip))
    (.seq (.dreg [⟨(some 35), .load1 (.t 7), none, []⟩,
        ⟨(some 36), .faddr 0 (.t 2), none, []⟩,
        ⟨(some 37), .faddr 0 (.t 36), none, [1]⟩,
        ⟨(some 38), .loadn 3 (.t 37), none, [1, 2]⟩,
        ⟨(some 39), .faddr 0 (.t 8), none, []⟩,
        ⟨(some 40), .loadn 2 (.t 39), none, [4]⟩,
        ⟨(some 41), .call (.c (.fn 50 [] [])) [.t 38, .t 40], none, [4, 2, 1, 5, 3]⟩,
        ⟨(some 42), .buildSlice 123 6 1 true [.int .i64 0, .int .i64 0, .int .i64 0, .int .i64 0, .int .i64 0, .int .i64 0] [(0, 6, .t 41)], none, [3, 5, 1, 2, 4, 6]⟩,
        ⟨(some 43), .append 123 6 48 (.t 35) (.t 42), none, [4, 2, 1, 5, 3, 6, 7, 0]⟩,
        ⟨none, .store 1 (.t 7) (.t 43), none, [7, 6, 5, 4, 3, 2, 1, 0, 8]⟩])
    (.seq (.reg [⟨(some 45), .loadn 15 (.t 2), none, []⟩,
        ⟨(some 46), .load1 (.t 7), none, []⟩,
        ⟨(some 47), .call (.c (.fn 51 [] [])) [.t 45, .t 46], none, []⟩,
        ⟨(some 44), .mov (.t 47), none, []⟩,
        ⟨(some 48), .extract (.t 44) 0, none, []⟩,
        ⟨(some 49), .extract (.t 44) 1, none, []⟩,
        ⟨(some 11), .new 54 [.int .i64 0, .int .i64 0, .int .i64 0], none, []⟩,
        ⟨none, .store 3 (.t 11) (.t 48), none, []⟩,
        ⟨(some 12), .mov (.t 49), none, []⟩])
    (.seq (.reg [⟨(some 50), .mov (.t 12), none, []⟩])
    (.cond (.t 50) (.seq (.dreg [⟨(some 51), .mov (.t 10), none, []⟩,
          ⟨(some 52), .loadn 3 (.t 11), none, []⟩,
          ⟨none, .store 1 (.t 4) (.t 51), none, [0]⟩,
          ⟨none, .store 3 (.t 5) (.t 52), none, [0, 2, 1]⟩,
          ⟨none, .store 1 (.t 6) (.c (.int .i64 0)), none, [2, 1, 0, 3]⟩])
      (.ret)) .skip))))))
def xf28 : XFunc := ⟨.seq (.reg [⟨(some 2), .box 89 (.t 0), none, []⟩,
      ⟨(some 4), .new 3 [.int .i64 0], none, []⟩,
      ⟨(some 5), .new 54 [.int .i64 0, .int .i64 0, .int .i64 0], none, []⟩,
      ⟨(some 6), .new 47 [.int .i64 0], none, []⟩])
  (.seq (.reg [⟨(some 13), .faddr 0 (.t 2), none, []⟩,
      ⟨(some 14), .faddr 0 (.t 13), none, []⟩,
      ⟨(some 15), .loadn 3 (.t 14), none, []⟩,
      ⟨(some 16), .faddr 0 (.t 2), none, []⟩,
      ⟨(some 17), .faddr 3 (.t 16), none, []⟩,
      ⟨(some 18), .loadn 2 (.t 17), none, []⟩,
      ⟨(some 19), .call (.c (.fn 50 [] [])) [.t 15, .t 18], none, []⟩,
      ⟨(some 20), .buildSlice 123 6 1 true [.int .i64 0, .int .i64 0, .int .i64 0, .int .i64 0, .int .i64 0, .int .i64 0] [(0, 6, .t 19)], none, []⟩,
      ⟨(some 7), .new 125 [.nils], none, []⟩,
      ⟨none, .store 1 (.t 7) (.t 20), none, []⟩])
  (.seq (.seq (.reg [⟨(some 21), .faddr 0 (.t 2), none, []⟩,
      ⟨(some 22), .loadn 5 (.t 21), none, []⟩,
      ⟨(some 23), .mov (.t 1), none, []⟩,
      ⟨(some 24), .call (.c (.fn 24 [] [])) [.t 22, .t 23], none, []⟩])
  (.block 0 (.rangeF (.t 24) [25, 26] xf28a0 xf28b0)))
  (.seq (.reg [⟨(some 53), .mov (.t 1), none, []⟩,
      ⟨(some 54), .len (.t 53), none, []⟩,
      ⟨(some 55), .build [.int .i64 0, .int .i64 0, .int .i64 0] [], none, []⟩,
      ⟨none, .store 1 (.t 4) (.t 54), none, []⟩,
      ⟨none, .store 3 (.t 5) (.t 55), none, []⟩,
      ⟨none, .store 1 (.t 6) (.c (.int .i64 12)), none, []⟩])
  (.ret)))), 56, [.c1 4, .cn 5 3, .c1 6]⟩
def xf36 : XFunc := ⟨.seq (.reg [⟨(some 2), .box 24 (.t 0), none, []⟩,
      ⟨(some 3), .box 32 (.t 1), none, []⟩,
      ⟨(some 4), .mov (.c (.int .i64 0)), none, []⟩])
  (.seq (.seq (.reg [⟨(some 5), .loadn 1 (.t 2), none, []⟩,
      ⟨(some 6), .faddr 0 (.t 3), none, []⟩,
      ⟨(some 7), .faddr 0 (.t 6), none, []⟩,
      ⟨(some 8), .load1 (.t 7), none, []⟩,
      ⟨(some 9), .call (.c (.fn 63 [] [])) [.t 5, .t 8], none, []⟩,
      ⟨(some 10), .un .not (.t 9), none, []⟩,
      ⟨(some 11), .mov (.t 10), none, []⟩,
      ⟨(some 12), .loadn 1 (.t 2), (some (11, false)), []⟩,
      ⟨(some 13), .faddr 0 (.t 3), (some (11, false)), []⟩,
      ⟨(some 14), .faddr 1 (.t 13), (some (11, false)), []⟩,
      ⟨(some 15), .load1 (.t 14), (some (11, false)), []⟩,
      ⟨(some 16), .call (.c (.fn 63 [] [])) [.t 12, .t 15], (some (11, false)), []⟩,
      ⟨(some 17), .un .not (.t 16), (some (11, false)), []⟩,
      ⟨(some 18), .pick (.t 11) (.c (.bool true)) (.t 17), none, []⟩,
      ⟨(some 19), .mov (.t 18), none, []⟩,
      ⟨(some 20), .faddr 2 (.t 3), (some (19, false)), []⟩,
      ⟨(some 21), .load1 (.t 20), (some (19, false)), []⟩,
      ⟨(some 22), .call (.c (.fn 11 [] [])) [.t 21, .c (.int .i64 0), .c (.int .i64 1000000)], (some (19, false)), []⟩,
      ⟨(some 23), .un .not (.t 22), (some (19, false)), []⟩,
      ⟨(some 24), .pick (.t 19) (.c (.bool true)) (.t 23), none, []⟩,
      ⟨(some 25), .mov (.t 24), none, []⟩,
      ⟨(some 26), .faddr 3 (.t 3), (some (25, false)), []⟩,
      ⟨(some 27), .load1 (.t 26), (some (25, false)), []⟩,
      ⟨(some 28), .call (.c (.fn 11 [] [])) [.t 27, .c (.int .i64 0), .c (.int .i64 1000000)], (some (25, false)), []⟩,
      ⟨(some 29), .un .not (.t 28), (some (25, false)), []⟩,
      ⟨(some 30), .pick (.t 25) (.c (.bool true)) (.t 29), none, []⟩,
      ⟨(some 31), .mov (.t 30), none, []⟩,
      ⟨(some 32), .faddr 4 (.t 3), (some (31, false)), []⟩,
      ⟨(some 33), .load1 (.t 32), (some (31, false)), []⟩,
      ⟨(some 34), .call (.c (.fn 11 [] [])) [.t 33, .c (.int .i64 1), .c (.int .i64 200)], (some (31, false)), []⟩,
      ⟨(some 35), .un .not (.t 34), (some (31, false)), []⟩,
      ⟨(some 36), .pick (.t 31) (.c (.bool true)) (.t 35), none, []⟩])
  (.cond (.t 36) (.seq (.reg [⟨(some 4), .mov (.c (.int .i64 2)), none, []⟩])
    (.ret)) .skip))
  (.seq (.seq (.reg [⟨(some 37), .faddr 0 (.t 3), none, []⟩,
      ⟨(some 38), .faddr 0 (.t 37), none, []⟩,
      ⟨(some 39), .load1 (.t 38), none, []⟩,
      ⟨(some 40), .faddr 0 (.t 3), none, []⟩,
      ⟨(some 41), .faddr 1 (.t 40), none, []⟩,
      ⟨(some 42), .load1 (.t 41), none, []⟩,
      ⟨(some 43), .bin .gtr (.t 39) (.t 42), none, []⟩])
  (.cond (.t 43) (.seq (.reg [⟨(some 4), .mov (.c (.int .i64 9)), none, []⟩])
    (.ret)) .skip))
  (.seq (.reg [⟨(some 4), .mov (.c (.int .i64 0)), none, []⟩])
  (.ret)))), 44, [.t 4]⟩
def xf48 : XFunc := ⟨.seq (.reg [⟨(some 2), .box 72 (.t 0), none, []⟩,
      ⟨(some 3), .box 121 (.t 1), none, []⟩,
      ⟨(some 4), .mov (.c (.int .i64 0)), none, []⟩])
  (.seq (.reg [⟨(some 8), .load1 (.t 3), none, []⟩,
      ⟨(some 9), .len (.t 8), none, []⟩,
      ⟨(some 10), .fn true 67 [] [.t 2, .t 3], none, []⟩,
      ⟨(some 11), .call (.c (.fn 39 [] [])) [.t 9, .t 10], none, []⟩,
      ⟨(some 7), .mov (.t 11), none, []⟩,
      ⟨(some 12), .extract (.t 7) 0, none, []⟩,
      ⟨(some 13), .extract (.t 7) 1, none, []⟩,
      ⟨(some 5), .mov (.t 12), none, []⟩,
      ⟨(some 6), .mov (.t 13), none, []⟩])
  (.seq (.reg [⟨(some 14), .mov (.t 6), none, []⟩,
      ⟨(some 4), .mov (.t 14), none, []⟩])
  (.ret))), 15, [.t 4]⟩
def xf47 : XFunc := ⟨.seq (.reg [⟨(some 1), .mov (.c (.int .i64 0)), none, []⟩])
  (.seq (.dreg [⟨(some 2), .faddr 0 (.t 0), none, []⟩,
      ⟨(some 3), .faddr 0 (.t 2), none, [0]⟩,
      ⟨(some 4), .loadn 3 (.t 3), none, [0, 1]⟩,
      ⟨(some 5), .faddr 5 (.t 0), none, []⟩,
      ⟨(some 6), .sliceArr 5 2 true (.t 5), none, [3]⟩,
      ⟨(some 7), .call (.c (.fn 48 [] [])) [.t 4, .t 6], none, [3, 1, 0, 4, 2]⟩,
      ⟨(some 1), .mov (.t 7), none, [4, 3, 2, 1, 0, 5]⟩])
  (.ret)), 8, [.t 1]⟩
def xf49 : XFunc := ⟨.seq (.reg [⟨(some 1), .mov (.c (.int .i64 0)), none, []⟩])
  (.seq (.reg [⟨(some 2), .faddr 10 (.t 0), none, []⟩,
      ⟨(some 3), .load1 (.t 2), none, []⟩,
      ⟨(some 4), .call (.c (.fn 23 [] [])) [.t 3], none, []⟩,
      ⟨(some 1), .mov (.t 4), none, []⟩])
  (.ret)), 5, [.t 1]⟩
def xf50l0 : XCode := .seq (.reg [⟨(some 11), .bin .lss (.t 10) (.c (.int .i64 2)), none, []⟩])
  (.seq (.cond (.t 11) .skip (.exit 0))
  (.seq (.block 1 (.seq (.reg [⟨(some 12), .mov (.t 10), none, []⟩,
        ⟨(some 13), .index 1 2 true (.t 9) (.t 10), none, []⟩,
        ⟨(some 7), .new 69 [.nils], none, []⟩,
        ⟨(some 6), .mov (.t 12), none, []⟩,
        ⟨none, .store 1 (.t 7) (.t 13), none, []⟩])
    (.dreg [⟨(some 14), .mov (.t 6), none, []⟩,
        ⟨(some 15), .loadn 1 (.t 7), none, []⟩,
        ⟨(some 16), .mov (.t 6), none, []⟩,
        ⟨(some 17), .iaddrA 1 2 (.t 3) (.t 16), none, [2]⟩,
        ⟨(some 18), .load1 (.t 17), none, [2, 3]⟩,
        ⟨(some 19), .call (.c (.fn 32 [] [])) [.t 15, .t 18], none, [3, 2, 4, 1]⟩,
        ⟨(some 20), .iaddrA 3 2 (.t 5) (.t 14), none, [5, 4, 3, 2, 1, 0]⟩,
        ⟨none, .store 3 (.t 20) (.t 19), none, [4, 3, 2, 1, 0, 5, 6]⟩])))
  (.reg [⟨(some 21), .bin .add (.t 10) (.c (.int .i64 1)), none, []⟩,
      ⟨(some 10), .mov (.t 21), none, []⟩])))
def xf50 : XFunc := ⟨.seq (.reg [⟨(some 2), .box 72 (.t 0), none, []⟩,
      ⟨(some 3), .box 74 (.t 1), none, []⟩,
      ⟨(some 4), .new 123 [.int .i64 0, .int .i64 0, .int .i64 0, .int .i64 0, .int .i64 0, .int .i64 0], none, []⟩])
  (.seq (.reg [⟨(some 5), .new 123 [.int .i64 0, .int .i64 0, .int .i64 0, .int .i64 0, .int .i64 0, .int .i64 0], none, []⟩])
  (.seq (.seq (.reg [⟨(some 8), .faddr 0 (.t 2), none, []⟩,
      ⟨(some 9), .loadn 2 (.t 8), none, []⟩,
      ⟨(some 10), .mov (.c (.int .i64 0)), none, []⟩])
  (.block 0 (.loop xf50l0)))
  (.seq (.reg [⟨(some 22), .loadn 6 (.t 5), none, []⟩,
      ⟨none, .store 6 (.t 4) (.t 22), none, []⟩])
  (.ret)))), 23, [.cn 4 6]⟩
def xf51l0 : XCode := .seq (.reg [⟨(some 43), .bin .lss (.t 42) (.c (.int .i64 4)), none, []⟩])
  (.seq (.cond (.t 43) .skip (.exit 2))
  (.seq (.block 3 (.seq (.reg [⟨(some 44), .mov (.t 42), none, []⟩,
        ⟨(some 45), .index 1 4 false (.t 41) (.t 42), none, []⟩,
        ⟨(some 11), .mov (.t 44), none, []⟩,
        ⟨(some 12), .mov (.t 45), none, []⟩])
    (.seq (.reg [⟨(some 46), .mov (.t 12), none, []⟩])
    (.cond (.t 46) (.seq (.reg [⟨(some 47), .mov (.t 6), none, []⟩,
          ⟨(some 48), .mov (.t 7), none, []⟩,
          ⟨(some 49), .mov (.t 11), none, []⟩,
          ⟨(some 50), .build [.int .i64 0, .int .i64 0, .int .i64 0] [(0, 1, .t 47), (1, 1, .t 48), (2, 1, .t 49)], none, []⟩,
          ⟨none, .store 3 (.t 4) (.t 50), none, []⟩,
          ⟨(some 5), .mov (.c (.bool true)), none, []⟩])
      (.ret)) .skip))))
  (.reg [⟨(some 51), .bin .add (.t 42) (.c (.int .i64 1)), none, []⟩,
      ⟨(some 42), .mov (.t 51), none, []⟩])))
def xf51l1 : XCode := .seq (.reg [⟨(some 19), .bin .lss (.t 18) (.c (.int .i64 2)), none, []⟩])
  (.seq (.cond (.t 19) .skip (.exit 0))
  (.seq (.block 1 (.seq (.reg [⟨(some 20), .mov (.t 18), none, []⟩,
        ⟨(some 21), .index 5 2 true (.t 17) (.t 18), none, []⟩,
        ⟨(some 8), .new 32 [.int .i64 0, .int .i64 0, .int .i64 0, .int .i64 0, .int .i64 0], none, []⟩,
        ⟨(some 7), .mov (.t 20), none, []⟩,
        ⟨none, .store 5 (.t 8) (.t 21), none, []⟩])
    (.seq (.dreg [⟨(some 22), .mov (.t 1), none, []⟩,
        ⟨(some 23), .mov (.t 6), none, []⟩,
        ⟨(some 24), .mov (.t 7), none, []⟩,
        ⟨(some 25), .iaddr 6 (.t 22) (.t 23), none, [1, 0]⟩,
        ⟨(some 26), .iaddrA 3 2 (.t 25) (.t 24), none, [0, 1, 2, 3]⟩,
        ⟨(some 27), .loadn 3 (.t 26), none, [3, 2, 1, 0, 4]⟩,
        ⟨(some 28), .mov (.t 1), none, []⟩,
        ⟨(some 29), .mov (.t 6), none, []⟩,
        ⟨(some 30), .faddr 4 (.t 8), none, []⟩,
        ⟨(some 31), .load1 (.t 30), none, [8]⟩,
        ⟨(some 32), .bin .sub (.t 29) (.t 31), none, [8, 9, 7]⟩,
        ⟨(some 33), .ext true (.c (.int .i64 0)) [.t 32], none, [7, 9, 8, 10]⟩,
        ⟨(some 34), .mov (.t 7), none, []⟩,
        ⟨(some 35), .iaddr 6 (.t 28) (.t 33), none, [10, 8, 9, 7, 11, 6]⟩,
        ⟨(some 36), .iaddrA 3 2 (.t 35) (.t 34), none, [6, 11, 7, 9, 8, 10, 12, 13]⟩,
        ⟨(some 37), .loadn 3 (.t 36), none, [13, 12, 10, 8, 9, 7, 11, 6, 14]⟩,
        ⟨(some 9), .new 100 [.int .i64 0, .int .i64 0, .int .i64 0], none, []⟩,
        ⟨(some 10), .new 100 [.int .i64 0, .int .i64 0, .int .i64 0], none, []⟩,
        ⟨none, .store 3 (.t 9) (.t 27), none, [17, 4, 3, 2, 1, 0, 5, 16]⟩,
        ⟨none, .store 3 (.t 10) (.t 37), none, [16, 14, 13, 12, 11, 10, 9, 8, 7, 6, 5, 4, 3, 2, 1, 0, 18, 15, 17]⟩])
    (.seq (.reg [⟨(some 38), .loadn 5 (.t 8), none, []⟩,
        ⟨(some 39), .loadn 3 (.t 9), none, []⟩,
        ⟨(some 40), .loadn 3 (.t 10), none, []⟩,
        ⟨(some 41), .call (.c (.fn 69 [] [])) [.t 38, .t 39, .t 40], none, []⟩,
        ⟨(some 42), .mov (.c (.int .i64 0)), none, []⟩])
    (.block 2 (.loop xf51l0))))))
  (.reg [⟨(some 52), .bin .add (.t 18) (.c (.int .i64 1)), none, []⟩,
      ⟨(some 18), .mov (.t 52), none, []⟩])))
def xf51 : XFunc := ⟨.seq (.reg [⟨(some 2), .box 89 (.t 0), none, []⟩,
      ⟨(some 4), .new 54 [.int .i64 0, .int .i64 0, .int .i64 0], none, []⟩,
      ⟨(some 5), .mov (.c (.bool false)), none, []⟩])
  (.seq (.reg [⟨(some 13), .mov (.t 1), none, []⟩,
      ⟨(some 14), .len (.t 13), none, []⟩,
      ⟨(some 15), .bin .sub (.t 14) (.c (.int .i64 1)), none, []⟩,
      ⟨(some 6), .mov (.t 15), none, []⟩])
  (.seq (.seq (.reg [⟨(some 16), .faddr 5 (.t 2), none, []⟩,
      ⟨(some 17), .loadn 10 (.t 16), none, []⟩,
      ⟨(some 18), .mov (.c (.int .i64 0)), none, []⟩])
  (.block 0 (.loop xf51l1)))
  (.seq (.reg [⟨(some 53), .build [.int .i64 0, .int .i64 0, .int .i64 0] [], none, []⟩,
      ⟨none, .store 3 (.t 4) (.t 53), none, []⟩,
      ⟨(some 5), .mov (.c (.bool false)), none, []⟩])
  (.ret)))), 54, [.cn 4 3, .t 5]⟩
def xf67 : XFunc := ⟨.seq (.reg [⟨(some 4), .mov (.c (.int .i64 0)), none, []⟩])
  (.seq (.dreg [⟨(some 5), .mov (.t 0), none, []⟩,
      ⟨(some 6), .faddr 0 (.t 1), none, []⟩,
      ⟨(some 7), .iaddrA 1 2 (.t 6) (.t 5), none, [0, 1]⟩,
      ⟨(some 8), .loadn 1 (.t 7), none, [1, 0, 2]⟩,
      ⟨(some 9), .load1 (.t 2), none, []⟩,
      ⟨(some 10), .mov (.t 0), none, []⟩,
      ⟨(some 11), .iaddr 5 (.t 9) (.t 10), none, [5, 4]⟩,
      ⟨(some 12), .loadn 5 (.t 11), none, [4, 5, 6]⟩,
      ⟨(some 13), .call (.c (.fn 68 [] [])) [.t 8, .t 12], none, [6, 5, 4, 2, 0, 1, 7, 3]⟩,
      ⟨(some 4), .mov (.t 13), none, [7, 6, 5, 4, 3, 2, 1, 0, 8]⟩])
  (.ret)), 14, [.t 4]⟩
def xf68 : XFunc := ⟨.seq (.reg [⟨(some 2), .box 69 (.t 0), none, []⟩,
      ⟨(some 3), .box 32 (.t 1), none, []⟩,
      ⟨(some 4), .mov (.c (.int .i64 0)), none, []⟩])
  (.seq (.dreg [⟨(some 5), .loadn 1 (.t 2), none, []⟩,
      ⟨(some 6), .faddr 0 (.t 3), none, []⟩,
      ⟨(some 7), .faddr 0 (.t 6), none, [1]⟩,
      ⟨(some 8), .load1 (.t 7), none, [1, 2]⟩,
      ⟨(some 9), .call (.c (.fn 77 [] [])) [.t 5, .t 8], none, [2, 1, 3, 0]⟩,
      ⟨(some 10), .un .not (.t 9), none, [0, 3, 1, 2, 4]⟩,
      ⟨(some 11), .mov (.t 10), none, [2, 1, 3, 0, 4, 5]⟩,
      ⟨(some 12), .loadn 1 (.t 2), (some (11, false)), [5, 4, 0, 3, 1, 2, 6]⟩,
      ⟨(some 13), .faddr 0 (.t 3), (some (11, false)), [5, 4, 0, 3, 1, 2, 6]⟩,
      ⟨(some 14), .faddr 1 (.t 13), (some (11, false)), [2, 1, 3, 0, 4, 5, 6, 8]⟩,
      ⟨(some 15), .load1 (.t 14), (some (11, false)), [8, 5, 4, 0, 3, 1, 2, 6, 9]⟩,
      ⟨(some 16), .call (.c (.fn 77 [] [])) [.t 12, .t 15], (some (11, false)), [9, 8, 2, 1, 3, 0, 4, 5, 6, 10, 7]⟩,
      ⟨(some 17), .un .not (.t 16), (some (11, false)), [7, 10, 5, 4, 0, 3, 1, 2, 8, 9, 6, 11]⟩,
      ⟨(some 18), .pick (.t 11) (.c (.bool true)) (.t 17), none, [11, 9, 8, 10, 7, 5, 4, 0, 3, 1, 2, 12, 6]⟩,
      ⟨(some 19), .call (.c (.fn 43 [] [])) [.t 18, .c (.int .i64 2)], none, [6, 12, 2, 1, 3, 0, 4, 5, 7, 10, 8, 9, 11, 13]⟩,
      ⟨(some 20), .faddr 2 (.t 3), none, []⟩,
      ⟨(some 21), .load1 (.t 20), none, [15]⟩,
      ⟨(some 22), .call (.c (.fn 52 [] [])) [.t 21, .c (.int .i64 0), .c (.int .i64 1000000)], none, [13, 11, 9, 8, 10, 7, 5, 4, 0, 3, 1, 2, 12, 6, 15, 14, 16]⟩,
      ⟨(some 23), .un .not (.t 22), none, [16, 14, 15, 6, 12, 2, 1, 3, 0, 4, 5, 7, 10, 8, 9, 11, 13, 17]⟩,
      ⟨(some 24), .mov (.t 23), none, [13, 11, 9, 8, 10, 7, 5, 4, 0, 3, 1, 2, 12, 6, 15, 14, 16, 17, 18]⟩,
      ⟨(some 25), .faddr 3 (.t 3), (some (24, false)), [18, 17, 16, 14, 15, 6, 12, 2, 1, 3, 0, 4, 5, 7, 10, 8, 9, 11, 13, 19]⟩,
      ⟨(some 26), .load1 (.t 25), (some (24, false)), [13, 11, 9, 8, 10, 7, 5, 4, 0, 3, 1, 2, 12, 6, 15, 14, 16, 17, 18, 19, 20]⟩,
      ⟨(some 27), .call (.c (.fn 52 [] [])) [.t 26, .c (.int .i64 0), .c (.int .i64 1000000)], (some (24, false)), [20, 18, 17, 16, 14, 15, 6, 12, 2, 1, 3, 0, 4, 5, 7, 10, 8, 9, 11, 13, 19, 21]⟩,
      ⟨(some 28), .un .not (.t 27), (some (24, false)), [21, 13, 11, 9, 8, 10, 7, 5, 4, 0, 3, 1, 2, 12, 6, 15, 14, 16, 17, 18, 20, 19, 22]⟩,
      ⟨(some 29), .pick (.t 24) (.c (.bool true)) (.t 28), none, [22, 20, 21, 18, 17, 16, 14, 15, 6, 12, 2, 1, 3, 0, 4, 5, 7, 10, 8, 9, 11, 13, 23, 19]⟩,
      ⟨(some 30), .call (.c (.fn 43 [] [])) [.t 29, .c (.int .i64 2)], none, [19, 23, 13, 11, 9, 8, 10, 7, 5, 4, 0, 3, 1, 2, 12, 6, 15, 14, 16, 17, 18, 21, 20, 22, 24]⟩,
      ⟨(some 31), .faddr 4 (.t 3), none, []⟩,
      ⟨(some 32), .load1 (.t 31), none, [26]⟩,
      ⟨(some 33), .call (.c (.fn 52 [] [])) [.t 32, .c (.int .i64 1), .c (.int .i64 200)], none, [24, 22, 20, 21, 18, 17, 16, 14, 15, 6, 12, 2, 1, 3, 0, 4, 5, 7, 10, 8, 9, 11, 13, 23, 19, 26, 25, 27]⟩,
      ⟨(some 34), .un .not (.t 33), none, [27, 25, 26, 19, 23, 13, 11, 9, 8, 10, 7, 5, 4, 0, 3, 1, 2, 12, 6, 15, 14, 16, 17, 18, 21, 20, 22, 24, 28]⟩,
      ⟨(some 35), .call (.c (.fn 43 [] [])) [.t 34, .c (.int .i64 2)], none, [24, 22, 20, 21, 18, 17, 16, 14, 15, 6, 12, 2, 1, 3, 0, 4, 5, 7, 10, 8, 9, 11, 13, 23, 19, 26, 25, 27, 28, 29]⟩,
      ⟨(some 36), .faddr 0 (.t 3), none, []⟩,
      ⟨(some 37), .faddr 0 (.t 36), none, [31]⟩,
      ⟨(some 38), .load1 (.t 37), none, [31, 32]⟩,
      ⟨(some 39), .faddr 0 (.t 3), none, []⟩,
      ⟨(some 40), .faddr 1 (.t 39), none, [34]⟩,
      ⟨(some 41), .load1 (.t 40), none, [34, 35]⟩,
      ⟨(some 42), .bin .gtr (.t 38) (.t 41), none, [35, 34, 32, 31, 36, 33]⟩,
      ⟨(some 43), .call (.c (.fn 43 [] [])) [.t 42, .c (.int .i64 9)], none, [29, 28, 27, 25, 26, 19, 23, 13, 11, 9, 8, 10, 7, 5, 4, 0, 3, 1, 2, 12, 6, 15, 14, 16, 17, 18, 21, 20, 22, 24, 33, 36, 31, 32, 34, 35, 30, 37]⟩,
      ⟨(some 44), .buildSlice 116 1 4 false [.nilfn, .nilfn, .nilfn, .nilfn] [(0, 1, .t 19), (1, 1, .t 30), (2, 1, .t 35), (3, 1, .t 43)], none, [37, 35, 34, 32, 31, 36, 33, 29, 28, 27, 26, 24, 22, 20, 21, 18, 17, 16, 15, 23, 19, 13, 11, 9, 8, 10, 7, 5, 4, 0, 3, 1, 2, 12, 6, 38, 30, 25, 14]⟩,
      ⟨(some 45), .call (.c (.fn 42 [] [])) [.t 44], none, [14, 25, 30, 6, 12, 2, 1, 3, 0, 4, 5, 7, 10, 8, 9, 11, 13, 19, 23, 15, 16, 17, 18, 21, 20, 22, 24, 26, 27, 28, 29, 33, 36, 31, 32, 34, 35, 37, 38, 39]⟩,
      ⟨(some 4), .mov (.t 45), none, [39, 38, 37, 36, 35, 34, 33, 32, 31, 30, 29, 28, 27, 26, 25, 24, 23, 22, 21, 20, 19, 18, 17, 16, 15, 14, 13, 12, 11, 10, 9, 8, 7, 6, 5, 4, 3, 2, 1, 0, 40]⟩])
  (.ret)), 46, [.t 4]⟩
def xf69 : XFunc := ⟨.seq (.reg [⟨(some 3), .box 32 (.t 0), none, []⟩,
      ⟨(some 4), .box 100 (.t 1), none, []⟩,
      ⟨(some 5), .box 100 (.t 2), none, []⟩,
      ⟨(some 6), .new 142 [.bool false, .bool false, .bool false, .bool false], none, []⟩])
  (.seq (.dreg [⟨(some 7), .faddr 0 (.t 3), none, []⟩,
      ⟨(some 8), .faddr 0 (.t 7), none, [0]⟩,
      ⟨(some 9), .load1 (.t 8), none, [0, 1]⟩,
      ⟨(some 10), .call (.c (.fn 78 [] [])) [.t 9], none, [1, 0, 2]⟩,
      ⟨(some 11), .loadn 3 (.t 4), none, []⟩,
      ⟨(some 12), .call (.c (.fn 79 [] [])) [.t 10, .t 11, .c (.int .i64 0)], none, [2, 0, 1, 4, 3]⟩,
      ⟨(some 13), .loadn 3 (.t 4), none, []⟩,
      ⟨(some 14), .faddr 0 (.t 3), none, []⟩,
      ⟨(some 15), .faddr 1 (.t 14), none, [7]⟩,
      ⟨(some 16), .load1 (.t 15), none, [7, 8]⟩,
      ⟨(some 17), .call (.c (.fn 78 [] [])) [.t 16], none, [3, 4, 1, 0, 2, 8, 7, 5, 9]⟩,
      ⟨(some 18), .call (.c (.fn 79 [] [])) [.t 13, .t 17, .c (.int .i64 0)], none, [9, 5, 7, 8, 2, 0, 1, 4, 3, 10, 6]⟩,
      ⟨(some 19), .loadn 3 (.t 5), none, []⟩,
      ⟨(some 20), .loadn 3 (.t 4), none, []⟩,
      ⟨(some 21), .faddr 2 (.t 3), none, []⟩,
      ⟨(some 22), .load1 (.t 21), none, [14]⟩,
      ⟨(some 23), .call (.c (.fn 79 [] [])) [.t 19, .t 20, .t 22], none, [6, 10, 3, 4, 1, 0, 2, 8, 7, 5, 9, 14, 11, 15, 13, 12]⟩,
      ⟨(some 24), .loadn 3 (.t 4), none, []⟩,
      ⟨(some 25), .loadn 3 (.t 5), none, []⟩,
      ⟨(some 26), .faddr 3 (.t 3), none, []⟩,
      ⟨(some 27), .load1 (.t 26), none, [19]⟩,
      ⟨(some 28), .call (.c (.fn 79 [] [])) [.t 24, .t 25, .t 27], none, [12, 13, 15, 11, 14, 9, 5, 7, 8, 2, 0, 1, 4, 3, 10, 6, 19, 16, 20, 18, 17]⟩,
      ⟨(some 29), .build [.bool false, .bool false, .bool false, .bool false] [(0, 1, .t 12), (1, 1, .t 18), (2, 1, .t 23), (3, 1, .t 28)], none, [17, 18, 20, 19, 12, 13, 15, 14, 6, 10, 8, 7, 9, 3, 4, 1, 0, 2, 21, 16, 11, 5]⟩,
      ⟨none, .store 4 (.t 6) (.t 29), none, [20, 19, 18, 17, 16, 15, 14, 13, 12, 11, 10, 9, 8, 7, 6, 5, 4, 3, 2, 1, 0, 21, 22]⟩])
  (.ret)), 30, [.cn 6 4]⟩
def xf78 : XFunc := ⟨.seq (.reg [⟨(some 2), .new 100 [.int .i64 0, .int .i64 0, .int .i64 0], none, []⟩])
  (.seq (.reg [⟨(some 3), .mov (.t 0), none, []⟩,
      ⟨(some 4), .build [.int .i64 0, .int .i64 0, .int .i64 0] [(0, 1, .t 3), (2, 1, .c (.int .i64 1))], none, []⟩,
      ⟨none, .store 3 (.t 2) (.t 4), none, []⟩])
  (.ret)), 5, [.cn 2 3]⟩
def xf79 : XFunc := ⟨.seq (.reg [⟨(some 3), .box 100 (.t 0), none, []⟩,
      ⟨(some 4), .box 100 (.t 1), none, []⟩,
      ⟨(some 6), .mov (.c (.bool false)), none, []⟩])
  (.seq (.reg [⟨(some 8), .faddr 0 (.t 3), none, []⟩,
      ⟨(some 9), .load1 (.t 8), none, []⟩,
      ⟨(some 10), .faddr 0 (.t 4), none, []⟩,
      ⟨(some 11), .load1 (.t 10), none, []⟩,
      ⟨(some 12), .bin .sub (.t 9) (.t 11), none, []⟩,
      ⟨(some 13), .mov (.t 2), none, []⟩,
      ⟨(some 14), .bin .sub (.t 12) (.t 13), none, []⟩,
      ⟨(some 7), .mov (.t 14), none, []⟩])
  (.seq (.seq (.reg [⟨(some 15), .mov (.t 7), none, []⟩,
      ⟨(some 16), .bin .neq (.t 15) (.c (.int .i64 0)), none, []⟩])
  (.cond (.t 16) (.seq (.reg [⟨(some 17), .mov (.t 7), none, []⟩,
        ⟨(some 18), .bin .gtr (.t 17) (.c (.int .i64 0)), none, []⟩,
        ⟨(some 6), .mov (.t 18), none, []⟩])
    (.ret)) .skip))
  (.seq (.reg [⟨(some 19), .faddr 1 (.t 3), none, []⟩,
      ⟨(some 20), .load1 (.t 19), none, []⟩,
      ⟨(some 21), .faddr 2 (.t 4), none, []⟩,
      ⟨(some 22), .load1 (.t 21), none, []⟩,
      ⟨(some 23), .bin .mul (.t 20) (.t 22), none, []⟩,
      ⟨(some 24), .faddr 1 (.t 4), none, []⟩,
      ⟨(some 25), .load1 (.t 24), none, []⟩,
      ⟨(some 26), .faddr 2 (.t 3), none, []⟩,
      ⟨(some 27), .load1 (.t 26), none, []⟩,
      ⟨(some 28), .bin .mul (.t 25) (.t 27), none, []⟩,
      ⟨(some 29), .bin .gtr (.t 23) (.t 28), none, []⟩,
      ⟨(some 6), .mov (.t 29), none, []⟩])
  (.ret)))), 30, [.t 6]⟩
structure VVioCode (X : FuncId → Option XFunc) : Prop where
  runs : VRunsCode X
  h12 : X 12 = some xf12
  h18 : X 18 = some xf18
  h20 : X 20 = some xf20
  h7 : X 7 = some xf7
  h27 : X 27 = some xf27
  h28 : X 28 = some xf28
  h34 : X 34 = some xf34
  h36 : X 36 = some xf36
  h48 : X 48 = some xf48
  h47 : X 47 = some xf47
  h49 : X 49 = some xf49
  h50 : X 50 = some xf50
  h51 : X 51 = some xf51
  h67 : X 67 = some xf67
  h68 : X 68 = some xf68
  h75 : X 75 = some xf75
  h69 : X 69 = some xf69
  h77 : X 77 = some xf77
  h78 : X 78 = some xf78
  h79 : X 79 = some xf79
  h63 : X 63 = some xf63
end Go.Proofs.Ytbgjmclpahganaa.Eng

/-
  CODE of UVTop.
-/
namespace Go.Proofs.Ytbgjmclpahganaa.Eng
set_option linter.unusedSimpArgs false
set_option linter.unusedVariables false
def xf3l0 : XCode := .seq (.seq (.reg [⟨(some 52), .mov (.t 9), none, []⟩,
      ⟨(some 53), .faddr 10 (.t 5), none, []⟩,
      ⟨(some 54), .load1 (.t 53), none, []⟩,
      ⟨(some 55), .len (.t 54), none, []⟩,
      ⟨(some 56), .bin .lss (.t 52) (.t 55), none, []⟩])
  (.cond (.t 56) .skip (.exit 0)))
  (.seq (.block 1 (.seq (.reg [⟨(some 59), .mov (.t 7), none, []⟩,
        ⟨(some 60), .faddr 10 (.t 5), none, []⟩,
        ⟨(some 61), .load1 (.t 60), none, []⟩,
        ⟨(some 62), .mov (.t 9), none, []⟩,
        ⟨(some 63), .iaddr 3 (.t 61) (.t 62), none, []⟩,
        ⟨(some 64), .faddr 2 (.t 63), none, []⟩,
        ⟨(some 65), .load1 (.t 64), none, []⟩,
        ⟨(some 66), .build [.int .i64 0, .int .i64 0, .int .i64 0] [(2, 1, .t 65)], none, []⟩,
        ⟨(some 67), .buildSlice 43 3 1 true [.int .i64 0, .int .i64 0, .int .i64 0] [(0, 3, .t 66)], none, []⟩,
        ⟨(some 68), .append 43 3 24 (.t 59) (.t 67), none, []⟩,
        ⟨(some 7), .mov (.t 68), none, []⟩])
    (.reg [⟨(some 69), .mov (.t 8), none, []⟩,
        ⟨(some 70), .faddr 10 (.t 5), none, []⟩,
        ⟨(some 71), .load1 (.t 70), none, []⟩,
        ⟨(some 72), .faddr 10 (.t 5), none, []⟩,
        ⟨(some 73), .load1 (.t 72), none, []⟩,
        ⟨(some 74), .len (.t 73), none, []⟩,
        ⟨(some 75), .bin .sub (.t 74) (.c (.int .i64 1)), none, []⟩,
        ⟨(some 76), .mov (.t 9), none, []⟩,
        ⟨(some 77), .bin .sub (.t 75) (.t 76), none, []⟩,
        ⟨(some 78), .iaddr 3 (.t 71) (.t 77), none, []⟩,
        ⟨(some 79), .faddr 2 (.t 78), none, []⟩,
        ⟨(some 80), .load1 (.t 79), none, []⟩,
        ⟨(some 81), .un .neg (.t 80), none, []⟩,
        ⟨(some 82), .build [.int .i64 0, .int .i64 0, .int .i64 0] [(2, 1, .t 81)], none, []⟩,
        ⟨(some 83), .buildSlice 43 3 1 true [.int .i64 0, .int .i64 0, .int .i64 0] [(0, 3, .t 82)], none, []⟩,
        ⟨(some 84), .append 43 3 24 (.t 69) (.t 83), none, []⟩,
        ⟨(some 8), .mov (.t 84), none, []⟩])))
  (.reg [⟨(some 57), .mov (.t 9), none, []⟩,
      ⟨(some 58), .bin .add (.t 57) (.c (.int .i64 1)), none, []⟩,
      ⟨(some 9), .mov (.t 58), none, []⟩]))
def xf3l1 : XCode := .seq (.seq (.reg [⟨(some 153), .mov (.t 16), none, []⟩,
      ⟨(some 154), .bin .add (.t 153) (.c (.int .i64 1)), none, []⟩,
      ⟨(some 155), .mov (.t 10), none, []⟩,
      ⟨(some 156), .len (.t 155), none, []⟩,
      ⟨(some 157), .bin .lss (.t 154) (.t 156), none, []⟩])
  (.cond (.t 157) .skip (.exit 2)))
  (.seq (.block 3 (.seq (.dreg [⟨(some 160), .mov (.t 14), none, []⟩,
        ⟨(some 161), .mov (.t 16), none, []⟩,
        ⟨(some 162), .iaddr 2 (.t 160) (.t 161), none, [1, 0]⟩,
        ⟨(some 163), .loadn 2 (.t 162), none, [0, 1, 2]⟩,
        ⟨(some 164), .mov (.t 10), none, []⟩,
        ⟨(some 165), .mov (.t 10), none, []⟩,
        ⟨(some 166), .len (.t 165), none, [5]⟩,
        ⟨(some 167), .bin .sub (.t 166) (.c (.int .i64 2)), none, [5, 6]⟩,
        ⟨(some 168), .mov (.t 16), none, []⟩,
        ⟨(some 169), .bin .sub (.t 167) (.t 168), none, [6, 5, 8, 7]⟩,
        ⟨(some 170), .iaddr 2 (.t 164) (.t 169), none, [7, 8, 5, 6, 9, 4]⟩,
        ⟨(some 171), .loadn 2 (.t 170), none, [4, 9, 6, 5, 8, 7, 10]⟩,
        ⟨(some 172), .eqA true (.s [(0, 1, false, .c 0), (1, 1, false, .c 0)]) (.t 163) (.t 171), none, [10, 7, 8, 5, 6, 9, 4, 2, 1, 0, 11, 3]⟩])
    (.cond (.t 172) (.seq (.reg [⟨(some 6), .mov (.c (.bool false)), none, []⟩])
      (.ret)) .skip)))
  (.reg [⟨(some 158), .mov (.t 16), none, []⟩,
      ⟨(some 159), .bin .add (.t 158) (.c (.int .i64 1)), none, []⟩,
      ⟨(some 16), .mov (.t 159), none, []⟩]))
def xf3 : XFunc := ⟨.seq (.reg [⟨(some 3), .box 26 (.t 0), none, []⟩,
      ⟨(some 4), .box 28 (.t 1), none, []⟩,
      ⟨(some 5), .box 37 (.t 2), none, []⟩,
      ⟨(some 6), .mov (.c (.bool false)), none, []⟩])
  (.seq (.seq (.reg [⟨(some 22), .call (.c (.fn 4 [] [])) [], none, []⟩,
      ⟨(some 23), .un .not (.t 22), none, []⟩])
  (.cond (.t 23) (.seq (.reg [⟨(some 6), .mov (.c (.bool false)), none, []⟩])
    (.ret)) .skip))
  (.seq (.seq (.reg [⟨(some 24), .loadn 3 (.t 3), none, []⟩,
      ⟨(some 25), .call (.c (.fn 5 [] [])) [.t 24], none, []⟩,
      ⟨(some 26), .un .not (.t 25), none, []⟩,
      ⟨(some 27), .mov (.t 26), none, []⟩,
      ⟨(some 28), .faddr 10 (.t 5), (some (27, false)), []⟩,
      ⟨(some 29), .load1 (.t 28), (some (27, false)), []⟩,
      ⟨(some 30), .len (.t 29), (some (27, false)), []⟩,
      ⟨(some 31), .bin .eql (.t 30) (.c (.int .i64 0)), (some (27, false)), []⟩,
      ⟨(some 32), .pick (.t 27) (.c (.bool true)) (.t 31), none, []⟩,
      ⟨(some 33), .mov (.t 32), none, []⟩,
      ⟨(some 34), .faddr 10 (.t 5), (some (33, false)), []⟩,
      ⟨(some 35), .load1 (.t 34), (some (33, false)), []⟩,
      ⟨(some 36), .len (.t 35), (some (33, false)), []⟩,
      ⟨(some 37), .bin .gtr (.t 36) (.c (.int .i64 8)), (some (33, false)), []⟩,
      ⟨(some 38), .pick (.t 33) (.c (.bool true)) (.t 37), none, []⟩,
      ⟨(some 39), .mov (.t 38), none, []⟩,
      ⟨(some 40), .loadn 3 (.t 3), (some (39, false)), []⟩,
      ⟨(some 41), .loadn 2 (.t 4), (some (39, false)), []⟩,
      ⟨(some 42), .call (.c (.fn 6 [] [])) [.t 40, .t 41], (some (39, false)), []⟩,
      ⟨(some 43), .bin .neq (.t 42) (.c (.int .i64 0)), (some (39, false)), []⟩,
      ⟨(some 44), .pick (.t 39) (.c (.bool true)) (.t 43), none, []⟩,
      ⟨(some 45), .mov (.t 44), none, []⟩,
      ⟨(some 46), .loadn 3 (.t 3), (some (45, false)), []⟩,
      ⟨(some 47), .loadn 11 (.t 5), (some (45, false)), []⟩,
      ⟨(some 48), .call (.c (.fn 7 [] [])) [.t 46, .t 47], (some (45, false)), []⟩,
      ⟨(some 49), .bin .neq (.t 48) (.c (.int .i64 0)), (some (45, false)), []⟩,
      ⟨(some 50), .pick (.t 45) (.c (.bool true)) (.t 49), none, []⟩])
  (.cond (.t 50) (.seq (.reg [⟨(some 6), .mov (.c (.bool true)), none, []⟩])
    (.ret)) .skip))
  (.seq (.reg [⟨(some 51), .faddr 2 (.t 3), none, []⟩,
      ⟨none, .store 1 (.t 51) (.c (.int .i64 0)), none, []⟩])
  (.seq (.reg [⟨(some 7), .mov (.c .nils), none, []⟩,
      ⟨(some 8), .mov (.c .nils), none, []⟩])
  (.seq (.seq (.reg [⟨(some 9), .mov (.c (.int .i64 0)), none, []⟩])
  (.block 0 (.loop xf3l0)))
  (.seq (.dreg [⟨(some 86), .loadn 3 (.t 3), none, []⟩,
      ⟨(some 87), .call (.c (.fn 9 [] [])) [.t 86], none, [0]⟩,
      ⟨(some 88), .loadn 2 (.t 4), none, []⟩,
      ⟨(some 89), .mov (.t 7), none, []⟩,
      ⟨(some 90), .call (.c (.fn 10 [] [])) [.t 89], none, [0, 1, 3]⟩,
      ⟨(some 91), .call (.c (.fn 8 [] [])) [.t 87, .t 88, .t 90], none, [3, 0, 4, 2, 1]⟩,
      ⟨(some 85), .mov (.t 91), none, [1, 2, 4, 0, 3, 5]⟩,
      ⟨(some 92), .extract (.t 85) 0, none, [5, 3, 0, 4, 2, 1, 6]⟩,
      ⟨(some 93), .extract (.t 85) 1, none, [5, 3, 0, 4, 2, 1, 6]⟩,
      ⟨(some 94), .extract (.t 85) 2, none, [5, 3, 0, 4, 2, 1, 6]⟩,
      ⟨(some 11), .new 46 [.int .i64 0, .int .i64 0], none, []⟩,
      ⟨(some 10), .mov (.t 92), none, [10, 6, 4, 3, 2, 1, 0, 5, 7]⟩,
      ⟨none, .store 2 (.t 11) (.t 93), none, [7, 6, 5, 4, 3, 2, 1, 0, 11, 8, 10]⟩,
      ⟨(some 12), .mov (.t 94), none, [11, 10, 8, 7, 6, 5, 4, 3, 2, 1, 0, 12, 9]⟩])
  (.seq (.seq (.reg [⟨(some 95), .mov (.t 12), none, []⟩,
      ⟨(some 96), .bin .neq (.t 95) (.c (.int .i64 0)), none, []⟩])
  (.cond (.t 96) (.seq (.reg [⟨(some 97), .mov (.t 12), none, []⟩,
        ⟨(some 98), .bin .eql (.t 97) (.c (.int .i64 22)), none, []⟩,
        ⟨(some 6), .mov (.t 98), none, []⟩])
    (.ret)) .skip))
  (.seq (.seq (.reg [⟨(some 99), .mov (.t 10), none, []⟩,
      ⟨(some 100), .len (.t 99), none, []⟩,
      ⟨(some 101), .mov (.t 7), none, []⟩,
      ⟨(some 102), .len (.t 101), none, []⟩,
      ⟨(some 103), .bin .neq (.t 100) (.t 102), none, []⟩,
      ⟨(some 104), .mov (.t 103), none, []⟩,
      ⟨(some 105), .faddr 1 (.t 11), (some (104, false)), []⟩,
      ⟨(some 106), .load1 (.t 105), (some (104, false)), []⟩,
      ⟨(some 107), .call (.c (.fn 11 [] [])) [.t 106, .c (.int .i64 0), .c (.int .i64 16000000000)], (some (104, false)), []⟩,
      ⟨(some 108), .un .not (.t 107), (some (104, false)), []⟩,
      ⟨(some 109), .pick (.t 104) (.c (.bool true)) (.t 108), none, []⟩])
  (.cond (.t 109) (.seq (.reg [⟨(some 6), .mov (.c (.bool false)), none, []⟩])
    (.ret)) .skip))
  (.seq (.seq (.reg [⟨(some 110), .loadn 2 (.t 11), none, []⟩,
      ⟨(some 111), .build [.int .i64 0, .int .i64 0] [], none, []⟩,
      ⟨(some 112), .eqA true (.s [(0, 1, false, .c 0), (1, 1, false, .c 0)]) (.t 110) (.t 111), none, []⟩])
  (.cond (.t 112) (.seq (.reg [⟨(some 6), .mov (.c (.bool true)), none, []⟩])
    (.ret)) .skip))
  (.seq (.reg [⟨(some 113), .mov (.t 10), none, []⟩,
      ⟨(some 114), .mov (.t 10), none, []⟩,
      ⟨(some 115), .len (.t 114), none, []⟩,
      ⟨(some 116), .bin .sub (.t 115) (.c (.int .i64 1)), none, []⟩,
      ⟨(some 117), .iaddr 2 (.t 113) (.t 116), none, []⟩,
      ⟨(some 118), .loadn 2 (.t 117), none, []⟩,
      ⟨(some 13), .new 28 [.int .i64 0, .int .i64 0], none, []⟩,
      ⟨none, .store 2 (.t 13) (.t 118), none, []⟩])
  (.seq (.dreg [⟨(some 120), .loadn 3 (.t 3), none, []⟩,
      ⟨(some 121), .call (.c (.fn 9 [] [])) [.t 120], none, [0]⟩,
      ⟨(some 122), .loadn 2 (.t 13), none, []⟩,
      ⟨(some 123), .mov (.t 8), none, []⟩,
      ⟨(some 124), .call (.c (.fn 10 [] [])) [.t 123], none, [0, 1, 3]⟩,
      ⟨(some 125), .call (.c (.fn 8 [] [])) [.t 121, .t 122, .t 124], none, [3, 0, 4, 2, 1]⟩,
      ⟨(some 119), .mov (.t 125), none, [1, 2, 4, 0, 3, 5]⟩,
      ⟨(some 126), .extract (.t 119) 0, none, [5, 3, 0, 4, 2, 1, 6]⟩,
      ⟨(some 127), .extract (.t 119) 1, none, [5, 3, 0, 4, 2, 1, 6]⟩,
      ⟨(some 128), .extract (.t 119) 2, none, [5, 3, 0, 4, 2, 1, 6]⟩,
      ⟨(some 15), .new 46 [.int .i64 0, .int .i64 0], none, []⟩,
      ⟨(some 14), .mov (.t 126), none, [10, 6, 4, 3, 2, 1, 0, 5, 7]⟩,
      ⟨none, .store 2 (.t 15) (.t 127), none, [7, 6, 5, 4, 3, 2, 1, 0, 11, 8, 10]⟩,
      ⟨(some 12), .mov (.t 128), none, [11, 10, 8, 7, 6, 5, 4, 3, 2, 1, 0, 12, 9]⟩])
  (.seq (.seq (.dreg [⟨(some 129), .mov (.t 12), none, []⟩,
      ⟨(some 130), .bin .neq (.t 129) (.c (.int .i64 0)), none, [0]⟩,
      ⟨(some 131), .mov (.t 130), none, [0, 1]⟩,
      ⟨(some 132), .loadn 2 (.t 15), (some (131, false)), [1, 0, 2]⟩,
      ⟨(some 133), .build [.int .i64 0, .int .i64 0] [], (some (131, false)), [1, 0, 2]⟩,
      ⟨(some 134), .eqA true (.s [(0, 1, false, .c 0), (1, 1, false, .c 0)]) (.t 132) (.t 133), (some (131, false)), [0, 1, 2, 4, 3]⟩,
      ⟨(some 135), .pick (.t 131) (.c (.bool true)) (.t 134), none, [3, 4, 1, 0, 5, 2]⟩,
      ⟨(some 136), .mov (.t 135), none, [5, 0, 1, 4, 3, 2, 6]⟩,
      ⟨(some 137), .mov (.t 14), (some (136, false)), [6, 2, 3, 4, 1, 0, 5, 7]⟩,
      ⟨(some 138), .len (.t 137), (some (136, false)), [5, 0, 1, 4, 3, 2, 6, 7, 8]⟩,
      ⟨(some 139), .mov (.t 7), (some (136, false)), [6, 2, 3, 4, 1, 0, 5, 7]⟩,
      ⟨(some 140), .len (.t 139), (some (136, false)), [5, 0, 1, 4, 3, 2, 6, 7, 10]⟩,
      ⟨(some 141), .bin .neq (.t 138) (.t 140), (some (136, false)), [10, 8, 6, 2, 3, 4, 1, 0, 5, 7, 11, 9]⟩,
      ⟨(some 142), .pick (.t 136) (.c (.bool true)) (.t 141), none, [9, 11, 8, 10, 6, 2, 3, 4, 1, 0, 5, 12, 7]⟩,
      ⟨(some 143), .mov (.t 142), none, [12, 5, 0, 1, 4, 3, 2, 6, 10, 8, 11, 9, 7, 13]⟩,
      ⟨(some 144), .mov (.t 14), (some (143, false)), [13, 7, 9, 11, 8, 10, 6, 2, 3, 4, 1, 0, 5, 12, 14]⟩,
      ⟨(some 145), .mov (.t 14), (some (143, false)), [13, 7, 9, 11, 8, 10, 6, 2, 3, 4, 1, 0, 5, 12, 14]⟩,
      ⟨(some 146), .len (.t 145), (some (143, false)), [12, 5, 0, 1, 4, 3, 2, 6, 10, 8, 11, 9, 7, 13, 14, 16]⟩,
      ⟨(some 147), .bin .sub (.t 146) (.c (.int .i64 1)), (some (143, false)), [16, 13, 7, 9, 11, 8, 10, 6, 2, 3, 4, 1, 0, 5, 12, 14, 17]⟩,
      ⟨(some 148), .iaddr 2 (.t 144) (.t 147), (some (143, false)), [17, 16, 12, 5, 0, 1, 4, 3, 2, 6, 10, 8, 11, 9, 7, 13, 14, 18, 15]⟩,
      ⟨(some 149), .loadn 2 (.t 148), (some (143, false)), [15, 18, 13, 7, 9, 11, 8, 10, 6, 2, 3, 4, 1, 0, 5, 12, 16, 17, 14, 19]⟩,
      ⟨(some 150), .loadn 2 (.t 4), (some (143, false)), [13, 7, 9, 11, 8, 10, 6, 2, 3, 4, 1, 0, 5, 12, 14]⟩,
      ⟨(some 151), .eqA true (.s [(0, 1, false, .c 0), (1, 1, false, .c 0)]) (.t 149) (.t 150), (some (143, false)), [19, 17, 16, 12, 5, 0, 1, 4, 3, 2, 6, 10, 8, 11, 9, 7, 13, 18, 15, 14, 21, 20]⟩,
      ⟨(some 152), .pick (.t 143) (.c (.bool true)) (.t 151), none, [20, 21, 15, 18, 16, 17, 19, 13, 7, 9, 11, 8, 10, 6, 2, 3, 4, 1, 0, 5, 12, 22, 14]⟩])
  (.cond (.t 152) (.seq (.reg [⟨(some 6), .mov (.c (.bool false)), none, []⟩])
    (.ret)) .skip))
  (.seq (.seq (.reg [⟨(some 16), .mov (.c (.int .i64 0)), none, []⟩])
  (.block 2 (.loop xf3l1)))
  (.seq (.reg [⟨(some 173), .faddr 0 (.t 5), none, []⟩,
      ⟨(some 174), .loadn 10 (.t 173), none, []⟩,
      ⟨(some 17), .new 34 [.int .i64 0, .int .i64 0, .int .i64 0, .int .i64 0, .int .i64 0, .int .i64 0, .int .i64 0, .int .i64 0, .int .i64 0, .int .i64 0], none, []⟩,
      ⟨none, .store 10 (.t 17) (.t 174), none, []⟩])
  (.seq (.reg [⟨(some 175), .faddr 0 (.t 17), none, []⟩,
      ⟨(some 176), .faddr 2 (.t 175), none, []⟩,
      ⟨none, .store 1 (.t 176) (.c (.int .i64 1000000)), none, []⟩,
      ⟨(some 177), .faddr 0 (.t 17), none, []⟩,
      ⟨(some 178), .faddr 3 (.t 177), none, []⟩,
      ⟨none, .store 1 (.t 178) (.c (.int .i64 1000000)), none, []⟩])
  (.seq (.reg [⟨(some 179), .faddr 5 (.t 17), none, []⟩,
      ⟨(some 180), .faddr 2 (.t 179), none, []⟩,
      ⟨none, .store 1 (.t 180) (.c (.int .i64 1000000)), none, []⟩,
      ⟨(some 181), .faddr 5 (.t 17), none, []⟩,
      ⟨(some 182), .faddr 3 (.t 181), none, []⟩,
      ⟨none, .store 1 (.t 182) (.c (.int .i64 1000000)), none, []⟩])
  (.seq (.dreg [⟨(some 184), .loadn 3 (.t 3), none, []⟩,
      ⟨(some 185), .call (.c (.fn 9 [] [])) [.t 184], none, [0]⟩,
      ⟨(some 186), .loadn 2 (.t 4), none, []⟩,
      ⟨(some 187), .loadn 10 (.t 17), none, []⟩,
      ⟨(some 188), .mov (.t 7), none, []⟩,
      ⟨(some 189), .call (.c (.fn 10 [] [])) [.t 188], none, [0, 1, 4]⟩,
      ⟨(some 190), .build [.int .i64 0, .int .i64 0, .int .i64 0, .int .i64 0, .int .i64 0, .int .i64 0, .int .i64 0, .int .i64 0, .int .i64 0, .int .i64 0, .nils] [(0, 10, .t 187), (10, 1, .t 189)], none, [4, 1, 0, 5, 3]⟩,
      ⟨(some 191), .call (.c (.fn 12 [] [])) [.t 185, .t 186, .t 190], none, [3, 4, 0, 5, 6, 2, 1]⟩,
      ⟨(some 183), .mov (.t 191), none, [1, 2, 6, 5, 0, 4, 3, 7]⟩,
      ⟨(some 192), .extract (.t 183) 0, none, [7, 3, 4, 0, 5, 6, 2, 1, 8]⟩,
      ⟨(some 193), .extract (.t 183) 1, none, [7, 3, 4, 0, 5, 6, 2, 1, 8]⟩,
      ⟨(some 18), .new 54 [.int .i64 0, .int .i64 0, .int .i64 0], none, []⟩,
      ⟨none, .store 3 (.t 18) (.t 192), none, [8, 6, 5, 4, 3, 2, 1, 0, 7, 9, 11]⟩,
      ⟨(some 19), .mov (.t 193), none, [11, 9, 8, 7, 6, 5, 4, 3, 2, 1, 0, 12, 10]⟩])
  (.seq (.dreg [⟨(some 195), .loadn 3 (.t 3), none, []⟩,
      ⟨(some 196), .call (.c (.fn 9 [] [])) [.t 195], none, [0]⟩,
      ⟨(some 197), .loadn 2 (.t 13), none, []⟩,
      ⟨(some 198), .loadn 10 (.t 17), none, []⟩,
      ⟨(some 199), .mov (.t 8), none, []⟩,
      ⟨(some 200), .call (.c (.fn 10 [] [])) [.t 199], none, [0, 1, 4]⟩,
      ⟨(some 201), .build [.int .i64 0, .int .i64 0, .int .i64 0, .int .i64 0, .int .i64 0, .int .i64 0, .int .i64 0, .int .i64 0, .int .i64 0, .int .i64 0, .nils] [(0, 10, .t 198), (10, 1, .t 200)], none, [4, 1, 0, 5, 3]⟩,
      ⟨(some 202), .call (.c (.fn 12 [] [])) [.t 196, .t 197, .t 201], none, [3, 4, 0, 5, 6, 2, 1]⟩,
      ⟨(some 194), .mov (.t 202), none, [1, 2, 6, 5, 0, 4, 3, 7]⟩,
      ⟨(some 203), .extract (.t 194) 0, none, [7, 3, 4, 0, 5, 6, 2, 1, 8]⟩,
      ⟨(some 204), .extract (.t 194) 1, none, [7, 3, 4, 0, 5, 6, 2, 1, 8]⟩,
      ⟨(some 20), .new 54 [.int .i64 0, .int .i64 0, .int .i64 0], none, []⟩,
      ⟨none, .store 3 (.t 20) (.t 203), none, [8, 6, 5, 4, 3, 2, 1, 0, 7, 9, 11]⟩,
      ⟨(some 21), .mov (.t 204), none, [11, 9, 8, 7, 6, 5, 4, 3, 2, 1, 0, 12, 10]⟩])
  (.seq (.seq (.reg [⟨(some 205), .mov (.t 19), none, []⟩,
      ⟨(some 206), .bin .eql (.t 205) (.c (.int .i64 12)), none, []⟩])
  (.cond (.t 206) (.seq (.reg [⟨(some 207), .mov (.t 21), none, []⟩,
        ⟨(some 208), .bin .eql (.t 207) (.c (.int .i64 12)), none, []⟩,
        ⟨(some 209), .mov (.t 208), none, []⟩,
        ⟨(some 210), .mov (.t 21), (some (209, false)), []⟩,
        ⟨(some 211), .bin .eql (.t 210) (.c (.int .i64 0)), (some (209, false)), []⟩,
        ⟨(some 212), .pick (.t 209) (.c (.bool true)) (.t 211), none, []⟩,
        ⟨(some 6), .mov (.t 212), none, []⟩])
    (.ret)) .skip))
  (.seq (.reg [⟨(some 213), .mov (.t 19), none, []⟩,
      ⟨(some 214), .bin .eql (.t 213) (.c (.int .i64 0)), none, []⟩,
      ⟨(some 215), .mov (.t 214), none, []⟩,
      ⟨(some 216), .faddr 0 (.t 18), (some (215, true)), []⟩,
      ⟨(some 217), .load1 (.t 216), (some (215, true)), []⟩,
      ⟨(some 218), .mov (.t 7), (some (215, true)), []⟩,
      ⟨(some 219), .len (.t 218), (some (215, true)), []⟩,
      ⟨(some 220), .call (.c (.fn 11 [] [])) [.t 217, .c (.int .i64 1), .t 219], (some (215, true)), []⟩,
      ⟨(some 221), .pick (.t 215) (.t 220) (.c (.bool false)), none, []⟩,
      ⟨(some 222), .mov (.t 221), none, []⟩,
      ⟨(some 223), .faddr 2 (.t 18), (some (222, true)), []⟩,
      ⟨(some 224), .load1 (.t 223), (some (222, true)), []⟩,
      ⟨(some 225), .bin .leq (.t 224) (.c (.int .i64 1)), (some (222, true)), []⟩,
      ⟨(some 226), .pick (.t 222) (.t 225) (.c (.bool false)), none, []⟩,
      ⟨(some 227), .mov (.t 226), none, []⟩,
      ⟨(some 228), .faddr 0 (.t 18), (some (227, true)), []⟩,
      ⟨(some 229), .load1 (.t 228), (some (227, true)), []⟩,
      ⟨(some 230), .mov (.t 7), (some (227, true)), []⟩,
      ⟨(some 231), .len (.t 230), (some (227, true)), []⟩,
      ⟨(some 232), .bin .eql (.t 229) (.t 231), (some (227, true)), []⟩,
      ⟨(some 233), .mov (.t 232), (some (227, true)), []⟩,
      ⟨(some 234), .mov (.t 21), (some (233, false)), []⟩,
      ⟨(some 235), .bin .eql (.t 234) (.c (.int .i64 0)), (some (233, false)), []⟩,
      ⟨(some 236), .pick (.t 233) (.c (.bool true)) (.t 235), (some (227, true)), []⟩,
      ⟨(some 237), .pick (.t 227) (.t 236) (.c (.bool false)), none, []⟩,
      ⟨(some 6), .mov (.t 237), none, []⟩])
  (.ret))))))))))))))))))))), 238, [.t 6]⟩
def xf4 : XFunc := ⟨.seq (.reg [⟨(some 0), .mov (.c (.bool false)), none, []⟩])
  (.seq (.reg [⟨(some 7), .call (.c (.fn 14 [] [])) [], none, []⟩,
      ⟨(some 8), .build [.int .i64 0, .int .i64 0] [(0, 1, .c (.int .i64 2950)), (1, 1, .c (.int .i64 500))], none, []⟩,
      ⟨(some 9), .build [.int .i64 0, .int .i64 0, .int .i64 0] [(2, 1, .c (.int .i64 200))], none, []⟩,
      ⟨(some 10), .call (.c (.fn 13 [] [])) [.t 7, .t 8, .t 9], none, []⟩,
      ⟨(some 6), .mov (.t 10), none, []⟩,
      ⟨(some 11), .extract (.t 6) 0, none, []⟩,
      ⟨(some 12), .extract (.t 6) 1, none, []⟩,
      ⟨(some 13), .extract (.t 6) 2, none, []⟩,
      ⟨(some 1), .new 28 [.int .i64 0, .int .i64 0], none, []⟩,
      ⟨(some 2), .new 46 [.int .i64 0, .int .i64 0], none, []⟩,
      ⟨none, .store 2 (.t 1) (.t 11), none, []⟩,
      ⟨none, .store 2 (.t 2) (.t 12), none, []⟩,
      ⟨(some 3), .mov (.t 13), none, []⟩])
  (.seq (.reg [⟨(some 15), .call (.c (.fn 16 [] [])) [], none, []⟩,
      ⟨(some 16), .call (.c (.fn 15 [] [])) [.t 15, .c (.int .i64 1501)], none, []⟩,
      ⟨(some 14), .mov (.t 16), none, []⟩,
      ⟨(some 17), .extract (.t 14) 0, none, []⟩,
      ⟨(some 18), .extract (.t 14) 1, none, []⟩,
      ⟨(some 4), .new 30 [.int .i64 0, .int .i64 0], none, []⟩,
      ⟨none, .store 2 (.t 4) (.t 17), none, []⟩,
      ⟨(some 5), .mov (.t 18), none, []⟩])
  (.seq (.reg [⟨(some 19), .mov (.t 3), none, []⟩,
      ⟨(some 20), .bin .eql (.t 19) (.c (.int .i64 0)), none, []⟩,
      ⟨(some 21), .mov (.t 20), none, []⟩,
      ⟨(some 22), .loadn 2 (.t 1), (some (21, true)), []⟩,
      ⟨(some 23), .build [.int .i64 0, .int .i64 0] [(0, 1, .c (.int .i64 3000)), (1, 1, .c (.int .i64 295))], (some (21, true)), []⟩,
      ⟨(some 24), .eqA false (.s [(0, 1, false, .c 0), (1, 1, false, .c 0)]) (.t 22) (.t 23), (some (21, true)), []⟩,
      ⟨(some 25), .pick (.t 21) (.t 24) (.c (.bool false)), none, []⟩,
      ⟨(some 26), .mov (.t 25), none, []⟩,
      ⟨(some 27), .loadn 2 (.t 2), (some (26, true)), []⟩,
      ⟨(some 28), .build [.int .i64 0, .int .i64 0] [(0, 1, .c (.int .i64 15)), (1, 1, .c (.int .i64 140))], (some (26, true)), []⟩,
      ⟨(some 29), .eqA false (.s [(0, 1, false, .c 0), (1, 1, false, .c 0)]) (.t 27) (.t 28), (some (26, true)), []⟩,
      ⟨(some 30), .pick (.t 26) (.t 29) (.c (.bool false)), none, []⟩,
      ⟨(some 31), .mov (.t 30), none, []⟩,
      ⟨(some 32), .mov (.t 5), (some (31, true)), []⟩,
      ⟨(some 33), .bin .eql (.t 32) (.c (.int .i64 0)), (some (31, true)), []⟩,
      ⟨(some 34), .pick (.t 31) (.t 33) (.c (.bool false)), none, []⟩,
      ⟨(some 35), .mov (.t 34), none, []⟩,
      ⟨(some 36), .loadn 2 (.t 4), (some (35, true)), []⟩,
      ⟨(some 37), .build [.int .i64 0, .int .i64 0] [(0, 1, .c (.int .i64 125)), (1, 1, .c (.int .i64 126))], (some (35, true)), []⟩,
      ⟨(some 38), .eqA false (.s [(0, 1, false, .c 0), (1, 1, false, .c 0)]) (.t 36) (.t 37), (some (35, true)), []⟩,
      ⟨(some 39), .pick (.t 35) (.t 38) (.c (.bool false)), none, []⟩,
      ⟨(some 0), .mov (.t 39), none, []⟩])
  (.ret)))), 40, [.t 0]⟩
structure UVTopCode (X : FuncId → Option XFunc) : Prop where
  vio : VVioCode X
  h3 : X 3 = some xf3
  h4 : X 4 = some xf4
end Go.Proofs.Ytbgjmclpahganaa.Eng
