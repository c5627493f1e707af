/-
  The examples hold.
-/
import Derived.Test.YtgijgcmcpgepaaaDxTBC0
import Derived.Test.YtgijgcmcpgepaaaDxTBC1
import Derived.Test.YtgijgcmcpgepaaaDxTBC2
import Derived.Test.YtgijgcmcpgepaaaDxTBC3
import Derived.Test.YtgijgcmcpgepaaaDxTq1
import Derived.Test.YtgijgcmcpgepaaaDxTAw
namespace Go.Proofs.Ytgijgcmcpgepaaa.Eng
open Go.Proofs
theorem dx_drawn : Try.prog.follows .mixedOrders = true := by kernel_rfl
theorem dx_ok1 : ∀ q ∈ dxT1, 1 ≤ q.2.1 ∧ ∀ p ∈ q.2.2, RowOk Try.prog q.1 q.2.1 p := by
  intro q hq
  have h0 := known_xprog Try.prog [2000073, 75, 105, 4000003, 5000003, 2000135]
  rcases List.mem_cons.1 hq with rfl | hq
  · refine ⟨by decide, fun p hp => ?_⟩
    have hp : p ∈ dxBC0 ++ dxBC1 ++ dxBC2 ++ dxBC3 := hp
    simp only [List.mem_append] at hp
    rcases hp with ((hp | hp) | hp) | hp
    · exact rows_of dx_drawn h0 dxbc0 p hp
    · exact rows_of dx_drawn h0 dxbc1 p hp
    · exact rows_of dx_drawn h0 dxbc2 p hp
    · exact rows_of dx_drawn h0 dxbc3 p hp
  · cases hq
theorem dx_known1 : Known Try.prog [2000073, 75, 105] (xprogG Try.prog [2000073, 75, 105] (tabs dxT1)) := known_tabs dx_ok1
theorem dx_ok2 : ∀ q ∈ dxT2, 1 ≤ q.2.1 ∧ ∀ p ∈ q.2.2, RowOk Try.prog q.1 q.2.1 p := by
  intro q hq
  rcases List.mem_cons.1 hq with rfl | hq
  · exact ⟨by decide, rows_of dx_drawn dx_known1 dxpo⟩
  · exact dx_ok1 q hq
theorem dx_known2 : Known Try.prog [2000073, 75, 105] (xprogG Try.prog [2000073, 75, 105] (tabs dxT2)) := known_tabs dx_ok2
theorem dx_ok3 : ∀ q ∈ dxT3, 1 ≤ q.2.1 ∧ ∀ p ∈ q.2.2, RowOk Try.prog q.1 q.2.1 p := by
  intro q hq
  have h0 := known_xprog Try.prog [2000073, 75, 105, 4000003, 5000003, 2000135]
  rcases List.mem_cons.1 hq with rfl | hq
  · exact ⟨by decide, rows_of dx_drawn dx_known2 dxbp⟩
  rcases List.mem_cons.1 hq with rfl | hq
  · exact ⟨by decide, rows_of dx_drawn h0 dxro⟩
  rcases List.mem_cons.1 hq with rfl | hq
  · exact ⟨by decide, rows_of dx_drawn h0 dxbo⟩
  rcases List.mem_cons.1 hq with rfl | hq
  · exact ⟨by decide, rows_of dx_drawn dx_known2 dxra⟩
  · cases hq
theorem dx_known3 : Known Try.prog [2000073, 75, 105] (xprogG Try.prog [2000073, 75, 105] (tabs dxT3)) := known_tabs dx_ok3
end Go.Proofs.Ytgijgcmcpgepaaa.Eng
