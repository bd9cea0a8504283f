/-
  DERIVED. GIVEN WITH THE SEED: THE PROGRAM's TIES (one call each: nine closed facts by the kernel) AND EACH ROW's TIE, after the 31st guide's Derived/Test/Toyas{Tie, Card}.lean. No idea stands in it: it is a product of the set-up. Laid BY PROGRAM, IN A SANDBOX (cutbox-door.mjs). By AI agents, Wed Nov 11 2026. No macro, syntax, notation, axiom, sorry.
-/
import Derived.Test.YtekjnicgffeghaaDoorRows
import Derived.LaidByTextLater
import Derived.SevenTiedAt
import Derived.LaidSub
import Derived.LaidOnce
namespace Go.Proofs.YtekjnicgffeghaaDoor
open Go
set_option maxRecDepth 100000
theorem seatTie1 : Tryd.prog.laidByTextLater [("errors.errorType", Rows.laid_errors_errorType), ("bywash/fail.names", Rows.laid_bywash_fail_names), ("bywash/retry.errFinal", Rows.laid_bywash_retry_errFinal), ("bywash/retry.errTwice", Rows.laid_bywash_retry_errTwice)] [.handle, .data, .sentinel, .sentinel] true :=
  Program.laidByTextLater_by_one 59 8 25 (by kernel_rfl) (by kernel_rfl) (by kernel_rfl) (by kernel_rfl) (by kernel_rfl) (by kernel_rfl) (fun _ _ => by kernel_rfl)
theorem noOwnUnsafe : Tryd.pinned.checked.prog.headLifts.contains "ownunsafe" = false := by kernel_rfl
theorem tie : Tryd.prog.laidByTextLater [("errors.errorType", Rows.laid_errors_errorType), ("bywash/fail.names", Rows.laid_bywash_fail_names), ("bywash/retry.errFinal", Rows.laid_bywash_retry_errFinal), ("bywash/retry.errTwice", Rows.laid_bywash_retry_errTwice)] [.handle, .data, .sentinel, .sentinel] true :=
  Program.laidByTextLater.sub seatTie1 ["errors.errorType", "bywash/fail.names", "bywash/retry.errFinal", "bywash/retry.errTwice"] (by kernel_rfl) (by kernel_rfl)
theorem retryTells_row_tie : Rows.retryTellsRow.laidByTextAt .later Tryd.pinned [.handle, .data, .sentinel, .sentinel] true :=
  OpenClaim.laidByTextAt_later rfl rfl tie noOwnUnsafe
theorem tie2 : Tryd.prog.laidByTextLater [("bywash/retry.errFinal", Rows.laid_bywash_retry_errFinal), ("bywash/retry.errTwice", Rows.laid_bywash_retry_errTwice)] [.sentinel, .sentinel] true :=
  Program.laidByTextLater.sub seatTie1 ["bywash/retry.errFinal", "bywash/retry.errTwice"] (by kernel_rfl) (by kernel_rfl)
theorem retryOnce_row_tie : Rows.retryOnceRow.laidByTextAt .later Tryd.pinned [.sentinel, .sentinel] true :=
  OpenClaim.laidByTextAt_later rfl rfl tie2 noOwnUnsafe
theorem retryMost_row_tie : Rows.retryMostRow.laidByTextAt .later Tryd.pinned [.sentinel, .sentinel] true :=
  OpenClaim.laidByTextAt_later rfl rfl tie2 noOwnUnsafe
theorem retryWraps_row_tie : Rows.retryWrapsRow.laidByTextAt .later Tryd.pinned [.sentinel, .sentinel] true :=
  OpenClaim.laidByTextAt_later rfl rfl tie2 noOwnUnsafe
theorem retryFinal_row_tie : Rows.retryFinalRow.laidByTextAt .later Tryd.pinned [.sentinel, .sentinel] true :=
  OpenClaim.laidByTextAt_later rfl rfl tie2 noOwnUnsafe
theorem retryTellsUpto_row_tie : Rows.retryTellsUptoRow.laidByTextAt .later Tryd.pinned [.handle, .data, .sentinel, .sentinel] true :=
  OpenClaim.laidByTextAt_later rfl rfl tie noOwnUnsafe
theorem retryOnceUpto_row_tie : Rows.retryOnceUptoRow.laidByTextAt .later Tryd.pinned [.sentinel, .sentinel] true :=
  OpenClaim.laidByTextAt_later rfl rfl tie2 noOwnUnsafe
theorem retryMostUpto_row_tie : Rows.retryMostUptoRow.laidByTextAt .later Tryd.pinned [.sentinel, .sentinel] true :=
  OpenClaim.laidByTextAt_later rfl rfl tie2 noOwnUnsafe
theorem retryWrapsUpto_row_tie : Rows.retryWrapsUptoRow.laidByTextAt .later Tryd.pinned [.sentinel, .sentinel] true :=
  OpenClaim.laidByTextAt_later rfl rfl tie2 noOwnUnsafe
theorem retryFinalUpto_row_tie : Rows.retryFinalUptoRow.laidByTextAt .later Tryd.pinned [.sentinel, .sentinel] true :=
  OpenClaim.laidByTextAt_later rfl rfl tie2 noOwnUnsafe
end Go.Proofs.YtekjnicgffeghaaDoor
