/-
  DERIVED. GIVEN WITH THE SEED: THE PROGRAM's TIES (one call each: nine closed facts by the kernel) AND EACH ROW's TIE, after the 31st guide's Derived/Test/Toyas{Tie, Card}.lean. No idea stands in it: it is a product of the set-up. Laid BY PROGRAM, IN A SANDBOX (cutbox-door.mjs). By AI agents, Wed Nov 11 2026. No macro, syntax, notation, axiom, sorry.
-/
import Derived.Test.YtdogjmimjjmmaaaDoorRows
import Derived.LaidByTextLater
import Derived.SevenTiedAt
import Derived.LaidSub
import Derived.LaidOnce
namespace Go.Proofs.YtdogjmimjjmmaaaDoor
open Go
set_option maxRecDepth 100000
theorem seatTie1 : Tryd.prog.laidByTextLater [("math/bits.deBruijn32tab", Rows.laid_math_bits_deBruijn32tab), ("math/bits.deBruijn64tab", Rows.laid_math_bits_deBruijn64tab), ("internal/strconv.uint64pow10", Rows.laid_internal_strconv_uint64pow10), ("sallyport/insn.groups", Rows.laid_sallyport_insn_groups), ("sallyport/encode.kinds", Rows.laid_sallyport_encode_kinds), ("sallyport/encode.f3s", Rows.laid_sallyport_encode_f3s), ("sallyport/encode.tops", Rows.laid_sallyport_encode_tops)] [.data, .data, .data, .data, .data, .data, .data] true :=
  Program.laidByTextLater_by_one 122 8 134 (by kernel_rfl) (by kernel_rfl) (by kernel_rfl) (by kernel_rfl) (by kernel_rfl) (by kernel_rfl) (fun _ _ => by kernel_rfl)
theorem seatTie2 : Tryd.prog.laidByTextLater [("math/bits.deBruijn32tab", Rows.laid_math_bits_deBruijn32tab), ("math/bits.deBruijn64tab", Rows.laid_math_bits_deBruijn64tab), ("internal/strconv.uint64pow10", Rows.laid_internal_strconv_uint64pow10), ("sallyport/insn.groups", Rows.laid_sallyport_insn_groups), ("sallyport/decode.groups", Rows.laid_sallyport_decode_groups), ("sallyport/decode.heads", Rows.laid_sallyport_decode_heads), ("sallyport/encode.kinds", Rows.laid_sallyport_encode_kinds), ("sallyport/encode.f3s", Rows.laid_sallyport_encode_f3s), ("sallyport/encode.tops", Rows.laid_sallyport_encode_tops)] [.data, .data, .data, .data, .data, .data, .data, .data, .data] true :=
  Program.laidByTextLater_by_one 122 8 134 (by kernel_rfl) (by kernel_rfl) (by kernel_rfl) (by kernel_rfl) (by kernel_rfl) (by kernel_rfl) (fun _ _ => by kernel_rfl)
theorem noOwnUnsafe : Tryd.pinned.checked.prog.headLifts.contains "ownunsafe" = false := by kernel_rfl
theorem tie : Tryd.prog.laidByTextLater [("math/bits.deBruijn32tab", Rows.laid_math_bits_deBruijn32tab), ("math/bits.deBruijn64tab", Rows.laid_math_bits_deBruijn64tab), ("internal/strconv.uint64pow10", Rows.laid_internal_strconv_uint64pow10), ("sallyport/insn.groups", Rows.laid_sallyport_insn_groups), ("sallyport/encode.kinds", Rows.laid_sallyport_encode_kinds), ("sallyport/encode.f3s", Rows.laid_sallyport_encode_f3s), ("sallyport/encode.tops", Rows.laid_sallyport_encode_tops)] [.data, .data, .data, .data, .data, .data, .data] true :=
  Program.laidByTextLater.sub seatTie1 ["math/bits.deBruijn32tab", "math/bits.deBruijn64tab", "internal/strconv.uint64pow10", "sallyport/insn.groups", "sallyport/encode.kinds", "sallyport/encode.f3s", "sallyport/encode.tops"] (by kernel_rfl) (by kernel_rfl)
theorem encodeTells_row_tie : Rows.encodeTellsRow.laidByTextAt .later Tryd.pinned [.data, .data, .data, .data, .data, .data, .data] true :=
  OpenClaim.laidByTextAt_later rfl rfl tie noOwnUnsafe
theorem encodeRows_row_tie : Rows.encodeRowsRow.laidByTextAt .later Tryd.pinned [.data, .data, .data, .data, .data, .data, .data] true :=
  OpenClaim.laidByTextAt_later rfl rfl tie noOwnUnsafe
theorem encodeApart_row_tie : Rows.encodeApartRow.laidByTextAt .later Tryd.pinned [.data, .data, .data, .data, .data, .data, .data] true :=
  OpenClaim.laidByTextAt_later rfl rfl tie noOwnUnsafe
theorem encodeJumps_row_tie : Rows.encodeJumpsRow.laidByTextAt .later Tryd.pinned [.data, .data, .data, .data, .data, .data, .data] true :=
  OpenClaim.laidByTextAt_later rfl rfl tie noOwnUnsafe
theorem encodeTexts_row_tie : Rows.encodeTextsRow.laidByTextAt .later Tryd.pinned [.data, .data, .data, .data, .data, .data, .data] true :=
  OpenClaim.laidByTextAt_later rfl rfl tie noOwnUnsafe
theorem tie2 : Tryd.prog.laidByTextLater [("math/bits.deBruijn32tab", Rows.laid_math_bits_deBruijn32tab), ("math/bits.deBruijn64tab", Rows.laid_math_bits_deBruijn64tab), ("internal/strconv.uint64pow10", Rows.laid_internal_strconv_uint64pow10), ("sallyport/insn.groups", Rows.laid_sallyport_insn_groups), ("sallyport/decode.groups", Rows.laid_sallyport_decode_groups), ("sallyport/decode.heads", Rows.laid_sallyport_decode_heads), ("sallyport/encode.kinds", Rows.laid_sallyport_encode_kinds), ("sallyport/encode.f3s", Rows.laid_sallyport_encode_f3s), ("sallyport/encode.tops", Rows.laid_sallyport_encode_tops)] [.data, .data, .data, .data, .data, .data, .data, .data, .data] true :=
  Program.laidByTextLater.sub seatTie2 ["math/bits.deBruijn32tab", "math/bits.deBruijn64tab", "internal/strconv.uint64pow10", "sallyport/insn.groups", "sallyport/decode.groups", "sallyport/decode.heads", "sallyport/encode.kinds", "sallyport/encode.f3s", "sallyport/encode.tops"] (by kernel_rfl) (by kernel_rfl)
theorem encodeBack_row_tie : Rows.encodeBackRow.laidByTextAt .later Tryd.pinned [.data, .data, .data, .data, .data, .data, .data, .data, .data] true :=
  OpenClaim.laidByTextAt_later rfl rfl tie2 noOwnUnsafe
theorem encodeTellsUpto_row_tie : Rows.encodeTellsUptoRow.laidByTextAt .later Tryd.pinned [.data, .data, .data, .data, .data, .data, .data] true :=
  OpenClaim.laidByTextAt_later rfl rfl tie noOwnUnsafe
theorem encodeBackUpto_row_tie : Rows.encodeBackUptoRow.laidByTextAt .later Tryd.pinned [.data, .data, .data, .data, .data, .data, .data, .data, .data] true :=
  OpenClaim.laidByTextAt_later rfl rfl tie2 noOwnUnsafe
theorem encodeRowsUpto_row_tie : Rows.encodeRowsUptoRow.laidByTextAt .later Tryd.pinned [.data, .data, .data, .data, .data, .data, .data] true :=
  OpenClaim.laidByTextAt_later rfl rfl tie noOwnUnsafe
theorem encodeApartUpto_row_tie : Rows.encodeApartUptoRow.laidByTextAt .later Tryd.pinned [.data, .data, .data, .data, .data, .data, .data] true :=
  OpenClaim.laidByTextAt_later rfl rfl tie noOwnUnsafe
theorem encodeJumpsUpto_row_tie : Rows.encodeJumpsUptoRow.laidByTextAt .later Tryd.pinned [.data, .data, .data, .data, .data, .data, .data] true :=
  OpenClaim.laidByTextAt_later rfl rfl tie noOwnUnsafe
theorem encodeTextsUpto_row_tie : Rows.encodeTextsUptoRow.laidByTextAt .later Tryd.pinned [.data, .data, .data, .data, .data, .data, .data] true :=
  OpenClaim.laidByTextAt_later rfl rfl tie noOwnUnsafe
end Go.Proofs.YtdogjmimjjmmaaaDoor
