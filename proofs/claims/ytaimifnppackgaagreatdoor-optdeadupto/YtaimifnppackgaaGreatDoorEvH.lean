import Derived.Test.YtaimifnppackgaaGreatDoorOzU
import Derived.Test.YtaimifnppackgaaGreatDoorRows
set_option linter.all false
namespace Go.Ev
open Go Go.RowKit Go.Proofs Go.Proofs.YtaimifnppackgaaGreatDoor
noncomputable def h0:H:=(putA 0 Rows.laid_plumbob_rtl_shapes (putL 2 Rows.laid_plumbob_words_operations (putA 7 Rows.laid_unicode_utf8_acceptRanges (putL 1 Rows.laid_internal_strconv_uint64pow10 (putL 5 Rows.laid_math_bits_deBruijn64tab (putL 4 Rows.laid_math_bits_deBruijn32tab ⟨13,.nil⟩))))))
noncomputable def vals:FuncId→List Value→Option Value:=fun f args=>match f,args with
 | 160,[.int .i64 n,.int .i64 (.ofNat 10)]=>cond (inI64 n) (some (.string ⟨⟨itoaB n⟩⟩)) none
 | _,_=>none
noncomputable def tels:FuncId→List Value→H→Option (Value × H):=fun f args h=>match f with
 | 140=>(orT (copyT 136 2 h args) (orT (copyT 138 2 h args) none))
 | 88=>(orT (strT 136 2 5 h args) (orT (strT 138 2 5 h args) none))
 | 167=>makeT 5 h args
 | _=>none
noncomputable def pr0:Prim:=⟨vals,tels⟩
end Go.Ev
