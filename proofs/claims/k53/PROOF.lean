import PyProof.Rows.All
import Wide.All
import OpenK.AllK
import Wide.FinOn
import Lean
import PyProof.EqAt
import PyProof.EqKinds
import PyProof.TupleCall
import PyProof.SetScanFacts
import PyProof.SetKind
import PyProof.SetRoads
import PyProof.Rows.SetFrom
import PyProof.FactsBase
import PyProof.TableTree
import PyProof.FactsTree
import PyProof.PlainAttrs
import PyProof.FactsAll.set_1
import PyProof.CollectIter
import PyProof.FactsAll.set
import PyProof.ZipIter
import PyProof.EnumIter
import PyProof.TupleIter
import KE.KRevIter
import KE.KDictList
import PyProof.Rows.SumAny
import KE.KIntText
import PyProof.StrLawsTight
import PyProof.StrLawsChain
import PyProof.Rows.SortStr
import PyProof.Rows.StrNews2
import PyProof.StrLawsFirst
import PyProof.AutoSeq1
import KE.KDictOf
import PyProof.DictItems
import PyProof.NeKinds
import KE.KPairComp
import PyProof.FactsAll.tuple_2
import PyProof.FactsAll.tuple_3
import KE.KDictLaws
import PyProof.FactsAll.dict_3
import PyProof.MinMaxWalk
import PyProof.WalkInts
import KE.BitLaws
import PySem.Challenge.RW_usewarden_k53_what_begins
noncomputable section
set_option Elab.async false
set_option linter.all false
set_option maxRecDepth 100000
set_option maxHeartbeats 4000000
namespace L2
open PySem
abbrev G8:=@PySem.wpAny_bind
abbrev Hc:=@PySem.wpAny_pure
abbrev Hd:=@List.getElem?_eq_some_iff
abbrev He:=@_root_.if_neg
abbrev Hf:=@_root_.if_pos
abbrev Hg:=@List.mem_singleton
abbrev Hh:=@List.mem_flatMap
abbrev Hi:=@List.mem_cons
abbrev Hj:=@List.mem_append
abbrev Hk:=@List.mem_map
abbrev Hm:=@List.mem_range
abbrev Ho:=@List.mem_iff_getElem
abbrev Hq:=@List.mem_filter
abbrev Hr:=@Option.map_eq_some_iff
abbrev Hs:=@Option.isSome_iff_exists
abbrev Ht:=@List.pairwise_map
abbrev Hu:=@Bool.eq_false_iff
abbrev Hv:=@Array.perm_iff_toList_perm
abbrev Hw:=@List.mem_filterMap
abbrev ze:=@List.length_map
abbrev zg:=@List.getElem?_eq_getElem
abbrev zl:=@Nat.le_refl
abbrev zr:=@List.length_append
abbrev zx:=@List.length_cons
abbrev zy:=@List.getElem?_map
abbrev zz:=@Heap.get?_push_of_some
abbrev zA:=@Heap.lt_size
abbrev zI:=@List.mem_cons_self
abbrev zK:=@List.mem_cons
abbrev zO:=@List.mem_cons_of_mem
abbrev zP:=@List.map_append
abbrev zR:=@Nat.ne_of_lt
abbrev zV:=@Heap.get?_push_size
abbrev zW:=@List.map_cons
abbrev qf:=@List.size_toArray
abbrev qm:=@List.not_mem_nil
abbrev qL:=@F.plainAttrs_list
abbrev qR:=@List.length_nil
abbrev wj:=@Bool.false_ne_true
abbrev wm:=@Nat.le_of_lt
abbrev wt:=@Array.getElem?_eq_getElem
abbrev wA:=@Bool.false_eq_true
abbrev wG:=@PassesOwn.never
abbrev ve:=@Ne.symm
abbrev vj:=@Array.length_toList
abbrev vw:=@List.getElem?_append_right
abbrev vx:=@List.mem_of_getElem?
abbrev vA:=@Nat.lt_or_ge
abbrev vE:=@List.getD_eq_getElem?_getD
abbrev vL:=@Nat.zero_le
abbrev vO:=@Int.toNat_natCast
abbrev vQ:=@F.slot_list_append
abbrev vT:=@F.type_list_append
abbrev vV:=@Nat.lt_of_lt_of_le
abbrev vW:=@List.length_take
abbrev vX:=@List.getElem?_append_left
abbrev vY:=@Heap.size_push
abbrev v5:=@List.getElem_mem
abbrev yt:=@List.map_map
abbrev y6:=@Array.getD_eq_getD_getElem?
abbrev kr:=@List.mem_append_right
abbrev kC:=@Nat.zero_add
abbrev gv:=@Heap.SameBut.update
abbrev gV:=@Nat.le_trans
abbrev gY:=@List.append_nil
abbrev f6:=@List.nodup_cons
abbrev pG:=@List.take_add_one
abbrev pT:=@List.cons_append
abbrev ma:=@List.mem_nil_iff
abbrev ml:=@W.mg_none_of
abbrev mr:=@Heap.get?_update_self
abbrev mD:=@Array.getElem?_toList
abbrev mJ:=@List.take_of_length_le
abbrev uR:=@Nat.mul_add
abbrev uU:=@W.kia_one
abbrev uV:=@List.append_assoc
abbrev u0:=@Bool.not_true
abbrev td:=@Nat.sub_self
abbrev tx:=@List.take_length
abbrev rD:=@Int.emod_nonneg
abbrev rW:=@List.map_nil
abbrev lW:=@Nat.lt_succ_of_lt
abbrev lX:=@List.sum_cons
abbrev lY:=@Int.emod_lt_of_pos
abbrev lZ:=@List.mem_append_left
abbrev GI:=@Nat.ne_of_gt
abbrev GO:=@List.length_drop
abbrev Gv:=@List.length_singleton
abbrev GB:=@List.nodup_nil
abbrev GH:=@Nat.add_assoc
abbrev GD:=@Classical.byContradiction
abbrev GN:=@Nat.not_lt_zero
abbrev GP:=@Nat.mod_lt
abbrev GF:=@Obj.data_mapFields
abbrev G2:=@Paired.length
abbrev GR:=@Nat.lt_irrefl
abbrev GX:=@List.lookup_cons
abbrev G7:=@List.getElem?_eq_none
abbrev GU:=@Around.under_plainId
abbrev GZ:=@Array.getElem?_eq_none
abbrev G1:=@List.getElem?_cons_succ
abbrev GS:=@List.take_succ_cons
abbrev G4:=@List.filterMap_cons_some
abbrev G6:=@List.length_range
abbrev G0:=@List.filter_append
abbrev GV:=@List.dropLast_concat_getLast
abbrev zav:=@Value.isInt_shape
abbrev zaw:=@Nat.lt_succ_self
abbrev zax:=@List.find?_cons
abbrev zay:=@Obj.isFreed_of_fields
abbrev zaz:=@List.range_succ
abbrev zaA:=@PyProof.Rows.F.plain_set_update_loop
abbrev zaB:=@List.mem_map
abbrev zaC:=@Nat.eq_or_lt_of_le
abbrev zaD:=@List.nodup_append
abbrev zaE:=@Int.zero_add
abbrev zaF:=@Bool.eq_iff_iff
abbrev zaG:=@PySem.mem_of_lookup
abbrev zaH:=@Bool.and_eq_true
abbrev zaI:=@Bool.or_false
abbrev zaJ:=@Heap.get?_update_other
abbrev zaK:=@List.any_cons
abbrev zaL:=@W.mg_of
abbrev zaM:=@List.all_eq_true
abbrev zaN:=@Bool.or_eq_true
abbrev zaO:=@Obj.cls_mapFields
abbrev zaP:=@List.zipIdx_nil
abbrev zaQ:=@List.forIn_nil
abbrev zaR:=@List.filterMap_cons_none
abbrev zaS:=@F.slot_list_extend
abbrev zaT:=@F.type_list_extend
abbrev zaU:=@List.flatMap_cons
abbrev zaV:=@Value.isStrOf_shape
abbrev zaW:=@PyProof.Rows.callWith_type1
abbrev zaX:=@List.length_reverse
abbrev zaY:=@List.mem_singleton
abbrev zaZ:=@Nat.le_add_right
abbrev za0:=@Array.forIn_toList
abbrev za1:=@List.zip_cons_cons
abbrev za2:=@F.slot_tuple_iterator_next
abbrev za3:=@F.slot_zip_next
abbrev za4:=@List.foldl_append
abbrev za5:=@PyProof.Rows.F.entry_set_update_loop
abbrev za6:=@List.Pairwise.imp_of_mem
abbrev za7:=@Nat.testBit_two_pow
abbrev za8:=@F.slot_dict_keyiterator_next
abbrev za9:=@Array.getElem?_setIfInBounds
abbrev zba:=@List.map_congr_left
abbrev zbb:=@Classical.choose_spec
abbrev zbc:=@List.flatMap_append
abbrev zbd:=@Int.fdiv_eq_ediv_of_nonneg
abbrev zbe:=@List.getElem?_replicate
abbrev zbf:=@Calls.callWith_builtin
abbrev zbg:=@List.any_eq_true
abbrev zbh:=@F.slot_list_index
abbrev zbi:=@List.eq_nil_of_length_eq_zero
abbrev zbj:=@F.plainAttrs_str
abbrev zbk:=@PyProof.Rows.slot_tuple_getitem
noncomputable def inClass(s:Stmt)(j:Nat):Stmt:=match s with
 | .ClassDef _ _ _ body _ _ _ _ _ _ _=>body.getD j (.Pass ⟨0,0,0,0⟩)
 | _=>.Pass ⟨0,0,0,0⟩
noncomputable def DM(s:Stmt):Arguments:=match s with
 | .FunctionDef _ a _ _ _ _ _ _ _ _=>a
 | _=>{ posonlyargs:=[],args:=[],vararg:=none,kwonlyargs:=[],kw_defaults:=[],kwarg:=none,defaults:=[] }
noncomputable def Dq(s:Stmt):List Stmt:=match s with
 | .FunctionDef _ _ b _ _ _ _ _ _ _=>b
 | _=>[]
noncomputable def rd(s:Stmt):Scope:=match s with
 | .FunctionDef _ _ _ _ _ _ sc _ _ _=>sc
 | _=>{ kind:=.function,names:=[],isGenerator:=false,isCoroutine:=false }
end L2
namespace K53
open PySem PySem.W
noncomputable def top (i:Nat):Stmt:=PySem.Challenge.pw_usewarden_k53_what_begins.main.body.getD i (.Pass ⟨0,0,0,0⟩)
abbrev Ag(x:Array Value):Obj:=⟨.type "tuple", none,.seq x 0,#[]⟩
abbrev EH(n:Str)(a b c:Nat)(l g:Int)(p q r s u:Addr)(i:Int)(d:Nat):Obj:=⟨.type "code", none,.fields #[.str n a,.str n b,.str "/claim/cut.py" c,.int l 0,.int g 0,.int 0 0,.int 0 0,.int 3 0,.ref p,.bool true,.int 181 0,.ref q,.none,.ref r,.ref s,.ref u,.int i 0,.int l 0,.str "/claim/cut.py" d],#[]⟩
abbrev Eu(n:Str)(i:Nat)(m:Str)(a:Nat)(c:Addr):Obj:=⟨.type "function", none,.func ⟨n,n,L2.DM (top i),.stmts (L2.Dq (top i)),L2.rd (top i),3,[],.none,.none,.none,.str m a,none,.ref c,.none,0⟩,#[]⟩
noncomputable def KK(P:Params):Frag:=
 (nat_lit 2,⟨.none,none,.dict #[] 0,#[]⟩) ::
 (nat_lit 3,⟨.type "dict", none,.dict #[⟨PyData.keyHash P "__name__", .str "__name__" 165,.str "law_usewarden_k53_what_begins" 532⟩,⟨PyData.keyHash P "__doc__", .str "__doc__" 166,.none⟩,⟨PyData.keyHash P "__package__", .str "__package__" 167,.none⟩,⟨PyData.keyHash P "__loader__", .str "__loader__" 168,.builtin "__main__.__loader__#opaque"⟩,⟨PyData.keyHash P "__spec__", .str "__spec__" 169,.none⟩,⟨PyData.keyHash P "__annotations__", .str "__annotations__" 170,.ref 6⟩,⟨PyData.keyHash P "__builtins__", .str "__builtins__" 171,.ref 4⟩,⟨PyData.keyHash P "__file__", .str "__file__" 173,.str "/claim/cut.py" 172⟩,⟨PyData.keyHash P "__cached__", .str "__cached__" 174,.none⟩,⟨PyData.keyHash P "next_room", .str "next_room" 198,.ref 21⟩,⟨PyData.keyHash P "is_in", .str "is_in" 208,.ref 28⟩,⟨PyData.keyHash P "without", .str "without" 216,.ref 35⟩,⟨PyData.keyHash P "begun_by_open", .str "begun_by_open" 230,.ref 42⟩,⟨PyData.keyHash P "begun_by_tie", .str "begun_by_tie" 236,.ref 47⟩,⟨PyData.keyHash P "begins_at", .str "begins_at" 248,.ref 54⟩,⟨PyData.keyHash P "PARTS", .str "PARTS" 283,.ref 55⟩,⟨PyData.keyHash P "CLOSERS", .str "CLOSERS" 294,.ref 64⟩,⟨PyData.keyHash P "closers_of", .str "closers_of" 301,.ref 74⟩,⟨PyData.keyHash P "head_of", .str "head_of" 308,.ref 81⟩,⟨PyData.keyHash P "blocks_of", .str "blocks_of" 315,.ref 88⟩,⟨PyData.keyHash P "steps_within", .str "steps_within" 325,.ref 95⟩,⟨PyData.keyHash P "names_in", .str "names_in" 336,.ref 102⟩,⟨PyData.keyHash P "lines_of", .str "lines_of" 342,.ref 107⟩,⟨PyData.keyHash P "names_of", .str "names_of" 349,.ref 114⟩,⟨PyData.keyHash P "NumberedStep", .str "NumberedStep" 385,.ref 131⟩,⟨PyData.keyHash P "line_behind", .str "line_behind" 393,.ref 142⟩,⟨PyData.keyHash P "numbered_step", .str "numbered_step" 405,.ref 149⟩,⟨PyData.keyHash P "numbered_steps", .str "numbered_steps" 415,.ref 156⟩,⟨PyData.keyHash P "lend_lines", .str "lend_lines" 423,.ref 161⟩,⟨PyData.keyHash P "slots_of", .str "slots_of" 433,.ref 168⟩,⟨PyData.keyHash P "simple_row", .str "simple_row" 439,.ref 173⟩,⟨PyData.keyHash P "lend_rows", .str "lend_rows" 456,.ref 180⟩,⟨PyData.keyHash P "if_rows", .str "if_rows" 471,.ref 187⟩,⟨PyData.keyHash P "loop_rows", .str "loop_rows" 482,.ref 194⟩,⟨PyData.keyHash P "while_rows", .str "while_rows" 495,.ref 201⟩,⟨PyData.keyHash P "rows_of", .str "rows_of" 508,.ref 208⟩,⟨PyData.keyHash P "rows_and_end", .str "rows_and_end" 517,.ref 215⟩,⟨PyData.keyHash P "code_of", .str "code_of" 524,.ref 222⟩,⟨PyData.keyHash P "turned_code", .str "turned_code" 531,.ref 229⟩,⟨PyData.keyHash P "_law_whole", .str "_law_whole" 540,.ref 236⟩,⟨PyData.keyHash P "_law_cell_at", .str "_law_cell_at" 548,.ref 243⟩,⟨PyData.keyHash P "_law_words", .str "_law_words" 554,.ref 248⟩,⟨PyData.keyHash P "_law_step", .str "_law_step" 568,.ref 255⟩,⟨PyData.keyHash P "_law_put", .str "_law_put" 576,.ref 262⟩,⟨PyData.keyHash P "_law_close", .str "_law_close" 587,.ref 269⟩,⟨PyData.keyHash P "_law_program", .str "_law_program" 601,.ref 276⟩,⟨PyData.keyHash P "_law_rule", .str "_law_rule" 621,.ref 283⟩,⟨PyData.keyHash P "_law_slots", .str "_law_slots" 630,.ref 290⟩,⟨PyData.keyHash P "_law_has", .str "_law_has" 638,.ref 297⟩,⟨PyData.keyHash P "_law_sum_behind", .str "_law_sum_behind" 647,.ref 304⟩,⟨PyData.keyHash P "_law_next", .str "_law_next" 656,.ref 311⟩,⟨PyData.keyHash P "_law_code", .str "_law_code" 671,.ref 318⟩,⟨PyData.keyHash P "_law_pair", .str "_law_pair" 683,.ref 325⟩,⟨PyData.keyHash P "_law_tokens", .str "_law_tokens" 697,.ref 332⟩,⟨PyData.keyHash P "_law_due", .str "_law_due" 710,.ref 339⟩,⟨PyData.keyHash P "_law_right", .str "_law_right" 716,.ref 344⟩,⟨PyData.keyHash P "law", .str "law" 722,.ref 349⟩] 57,#[]⟩) ::
 (nat_lit 15,Ag #[]) ::
 (nat_lit 17,Ag #[.str "rule" 192,.str "room" 193,.str "text" 194,.str "words" 195]) ::
 (nat_lit 18,Ag #[]) ::
 (nat_lit 20,EH "next_room" 189 190 191 2 3 15 16 17 18 19 196 197) ::
 (nat_lit 21,Eu "next_room" 1 "usewarden.rules" 187 20) ::
 (nat_lit 22,Ag #[]) ::
 (nat_lit 24,Ag #[.str "slot" 204,.str "held" 205]) ::
 (nat_lit 25,Ag #[]) ::
 (nat_lit 27,EH "is_in" 201 202 203 8 2 22 23 24 25 26 206 207) ::
 (nat_lit 28,Eu "is_in" 3 "usewarden.tokens" 199 27) ::
 (nat_lit 29,Ag #[]) ::
 (nat_lit 31,Ag #[.str "slot" 212,.str "held" 213]) ::
 (nat_lit 32,Ag #[]) ::
 (nat_lit 34,EH "without" 209 210 211 10 2 29 30 31 32 33 214 215) ::
 (nat_lit 35,Eu "without" 4 "usewarden.tokens" 199 34) ::
 (nat_lit 36,Ag #[]) ::
 (nat_lit 38,Ag #[.str "rule" 220,.str "slot" 221,.str "tokens" 222,.str "new" 223,.str "room" 224,.str "begun" 225,.str "token" 226,.str "held" 227]) ::
 (nat_lit 39,Ag #[]) ::
 (nat_lit 41,EH "begun_by_open" 217 218 219 12 3 36 37 38 39 40 228 229) ::
 (nat_lit 42,Eu "begun_by_open" 5 "usewarden.tokens" 199 41) ::
 (nat_lit 43,Ag #[]) ::
 (nat_lit 46,⟨.type "code", none,.fields #[.str "begun_by_tie" 231,.str "begun_by_tie" 232,.str "/claim/cut.py" 233,.int 24 0,.int 3 0,.int 0 0,.int 0 0,.int 3 0,.ref 43,.bool true,.int 181 0,.ref 44,.none,.none,.none,.ref 45,.int 234 0,.int 24 0,.str "/claim/cut.py" 235],#[]⟩) ::
 (nat_lit 47,Eu "begun_by_tie" 6 "usewarden.tokens" 199 46) ::
 (nat_lit 48,Ag #[]) ::
 (nat_lit 50,Ag #[.str "code" 240,.str "rule" 241,.str "at" 242,.str "tokens" 243,.str "row" 244,.str "begun" 245]) ::
 (nat_lit 51,Ag #[]) ::
 (nat_lit 53,EH "begins_at" 237 238 239 27 4 48 49 50 51 52 246 247) ::
 (nat_lit 54,Eu "begins_at" 7 "usewarden.tokens" 199 53) ::
 (nat_lit 55,⟨.type "dict", none,.dict #[⟨PyData.keyHash P "open", .str "open" 251,.ref 56⟩,⟨PyData.keyHash P "do", .str "do" 253,.ref 57⟩,⟨PyData.keyHash P "copy", .str "copy" 256,.ref 58⟩,⟨PyData.keyHash P "drop", .str "drop" 259,.ref 59⟩,⟨PyData.keyHash P "tie", .str "tie" 261,.ref 60⟩,⟨PyData.keyHash P "lend", .str "lend" 264,.ref 61⟩,⟨PyData.keyHash P "if", .str "if" 268,.ref 62⟩,⟨PyData.keyHash P "while", .str "while" 272,.ref 63⟩] 8,#[]⟩) ::
 (nat_lit 56,Ag #[.str "name" 252]) ::
 (nat_lit 57,Ag #[.str "word" 254,.str "name" 255]) ::
 (nat_lit 58,Ag #[.str "name" 257,.str "name" 258]) ::
 (nat_lit 59,Ag #[.str "name" 260]) ::
 (nat_lit 60,Ag #[.str "name" 262,.str "name" 263]) ::
 (nat_lit 61,Ag #[.str "name" 265,.str "name" 266,.str "steps" 267]) ::
 (nat_lit 62,Ag #[.str "bound" 269,.str "steps" 270,.str "steps" 271]) ::
 (nat_lit 63,Ag #[.str "bound" 273,.str "steps" 274]) ::
 (nat_lit 64,⟨.type "dict", none,.dict #[⟨PyData.keyHash P "lend", .str "lend" 284,.ref 65⟩,⟨PyData.keyHash P "if", .str "if" 286,.ref 66⟩,⟨PyData.keyHash P "while", .str "while" 289,.ref 67⟩] 3,#[]⟩) ::
 (nat_lit 65,Ag #[.str "back" 285]) ::
 (nat_lit 66,Ag #[.str "else" 287,.str "fi" 288]) ::
 (nat_lit 67,Ag #[.str "done" 290]) ::
 (nat_lit 68,Ag #[]) ::
 (nat_lit 70,Ag #[.str "kind" 298]) ::
 (nat_lit 71,Ag #[]) ::
 (nat_lit 73,EH "closers_of" 295 296 297 38 1 68 69 70 71 72 299 300) ::
 (nat_lit 74,Eu "closers_of" 11 "usewarden.programs" 249 73) ::
 (nat_lit 75,Ag #[]) ::
 (nat_lit 77,Ag #[.str "step" 305]) ::
 (nat_lit 78,Ag #[]) ::
 (nat_lit 80,EH "head_of" 302 303 304 40 1 75 76 77 78 79 306 307) ::
 (nat_lit 81,Eu "head_of" 12 "usewarden.programs" 249 80) ::
 (nat_lit 82,Ag #[]) ::
 (nat_lit 84,Ag #[.str "step" 312]) ::
 (nat_lit 85,Ag #[]) ::
 (nat_lit 87,EH "blocks_of" 309 310 311 42 1 82 83 84 85 86 313 314) ::
 (nat_lit 88,Eu "blocks_of" 13 "usewarden.programs" 249 87) ::
 (nat_lit 89,Ag #[]) ::
 (nat_lit 91,Ag #[.str "program" 319,.str "steps" 320,.str "step" 321,.str "block" 322]) ::
 (nat_lit 92,Ag #[]) ::
 (nat_lit 94,EH "steps_within" 316 317 318 44 1 89 90 91 92 93 323 324) ::
 (nat_lit 95,Eu "steps_within" 14 "usewarden.programs" 249 94) ::
 (nat_lit 96,Ag #[]) ::
 (nat_lit 98,Ag #[.str "steps" 329,.str "names" 330,.str "step" 331,.str "part" 332,.str "kind" 333]) ::
 (nat_lit 99,Ag #[]) ::
 (nat_lit 101,EH "names_in" 326 327 328 51 1 96 97 98 99 100 334 335) ::
 (nat_lit 102,Eu "names_in" 15 "usewarden.programs" 249 101) ::
 (nat_lit 103,Ag #[]) ::
 (nat_lit 106,⟨.type "code", none,.fields #[.str "lines_of" 337,.str "lines_of" 338,.str "/claim/cut.py" 339,.int 58 0,.int 1 0,.int 0 0,.int 0 0,.int 3 0,.ref 103,.bool true,.int 181 0,.ref 104,.none,.none,.none,.ref 105,.int 340 0,.int 58 0,.str "/claim/cut.py" 341],#[]⟩) ::
 (nat_lit 107,Eu "lines_of" 16 "usewarden.programs" 249 106) ::
 (nat_lit 108,Ag #[]) ::
 (nat_lit 110,Ag #[.str "program" 346]) ::
 (nat_lit 111,Ag #[]) ::
 (nat_lit 113,EH "names_of" 343 344 345 66 1 108 109 110 111 112 347 348) ::
 (nat_lit 114,Eu "names_of" 17 "usewarden.programs" 249 113) ::
 (nat_lit 122,Ag #[]) ::
 (nat_lit 124,Ag #[.str "self" 367,.str "head" 368,.str "lines" 369,.str "blocks" 370]) ::
 (nat_lit 125,Ag #[]) ::
 (nat_lit 127,⟨.type "code", none,.fields #[.str "__init__" 364,.str "NumberedStep.__init__" 365,.str "/claim/cut.py" 366,.int 71 0,.int 4 0,.int 0 0,.int 0 0,.int 3 0,.ref 122,.bool true,.int 181 0,.ref 123,.none,.ref 124,.ref 125,.ref 126,.int 371 0,.int 71 0,.str "/claim/cut.py" 372],#[]⟩) ::
 (nat_lit 128,⟨.type "function", none,.func ⟨"__init__", "NumberedStep.__init__", L2.DM (L2.inClass (top 19) 0),.stmts (L2.Dq (L2.inClass (top 19) 0)),L2.rd (L2.inClass (top 19) 0),3,[],.none,.none,.none,.str "usewarden.numbered" 350,none,.ref 127,.none,0⟩,#[]⟩) ::
 (nat_lit 129,Ag #[.str "blocks" 374,.str "kind" 375,.str "lines" 376,.str "parts" 377]) ::
 (nat_lit 130,⟨.type "dict", none,.dict #[⟨PyData.keyHash P "__module__", .str "__module__" 359,.str "usewarden.numbered" 350⟩,⟨PyData.keyHash P "__firstlineno__", .str "__firstlineno__" 363,.int 69 362⟩,⟨PyData.keyHash P "__init__", .str "__init__" 373,.ref 128⟩,⟨PyData.keyHash P "__static_attributes__", .str "__static_attributes__" 378,.ref 129⟩,⟨PyData.keyHash P "__dict__", .str "__dict__" 380,.ref 132⟩,⟨PyData.keyHash P "__weakref__", .str "__weakref__" 382,.ref 133⟩,⟨PyData.keyHash P "__doc__", .str "__doc__" 383,.none⟩] 4,#[]⟩) ::
 (nat_lit 131,⟨.type "type", none,.cls ⟨"NumberedStep", [.type "object"],[.ref 131,.type "object"],130, "NumberedStep", true,[],[],false,none,false⟩,#[none,none,some (.str "NumberedStep" 352),some (.str "NumberedStep" 360),some (.builtin "object.__new__"),some (.bool true)]⟩) ::
 (nat_lit 132,⟨.type "getset_descriptor", none,.fields #[.str "__dict__" 379,.ref 131,.builtin "function.__dict__", .builtin "function.__dict__#set"],#[]⟩) ::
 (nat_lit 133,⟨.type "getset_descriptor", none,.fields #[.str "__weakref__" 381,.ref 131,.builtin "ExceptionGroup.__weakref__", .none],#[]⟩) ::
 (nat_lit 136,Ag #[]) ::
 (nat_lit 138,Ag #[.str "steps" 389,.str "line" 390]) ::
 (nat_lit 139,Ag #[]) ::
 (nat_lit 141,EH "line_behind" 386 387 388 76 2 136 137 138 139 140 391 392) ::
 (nat_lit 142,Eu "line_behind" 20 "usewarden.numbered" 350 141) ::
 (nat_lit 143,Ag #[]) ::
 (nat_lit 145,Ag #[.str "step" 397,.str "line" 398,.str "lines" 399,.str "blocks" 400,.str "block" 401,.str "steps" 402]) ::
 (nat_lit 146,Ag #[]) ::
 (nat_lit 148,EH "numbered_step" 394 395 396 78 2 143 144 145 146 147 403 404) ::
 (nat_lit 149,Eu "numbered_step" 21 "usewarden.numbered" 350 148) ::
 (nat_lit 150,Ag #[]) ::
 (nat_lit 152,Ag #[.str "steps" 409,.str "line" 410,.str "numbered" 411,.str "step" 412]) ::
 (nat_lit 153,Ag #[]) ::
 (nat_lit 155,EH "numbered_steps" 406 407 408 86 2 150 151 152 153 154 413 414) ::
 (nat_lit 156,Eu "numbered_steps" 22 "usewarden.numbered" 350 155) ::
 (nat_lit 157,Ag #[]) ::
 (nat_lit 160,⟨.type "code", none,.fields #[.str "lend_lines" 418,.str "lend_lines" 419,.str "/claim/cut.py" 420,.int 92 0,.int 1 0,.int 0 0,.int 0 0,.int 3 0,.ref 157,.bool true,.int 181 0,.ref 158,.none,.none,.none,.ref 159,.int 421 0,.int 92 0,.str "/claim/cut.py" 422],#[]⟩) ::
 (nat_lit 161,Eu "lend_lines" 24 "usewarden.codes" 416 160) ::
 (nat_lit 162,Ag #[]) ::
 (nat_lit 164,Ag #[.str "program" 427,.str "slots" 428,.str "slot" 429,.str "holder" 430]) ::
 (nat_lit 165,Ag #[]) ::
 (nat_lit 167,EH "slots_of" 424 425 426 94 1 162 163 164 165 166 431 432) ::
 (nat_lit 168,Eu "slots_of" 25 "usewarden.codes" 416 167) ::
 (nat_lit 169,Ag #[]) ::
 (nat_lit 172,⟨.type "code", none,.fields #[.str "simple_row" 434,.str "simple_row" 435,.str "/claim/cut.py" 436,.int 99 0,.int 2 0,.int 0 0,.int 0 0,.int 3 0,.ref 169,.bool true,.int 181 0,.ref 170,.none,.none,.none,.ref 171,.int 437 0,.int 99 0,.str "/claim/cut.py" 438],#[]⟩) ::
 (nat_lit 173,Eu "simple_row" 26 "usewarden.codes" 416 172) ::
 (nat_lit 174,Ag #[]) ::
 (nat_lit 176,Ag #[.str "step" 443,.str "at" 444,.str "slots" 445,.str "turned" 446,.str "line" 447,.str "back" 448,.str "giver" 449,.str "taker" 450,.str "lent" 451,.str "ahead" 452,.str "within" 453]) ::
 (nat_lit 177,Ag #[]) ::
 (nat_lit 179,EH "lend_rows" 440 441 442 104 4 174 175 176 177 178 454 455) ::
 (nat_lit 180,Eu "lend_rows" 27 "usewarden.codes" 416 179) ::
 (nat_lit 181,Ag #[]) ::
 (nat_lit 183,Ag #[.str "step" 460,.str "at" 461,.str "slots" 462,.str "turned" 463,.str "more" 464,.str "jump" 465,.str "rest" 466,.str "behind" 467,.str "test" 468]) ::
 (nat_lit 184,Ag #[]) ::
 (nat_lit 186,EH "if_rows" 457 458 459 113 4 181 182 183 184 185 469 470) ::
 (nat_lit 187,Eu "if_rows" 28 "usewarden.codes" 416 186) ::
 (nat_lit 188,Ag #[]) ::
 (nat_lit 190,Ag #[.str "step" 475,.str "at" 476,.str "slots" 477,.str "within" 478,.str "behind" 479]) ::
 (nat_lit 191,Ag #[]) ::
 (nat_lit 193,EH "loop_rows" 472 473 474 120 3 188 189 190 191 192 480 481) ::
 (nat_lit 194,Eu "loop_rows" 29 "usewarden.codes" 416 193) ::
 (nat_lit 195,Ag #[]) ::
 (nat_lit 197,Ag #[.str "step" 486,.str "at" 487,.str "slots" 488,.str "turned" 489,.str "first" 490,.str "loop" 491,.str "behind" 492]) ::
 (nat_lit 198,Ag #[]) ::
 (nat_lit 200,EH "while_rows" 483 484 485 124 4 195 196 197 198 199 493 494) ::
 (nat_lit 201,Eu "while_rows" 30 "usewarden.codes" 416 200) ::
 (nat_lit 202,Ag #[]) ::
 (nat_lit 204,Ag #[.str "steps" 499,.str "at" 500,.str "slots" 501,.str "turned" 502,.str "rows" 503,.str "step" 504,.str "place" 505]) ::
 (nat_lit 205,Ag #[]) ::
 (nat_lit 207,EH "rows_of" 496 497 498 131 4 202 203 204 205 206 506 507) ::
 (nat_lit 208,Eu "rows_of" 31 "usewarden.codes" 416 207) ::
 (nat_lit 209,Ag #[]) ::
 (nat_lit 211,Ag #[.str "program" 512,.str "turned" 513,.str "steps" 514]) ::
 (nat_lit 212,Ag #[]) ::
 (nat_lit 214,EH "rows_and_end" 509 510 511 144 2 209 210 211 212 213 515 516) ::
 (nat_lit 215,Eu "rows_and_end" 32 "usewarden.codes" 416 214) ::
 (nat_lit 216,Ag #[]) ::
 (nat_lit 218,Ag #[.str "program" 521]) ::
 (nat_lit 219,Ag #[]) ::
 (nat_lit 221,EH "code_of" 518 519 520 147 1 216 217 218 219 220 522 523) ::
 (nat_lit 222,Eu "code_of" 33 "usewarden.codes" 416 221) ::
 (nat_lit 223,Ag #[]) ::
 (nat_lit 225,Ag #[.str "program" 528]) ::
 (nat_lit 226,Ag #[]) ::
 (nat_lit 228,EH "turned_code" 525 526 527 149 1 223 224 225 226 227 529 530) ::
 (nat_lit 229,Eu "turned_code" 34 "usewarden.codes" 416 228) ::
 (nat_lit 230,Ag #[]) ::
 (nat_lit 232,Ag #[.str "_law_found" 537]) ::
 (nat_lit 233,Ag #[]) ::
 (nat_lit 235,EH "_law_whole" 534 535 536 152 1 230 231 232 233 234 538 539) ::
 (nat_lit 236,Eu "_law_whole" 36 "law_usewarden_k53_what_begins" 532 235) ::
 (nat_lit 237,Ag #[]) ::
 (nat_lit 239,Ag #[.str "_law_script" 544,.str "_law_k" 545]) ::
 (nat_lit 240,Ag #[]) ::
 (nat_lit 242,EH "_law_cell_at" 541 542 543 154 2 237 238 239 240 241 546 547) ::
 (nat_lit 243,Eu "_law_cell_at" 37 "law_usewarden_k53_what_begins" 532 242) ::
 (nat_lit 244,Ag #[]) ::
 (nat_lit 247,⟨.type "code", none,.fields #[.str "_law_words" 549,.str "_law_words" 550,.str "/claim/cut.py" 551,.int 158 0,.int 2 0,.int 0 0,.int 0 0,.int 3 0,.ref 244,.bool true,.int 181 0,.ref 245,.none,.none,.none,.ref 246,.int 552 0,.int 158 0,.str "/claim/cut.py" 553],#[]⟩) ::
 (nat_lit 248,Eu "_law_words" 38 "law_usewarden_k53_what_begins" 532 247) ::
 (nat_lit 249,Ag #[]) ::
 (nat_lit 251,Ag #[.str "_law_cell" 558,.str "_law_names" 559,.str "_law_words_here" 560,.str "_law_x" 561,.str "_law_y" 562,.str "_law_word" 563,.str "_law_bound" 564,.str "_law_some" 565]) ::
 (nat_lit 252,Ag #[]) ::
 (nat_lit 254,EH "_law_step" 555 556 557 171 3 249 250 251 252 253 566 567) ::
 (nat_lit 255,Eu "_law_step" 39 "law_usewarden_k53_what_begins" 532 254) ::
 (nat_lit 256,Ag #[]) ::
 (nat_lit 258,Ag #[.str "_law_pile" 572,.str "_law_step_here" 573]) ::
 (nat_lit 259,Ag #[]) ::
 (nat_lit 261,EH "_law_put" 569 570 571 180 2 256 257 258 259 260 574 575) ::
 (nat_lit 262,Eu "_law_put" 40 "law_usewarden_k53_what_begins" 532 261) ::
 (nat_lit 263,Ag #[]) ::
 (nat_lit 265,Ag #[.str "_law_pile" 580,.str "_law_head" 581,.str "_law_first" 582,.str "_law_second" 583,.str "_law_side" 584]) ::
 (nat_lit 266,Ag #[]) ::
 (nat_lit 268,EH "_law_close" 577 578 579 182 1 263 264 265 266 267 585 586) ::
 (nat_lit 269,Eu "_law_close" 41 "law_usewarden_k53_what_begins" 532 268) ::
 (nat_lit 270,Ag #[]) ::
 (nat_lit 272,Ag #[.str "_law_cells" 591,.str "_law_names" 592,.str "_law_words_here" 593,.str "_law_lends" 594,.str "_law_deep" 595,.str "_law_pile" 596,.str "_law_cell" 597,.str "_law_step_here" 598]) ::
 (nat_lit 273,Ag #[]) ::
 (nat_lit 275,EH "_law_program" 588 589 590 188 5 270 271 272 273 274 599 600) ::
 (nat_lit 276,Eu "_law_program" 42 "law_usewarden_k53_what_begins" 532 275) ::
 (nat_lit 277,Ag #[]) ::
 (nat_lit 279,Ag #[.str "_law_cells" 605,.str "_law_sides" 606,.str "_law_words_here" 607,.str "_law_most" 608,.str "_law_texts" 609,.str "_law_k" 610,.str "_law_bits" 611,.str "_law_many" 612,.str "_law_share" 613,.str "_law_rooms" 614,.str "_law_rest" 615,.str "_law_room" 616,.str "_law_text" 617,.str "_law_digit" 618]) ::
 (nat_lit 280,Ag #[]) ::
 (nat_lit 282,EH "_law_rule" 602 603 604 205 4 277 278 279 280 281 619 620) ::
 (nat_lit 283,Eu "_law_rule" 43 "law_usewarden_k53_what_begins" 532 282) ::
 (nat_lit 284,Ag #[]) ::
 (nat_lit 286,Ag #[.str "_law_code_here" 625,.str "_law_most" 626,.str "_law_row" 627]) ::
 (nat_lit 287,Ag #[]) ::
 (nat_lit 289,EH "_law_slots" 622 623 624 231 1 284 285 286 287 288 628 629) ::
 (nat_lit 290,Eu "_law_slots" 44 "law_usewarden_k53_what_begins" 532 289) ::
 (nat_lit 291,Ag #[]) ::
 (nat_lit 293,Ag #[.str "_law_held" 634,.str "_law_slot" 635]) ::
 (nat_lit 294,Ag #[]) ::
 (nat_lit 296,EH "_law_has" 631 632 633 239 2 291 292 293 294 295 636 637) ::
 (nat_lit 297,Eu "_law_has" 45 "law_usewarden_k53_what_begins" 532 296) ::
 (nat_lit 298,Ag #[]) ::
 (nat_lit 300,Ag #[.str "_law_row" 642,.str "_law_held" 643,.str "_law_rest" 644]) ::
 (nat_lit 301,Ag #[]) ::
 (nat_lit 303,EH "_law_sum_behind" 639 640 641 241 2 298 299 300 301 302 645 646) ::
 (nat_lit 304,Eu "_law_sum_behind" 46 "law_usewarden_k53_what_begins" 532 303) ::
 (nat_lit 305,Ag #[]) ::
 (nat_lit 307,Ag #[.str "_law_rule_here" 651,.str "_law_room" 652,.str "_law_text" 653]) ::
 (nat_lit 308,Ag #[]) ::
 (nat_lit 310,EH "_law_next" 648 649 650 248 3 305 306 307 308 309 654 655) ::
 (nat_lit 311,Eu "_law_next" 47 "law_usewarden_k53_what_begins" 532 310) ::
 (nat_lit 312,Ag #[]) ::
 (nat_lit 314,Ag #[.str "_law_script" 660,.str "_law_start" 661,.str "_law_lends" 662,.str "_law_deep" 663,.str "_law_first" 664,.str "_law_second" 665,.str "_law_names" 666,.str "_law_words_here" 667,.str "_law_program_here" 668]) ::
 (nat_lit 315,Ag #[]) ::
 (nat_lit 317,EH "_law_code" 657 658 659 252 4 312 313 314 315 316 669 670) ::
 (nat_lit 318,Eu "_law_code" 48 "law_usewarden_k53_what_begins" 532 317) ::
 (nat_lit 319,Ag #[]) ::
 (nat_lit 321,Ag #[.str "_law_cell" 675,.str "_law_slots_here" 676,.str "_law_rest" 677,.str "_law_one" 678,.str "_law_other" 679,.str "_law_slot" 680]) ::
 (nat_lit 322,Ag #[]) ::
 (nat_lit 324,EH "_law_pair" 672 673 674 261 2 319 320 321 322 323 681 682) ::
 (nat_lit 325,Eu "_law_pair" 49 "law_usewarden_k53_what_begins" 532 324) ::
 (nat_lit 326,Ag #[]) ::
 (nat_lit 328,Ag #[.str "_law_cell" 687,.str "_law_rule_here" 688,.str "_law_slots_here" 689,.str "_law_number" 690,.str "_law_found" 691,.str "_law_k" 692,.str "_law_pair_here" 693,.str "_law_room" 694]) ::
 (nat_lit 329,Ag #[]) ::
 (nat_lit 331,EH "_law_tokens" 684 685 686 270 3 326 327 328 329 330 695 696) ::
 (nat_lit 332,Eu "_law_tokens" 50 "law_usewarden_k53_what_begins" 532 331) ::
 (nat_lit 333,Ag #[]) ::
 (nat_lit 335,Ag #[.str "_law_rule_here" 701,.str "_law_row" 702,.str "_law_tokens_here" 703,.str "_law_found" 704,.str "_law_room" 705,.str "_law_token" 706,.str "_law_old" 707]) ::
 (nat_lit 336,Ag #[]) ::
 (nat_lit 338,EH "_law_due" 698 699 700 282 3 333 334 335 336 337 708 709) ::
 (nat_lit 339,Eu "_law_due" 51 "law_usewarden_k53_what_begins" 532 338) ::
 (nat_lit 340,Ag #[]) ::
 (nat_lit 343,⟨.type "code", none,.fields #[.str "_law_right" 711,.str "_law_right" 712,.str "/claim/cut.py" 713,.int 299 0,.int 4 0,.int 0 0,.int 0 0,.int 3 0,.ref 340,.bool true,.int 181 0,.ref 341,.none,.none,.none,.ref 342,.int 714 0,.int 299 0,.str "/claim/cut.py" 715],#[]⟩) ::
 (nat_lit 344,Eu "_law_right" 52 "law_usewarden_k53_what_begins" 532 343) ::
 (nat_lit 345,Ag #[]) ::
 (nat_lit 348,⟨.type "code", none,.fields #[.str "law" 717,.str "law" 718,.str "/claim/cut.py" 719,.int 311 0,.int 1 0,.int 0 0,.int 0 0,.int 3 0,.ref 345,.bool true,.int 181 0,.ref 346,.none,.none,.none,.ref 347,.int 720 0,.int 311 0,.str "/claim/cut.py" 721],#[]⟩) ::
 (nat_lit 349,Eu "law" 53 "law_usewarden_k53_what_begins" 532 348)::[]
noncomputable def kk:List Addr:=[2,3,15,17,18,20,21,22,24,25,27,28,29,31,32,34,35,36,38,39,41,42,43,46,47,48,50,51,53,54,55,56,57,58,59,60,61,62,63,64,65,66,67,68,70,71,73,74,75,77,78,80,81,82,84,85,87,88,89,91,92,94,95,96,98,99,101,102,103,106,107,108,110,111,113,114,122,124,125,127,128,129,130,131,132,133,136,138,139,141,142,143,145,146,148,149,150,152,153,155,156,157,160,161,162,164,165,167,168,169,172,173,174,176,177,179,180,181,183,184,186,187,188,190,191,193,194,195,197,198,200,201,202,204,205,207,208,209,211,212,214,215,216,218,219,221,222,223,225,226,228,229,230,232,233,235,236,237,239,240,242,243,244,247,248,249,251,252,254,255,256,258,259,261,262,263,265,266,268,269,270,272,273,275,276,277,279,280,282,283,284,286,287,289,290,291,293,294,296,297,298,300,301,303,304,305,307,308,310,311,312,314,315,317,318,319,321,322,324,325,326,328,329,331,332,333,335,336,338,339,340,343,344,345,348,349]
theorem kk_eq:∀ P,kk=(KK P).map (·.1):=fun _=>by kernel_rfl
noncomputable abbrev HH:Hook:=kHook KK kk kk_eq
noncomputable def qq:Program:=view PySem.Challenge.pw_usewarden_k53_what_begins [1,3,4,5,6,7,9,10,11,12,13,14,15,16,17,19,20,21,22,24,25,26,27,28,29,30,31,32,33,34,36,37,38,39,40,41,42,43,44,45,46,47,48,49,50,51,52,53]
noncomputable def loo:List Str:=["PARTS", "CLOSERS"]
noncomputable def xt(s:Shared):Bool:=xlAt qq [] s&&recOk (RowW.records (OpenRow.toRowW (OpenLaw.row PySem.Challenge.rw_usewarden_k53_what_begins))) s
def uj(w:World):Prop:=(openEnds treeTable PySem.Challenge.pw_usewarden_k53_what_begins w 3964).map (fun s=>openSeen qq loo (importedModules (Program.main PySem.Challenge.pw_usewarden_k53_what_begins).body) xt true s)=some (openGood qq loo)
def tP(w:World):Prop:=(openEnds treeTable PySem.Challenge.pw_usewarden_k53_what_begins w 3964).map (fun s=>Hook.obs HH s)=some (Hook.val HH w)
set_option maxRecDepth 1000000 in
theorem Jq(w:World):uj (w.withFollow "special-get-raises" false):=by unfold uj; kernel_rfl
set_option maxRecDepth 1000000 in
theorem Jb(w:World):uj (w.withFollow "special-get-raises" true):=by unfold uj; kernel_rfl
theorem Ic(w:World):uj w:=byRow2 "special-get-raises" (P:=uj) Jq Jb w
set_option maxRecDepth 1000000 in
theorem Iz(w:World):tP (w.withFollow "special-get-raises" false):=by unfold tP; kernel_rfl
set_option maxRecDepth 1000000 in
theorem JD(w:World):tP (w.withFollow "special-get-raises" true):=by unfold tP; kernel_rfl
theorem IC(w:World):tP w:=byRow2 "special-get-raises" (P:=tP) Iz JD w
theorem zU{α β γ : Type}{o:Option α}{f:α→β}{g:α→γ}{a:β}{b:γ}(h1:o.map f=some a)(h2:o.map g=some b):o.map (fun s=>(f s,g s))=some (a,b):=by
 cases o with
 | none=>cases h1
 | some s=>cases h1; cases h2; rfl
theorem hl(w:World):(openEnds treeTable PySem.Challenge.pw_usewarden_k53_what_begins w 3964).map (fun s=>(openSeen qq loo (importedModules (Program.main PySem.Challenge.pw_usewarden_k53_what_begins).body) xt true s,Hook.obs HH s))=some (openGood qq loo,Hook.val HH w):=zU (Ic w) (IC w)
end K53
-- CHANGE: your row's module here, as the last of these rows
namespace L2
open PySem PySem.Spec PyProof.Rows
theorem zu1{α:Type}(us:List α)(hl:us.length=1):∃ a,us=[a]:=match us,hl with | [a],_=>⟨a,rfl⟩
theorem zu2{α:Type}(us:List α)(hl:us.length=2):∃ a b,us=[a,b]:=match us,hl with | [a,b],_=>⟨a,b,rfl⟩
theorem zu3{α:Type}(us:List α)(hl:us.length=3):∃ a b c,us=[a,b,c]:=match us,hl with | [a,b,c],_=>⟨a,b,c,rfl⟩
theorem zu4{α:Type}(us:List α)(hl:us.length=4):∃ a b c d,us=[a,b,c,d]:=match us,hl with | [a,b,c,d],_=>⟨a,b,c,d,rfl⟩
theorem zu5{α:Type}(us:List α)(hl:us.length=5):∃ a b c d e,us=[a,b,c,d,e]:=match us,hl with | [a,b,c,d,e],_=>⟨a,b,c,d,e,rfl⟩
abbrev aG:=Sum Int Str
noncomputable def jO:aG→Value→Bool
 | .inl k,v=>Value.isInt k v
 | .inr x,v=>Value.isStrOf x v
noncomputable def eR(w:World):aG→Int
 | .inl k=>hashInt k
 | .inr x=>hashStr w x
theorem cG:∀ {k:aG} {v:Value},jO k v=true→(∃ i t,k=Sum.inl i∧v=Value.int i t)∨(∃ x t,k=Sum.inr x∧v=Value.str x t)
 | .inl i,v,h=>by
  obtain⟨t,e⟩:=zav (k:=i) (v:=v) h
  exact .inl ⟨i,t,rfl,e⟩
 | .inr x,v,h=>by
  obtain⟨t,e⟩:=zaV (x:=x) (v:=v) h
  exact .inr ⟨x,t,rfl,e⟩
theorem yL(i:Int)(t:Tok):jO (.inl i) (.int i t)=true:=by simp[jO,Value.isInt]
theorem xm(x:Str)(t:Tok):jO (.inr x) (.str x t)=true:=by simp[jO,Value.isStrOf]
theorem Fk(a b:Int):decide ((Sum.inl a:aG)=Sum.inl b)=(a == b):=by
 by_cases e:a=b
 ·subst e; simp
 ·have h:¬ (Sum.inl a:aG)=Sum.inl b:=fun q=>e (Sum.inl.inj q)
  rw[decide_eq_false h];exact(beq_eq_false_iff_ne.mpr e).symm
theorem Dh(a b:Str):decide ((Sum.inr a:aG)=Sum.inr b)=decide (a=b):=by
 by_cases e:a=b
 ·subst e; simp
 ·have h:¬ (Sum.inr a:aG)=Sum.inr b:=fun q=>e (Sum.inr.inj q)
  rw[decide_eq_false h,decide_eq_false e]
theorem DX(a:Int)(b:Str):decide ((Sum.inl a:aG)=Sum.inr b)=false:=decide_eq_false (fun q=>nomatch q)
theorem DD(a:Str)(b:Int):decide ((Sum.inr a:aG)=Sum.inl b)=false:=decide_eq_false (fun q=>nomatch q)
noncomputable def cC(prog:Program)(w:World):PySem.KeyKind prog w aG where
 is:=jO
 hash:=eR w
 inj:=fun v a b ha hb=>by
  rcases cG ha with ⟨i,t,rfl,rfl⟩ | ⟨x,t,rfl,rfl⟩
  ·rcases cG hb with ⟨j,u,rfl,e⟩ | ⟨y,u,rfl,e⟩
   ·injection e with e1 _; rw[e1]
   ·exact nomatch e
  ·rcases cG hb with ⟨j,u,rfl,e⟩ | ⟨y,u,rfl,e⟩
   ·exact nomatch e
   ·injection e with e1 _; rw[e1]
 byValue:=fun k v h=>by
  rcases cG h with ⟨i,t,rfl,rfl⟩ | ⟨x,t,rfl,rfl⟩ <;> rfl
 pyHash:=fun hv h=>by
  rcases cG hv with ⟨i,t,rfl,rfl⟩ | ⟨x,t,rfl,rfl⟩
  ·exact wpAny_pyHash_int h
  ·exact wpAny_pyHash_str h
 eqBool:=fun hu hv h=>by
  rcases cG hu with ⟨i,t,rfl,rfl⟩ | ⟨x,t,rfl,rfl⟩
  ·rcases cG hv with ⟨j,u,rfl,rfl⟩ | ⟨y,u,rfl,rfl⟩
   ·rw[Fk]at h; exact wpAny_eqBool_int h
   ·rw[DX]at h; exact SeqAt.EqAt.int_str i t y u _ _ _ _ h
  ·rcases cG hv with ⟨j,u,rfl,rfl⟩ | ⟨y,u,rfl,rfl⟩
   ·rw[DD]at h; exact SeqAt.EqAt.str_int x t j u _ _ _ _ h
   ·rw[Dh]at h; exact wpAny_eqBool_str h
 «strs»:=fun k x t v h=>by
  rcases cG h with ⟨i,u,rfl,e⟩ | ⟨y,u,rfl,e⟩
  ·exact nomatch e
  ·injection e with e1 _
   subst e1
   cases v <;> rfl
theorem sr(prog:Program)(w:World)(i:Int)(t:Tok):(cC prog w).is (.inl i) (.int i t)=true:=yL i t
theorem rZ(prog:Program)(w:World)(x:Str)(t:Tok):(cC prog w).is (.inr x) (.str x t)=true:=xm x t
set_option genSizeOf false in
inductive V where
 | non | bl (b:Bool) | int (i:Int) | str (x:Str) | byt (b:Array UInt8) | flt (b:UInt64) | ref (a:Addr) | ty (n:String)
 deriving DecidableEq
noncomputable def RelV:V→Value→Prop
 | .non,u=>u=Value.none
 | .bl b,u=>u=Value.bool b
 | .int i,u=>∃ t,u=Value.int i t
 | .str x,u=>∃ t,u=Value.str x t
 | .byt b,u=>∃ t,u=Value.bytes b t
 | .flt b,u=>∃ t,u=Value.float b t
 | .ref a,u=>u=Value.ref a
 | .ty n,u=>u=Value.type n
abbrev yl:List V→List Value→Prop:=Paired RelV
theorem yl.length{xs:List V}{F:List Value}(r:yl xs F):xs.length=F.length:=G2 r
theorem yl.get:∀ {xs:List V} {F:List Value} {i:Nat} {x:V},yl xs F→xs[i]? = some x→∃ u,F[i]? = some u∧RelV x u
 | _,_,_,_,.nil,e=>by simp at e
 | _,_,0,_,.cons r _,e=>by simp at e; subst e; exact⟨_,rfl,r⟩
 | _,_,i+1,x,.cons _ t,e=>by
  obtain⟨u,h1,h2⟩:=yl.get (i:=i) (x:=x) t (by simpa using e)
  exact⟨u,by simpa using h1,h2⟩
theorem yl.set{x:V}{u:Value}(r:RelV x u):∀ {xs:List V} {F:List Value} (i:Nat),yl xs F→yl (xs.set i x) (F.set i u)
 | _,_,_,.nil=>.nil
 | _,_,0,.cons _ t=>.cons r t
 | _,_,i+1,.cons q t=>.cons q (yl.set r i t)
theorem yl.append:∀ {xs ys:List V} {F ws:List Value},yl xs F→yl ys ws→yl (xs++ys) (F++ws)
 | _,_,_,_,.nil,s=>s
 | _,_,_,_,.cons r t,s=>.cons r (yl.append t s)
theorem yl.take:∀ {xs:List V} {F:List Value} (n:Nat),yl xs F→yl (xs.take n) (F.take n)
 | _,_,0,_=>.nil
 | _,_,_+1,.nil=>.nil
 | _,_,n+1,.cons r t=>.cons r (yl.take n t)
theorem yl.drop:∀ {xs:List V} {F:List Value} (n:Nat),yl xs F→yl (xs.drop n) (F.drop n)
 | _,_,0,r=>r
 | _,_,_+1,.nil=>.nil
 | _,_,n+1,.cons _ t=>yl.drop n t
noncomputable def EU:Option V→Option Value→Prop
 | some v,some u=>RelV v u
 | none,none=>True
 | _,_=>False
noncomputable def KV{κ : Type}:List (κ × V)→List (κ × Value)→Prop:=Paired fun (p:κ × V) (q:κ × Value)=>p.1=q.1∧RelV p.2 q.2
noncomputable def kV:aG→V
 | .inl i=>.int i
 | .inr x=>.str x
set_option genSizeOf false in
inductive HO where
 /-- a list -/
 | lst (xs:List V)
 /-- a tuple (never changes) -/
 | tup (xs:List V)
 /-- a dict whose keys are ints and texts; one whose keys are tuples of ints and texts (the empty one is both) -/
 | dK (kvs:List (aG × V)) | dT (kvs:List (List aG × V))
 /-- a set of ints: its members, its size -/
 | set (S:Int→Bool) (n:Nat)
 /-- an instance of the class at C, its dict at dx, its attributes -/
 | ins (C dx:Addr) (fs:List (Str × V))
 /-- the dict of the instance at x -/
 | own (x:Addr)
 /-- the dict of an exception -/
 | xd (fs:List (Str × V))
 /-- a bound method, f of x -/
 | met (f x:Addr)
 /-- a range object lo, lo+1, .. below hi -/
 | rng (lo hi:Int)
 /-- a thing that is known to the object (the script; a dict while a loop walks it): read, never written while it is so -/
 | frz (o:Obj) (u:HO)
 /-- a code object's table -/
 | tbl (ps:Array Value)
 /-- any other thing, by what is true of its one object (a def of one's own: SetO a S n := HO.ext fun h => ..) -/
 | ext (φ : Heap→Prop)
abbrev Hp:=Addr→Option HO
noncomputable def upd(H:Hp)(a:Addr)(o:HO):Hp:=fun b=>if b=a then some o else H b
theorem af{H:Hp}{a:Addr}{o:HO}:upd H a o a=some o:=by unfold upd; rw[Hf rfl]
theorem au{H:Hp}{a b:Addr}{o:HO}(h:b≠a):upd H a o b=H b:=by unfold upd; rw[He h]
theorem cF{H:Hp}{a b:Addr}{o u:HO}(h:H a=some o)(h':H b=some u)(d:o≠u):a≠b:=by
 intro e; subst e; rw[h]at h'; exact d (Option.some.inj h')
theorem aA{H:Hp}{a b:Addr}{o:HO}(h:H a=some o)(h':H b=none):a≠b:=by
 intro e; subst e; rw[h]at h'; cases h'
def EE(h:Heap)(a:Addr)(items:Array Value):Prop:=∃ o,h.get? a=some o∧o.cls = .type "tuple" ∧ o.dict=none∧∃ n,o.data = .seq items n
theorem EE.tup{h:Heap}{a:Addr}{F:Array Value}(x:EE h a F):IsTup h a F:=let ⟨o,e,c,_,d⟩:=x; ⟨o,e,c,d⟩
theorem EE.lt{h:Heap}{a:Addr}{F:Array Value}(x:EE h a F):a<h.objs.size:=let ⟨_,e,_⟩:=x; zA e
theorem EE.new(h:Heap)(F:Array Value):EE (h.push { cls:=.type "tuple", data:=.seq F }) h.objs.size F:=⟨_,zV _ rfl,rfl,rfl,_,rfl⟩
section
variable(P:Program)(w:World)
noncomputable def Ax(H:Hp)(h:Heap)(a:Addr):HO→Prop
 | .lst xs=>xs.length≤sizeLine∧∃ (its:List Value) (n:Nat),yl xs its∧h.get? a=some { cls:=.type "list", data:=.seq its.toArray n }
 | .tup xs=>xs.length≤sizeLine∧∃ its:List Value,yl xs its∧EE h a its.toArray
 | .dK kvs=>kvs.length≤sizeLine∧(a == sysModules)=false∧∃ vs,KV kvs vs∧h.DictOf (cC P w) a vs
 | .dT kvs=>kvs.length≤sizeLine∧(a == sysModules)=false∧∃ xs:List (List aG × Addr × Value),
   Paired (fun (p:List aG × V) (q:List aG × Addr × Value)=>p.1=q.1∧H q.2.1=some (.tup (p.1.map kV))∧RelV p.2 q.2.2) kvs xs∧
   ∃ o es ep,h.get? a=some o∧o.ExactDict∧o.data = .dict es ep∧es.toList=xs.map (entryOfKey (tupleKind (cC P w)))∧(xs.map (·.1)).Nodup
 | .set S n=>h.SetOf (intKind P w) a S n
 | .ins C dx fs=>H dx=some (.own a)∧fs.length≤1000∧dx≠a∧h.get? a=some (W.instObj C dx)∧
   ∃ mA,h.Ns1 dx mA∧(∀ f,EU (fs.lookup f) (mA f))∧PySem.Within mA (fs.map (·.1))
 | .own _=>∃ o,h.get? a=some o
 | .xd fs=>∃ mA,h.Ns1 a mA∧∀ f,EU (fs.lookup f) (mA f)
 | .rng lo hi=>∃ t u v,h.get? a=some { cls:=.type "range", data:=.fields #[.int lo t,.int hi u,.int 1 v] }
 | .frz o u=>h.get? a=some o∧Ax H h a u
 | .tbl ps=>h.get? a=some { cls:=.none,data:=.fields ps }
 | .met f x=>h.get? a=some (W.methodObj (.ref f) (.ref x))
 | .ext φ=>φ h∧(∃ o,h.get? a=some o)∧∀ h1 h2:Heap,φ h1→(∀ o,h1.get? a=some o→h2.get? a=some o)→φ h2
def EQ(H:Hp)(h:Heap):Prop:=∀ a o,H a=some o→Ax P w H h a o
end
section
variable{P:Program}{w:World}{H H':Hp}{h h':Heap}{a:Addr}{o:HO}
theorem Ax.lt(x:Ax P w H h a o):a<h.objs.size:=by
 cases o with
 | lst xs=>obtain⟨_,_,_,_,e⟩:=x; exact zA e
 | tup xs=>obtain⟨_,_,_,p⟩:=x; exact p.lt
 | dK kvs=>obtain⟨_,_,_,_,o,_,_,e,_⟩:=x; exact zA e
 | dT kvs=>obtain⟨_,_,_,_,o,_,_,e,_⟩:=x; exact zA e
 | set S n=>obtain⟨o,_,_,_,e,_⟩:=x; exact zA e
 | ins C dx fs=>obtain⟨_,_,_,e,_⟩:=x; exact zA e
 | own y=>obtain⟨_,e⟩:=x; exact zA e
 | xd fs=>obtain⟨_,⟨_,_,_,e,_⟩,_⟩:=x; exact zA e
 | rng lo hi=>obtain⟨_,_,_,e⟩:=x; exact zA e
 | frz ob u=>obtain⟨e,_⟩:=x; exact zA e
 | tbl ps=>exact zA (show h.get? a=some _ from x)
 | met f y=>exact zA (show h.get? a=some _ from x)
 | ext φ=>obtain⟨_,⟨_,e⟩,_⟩:=x; exact zA e
theorem Paired.mapP{α β : Type}{F G:α→β→Prop}:∀ {l₁:List α} {l₂:List β},Paired F l₁ l₂→(∀ a b,F a b→G a b)→Paired G l₁ l₂
 | _,_,.nil,_=>.nil
 | _,_,.cons r t,f=>.cons (f _ _ r) (Paired.mapP t f)
theorem Paired.imp'{α β : Type}{F G:α→β→Prop}(f:∀ a b,F a b→G a b){l₁:List α}{l₂:List β}(r:Paired F l₁ l₂):Paired G l₁ l₂:=Paired.mapP r f
theorem Ax.stay(x:Ax P w H h a o)(k:∀ b u,(b=a∨H b=some (.own a))→h.get? b=some u→h'.get? b=some u)
  (U:∀ b,H b=some (.own a)→H' b=some (.own a)) (Y:∀ b xs,H b=some (.tup xs)→H' b=some (.tup xs)):Ax P w H' h' a o:=by
 induction o with
 | lst xs=>obtain⟨z,J,n,r,e⟩:=x; exact⟨z,J,n,r,k _ _ (.inl rfl) e⟩
 | tup xs=>obtain⟨z,J,r,F,e,c⟩:=x; exact⟨z,J,r,F,k _ _ (.inl rfl) e,c⟩
 | dK kvs=>obtain⟨z,y,vs,r,F,es,ep,e,c⟩:=x; exact⟨z,y,vs,r,F,es,ep,k _ _ (.inl rfl) e,c⟩
 | dT kvs=>
  obtain⟨z,y,xs,r,F,es,ep,e,c⟩:=x
  exact⟨z,y,xs,Paired.mapP r fun p q z=>⟨z.1,Y _ _ z.2.1,z.2.2⟩,F,es,ep,k _ _ (.inl rfl) e,c⟩
 | set S n=>obtain⟨F,es,ep,t,e,c⟩:=x; exact⟨F,es,ep,t,k _ _ (.inl rfl) e,c⟩
 | ins C dx fs=>
  obtain⟨d,z,ne,e,mA,⟨O,es,ep,Z,c⟩,r⟩:=x
  exact⟨U _ d,z,ne,k _ _ (.inl rfl) e,mA,⟨O,es,ep,k _ _ (.inr d) Z,c⟩,r⟩
 | own y=>obtain⟨F,e⟩:=x; exact⟨F,k _ _ (.inl rfl) e⟩
 | xd fs=>obtain⟨mA,⟨O,es,ep,e,c⟩,r⟩:=x; exact⟨mA,⟨O,es,ep,k _ _ (.inl rfl) e,c⟩,r⟩
 | rng lo hi=>obtain⟨t,u,v,e⟩:=x; exact⟨t,u,v,k _ _ (.inl rfl) e⟩
 | frz F u ih=>obtain⟨e,q⟩:=x; exact⟨k _ _ (.inl rfl) e,ih q⟩
 | tbl ps=>
  have e:h.get? a=some { cls:=.none,data:=.fields ps }:=x
  show h'.get? a=some { cls:=.none,data:=.fields ps }
  exact k a _ (.inl rfl) e
 | met f y=>
  have e:h.get? a=some (W.methodObj (.ref f) (.ref y)):=x
  show h'.get? a=some (W.methodObj (.ref f) (.ref y))
  exact k a _ (.inl rfl) e
 | ext φ=>obtain⟨p,⟨o,e⟩,st⟩:=x; exact⟨st _ _ p fun o q=>k _ _ (.inl rfl) q,⟨o,k _ _ (.inl rfl) e⟩,st⟩
theorem EQ.lt(x:EQ P w H h)(e:H a=some o):a<h.objs.size:=(x a o e).lt
theorem EQ.fresh(x:EQ P w H h)(e:h.objs.size≤a):H a=none:=by
 cases q:H a with
 | none=>rfl
 | some u=>exact absurd (vV (x.lt q) e) (GR _)
theorem EQ.kept(x:EQ P w H h)(k:∀ b u,h.get? b=some u→h'.get? b=some u):EQ P w H h':=fun a o e=>
 (x a o e).stay (fun b u _ q=>k b u q) (fun _ q=>q) fun _ _ q=>q
theorem EQ.laid(x:EQ P w H h)(k:∀ b u,h.get? b=some u→h'.get? b=some u)(J:h.objs.size≤a)(new:Ax P w (upd H a o) h' a o):EQ P w (upd H a o) h':=fun b u e=>by
 have F:=x.fresh J
 by_cases hb:b=a
 ·subst hb; rw[af]at e; cases e; exact new
 ·rw[au hb]at e
  exact(x b u e).stay (fun c v _ q=>k c v q) (fun c q=>by rw[au (aA q F)]; exact q) fun c xs q=>by rw[au (aA q F)]; exact q
end
def Rd(H:Hp)(a:Addr)(u:HO):Prop:=H a=some u∨∃ o,H a=some (.frz o u)
theorem Rd.ok{P:Program}{w:World}{H:Hp}{h:Heap}{a:Addr}{u:HO}(r:Rd H a u)(x:EQ P w H h):Ax P w H h a u:=by
 rcases r with r | ⟨o,r⟩
 ·exact x a u r
 ·obtain⟨_,q⟩:=x a _ r
  exact q
noncomputable def yo:Option HO→Prop
 | some (.lst _)=>True
 | some (.dK _)=>True
 | some (.dT _)=>True
 | some (.set _ _)=>True
 | some (.ins _ _ _)=>True
 | some (.ext _)=>True
 | _=>False
section
variable{P:Program}{w:World}{H:Hp}{h h':Heap}{x e:Addr}{o':HO}
theorem EQ.write(ok:EQ P w H h)(S:yo (H x))(Y:e=x∨H e=some (.own x))(k:∀ b u,b≠e→h.get? b=some u→h'.get? b=some u)(U:∃ u,h'.get? e=some u)
  (new:Ax P w (upd H x o') h' x o'):EQ P w (upd H x o') h':=fun b u q=>by
 have F:∀ c y,H c=some (.own y)→c≠x:=fun c y r z=>by subst z; rw[r]at S; exact S
 have J:∀ c xs,H c=some (.tup xs)→c≠x:=fun c xs r z=>by subst z; rw[r]at S; exact S
 by_cases hb:b=x
 ·subst hb; rw[af]at q; cases q; exact new
 ·rw[au hb]at q
  by_cases hbe:b=e
  ·have W:H b=some (.own x):=by
    rcases Y with z | z
    ·exact absurd (hbe.trans z) hb
    ·rw[hbe]; exact z
   rw[q]at W; cases W
   obtain⟨v,hv⟩:=U
   exact⟨v,by rw[hbe]; exact hv⟩
  ·refine(ok b u q).stay (fun c v O r=>k c v ?_ r) (fun c r=>by rw[au (F c b r)]; exact r) fun c xs r=>by rw[au (J c xs r)]; exact r
   rcases O with rfl | O
   ·exact hbe
   ·rintro rfl
    rcases Y with z | z
    ·exact F c b O z
    ·rw[O]at z; cases z; exact hb rfl
end
structure Un (fs ex:List Addr) (H H':Hp) (h h':Heap):Prop where
 keep:∀ b o,h.get? b=some o→H b=none→b∉fs→b∉ex→h'.get? b=some o
 slot:∀ b o,h.get? b=some o→H b=none→b∈fs→b∉ex→∃ sl,h'.get? b=some { o with slots:=sl }
 free:∀ b o,h.get? b=some o→H b=none→b∉ex→H' b=none
 there:∀ b o,h.get? b=some o→b∉ex→∃ o',h'.get? b=some o'
 tups:∀ b xs,H b=some (.tup xs)→H' b=some (.tup xs)
 frzs:∀ b o u,H b=some (.frz o u)→H' b=some (.frz o u)
 tbls:∀ b ps,H b=some (.tbl ps)→∃ more,H' b=some (.tbl (ps++more))
section
variable{fs fs' ex ex':List Addr}{H H1 H2:Hp}{h h1 h2 h':Heap}{a x e:Addr}{o:HO}
theorem Un.any(u:Un fs ex H H1 h h1){b:Addr}{F:Obj}(q:h.get? b=some F)(n:H b=none)(hx:b∉ex):∃ sl,h1.get? b=some { F with slots:=sl }:=by
 by_cases hb:b∈fs
 ·exact u.slot b F q n hb hx
 ·exact⟨F.slots,u.keep b F q n hb hx⟩
theorem Un.kept(k:∀ b u,h.get? b=some u→h'.get? b=some u):Un fs ex H H h h':=
 ⟨fun b F q _ _ _=>k b F q,fun b F q _ _ _=>⟨F.slots,k b F q⟩,fun _ _ _ n _=>n,fun b F q _=>⟨F,k b F q⟩,fun _ _ q=>q,fun _ _ _ q=>q,fun _ ps q=>⟨#[],by rw[q]; simp⟩⟩
theorem Un.refl:Un fs ex H H h h:=Un.kept fun _ _ q=>q
theorem Un.laid(k:∀ b u,h.get? b=some u→h'.get? b=some u)(J:h.objs.size≤a)(F:H a=none):Un fs ex H (upd H a o) h h' where
 keep:=fun b u q _ _ _=>k b u q
 slot:=fun b u q _ _ _=>⟨u.slots,k b u q⟩
 free:=fun b u q n _=>by rw[au (zR (vV (zA q) J))]; exact n
 there:=fun b u q _=>⟨u,k b u q⟩
 tups:=fun b xs q=>by rw[au (aA q F)]; exact q
 frzs:=fun b u xs q=>by rw[au (aA q F)]; exact q
 tbls:=fun b ps q=>⟨#[],by rw[au (aA q F),q]; simp⟩
theorem Un.write(F:yo (H x))(U:e=x∨H e=some (.own x))(k:∀ b u,b≠e→h.get? b=some u→h'.get? b=some u)(J:∃ u,h'.get? e=some u):Un fs ex H (upd H x o) h h':=by
 have hx:∀ b,H b=none→b≠x:=fun b n z=>by subst z; rw[n]at F; exact F
 have S:∀ b,H b=none→b≠e:=fun b n z=>by
  subst z;rcases U with r | r
  ·exact hx b n r
  ·rw[n]at r; cases r
 have O:∀ b u,H b=some u→¬ yo (some u)→b≠x:=fun b u q nm z=>by subst z; rw[q]at F; exact nm F
 refine⟨fun b u q n _ _=>k b u (S b n) q,fun b u q n _ _=>⟨u.slots,k b u (S b n) q⟩,fun b u q n _=>by rw[au (hx b n)]; exact n,fun b u q _=>?_,
  fun b xs q=>by rw[au (O b _ q fun z=>z)]; exact q,fun b u xs q=>by rw[au (O b _ q fun z=>z)]; exact q,fun b ps q=>⟨#[],by rw[au (O b _ q fun z=>z),q]; simp⟩⟩
 by_cases hbe:b=e
 ·subst hbe; exact J
 ·exact⟨u,k b u hbe q⟩
end
noncomputable def BG(h:Heap)(H:Hp):List Addr:=(List.range h.objs.size).filter fun a=>(H a).isSome
noncomputable def iJ(h:Heap)(H:Hp):Heap:=W.hideAll h (BG h H)
theorem y4(h:Heap)(H:Hp):(iJ h H).objs.size=h.objs.size:=W.hideAll_size _ _
theorem AF{h:Heap}{H:Hp}{b:Addr}{o:Obj}(e:h.get? b=some o)(n:H b=none):(iJ h H).get? b=some o:=
 W.hideAll_get _ e fun F=>by
  have q:(H b).isSome=true:=(Hq.mp F).2
  rw[n]at q; simp at q
theorem BJ{h:Heap}{H:Hp}{b:Addr}{o:Obj}(e:(iJ h H).get? b=some o):h.get? b=some o∧H b=none:=by
 have F:h.get? b=some o:=W.of_hideAll (BG h H) e
 refine⟨F,?_⟩
 cases q:H b with
 | none=>rfl
 | some x=>
  have J:b∈BG h H:=Hq.mpr ⟨Hm.mpr (zA F),by simp[q]⟩
  have z:(iJ h H).get? b=none:=W.hideAll_none (BG h H) J
  rw[z]at e; cases e
noncomputable def CP(g h:Heap)(L:Addr):List (Addr × Obj):=(List.range h.objs.size).filterMap fun a=>if a=L∨(g.get? a).isSome=true then none else (h.get? a).map fun o=>(a,o)
noncomputable def CS(g h:Heap)(L d:Addr):List (Addr × Obj):=(CP g h L).filter fun p=>decide (p.1≠d)
structure Mod (K:W.Frag) (mg:Str→Option Value) (base:Heap):Prop where
 kin:K.In base
 glob:base.Ns mainGlobals mg
 blt:∃ mb,base.Ns builtinsNs mb∧∀ x:Str,x ≠ "__name__" → mb x=bootBuiltins x
 nolimit:base.NoLimit
set_option genInjectivity false in
set_option genSizeOf false in
structure Cx where
 prog:Program
 w:World
 K:W.Frag
 mg:Str→Option Value
 base:Heap
 A:Around
 N:List Str
 s₀ : Shared
 H₀ : Hp
 env:Env
 outer:List Env
 stack:List Env
 ex:List Addr
 fn:Str→Bool
 calm:Bool
 pn:List (Addr × Obj)
 xe:Value→Shared→Prop
noncomputable def i0(l:List Env):List Addr:=l.filterMap (·.frame)
abbrev Cx.fs (X:Cx):List Addr:=i0 X.outer
def am(sc:Scope)(x:Str):Prop:=sc.names.lookup x=some .local∨sc.names.lookup x=some .cell∨sc.names.lookup x=some .free
def aD(sc:Scope)(x:Str):Prop:=sc.names.lookup x=some .local∨sc.names.lookup x=some .cell
def Hn(env:Env)(h:Heap)(m:Str→Option Value)(x:Str)(u:Value):Prop:=
 (env.kindOf x=some .local∧m x=some u)∨((env.kindOf x=some .cell∨env.kindOf x=some .free)∧∃ c,env.cells.lookup x=some c∧h.IsCell c (some u))
structure Cx.Ok (X:Cx):Prop where
 mod:Mod X.K X.mg X.base
 kind:X.env.scope.kind = .function
 glob:X.env.globals=mainGlobals
 blt:X.env.builtins=builtinsNs
 above:X.s₀.heap.objs.size≤X.env.locals
 inj:∀ x y c,X.env.cells.lookup x=some c→X.env.cells.lookup y=some c→x=y
 has:∀ x,(X.env.kindOf x=some .cell∨X.env.kindOf x=some .free)→∃ c,X.env.cells.lookup x=some c
 cab:∀ x c,X.fn x=true→X.env.cells.lookup x=some c→X.s₀.heap.objs.size≤c
 hd:X.calm=true→X.A.handled=none
 frames:X.A.frames=some X.stack
 stk:X.stack=X.outer∨(X.stack=X.env::X.outer∧X.env.frame=some X.env.locals)
 exf:∀ b∈X.ex,b≠X.env.locals∧∀ x c,X.env.cells.lookup x=some c→c≠b
 bs:∀ b o,X.base.get? b=some o→X.s₀.heap.get? b=some o∧X.H₀ b=none
 bsz:X.base.objs.size≤X.s₀.heap.objs.size
 noex:∀ b o,X.base.get? b=some o→b∉X.ex
 exfs:∀ b∈X.ex,b∉X.fs
 funs:X.s₀.heap.FunFrames X.base X.outer
 frf:∀ b∈X.fs,X.H₀ b=none
structure Inv (X:Cx) (pins:List (Addr × Obj)) (σ : List (Option V)) (H:Hp) (s:Shared):Prop where
 ok:X.Ok
 os:s.os=X.s₀.os
 bare:AllBare s.gens
 base:Un X.fs X.ex X.H₀ H X.s₀.heap s.heap
 loc:∃ m,s.heap.Ns X.env.locals m∧∀ (i:Nat) (x:Str) (v:V),X.N[i]? = some x→σ[i]? = some (some v)→am X.env.scope x→∃ u,RelV v u∧Hn X.env s.heap m x u
 cell:∀ x c,X.env.cells.lookup x=some c→∃ v,s.heap.IsCell c v
 free:H X.env.locals=none
 freeC:∀ x c,X.env.cells.lookup x=some c→H c=none
 pin:∀ p∈X.pn++pins,s.heap.get? p.1=some p.2∧H p.1=none∧p.1≠X.env.locals∧p.1∉X.fs∧∀ v,p.2.data ≠ .cell v
 hok:EQ X.prog X.w H s.heap
 len:σ.length=X.N.length
section
variable{X:Cx}{pins:List (Addr × Obj)}{σ : List (Option V)}{H H':Hp}{s:Shared}{h':Heap}
theorem Cx.Ok.nofr(ok:X.Ok){b:Addr}{o:Obj}(e:X.base.get? b=some o):b∉X.fs:=fun F=>by
 have:=(ok.funs.mem F).1
 rw[e]at this; cases this
theorem Inv.bs(I:Inv X pins σ H s):∀ b o,X.base.get? b=some o→s.heap.get? b=some o∧H b=none:=fun b o e=>
 ⟨I.base.keep b o (I.ok.bs b o e).1 (I.ok.bs b o e).2 (I.ok.nofr e) (I.ok.noex b o e),I.base.free b o (I.ok.bs b o e).1 (I.ok.bs b o e).2 (I.ok.noex b o e)⟩
theorem Inv.bk(I:Inv X pins σ H s):∀ b o,X.base.get? b=some o→s.heap.get? b=some o:=fun b o e=>(I.bs b o e).1
theorem Inv.mod(I:Inv X pins σ H s):Mod X.K X.mg X.base:=I.ok.mod
theorem Inv.kIn(I:Inv X pins σ H s):X.K.In s.heap:=I.ok.mod.kin.keeps I.bk
theorem Inv.lt(I:Inv X pins σ H s):X.env.locals<s.heap.objs.size:=let ⟨_,hn,_⟩:=I.loc; hn.lt
theorem Inv.sz(I:Inv X pins σ H s):X.s₀.heap.objs.size≤s.heap.objs.size:=gV I.ok.above (wm I.lt)
theorem Inv.nofs(I:Inv X pins σ H s){a:Addr}(h:s.heap.objs.size≤a):a∉X.fs:=fun F=>by
 obtain⟨_,o,J,_⟩:=I.ok.funs.mem F
 exact absurd (vV (zA J) (gV I.sz h)) (GR _)
theorem Inv.cne(I:Inv X pins σ H s):∀ x c,X.env.cells.lookup x=some c→c≠X.env.locals:=fun x c e z=>by
 obtain⟨v,o,O,hd⟩:=I.cell x c e
 obtain⟨m,⟨o',es,ep,J,F,_⟩,_⟩:=I.loc
 rw[z,J]at O; cases O; rw[F]at hd; cases hd
theorem Inv.funs(I:Inv X pins σ H s):s.heap.FunFrames X.base X.outer:=by
 have all:∀ (l:List Env),(∀ b∈i0 l,b∈X.fs)→X.s₀.heap.FunFrames X.base l→s.heap.FunFrames X.base l:=by
  intro l
  induction l with
  | nil=>intro _ _; trivial
  | cons env r ih=>
   intro O hl
   obtain⟨U,⟨L,o,hf,W,Y,hd⟩,S⟩:=hl
   have F:L∈X.fs:=O L (by unfold i0; rw[List.filterMap_cons,hf]; exact zI)
   obtain⟨Z,e⟩:=I.base.slot L o Y (I.ok.frf L F) F fun z=>I.ok.exfs L z F
   exact⟨U,⟨L,_,hf,W,e,hd⟩,ih (fun b J=>O b (by unfold i0; rw[List.filterMap_cons,hf]; exact zO _ J)) S⟩
 exact all X.outer (fun _ J=>J) I.ok.funs
theorem Inv.stack(I:Inv X pins σ H s):s.heap.FunFrames X.base X.stack:=by
 rcases I.ok.stk with e | ⟨e,hf⟩
 ·rw[e]; exact I.funs
 ·rw[e]
  obtain⟨m,F,_⟩:=I.loc
  refine .cons (by rw[I.ok.kind]; decide) hf F ?_ I.funs
  exact Heap.get?_none_of_le (gV I.ok.bsz I.ok.above)
theorem Inv.stkSub(I:Inv X pins σ H s):∀ b∈i0 X.stack,b∈X.env.locals::X.fs:=fun b F=>by
 rcases I.ok.stk with e | ⟨e,hf⟩
 ·rw[e]at F; exact zO _ F
 ·rw[e]at F
  unfold i0 at F;rw[List.filterMap_cons,hf]at F
  exact F
theorem Inv.stkFree(I:Inv X pins σ H s):∀ b∈i0 X.stack,H b=none:=fun b F=>by
 rcases Hi.mp (I.stkSub b F) with e | F
 ·rw[e]; exact I.free
 ·obtain⟨_,o,J,_⟩:=I.ok.funs.mem F
  exact I.base.free b o J (I.ok.frf b F) fun z=>I.ok.exfs b z F
theorem Inv.step{g':Array GenState}{t':Nat}{d':Drawn}{ch:List Addr}(I:Inv X pins σ H s)
  (F:∀ b∈ch,(b∈X.ex∨X.s₀.heap.objs.size≤b)∧b≠X.env.locals∧(∀ x c,X.env.cells.lookup x=some c→c≠b)∧∀ p∈X.pn++pins,p.1≠b)
  (keep:∀ b o,b≠X.env.locals→b∉X.fs→b∉ch→s.heap.get? b=some o→H b=none→h'.get? b=some o)
  (slot:∀ b o,b≠X.env.locals→b∈X.fs→b∉ch→s.heap.get? b=some o→H b=none→∃ sl,h'.get? b=some { o with slots:=sl }) (free:∀ b o,b∉ch→s.heap.get? b=some o→H b=none→H' b=none)
  (there:∀ b o,b∉ch→s.heap.get? b=some o→∃ o',h'.get? b=some o')
  (tups:∀ b xs,H b=some (.tup xs)→H' b=some (.tup xs)) (frzs:∀ b o u,H b=some (.frz o u)→H' b=some (.frz o u)) (tbls:∀ b ps,H b=some (.tbl ps)→∃ more,H' b=some (.tbl (ps++more)))
  (ns:∀ m,s.heap.Ns X.env.locals m→h'.Ns X.env.locals m) (hok:EQ X.prog X.w H' h') (hg:AllBare g') :
  Inv X pins σ H' { s with heap:=h',gens:=g',drawn:=d',toks:=t' }:=by
 have Z:∀ b o,X.s₀.heap.get? b=some o→b≠X.env.locals:=fun b o e=>zR (vV (zA e) I.ok.above)
 have S:∀ b o,X.s₀.heap.get? b=some o→b∉X.ex→b∉ch:=fun b o e hx W=>by
  rcases(F b W).1 with z | z
  ·exact hx z
  ·exact absurd (vV (zA e) z) (GR _)
 have O:∀ x c,X.env.cells.lookup x=some c→∀ v,s.heap.IsCell c v→h'.IsCell c v:=fun x c e v ⟨o,Y,hd⟩=>by
  have J:c∉ch:=fun z=>(F c z).2.2.1 x c e rfl
  by_cases hc:c∈X.fs
  ·obtain⟨sl,q⟩:=slot c o (I.cne x c e) hc J Y (I.freeC x c e)
   exact⟨_,q,hd⟩
  ·exact⟨o,keep c o (I.cne x c e) hc J Y (I.freeC x c e),hd⟩
 refine⟨I.ok,I.os,hg,⟨fun b o e n W hx=>?_,fun b o e n W hx=>?_,fun b o e n hx=>?_,fun b o e hx=>?_,fun b xs e=>tups b xs (I.base.tups b xs e),fun b o xs e=>frzs b o xs (I.base.frzs b o xs e),fun b ps e=>?_⟩,?_,fun x c e=>?_,?_,fun x c e=>?_,fun p hp=>?_,hok,I.len⟩
 ·exact keep b o (Z b o e) W (S b o e hx) (I.base.keep b o e n W hx) (I.base.free b o e n hx)
 ·obtain⟨sl,U⟩:=I.base.slot b o e n W hx
  obtain⟨ab,e2⟩:=slot b _ (Z b o e) W (S b o e hx) U (I.base.free b o e n hx)
  exact⟨ab,e2⟩
 ·obtain⟨o',U⟩:=I.base.there b o e hx
  exact free b o' (S b o e hx) U (I.base.free b o e n hx)
 ·obtain⟨o',U⟩:=I.base.there b o e hx
  exact there b o' (S b o e hx) U
 ·obtain⟨m1,U⟩:=I.base.tbls b ps e
  obtain⟨m2,e2⟩:=tbls b _ U
  exact⟨m1++m2,by rw[e2,Array.append_assoc]⟩
 ·obtain⟨m,hn,hl⟩:=I.loc
  refine⟨m,ns m hn,fun i x v U e2 e3=>?_⟩
  obtain⟨u,r,l⟩:=hl i x v U e2 e3
  refine⟨u,r,?_⟩
  rcases l with l | ⟨k,c,e,z⟩
  ·exact .inl l
  ·exact .inr ⟨k,c,e,O x c e _ z⟩
 ·obtain⟨v,z⟩:=I.cell x c e
  exact⟨v,O x c e v z⟩
 ·obtain⟨m,⟨o,_,_,Y,_⟩,_⟩:=I.loc
  exact free _ o (fun z=>(F _ z).2.1 rfl) Y I.free
 ·obtain⟨v,o,Y,hd⟩:=I.cell x c e
  exact free c o (fun z=>(F c z).2.2.1 x c e rfl) Y (I.freeC x c e)
 ·obtain⟨e,n,ne,nf,d⟩:=I.pin p hp
  have J:p.1∉ch:=fun z=>(F p.1 z).2.2.2 p hp rfl
  exact⟨keep p.1 p.2 ne nf J e n,free p.1 p.2 J e n,ne,nf,d⟩
theorem Inv.un{t':Nat}(I:Inv X pins σ H s)(u:Un X.fs [] H H' s.heap h')(hok:EQ X.prog X.w H' h'):Inv X pins σ H' { s with heap:=h',toks:=t' }:=by
 obtain⟨m,⟨o,es,ep,S,r⟩,_⟩:=id I.loc
 obtain⟨Z,U⟩:=u.any S I.free (by simp)
 exact I.step (g':=s.gens) (d':=s.drawn) (ch:=[]) (fun _ z=>nomatch z) (fun b o _ O _ e n=>u.keep b o e n O (by simp)) (fun b o _ O _ e n=>u.slot b o e n O (by simp)) (fun b o _ e n=>u.free b o e n (by simp)) (fun b o _ e=>u.there b o e (by simp)) u.tups u.frzs u.tbls (fun m' Y=>by
  obtain⟨o',es',J,F,W⟩:=Y
  rw[S]at F; cases F
  exact⟨_,es',J,U,W⟩) hok I.bare
theorem Inv.call{g':Array GenState}{t':Nat}{d':Drawn}{ch:List Addr}(I:Inv X pins σ H s)(u:Un (i0 X.stack) ch H H' s.heap h')(hok:EQ X.prog X.w H' h')(hg:AllBare g')
  (J:∀ b∈ch,(b∈X.ex∨X.s₀.heap.objs.size≤b)∧b≠X.env.locals∧(∀ x c,X.env.cells.lookup x=some c→c≠b)∧∀ p∈X.pn++pins,p.1≠b) :
  Inv X pins σ H' { s with heap:=h',gens:=g',drawn:=d',toks:=t' }:=by
 obtain⟨m,⟨o,es,ep,W,r⟩,_⟩:=id I.loc
 obtain⟨sl,S⟩:=u.any W I.free fun z=>(J _ z).2.1 rfl
 exact I.step (ch:=ch) J (fun b o S hb F e n=>u.keep b o e n (fun z=>(Hi.mp (I.stkSub b z)).elim S hb) F) (fun b o _ _ F e n=>u.any e n F) (fun b o F e n=>u.free b o e n F) (fun b o F e=>u.there b o e F) u.tups u.frzs u.tbls (fun m' Z=>by
  obtain⟨o',es',U,O,Y⟩:=Z
  rw[W]at O; cases O
  exact⟨_,es',U,S,Y⟩) hok hg
theorem Inv.turned{t':Nat}{it:Addr}(I:Inv X pins σ H s)(k:∀ b o,b≠it→s.heap.get? b=some o→h'.get? b=some o)(U:H it=none)(O:it≠X.env.locals)
  (h1:it∈X.ex∨X.s₀.heap.objs.size≤it) (h2:∀ x c,X.env.cells.lookup x=some c→c≠it) (S:∀ p∈X.pn++pins,p.1≠it):Inv X pins σ H { s with heap:=h',toks:=t' }:=by
 have J:∀ b u,H b=some u→b≠it:=fun b u e z=>by rw[z,U]at e; cases e
 refine I.step (g':=s.gens) (d':=s.drawn) (ch:=[it]) (fun b Y=>?_) (fun b o _ _ F e _=>k b o (fun z=>F (by simp[z])) e) (fun b o _ _ F e _=>⟨o.slots,k b o (fun z=>F (by simp[z])) e⟩) (fun _ _ _ _ n=>n)
  (fun b o F e=>⟨o,k b o (fun z=>F (by simp[z])) e⟩) (fun _ _ e=>e) (fun _ _ _ e=>e) (fun b ps e=>⟨#[],by rw[e]; simp⟩) (fun m W=>?_) (fun b u e=>?_) I.bare
 ·have e:b=it:=by simpa using Y
  subst e;exact⟨h1,O,h2,S⟩
 ·obtain⟨o,es,ep,Z,r⟩:=W
  exact⟨o,es,ep,k _ o (ve O) Z,r⟩
 ·refine(I.hok b u e).stay (fun c v F q=>k c v ?_ q) (fun _ q=>q) fun _ _ q=>q
  rcases F with z | z
  ·rw[z]; exact J b u e
  ·exact J c _ z
theorem Inv.tok(I:Inv X pins σ H s)(t:Nat):Inv X pins σ H { s with toks:=t }:=I.un (h':=s.heap) (t':=t) Un.refl I.hok
theorem Inv.kept{t':Nat}(I:Inv X pins σ H s)(k:∀ b u,s.heap.get? b=some u→h'.get? b=some u):Inv X pins σ H { s with heap:=h',toks:=t' }:=I.un (Un.kept k) (I.hok.kept k)
theorem Inv.laid{a:Addr}{o:HO}{t':Nat}(I:Inv X pins σ H s)(k:∀ b u,s.heap.get? b=some u→h'.get? b=some u)(F:s.heap.objs.size≤a)(new:Ax X.prog X.w (upd H a o) h' a o) :
  Inv X pins σ (upd H a o) { s with heap:=h',toks:=t' }:=I.un (Un.laid k F (I.hok.fresh F)) (I.hok.laid k F new)
theorem Inv.write{x e:Addr}{o:HO}{t':Nat}(I:Inv X pins σ H s)(O:yo (H x))(J:e=x∨H e=some (.own x))(k:∀ b u,b≠e→s.heap.get? b=some u→h'.get? b=some u)(F:∃ u,h'.get? e=some u)
  (new:Ax X.prog X.w (upd H x o) h' x o):Inv X pins σ (upd H x o) { s with heap:=h',toks:=t' }:=I.un (Un.write O J k F) (I.hok.write O J k F new)
theorem Inv.weak{σ':List (Option V)}(I:Inv X pins σ H s)(hl:σ'.length=σ.length)(w:∀ (i:Nat) v,σ'[i]? = some (some v)→σ[i]? = some (some v)):Inv X pins σ' H s:=
 ⟨I.ok,I.os,I.bare,I.base,let ⟨m,hn,hl'⟩:=I.loc; ⟨m,hn,fun i x v O J F=>hl' i x v O (w i v J) F⟩,I.cell,I.free,I.freeC,I.pin,I.hok,hl.trans I.len⟩
theorem Inv.pins_of{F:List (Addr × Obj)}(I:Inv X pins σ H s)(h:∀ p∈F,s.heap.get? p.1=some p.2∧H p.1=none∧p.1≠X.env.locals∧p.1∉X.fs∧∀ v,p.2.data ≠ .cell v):Inv X F σ H s:=
 ⟨I.ok,I.os,I.bare,I.base,I.loc,I.cell,I.free,I.freeC,fun p J=>(Hj.mp J).elim (fun z=>I.pin p (lZ _ z)) (h p),I.hok,I.len⟩
theorem p8{N:List Str}(F:N.Nodup){i j:Nat}{x:Str}(a:N[i]? = some x)(b:N[j]? = some x):i=j:=by
 obtain⟨h1,O⟩:=Hd.mp a
 obtain⟨h2,J⟩:=Hd.mp b
 exact(List.getElem_inj F).mp (O.trans J.symm)
theorem ni{M:Model}{A:Around}{E:Value→Shared→Prop}{i:Nat}{x:Str}{v:V}{u:Value}{Q:Unit→Shared→Prop}(I:Inv X pins σ H s)(hN:X.N.Nodup)(hi:X.N[i]? = some x)(hx:aD X.env.scope x)(r:RelV v u)
  (h:∀ s',Inv X pins (σ.set i (some v)) H s'→(∃ a,Heap.SameBut a s.heap s'.heap∧(a=X.env.locals∨X.env.cells.lookup x=some a))→Q () s') (hf:X.fn x=true∨X.env.scope.names.lookup x=some .local:=by first | exact .inl rfl | exact .inr rfl | assumption):wpAny M A (storeName X.env x u) Q E s:=by
 obtain⟨m,hn,hl⟩:=id I.loc
 have as:(X.env.scope.kind == .class||(X.env.scope.kind == .module&&X.env.locals != X.env.globals))=false:=by rw[I.ok.kind]; rfl
 have an : i<σ.length:=by rw[I.len]; exact(Hd.mp hi).1
 have cne:=I.cne
 have J:∀ {a:Addr} {h':Heap},(∃ o,s.heap.get? a=some o∧H a=none)→Heap.SameBut a s.heap h'→EQ X.prog X.w H h':=fun {a h'} ha F b ob e=>by
  obtain⟨_,_,U⟩:=ha
  refine(I.hok b ob e).stay (fun c w' S q=>(F.2 c ?_).trans q) (fun _ q=>q) fun _ _ q=>q
  rintro rfl
  rcases S with rfl | S
  ·rw[U]at e; cases e
  ·rw[U]at S; cases S
 rcases hx with Y | Y
 ·refine wpAny_storeName_local Y hn (fun h' a4 F=>?_) as
  obtain⟨oL,_,_,a3,_⟩:=id hn
  refine h _ ⟨I.ok,I.os,I.bare,⟨fun b o e n Z hx=>?_,fun b o e n Z hx=>?_,I.base.free,fun b o e hx=>?_,I.base.tups,I.base.frzs,I.base.tbls⟩,⟨_,a4,fun j y v' O W e3=>?_⟩,fun y c e=>?_,I.free,I.freeC,fun p hp=>?_,J ⟨oL,a3,I.free⟩ F,by simpa using I.len⟩ ⟨_,F,.inl rfl⟩
  ·exact(F.2 b (zR (vV (zA e) I.ok.above))).trans (I.base.keep b o e n Z hx)
  ·obtain⟨sl,O⟩:=I.base.slot b o e n Z hx
   exact⟨sl,(F.2 b (zR (vV (zA e) I.ok.above))).trans O⟩
  ·obtain⟨o',O⟩:=I.base.there b o e hx
   exact⟨o',(F.2 b (zR (vV (zA e) I.ok.above))).trans O⟩
  ·by_cases hj:j=i
   ·subst hj
    rw[hi]at O; cases O
    rw[List.getElem?_set_self an]at W
    cases W;exact⟨u,r,.inl ⟨Y,by simp⟩⟩
   ·rw[List.getElem?_set_ne (ve hj)]at W
    obtain⟨u',r',q⟩:=hl j y v' O W e3
    refine⟨u',r',?_⟩
    rcases q with ⟨k,e⟩ | ⟨k,c,e,z⟩
    ·refine .inl ⟨k,?_⟩
     have:y≠x:=fun e=>hj (p8 hN O (e ▸ hi))
     simp[this,e]
    ·exact .inr ⟨k,c,e,z.sameBut F (cne y c e)⟩
  ·obtain⟨w',z⟩:=I.cell y c e
   exact⟨w',z.sameBut F (cne y c e)⟩
  ·obtain⟨e,n,ne,nf,d⟩:=I.pin p hp
   exact⟨(F.2 p.1 ne).trans e,n,ne,nf,d⟩
 ·have ab:X.fn x=true:=by
   rcases hf with z | z
   ·exact z
   ·rw[z]at Y; cases Y
  obtain⟨c,S⟩:=I.ok.has x (.inl Y)
  obtain⟨w',z⟩:=I.cell x c S
  refine wpAny_storeName_cell I.ok.kind Y S z (fun h' al F=>?_)
  obtain⟨oc,ad,ag⟩:=id z
  refine h { s with heap:=h' } ⟨I.ok,I.os,I.bare,⟨fun b o e n Z hx=>?_,fun b o e n Z hx=>?_,I.base.free,fun b o e hx=>?_,I.base.tups,I.base.frzs,I.base.tbls⟩,⟨m,hn.sameBut F (ve (cne x c S)),fun j y v' O W e3=>?_⟩,fun y c' e=>?_,I.free,I.freeC,fun p hp=>?_,J ⟨oc,ad,I.freeC x c S⟩ F,by simpa using I.len⟩ ⟨c,F,.inr S⟩
  ·exact(F.2 b (zR (vV (zA e) (I.ok.cab x c ab S)))).trans (I.base.keep b o e n Z hx)
  ·obtain⟨sl,O⟩:=I.base.slot b o e n Z hx
   exact⟨sl,(F.2 b (zR (vV (zA e) (I.ok.cab x c ab S)))).trans O⟩
  ·obtain⟨o',O⟩:=I.base.there b o e hx
   exact⟨o',(F.2 b (zR (vV (zA e) (I.ok.cab x c ab S)))).trans O⟩
  ·by_cases hj:j=i
   ·subst hj
    rw[hi]at O; cases O
    rw[List.getElem?_set_self an]at W
    cases W;exact⟨u,r,.inr ⟨.inl Y,c,S,al⟩⟩
   ·rw[List.getElem?_set_ne (ve hj)]at W
    obtain⟨u',r',q⟩:=hl j y v' O W e3
    refine⟨u',r',?_⟩
    rcases q with q | ⟨k,c',e,z'⟩
    ·exact .inl q
    ·refine .inr ⟨k,c',e,z'.sameBut F ?_⟩
     rintro rfl
     exact hj (p8 hN O (I.ok.inj _ _ _ e S ▸ hi))
  ·by_cases hcc:c'=c
   ·subst hcc; exact⟨_,al⟩
   ·obtain⟨w2,z2⟩:=I.cell y c' e
    exact⟨w2,z2.sameBut F hcc⟩
  ·obtain⟨e,n,ne,nf,d⟩:=I.pin p hp
   refine⟨(F.2 p.1 ?_).trans e,n,ne,nf,d⟩
   intro q
   rw[q,ad]at e
   have q':oc=p.2:=Option.some.inj e
   exact d w' (by rw[← q']; exact ag)
theorem qY{M:Model}{A:Around}{E:Value→Shared→Prop}{i:Nat}{x:Str}{v:V}{u:Value}{Q:Unit→Shared→Prop}(I:Inv X pins σ H s)(J:X.N.Nodup)(hi:X.N[i]? = some x)(hx:aD X.env.scope x)(r:RelV v u)
  (h:∀ s',Inv X pins (σ.set i (some v)) H s'→Q () s') (hf:X.fn x=true∨X.env.scope.names.lookup x=some .local:=by first | exact .inl rfl | exact .inr rfl | assumption):wpAny M A (storeName X.env x u) Q E s:=
 ni I J hi hx r (fun s' F _=>h s' F) hf
theorem Inv.call'{s':Shared}{ch:List Addr}(I:Inv X pins σ H s)(J:s'.os=s.os)(u:Un (i0 X.stack) ch H H' s.heap s'.heap)(hok:EQ X.prog X.w H' s'.heap)(hg:AllBare s'.gens)
  (F:∀ b∈ch,(b∈X.ex∨X.s₀.heap.objs.size≤b)∧b≠X.env.locals∧(∀ x c,X.env.cells.lookup x=some c→c≠b)∧∀ p∈X.pn++pins,p.1≠b):Inv X pins σ H' s':=by
 obtain⟨h',g',d',t',o'⟩:=s'
 have e:o'=s.os:=J
 subst e;exact I.call (g':=g') (t':=t') (d':=d') u hok hg F
end
abbrev XK:=Value→Option Addr→Hp→Prop
abbrev St:=List (Option V)
abbrev VK:=V→Hp→Prop
abbrev TE:=St→Hp→VK→Prop
abbrev TT:=St→Hp→(Bool→Hp→Prop)→Prop
abbrev TA:=St→Hp→(List V→Hp→Prop)→Prop
set_option genInjectivity false in
set_option genSizeOf false in
structure dz where
 nx:St→Hp→Prop
 rt:VK
 bk:St→Hp→Prop:=fun _ _=>False
 ct:St→Hp→Prop:=fun _ _=>False
abbrev TS:=dz→St→Hp→Prop
def EP(X:Cx)(pins:List (Addr × Obj))(σ : St)(Q:VK)(u:Value)(s':Shared):Prop:=∃ v H',Inv X pins σ H' s'∧RelV v u∧Q v H'
def TP(X:Cx)(pins:List (Addr × Obj))(σ : St)(Q:Bool→Hp→Prop)(b:Bool)(s':Shared):Prop:=∃ H',Inv X pins σ H' s'∧Q b H'
def AP(X:Cx)(pins:List (Addr × Obj))(σ : St)(Q:List V→Hp→Prop)(us:List Value)(s':Shared):Prop:=∃ vs H',Inv X pins σ H' s'∧yl vs us∧Q vs H'
def SP(X:Cx)(pins:List (Addr × Obj))(D:dz)(f:Flow)(s':Shared):Prop:=
 match f with
 | .next=>∃ σ' H',Inv X pins σ' H' s'∧D.nx σ' H'
 | .brk=>∃ σ' H',Inv X pins σ' H' s'∧D.bk σ' H'
 | .cont=>∃ σ' H',Inv X pins σ' H' s'∧D.ct σ' H'
 | .ret u=>∃ v σ' H',Inv X pins σ' H' s'∧RelV v u∧D.rt v H'
def PE(X:Cx)(e:Expr)(t:TE):Prop:=
 ∀ (pins:List (Addr × Obj)) (s:Shared) (σ : St) (H:Hp) (Q:VK),Inv X pins σ H s→t σ H Q→wpAny (model X.prog X.w) X.A (eval e X.env) (EP X pins σ Q) X.xe s
def PT(X:Cx)(e:Expr)(t:TT):Prop:=
 ∀ (pins:List (Addr × Obj)) (s:Shared) (σ : St) (H:Hp) (Q:Bool→Hp→Prop),Inv X pins σ H s→t σ H Q→wpAny (model X.prog X.w) X.A (isTrue e X.env (eval e X.env)) (TP X pins σ Q) X.xe s
def PW(X:Cx)(e:Expr)(t:TT):Prop:=
 ∀ (whole:Sem Value) (pins:List (Addr × Obj)) (s:Shared) (σ : St) (H:Hp) (Q:Bool→Hp→Prop),Inv X pins σ H s→t σ H Q→wpAny (model X.prog X.w) X.A (isTrue e X.env whole) (TP X pins σ Q) X.xe s
theorem PW.pt{X:Cx}{e:Expr}{t:TT}(h:PW X e t):PT X e t:=h _
def PA(X:Cx)(es:List Expr)(t:TA):Prop:=
 ∀ (pos:Pos) (pins:List (Addr × Obj)) (s:Shared) (σ : St) (H:Hp) (Q:List V→Hp→Prop),Inv X pins σ H s→t σ H Q→wpAny (model X.prog X.w) X.A (spliced (backTo pos (starEach es X.env))) (AP X pins σ Q) X.xe s
def PS(X:Cx)(st:Stmt)(t:TS):Prop:=
 ∀ (pins:List (Addr × Obj)) (s:Shared) (σ : St) (H:Hp) (D:dz),Inv X pins σ H s→t D σ H→wpAny (model X.prog X.w) X.A (exec st X.env) (SP X pins D) X.xe s
def Fi(X:Cx)(st:List Stmt)(t:TS):Prop:=
 ∀ (pins:List (Addr × Obj)) (s:Shared) (σ : St) (H:Hp) (D:dz),Inv X pins σ H s→t D σ H→wpAny (model X.prog X.w) X.A (execs st X.env) (SP X pins D) X.xe s
theorem bu{α : Type}{t:Sem α}{Q F:α→Shared→Prop}{M:Model}{A:Around}{E:Value→Shared→Prop}{s:Shared}(h:wpAny M A t Q E s)(J:∀ a s,Q a s→F a s):wpAny M A t F E s:=wpAny_mono h J fun _ _ x=>x
section
variable{X:Cx}
noncomputable def AY(i:Nat):TE:=fun σ H Q=>∃ v,σ[i]? = some (some v)∧Q v H
noncomputable def tC(v:V):TE:=fun _ H Q=>Q v H
theorem Fc{i:Nat}{x:Str}{pos:Pos}(Y:X.N[i]? = some x)(hv:am X.env.scope x)(hd:(x == ("__debug__" : Str))=false:=by decide) (hcd:(x == ("__classdict__" : Str))=false:=by decide):PE X (.Name x pos) (AY i):=by
 intro pins s σ H Q I h
 obtain⟨v,e,h⟩:=h
 obtain⟨m,U,hl⟩:=I.loc
 obtain⟨u,r,l⟩:=hl i x v Y e hv
 have O:EP X pins σ Q u s:=⟨v,H,I,r,h⟩
 rcases l with ⟨J,W⟩ | ⟨J,c,S,F⟩
 ·exact wpAny_Name (wpAny_loadName_local I.ok.kind J U W O) hd
 ·rcases J with J | J
  ·exact wpAny_Name (wpAny_loadName_cell I.ok.kind J S F O) hd
  ·exact wpAny_Name (wpAny_loadName_free I.ok.kind J S F O hcd) hd
theorem ae{i j pos}:PE X (.Constant (.int i) j pos) (tC (.int i)):=fun _ _ _ H _ I h=>wpAny_Constant_int ⟨.int i,H,I.tok _,⟨_,rfl⟩,h⟩
theorem fP{b j pos}:PE X (.Constant (.bool b) j pos) (tC (.bl b)):=fun _ _ _ H _ I h=>Constant_bool ⟨.bl b,H,I,rfl,h⟩
theorem rN{j pos}:PE X (.Constant .none j pos) (tC .non):=fun _ _ _ H _ I h=>Constant_none ⟨.non,H,I,rfl,h⟩
theorem ax{x j pos}:PE X (.Constant (.str x) j pos) (tC (.str x)):=fun _ _ _ H _ I h=>Calls.Constant_str ⟨.str x,H,I.tok _,⟨_,rfl⟩,h⟩
def Gl(X:Cx)(x:Str):Prop:=X.env.kindOf x=some .globalImplicit
theorem vSs{s:Stmt}{x:Str}(h:(L2.rd s).names.lookup x=some .local):am (L2.rd s) x:=Or.inl h
theorem vLl{s:Stmt}{x:Str}(h:(L2.rd s).names.lookup x=some .local):aD (L2.rd s) x:=Or.inl h
theorem vGg{s:Stmt}{x:Str}(h:(L2.rd s).names.lookup x=some .globalImplicit):(L2.rd s).names.lookup x=some .globalImplicit:=h
theorem l5{E:Value→Shared→Prop}{pins:List (Addr × Obj)}{s:Shared}{σ : St}{H:Hp}{x:Str}{u:Value}{pos:Pos}{Q:Value→Shared→Prop}(I:Inv X pins σ H s)(hg:Gl X x)(F:X.mg x=some u)(h:Q u s)
  (hd:(x == ("__debug__" : Str))=false:=by decide):wpAny (model X.prog X.w) X.A (eval (.Name x pos) X.env) Q E s:=
 Calls.Name_function_global I.ok.kind hg (Calls.loadGlobal_global (by rw[I.ok.glob]; exact I.mod.glob.keeps I.bk) F h) hd
theorem h8{E:Value→Shared→Prop}{pins:List (Addr × Obj)}{s:Shared}{σ : St}{H:Hp}{x:Str}{u:Value}{pos:Pos}{Q:Value→Shared→Prop}(I:Inv X pins σ H s)(hg:Gl X x)(J:X.mg x=none)(hv:bootBuiltins x=some u)(h:Q u s)
  (F:x ≠ "__name__" := by decide) (hd:(x == ("__debug__" : Str))=false:=by decide):wpAny (model X.prog X.w) X.A (eval (.Name x pos) X.env) Q E s:=by
 obtain⟨O,h1,h2⟩:=I.mod.blt
 exact Calls.Name_function_global I.ok.kind hg (Calls.loadGlobal_builtin (by rw[I.ok.glob]; exact I.mod.glob.keeps I.bk) J (by rw[I.ok.blt]; exact h1.keeps I.bk) ((h2 x F).trans hv) h) hd
theorem Cf{x:Str}{v:V}{u:Value}{pos:Pos}(hg:Gl X x)(F:X.mg x=some u)(r:RelV v u)(hd:(x == ("__debug__" : Str))=false:=by decide):PE X (.Name x pos) (tC v):=
 fun _ _ _ H _ I h=>l5 I hg F ⟨v,H,I,r,h⟩ hd
theorem CL{x:Str}{v:V}{u:Value}{pos:Pos}(hg:Gl X x)(J:X.mg x=none)(hv:bootBuiltins x=some u)(r:RelV v u)(F:x ≠ "__name__" := by decide) (hd:(x == ("__debug__" : Str))=false:=by decide):PE X (.Name x pos) (tC v):=
 fun _ _ _ H _ I h=>h8 I hg J hv ⟨v,H,I,r,h⟩ F hd
variable{a b:Expr}{ta tb:TE}{pos:Pos}
noncomputable def tB(t:TE):TT:=fun σ H Q=>t σ H fun x H1=>∃ c,x = .bl c∧Q c H1
theorem dU{e:Expr}{t:TE}(h:PE X e t)(O:∀ whole,isTrue e X.env whole=(do let v ← whole; standAt e.pos; holding [v] (truthy v)):=by intro _; rfl):PT X e (tB t):=by
 intro pins s σ H Q I J
 refine isTrue_plain (bu (h pins s σ H _ I J) fun v W ⟨x,H1,U,F,S⟩=>?_) (O _)
 obtain⟨d,rfl,q⟩:=S
 cases F;exact wpAny_truthy_bool ⟨H1,U,q⟩
variable{tA tB':TT}{CS:List Expr}
noncomputable def EX(t u:TT):TT:=fun σ H Q=>t σ H fun c H1=>if c=true then u σ H1 Q else Q false H1
noncomputable def GJ(t u:TT):TT:=fun σ H Q=>t σ H fun c H1=>if c=true then Q true H1 else u σ H1 Q
noncomputable def Dv(t:TT):TT:=fun σ H Q=>t σ H fun c H1=>Q (!c) H1
theorem dh(F:PT X a tA):PW X (.BoolOp .And [a] pos) tA:=by
 intro O pins s σ H Q I h
 refine isTrue_and (bu (F pins s σ H Q I h) fun c J e=>?_)
 cases c with
 | true=>exact isTrue_and_nil e
 | false=>exact e
theorem pB(F:PT X a tA):PW X (.BoolOp .Or [a] pos) tA:=by
 intro O pins s σ H Q I h
 refine isTrue_or (bu (F pins s σ H Q I h) fun c J e=>?_)
 cases c with
 | false=>exact isTrue_or_nil e
 | true=>exact e
theorem c7(O:PT X a tA)(W:PW X (.BoolOp .And (b::CS) pos) tB'):PW X (.BoolOp .And (a::b::CS) pos) (EX tA tB'):=by
 intro S pins s σ H Q I h
 refine isTrue_and (bu (O pins s σ H _ I h) fun c U ⟨H1,J,F⟩=>?_)
 cases c with
 | true=>exact W S pins U σ H1 Q J F
 | false=>exact⟨H1,J,F⟩
theorem oH(O:PT X a tA)(W:PW X (.BoolOp .Or (b::CS) pos) tB'):PW X (.BoolOp .Or (a::b::CS) pos) (GJ tA tB'):=by
 intro S pins s σ H Q I h
 refine isTrue_or (bu (O pins s σ H _ I h) fun c U ⟨H1,J,F⟩=>?_)
 cases c with
 | true=>exact⟨H1,J,F⟩
 | false=>exact W S pins U σ H1 Q J F
theorem jp(F:PT X a tA):PT X (.UnaryOp .Not a pos) (Dv tA):=by
 intro pins s σ H Q I h
 exact isTrue_not (F pins s σ H (fun c H1=>Q (!c) H1) I h)
noncomputable def Bv(ta tb:TE):TE:=fun σ H Q=>ta σ H fun x H1=>∃ c,x = .bl c∧if c=true then tb σ H1 Q else Q (.bl false) H1
noncomputable def Bf(ta:TE):TE:=fun σ H Q=>ta σ H fun x H1=>∃ c,x = .bl c∧Q (.bl (!c)) H1
theorem oV{op}{t:TE}(h:PE X a t):PE X (.BoolOp op [a] pos) t:=fun pins s σ H Q I F=>BoolOp_one (h pins s σ H Q I F)
theorem lI(O:PE X a ta)(W:PE X (.BoolOp .And (b::CS) pos) tb):PE X (.BoolOp .And (a::b::CS) pos) (Bv ta tb):=by
 intro pins s σ H Q I h
 refine BoolOp_and (bu (O pins s σ H _ I h) fun v U ⟨x,H1,J,S,F⟩=>?_)
 obtain⟨c,rfl,F⟩:=F
 cases S;refine wpAny_truthy_bool ?_
 cases c with
 | true=>exact W pins U σ H1 Q J F
 | false=>exact⟨.bl false,H1,J,rfl,F⟩
theorem CU(J:PE X a ta):PE X (.UnaryOp .Not a pos) (Bf ta):=by
 intro pins s σ H Q I h
 refine UnaryOp_ (bu (J pins s σ H _ I h) fun v U ⟨x,H1,S,O,F⟩=>?_)
 obtain⟨c,rfl,F⟩:=F
 cases O;exact not_of (wpAny_truthy_bool ⟨.bl (!c),H1,S,rfl,F⟩)
noncomputable def GG(t:TT)(ta tb:TE):TE:=fun σ H Q=>t σ H fun c H1=>if c=true then ta σ H1 Q else tb σ H1 Q
theorem kD{c:Expr}(U:PT X c tA)(S:PE X a ta)(W:PE X b tb):PE X (.IfExp c a b pos) (GG tA ta tb):=by
 intro pins s σ H Q I h
 refine wpAny_IfExp (bu (U pins s σ H _ I h) fun d J ⟨H1,O,F⟩=>?_)
 cases d with
 | true=>exact S pins J σ H1 Q O F
 | false=>exact W pins J σ H1 Q O F
end
def ud(K:W.Frag)(H:Hp)(a:Addr)(xs:List V):Prop:=
 Rd H a (.lst xs)∨
  ∃ (o:Obj) (its:Array Value) (n:Nat),K.lookup a=some o∧o.cls = .type "list" ∧ o.dict=none∧o.data = .seq its n∧its.size≤sizeLine∧yl xs its.toList
def vr(K:W.Frag)(H:Hp)(a:Addr)(xs:List V):Prop:=
 Rd H a (.tup xs)∨
  ∃ (o:Obj) (its:Array Value) (n:Nat),K.lookup a=some o∧o.cls = .type "tuple" ∧ o.data = .seq its n∧its.size≤sizeLine∧yl xs its.toList
noncomputable def Hl:Value→Option V
 | .none=>some .non
 | .bool b=>some (.bl b)
 | .int i _=>some (.int i)
 | .str x _=>some (.str x)
 | .bytes b _=>some (.byt b)
 | .float b _=>some (.flt b)
 | .ref a=>some (.ref a)
 | .type n=>some (.ty n)
 | _=>none
theorem RelV.abs{x:V}{u:Value}(r:RelV x u):Hl u=some x:=by
 cases x with
 | non=>cases r; rfl
 | bl _=>cases r; rfl
 | int _=>obtain⟨t,rfl⟩:=r; rfl
 | str _=>obtain⟨t,rfl⟩:=r; rfl
 | byt _=>obtain⟨t,rfl⟩:=r; rfl
 | flt _=>obtain⟨t,rfl⟩:=r; rfl
 | ref _=>cases r; rfl
 | ty _=>cases r; rfl
theorem RelV.inj{x y:V}{u:Value}(r:RelV x u)(q:RelV y u):x=y:=Option.some.inj (r.abs.symm.trans q.abs)
theorem yl.inj:∀ {xs ys:List V} {F:List Value},yl xs F→yl ys F→xs=ys
 | _,_,_,.nil,.nil=>rfl
 | _,_,_,.cons r t,.cons r' t'=>by rw[r.inj r',yl.inj t t']
section
variable{X:Cx}{pins:List (Addr × Obj)}{σ : St}{H:Hp}{s:Shared}{a:Addr}{xs ys:List V}
theorem ud.of{K:W.Frag}(h:H a=some (.lst xs)):ud K H a xs:=.inl (.inl h)
theorem vr.of{K:W.Frag}(h:H a=some (.tup xs)):vr K H a xs:=.inl (.inl h)
theorem Inv.list(I:Inv X pins σ H s)(h:ud X.K H a xs):∃ F:List Value,yl xs F∧PlainL s.heap a F.toArray∧xs.length≤sizeLine:=by
 rcases h with h | ⟨o,F,n,J,O,hd,S,hz,r⟩
 ·obtain⟨z,F,n,r,e⟩:=h.ok I.hok
  exact⟨F,r,⟨_,n,e,rfl,rfl,rfl⟩,z⟩
 ·refine⟨F.toList,r,⟨o,n,I.kIn a o J,O,hd,by simpa using S⟩,?_⟩
  have e:=r.length;simp only[vj]at e
  omega
theorem Inv.tuple(I:Inv X pins σ H s)(h:vr X.K H a xs):∃ F:List Value,yl xs F∧IsTup s.heap a F.toArray∧xs.length≤sizeLine:=by
 rcases h with h | ⟨o,F,n,J,O,S,hz,r⟩
 ·obtain⟨z,F,r,p⟩:=h.ok I.hok
  exact⟨F,r,p.tup,z⟩
 ·refine⟨F.toList,r,⟨o,I.kIn a o J,O,n,by simpa using S⟩,?_⟩
  have e:=r.length;simp only[vj]at e
  omega
theorem Inv.list_inj(I:Inv X pins σ H s)(h:ud X.K H a xs)(h':ud X.K H a ys):xs=ys:=by
 obtain⟨F,r,⟨o,n,e,_,_,d⟩,_⟩:=I.list h
 obtain⟨its',O,⟨o',n',J,_,_,d'⟩,_⟩:=I.list h'
 rw[e]at J; cases J
 rw[d]at d'
 injection d' with d1 _
 have:F=its':=by simpa using congrArg Array.toList d1
 subst this;exact r.inj O
theorem Inv.tuple_inj(I:Inv X pins σ H s)(h:vr X.K H a xs)(h':vr X.K H a ys):xs=ys:=by
 obtain⟨F,r,⟨o,e,_,n,d⟩,_⟩:=I.tuple h
 obtain⟨its',O,⟨o',J,_,n',d'⟩,_⟩:=I.tuple h'
 rw[e]at J; cases J
 rw[d]at d'
 injection d' with d1 _
 have:F=its':=by simpa using congrArg Array.toList d1
 subst this;exact r.inj O
end
abbrev Cx.wish (X:Cx) (E:Value→Shared→Prop):Cx:={ X with xe:=E }
abbrev Cx.nox (X:Cx):Cx:=X.wish fun _ _=>False
theorem Cx.Ok.wish{X:Cx}(ok:X.Ok)(E:Value→Shared→Prop):(X.wish E).Ok:=
 ⟨ok.mod,ok.kind,ok.glob,ok.blt,ok.above,ok.inj,ok.has,ok.cab,ok.hd,ok.frames,ok.stk,ok.exf,ok.bs,ok.bsz,ok.noex,ok.exfs,ok.funs,ok.frf⟩
theorem Cx.Ok.unwish{X:Cx}{E:Value→Shared→Prop}(ok:(X.wish E).Ok):X.Ok:=
 ⟨ok.mod,ok.kind,ok.glob,ok.blt,ok.above,ok.inj,ok.has,ok.cab,ok.hd,ok.frames,ok.stk,ok.exf,ok.bs,ok.bsz,ok.noex,ok.exfs,ok.funs,ok.frf⟩
section
variable{X:Cx}{pins:List (Addr × Obj)}{σ : St}{H:Hp}{s:Shared}{E:Value→Shared→Prop}
theorem Inv.wish(I:Inv X pins σ H s)(E:Value→Shared→Prop):Inv (X.wish E) pins σ H s:=⟨I.ok.wish E,I.os,I.bare,I.base,I.loc,I.cell,I.free,I.freeC,I.pin,I.hok,I.len⟩
theorem Inv.unwish(I:Inv (X.wish E) pins σ H s):Inv X pins σ H s:=⟨I.ok.unwish,I.os,I.bare,I.base,I.loc,I.cell,I.free,I.freeC,I.pin,I.hok,I.len⟩
theorem SP.unwish{D:dz}{f:Flow}{s':Shared}(h:SP (X.wish E) pins D f s'):SP X pins D f s':=by
 cases f with
 | next=>obtain⟨F,H',I,q⟩:=h; exact⟨F,H',I.unwish,q⟩
 | brk=>obtain⟨F,H',I,q⟩:=h; exact⟨F,H',I.unwish,q⟩
 | cont=>obtain⟨F,H',I,q⟩:=h; exact⟨F,H',I.unwish,q⟩
 | ret u=>obtain⟨v,F,H',I,r,q⟩:=h; exact⟨v,F,H',I.unwish,r,q⟩
theorem Fi.nox{st:List Stmt}{t:TS}(h:Fi X.nox st t):Fi X st t:=fun pins s σ H D I F=>
 wpAny_mono (h pins s σ H D (I.wish _) F) (fun _ _ q=>q.unwish) fun _ _ z=>False.elim z
end
section
variable{X:Cx}{st:Stmt}{CS:List Stmt}{t u:TS}{e:Expr}{te:TE}{pos:Pos}
noncomputable def Bb:TS:=fun D σ H=>D.nx σ H
noncomputable def y8(t u:TS):TS:=fun D σ H=>t { D with nx:=u D } σ H
theorem bz:Fi X [] Bb:=fun _ _ σ H _ I h=>wpAny_execs_nil ⟨σ,H,I,h⟩
theorem ai(h1:PS X st t)(h2:Fi X CS u):Fi X (st::CS) (y8 t u):=by
 intro pins s σ H D I h
 refine wpAny_execs_cons (bu (h1 pins s σ H { D with nx:=u D } I h) fun f O q=>?_)
 cases f with
 | next=>
  obtain⟨J,H',F,q⟩:=q
  exact h2 pins O J H' D F q
 | ret v=>exact q
 | brk=>exact q
 | cont=>exact q
theorem aj(h1:PS X st t):Fi X [st] t:=by
 intro pins s σ H D I h
 refine wpAny_execs_cons (bu (h1 pins s σ H D I h) fun f F q=>?_)
 cases f with
 | next=>exact wpAny_execs_nil q
 | ret v=>exact q
 | brk=>exact q
 | cont=>exact q
theorem Inv.quiet{pins:List (Addr × Obj)}{σ : St}{H:Hp}{s:Shared}(I:Inv X pins σ H s):interactive X.env=false:=by simp[interactive,I.ok.kind]
noncomputable def A8(te:TE):TS:=fun D σ H=>te σ H fun _ H1=>D.nx σ H1
theorem bc(F:PE X e te)(S:swapsWith e none pos.line X.env=pure false:=by rfl):PS X (.Expr e pos) (A8 te):=by
 intro pins s σ H D I h
 exact wpAny_Expr_any (bu (F pins s σ H _ I h) fun v W ⟨x,H1,O,U,J⟩=>⟨σ,H1,O,J⟩) I.quiet S
noncomputable def FI(te:TE):TS:=fun D σ H=>te σ H D.rt
theorem aJ(J:PE X e te):PS X (.Return (some e) pos) (FI te):=by
 intro pins s σ H D I h
 exact wpAny_Return_some (bu (J pins s σ H _ I h) fun v U ⟨x,H1,S,F,O⟩=>⟨x,σ,H1,S,F,O⟩)
noncomputable def Fs(c:TT)(t u:TS):TS:=fun D σ H=>c σ H fun b H1=>if b=true then t D σ H1 else u D σ H1
theorem bC{c:Expr}{a b:List Stmt}{tc:TT}(U:PT X c tc)(S:Fi X a t)(W:Fi X b u):PS X (.If c a b pos) (Fs tc t u):=by
 intro pins s σ H D I h
 refine wpAny_If (bu (U pins s σ H _ I h) fun d J ⟨H1,O,F⟩=>?_)
 cases d with
 | true=>exact S pins J σ H1 D O F
 | false=>exact W pins J σ H1 D O F
end
abbrev TG:=V→St→Hp→(St→Hp→Prop)→Prop
abbrev fA:=List V→St→Hp→(St→Hp→Prop)→Prop
def PG(X:Cx)(target:Expr)(t:TG):Prop:=
 ∀ (pins:List (Addr × Obj)) (s:Shared) (σ : St) (H:Hp) (v:V) (u:Value) (Q:St→Hp→Prop),Inv X pins σ H s→RelV v u→t v σ H Q→
  wpAny (model X.prog X.w) X.A (assign target X.env u) (fun _ s'=>∃ σ' H',Inv X pins σ' H' s'∧Q σ' H') X.xe s
def GT(X:Cx)(ts:List Expr)(t:fA):Prop:=
 ∀ (pins:List (Addr × Obj)) (s:Shared) (σ : St) (H:Hp) (vs:List V) (us:List Value) (Q:St→Hp→Prop),Inv X pins σ H s→yl vs us→t vs σ H Q→
  wpAny (model X.prog X.w) X.A (assignInOrder ((assignEach ts X.env).map (·.2)) us) (fun _ s'=>∃ σ' H',Inv X pins σ' H' s'∧Q σ' H') X.xe s
abbrev mh:=V→V→V→Hp→(Hp→Prop)→Prop
def Fv(X:Cx)(t:mh):Prop:=
 ∀ (pins:List (Addr × Obj)) (s:Shared) (σ : St) (H:Hp) (o i v:V) (ov iv u:Value) (Q:Hp→Prop),Inv X pins σ H s→RelV o ov→RelV i iv→RelV v u→t o i v H Q→
  wpAny (model X.prog X.w) X.A (setItem ov iv u) (fun _ s'=>∃ H',Inv X pins σ H' s'∧Q H') X.xe s
section
variable{X:Cx}{pos:Pos}
noncomputable def gN(i:Nat):TG:=fun v σ H Q=>Q (σ.set i (some v)) H
theorem BR{i:Nat}{x:Str}(J:X.N.Nodup)(hi:X.N[i]? = some x)(hx:aD X.env.scope x)(hf:X.fn x=true∨X.env.scope.names.lookup x=some .local:=by first | exact .inl rfl | exact .inr rfl | assumption):PG X (.Name x pos) (gN i):=by
 intro pins s σ H v u Q I r h
 exact wpAny_assign_Name (qY I J hi hx r (fun s' F=>⟨_,H,F,h⟩) hf)
noncomputable def vS:fA:=fun vs σ H Q=>vs=[]∧Q σ H
noncomputable def oO(t:TG)(u:fA):fA:=fun vs σ H Q=>∃ v r,vs=v::r∧t v σ H fun σ' H'=>u r σ' H' Q
theorem ib:GT X [] vS:=by
 intro pins s σ H vs F Q I r h
 obtain⟨e,h⟩:=h
 subst e
 cases r;exact assignInOrder_nil ⟨σ,H,I,h⟩
theorem cL{e:Expr}{es:List Expr}{t:TG}{u:fA}(h1:PG X e t)(h2:GT X es u)
  (U:(assignEach (e::es) X.env).map (·.2)=assign e X.env::(assignEach es X.env).map (·.2):=by rfl):GT X (e::es) (oO t u):=by
 intro pins s σ H vs Z Q I r h
 obtain⟨v,Y,W,h⟩:=h
 subst W
 cases r with
 | cons r rr=>
  rw[U];refine assignInOrder_cons (bu (h1 pins s σ H _ _ _ I r h) fun _ J ⟨S,H1,O,F⟩=>?_)
  exact h2 pins J S H1 _ _ Q O rr F
noncomputable def u7(K:W.Frag)(n:Nat)(t:fA):TG:=fun v σ H Q=>∃ a xs,v = .ref a∧vr K H a xs∧xs.length=n∧t xs σ H Q
theorem DE{es:List Expr}{k:Nat}{t:fA}{n:Nat}(O:X.calm=true)(h:GT X es t)
  (U:(assignEach es X.env).length=n:=by rfl) (hst:(assignEach es X.env).findIdx? (·.1)=none:=by rfl):PG X (.Tuple es k pos) (u7 X.K n t):=by
 intro pins s σ H v u Q I r F
 obtain⟨a,xs,e1,S,hl,F⟩:=F
 subst e1
 cases r;obtain⟨W,J,Z,hz⟩:=I.tuple S
 refine assign_Tuple_tuple (I.ok.hd O) Z (by simp[U,← hl,J.length]) hst fun h' hx=>?_
 have Y:Inv X pins σ H { s with heap:=h' }:=I.kept (t':=s.toks) fun b o e=>hx b o (zR (zA e)) e
 exact h pins _ σ H xs _ Q Y (by simpa using J) F
noncomputable def CW(to ti:TE)(t:mh):TG:=fun v σ H Q=>to σ H fun o H1=>ti σ H1 fun i H2=>t o i v H2 fun H3=>Q σ H3
theorem jb{o i:Expr}{to ti:TE}{t:mh}(ho:PE X o to)(hi:PE X i ti)(hs:Fv X t)
  (S:∀ v,assign (.Subscript o i pos) X.env v=(do
   let F ← holding [v] (eval o X.env)
   let J ← holding [v,F] (eval i X.env)
   standAt pos
   holding [v,F,J] (setItem F J v)
   release [v,F,J] []):=by intro _; rfl):PG X (.Subscript o i pos) (CW to ti t):=by
 intro pins s σ H v u Q I r h
 rw[S];refine G8 (wpAny_holding (bu (ho pins s σ H _ I h) fun F s1 ⟨x,H1,I1,W,Y⟩=>?_))
 refine G8 (wpAny_holding (bu (hi pins s1 σ H1 _ I1 Y) fun J s2 ⟨y,H2,Z,r2,O⟩=>?_))
 refine G8 (wpAny_standAt (G8 (wpAny_holding (bu (hs pins s2 σ H2 x y v F J u _ Z W r2 r O) fun _ s3 ⟨H3,U,q3⟩=>?_))))
 exact wpAny_release ⟨σ,H3,U,q3⟩
noncomputable def qr(te:TE)(g:TG):TS:=fun D σ H=>te σ H fun x H1=>g x σ H1 D.nx
theorem im{tg e:Expr}{te:TE}{g:TG}(J:PE X e te)(hg:PG X tg g)(W:swapsWithSole [tg] e pos.line X.env=pure false:=by rfl)(hw:swappedStores [tg] e X.env=pure none:=by rfl)
  (h1:(assignEach [tg] X.env).map (·.2)=[assign tg X.env]:=by rfl):PS X (.Assign [tg] e pos) (qr te g):=by
 intro pins s σ H D I h
 refine wpAny_Assign_stores (bu (J pins s σ H _ I h) fun v S ⟨x,H1,U,F,O⟩=>?_) W hw
 rw[h1];exact bu (hg pins S σ H1 x v _ U F O) fun _ s2 q=>q
theorem D7{i:Nat}{x:Str}{e:Expr}{te:TE}{pos':Pos}(U:X.N.Nodup)(hi:X.N[i]? = some x)(hx:aD X.env.scope x)(J:PE X e te)(W:swapsWith e (some (.Name x pos')) pos.line X.env=pure false:=by rfl)(hf:X.fn x=true∨X.env.scope.names.lookup x=some .local:=by first | exact .inl rfl | exact .inr rfl | assumption) :
  PS X (.Assign [.Name x pos'] e pos) (qr te (gN i)):=by
 intro pins s σ H D I h
 refine wpAny_Assign_Name (bu (J pins s σ H _ I h) fun v Z ⟨y,H1,S,F,O⟩=>?_) W
 exact qY S U hi hx F (fun s2 Y=>⟨_,H1,Y,O⟩) hf
end
section
variable{X:Cx}{pos:Pos}
noncomputable def Fj(c:TT)(tb:TS):TS:=fun D σ H=>∃ W:Nat→St→Hp→Prop,(∃ m,W m σ H)∧∀ m σ H,W m σ H→
 c σ H fun b H1=>if b=true then ∃ N:St→Hp→Prop,(∀ σ' H',N σ' H'→∃ m',m'<m∧W m' σ' H')∧tb { D with nx:=N,ct:=N,bk:=D.nx } σ H1 else D.nx σ H1
theorem AQ{c:Expr}{F:List Stmt}{tc:TT}{tb:TS}(hp:PassesOwn (model X.prog X.w) X.A X.env X.xe)(hc:PT X c tc)(hb:Fi X F tb):PS X (.While c F [] pos) (Fj tc tb):=by
 intro pins s σ H D I h
 obtain⟨W,⟨m0,w0⟩,J⟩:=h
 refine wpAny_While (codeAny_whileLoop (fun n s'=>∃ σ' H',Inv X pins σ' H' s'∧W n σ' H') ?_ m0 ⟨σ,H,I,w0⟩)
 rintro n s1 ⟨Z,H1,I1,w1⟩
 refine wpAny_passesOwn hp (bu (hc pins s1 Z H1 _ I1 (J n Z H1 w1)) fun b s2 ⟨H2,I2,U⟩=>?_)
 cases b with
 | true=>
  obtain⟨N,hN,U⟩:=U
  rw[Hf rfl];refine wpAny_passesOwn hp (bu (hb pins s2 Z H2 _ I2 U) fun f s3 Y=>?_)
  cases f with
  | next=>
   obtain⟨S,O,I3,n3⟩:=Y
   obtain⟨m',hm,w3⟩:=hN S O n3
   exact⟨m',hm,S,O,I3,w3⟩
  | cont=>
   obtain⟨S,O,I3,n3⟩:=Y
   obtain⟨m',hm,w3⟩:=hN S O n3
   exact⟨m',hm,S,O,I3,w3⟩
  | brk=>exact Y
  | ret v=>exact Y
 | false=>
  rw[He wj];exact wpAny_execs_nil ⟨Z,H2,I2,U⟩
end
set_option genInjectivity false in
set_option genSizeOf false in
structure It where
 go:Nat→Hp→Prop
 yld:Nat→Hp→V→Hp→Prop
 stop:Nat→Hp→Prop
def gF(X:Cx)(pins:List (Addr × Obj))(H:Hp)(b:Addr):Prop:=
 H b=none∧b≠X.env.locals∧b∉X.fs∧(b∈X.ex∨X.s₀.heap.objs.size≤b)∧(∀ x c,X.env.cells.lookup x=some c→c≠b)∧∀ p∈X.pn++pins,p.1≠b
theorem Inv.fpOk{X:Cx}{pins:List (Addr × Obj)}{σ : St}{H H':Hp}{s:Shared}{b:Addr}(I:Inv X pins σ H s)(F:s.heap.objs.size≤b)(O:H' b=none):gF X pins H' b:=by
 refine⟨O,GI (vV I.lt F),I.nofs F,.inr (gV I.sz F),fun x c e z=>?_,fun p J z=>?_⟩
 ·obtain⟨v,q⟩:=I.cell x c e
  exact absurd (vV q.lt (by rw[z]; exact F)) (GR _)
 ·exact absurd (vV (zA (I.pin p J).1) (by rw[z]; exact F)) (GR _)
structure kG (P:Program) (w:World) (K:W.Frag) (tg:Expr) (J:It) (fp:List Addr) (it:Addr) (tn:Nat→Heap→Prop):Prop where
 mem:it∈fp
 obj:∀ i h,tn i h→∀ b∈fp,∃ o,h.get? b=some o∧∀ v,o.data ≠ .cell v
 keep:∀ i h h',tn i h→(∀ b∈fp,∀ o,h.get? b=some o→h'.get? b=some o)→tn i h'
 item:∀ (X:Cx),X.prog=P→X.w=w→X.K=K→X.calm=true→∀ (i:Nat) (pins:List (Addr × Obj)) (s:Shared) (σ : St) (H:Hp) (E:Value→Shared→Prop),Inv X pins σ H s→(∀ b∈fp,gF X pins H b)→tn i s.heap→J.go i H→
  wpAny (model P w) X.A (pyNext (.ref it)) (fun r s1=>∃ u,r=some u∧
   wpAny (model P w) X.A (letOwnedTupleGo tg (.ref it) u) (fun _ s2=>∃ x H',Inv X pins σ H' s2∧RelV x u∧J.yld i H x H'∧tn (i+1) s2.heap∧∀ b∈fp,H' b=none) E s1) E s
 done:∀ (X:Cx),X.prog=P→X.w=w→X.K=K→X.calm=true→∀ (i:Nat) (pins:List (Addr × Obj)) (s:Shared) (σ : St) (H:Hp) (E:Value→Shared→Prop),Inv X pins σ H s→(∀ b∈fp,gF X pins H b)→tn i s.heap→J.stop i H→
  wpAny (model P w) X.A (pyNext (.ref it)) (fun r s1=>r=none∧Inv X pins σ H s1) E s
 self:∀ (A:Around) (i:Nat) (s:Shared) (Q:Value→Shared→Prop) (E:Value→Shared→Prop),tn i s.heap→Q (.ref it) s→wpAny (model P w) A (pyIter (.ref it)) Q E s
abbrev TI:=St→Hp→(It→Hp→Prop)→Prop
def GQ(X:Cx)(pins:List (Addr × Obj))(σ : St)(tg:Expr)(R:It→Hp→Prop)(itv:Value)(s2:Shared):Prop:=
 ∃ (it:Addr) (fp:List Addr) (tn:Nat→Heap→Prop) (J:It) (H':Hp),itv = .ref it∧Inv X pins σ H' s2∧kG X.prog X.w X.K tg J fp it tn∧tn 0 s2.heap∧(∀ b∈fp,gF X pins H' b)∧R J H'
def PI(X:Cx)(tg iter:Expr)(wi:TI):Prop:=
 ∀ (pins:List (Addr × Obj)) (s:Shared) (σ : St) (H:Hp) (R:It→Hp→Prop),Inv X pins σ H s→wi σ H R→
  wpAny (model X.prog X.w) X.A (eval iter X.env) (fun v s1=>wpAny (model X.prog X.w) X.A (pyIter v) (GQ X pins σ tg R) X.xe s1) X.xe s
theorem v0{M:Model}{A:Around}{E:Value→Shared→Prop}{s:Shared}{tg:Expr}{it:Addr}{u:Value}{o:Obj}{n:String}{vs:Array Value}{Q:Unit→Shared→Prop}(S:s.heap.get? it=some o)(J:o.cls = .type n)(hd:o.data = .fields vs)
    (O:["enumerate", "zip", "dict_itemiterator", "dict_reverseitemiterator", "odict_iterator", "itertools.zip_longest", "itertools.pairwise"].contains n=false) (F:Q () s):wpAny M A (letOwnedTupleGo tg (.ref it) u) Q E s:=by
  unfold letOwnedTupleGo
  cases tg <;> first
    | exact Hc F
    | (cases u <;> first
        | exact Hc F
        | (refine G8 (wpAny_load S ?_)
           rw[J,hd];show wpAny M A (if (["enumerate", "zip", "dict_itemiterator", "dict_reverseitemiterator", "odict_iterator", "itertools.zip_longest", "itertools.pairwise"].contains n&&vs[0]? == some (rawInt _))=true then _ else _) Q E s
           rw[He (by intro h; rw[O,Bool.false_and]at h; cases h)]
           exact Hc F))
noncomputable def kc(K:W.Frag)(a:Addr):It:=
 ⟨fun i H=>∃ xs x,ud K H a xs∧xs[i]? = some x,fun i H x H'=>H'=H∧∀ xs,ud K H a xs→xs[i]? = some x,fun i H=>∃ xs,ud K H a xs∧xs.length≤i⟩
noncomputable def ux(K:W.Frag)(a:Addr):It:=
 ⟨fun i H=>∃ xs x,vr K H a xs∧xs[i]? = some x,fun i H x H'=>H'=H∧∀ xs,vr K H a xs→xs[i]? = some x,fun i H=>∃ xs,vr K H a xs∧xs.length≤i⟩
noncomputable def kU(lo:Int)(n:Nat):It:=⟨fun i _=>i<n,fun i H x H'=>H'=H∧x = .int (lo+i),fun i _=>n≤i⟩
theorem xn{P:Program}{w:World}{K:W.Frag}{tg:Expr}(a it:Addr):kG P w K tg (kc K a) [it] it (fun i h=>h.IsListIter it a i) where
 mem:=by simp
 obj:=fun i h st b F=>by
  have e:b=it:=by simpa using F
  subst e;obtain⟨o,e,c,d⟩:=st
  exact⟨o,e,fun v z=>by rw[d]at z; cases z⟩
 keep:=fun i h h' st k=>st.at fun o e=>k it (by simp) o e
 item:=by
  intro X hP Y hK hc i pins s σ H E I hf st hg
  subst hP Y hK;obtain⟨xs,x,O,hx⟩:=hg
  obtain⟨ab,rv,p,hz⟩:=I.list O
  obtain⟨u,hu,ru⟩:=rv.get hx
  obtain⟨U,f1,f2,f3,S,Z⟩:=hf it (by simp)
  refine wpAny_pyNext_list_item st p.isList (x:=u) (by simpa using hu) fun h' J sb=>?_
  have I1:Inv X pins σ H { s with heap:=h' }:=I.turned (t':=s.toks) (fun b o F e=>(sb.2 b F).trans e) U f1 f3 S Z
  obtain⟨o,e,c,d⟩:=id J
  exact⟨u,rfl,v0 (s:={ s with heap:=h' }) e c d (by decide) ⟨x,H,I1,ru,⟨rfl,fun ys hy=>by rw[I.list_inj hy O]; exact hx⟩,J,fun b F=>(hf b F).1⟩⟩
 done:=by
  intro X hP Y hK hc i pins s σ H E I hf st hg
  subst hP Y hK;obtain⟨xs,O,hx⟩:=hg
  obtain⟨ab,rv,p,hz⟩:=I.list O
  obtain⟨U,f1,f2,f3,S,Z⟩:=hf it (by simp)
  have hl:=rv.length;exact wpAny_pyNext_list_end (I.ok.hd hc) st p.isList (by simp; omega) fun h' eb=>⟨rfl,I.turned (t':=s.toks) (fun b o F e=>eb b o F e) U f1 f3 S Z⟩
 self:=fun _ _ _ _ _ st h=>wpAny_pyIter_listiter st h
theorem vc{P:Program}{w:World}{K:W.Frag}{tg:Expr}(a it:Addr):kG P w K tg (ux K a) [it] it (fun i h=>h.IsTupleIter it a i) where
 mem:=by simp
 obj:=fun i h st b F=>by
  have e:b=it:=by simpa using F
  subst e;obtain⟨o,e,c,d⟩:=st
  exact⟨o,e,fun v z=>by rw[d]at z; cases z⟩
 keep:=fun i h h' st k=>st.at fun o e=>k it (by simp) o e
 item:=by
  intro X hP Z hK hc i pins s σ H E I hf st hg
  subst hP Z hK;obtain⟨xs,x,S,hx⟩:=hg
  obtain⟨J,rv,p,hz⟩:=I.tuple S
  obtain⟨u,hu,ru⟩:=rv.get hx
  obtain⟨Y,f1,f2,f3,U,f5⟩:=hf it (by simp)
  refine wpAny_pyNext_tuple_item st (show s.heap.IsTuple a J.toArray from p) (x:=u) (by simpa using hu) fun h' O sb=>?_
  have I1:Inv X pins σ H { s with heap:=h' }:=I.turned (t':=s.toks) (fun b o F e=>(sb.2 b F).trans e) Y f1 f3 U f5
  obtain⟨o,e,c,d⟩:=id O
  exact⟨u,rfl,v0 (s:={ s with heap:=h' }) e c d (by decide) ⟨x,H,I1,ru,⟨rfl,fun ys hy=>by rw[I.tuple_inj hy S]; exact hx⟩,O,fun b F=>(hf b F).1⟩⟩
 done:=by
  intro X hP Z hK hc i pins s σ H E I hf st hg
  subst hP Z hK;obtain⟨xs,S,hx⟩:=hg
  obtain⟨J,rv,p,hz⟩:=I.tuple S
  obtain⟨Y,f1,f2,f3,U,f5⟩:=hf it (by simp)
  have hl:=rv.length;exact wpAny_pyNext_tuple_end (I.ok.hd hc) st (show s.heap.IsTuple a J.toArray from p) (by simp; omega) fun h' eb=>⟨rfl,I.turned (t':=s.toks) (fun b o F e=>eb b o F e) Y f1 f3 U f5⟩
 self:=fun _ _ _ _ _ st h=>wpAny_pyIter_tupleiter st h
theorem vn{P:Program}{w:World}{K:PySem.W.Frag}{tg:Expr}(it:Addr)(lo:Int)(n:Nat):kG P w K tg (kU lo n) [it] it (fun i h=>IsRangeIter h it (lo+(i:Nat) * 1) ((n:Int) - (i:Nat)) 1) where
 mem:=by simp
 obj:=fun i h st b F=>by
  have e:b=it:=by simpa using F
  subst e
  exact⟨_,st,fun v z=>by
   have z':Data.fields _=Data.cell v:=z
   cases z'⟩
 keep:=fun i h h' st k=>k it (by simp) _ st
 item:=by
  intro X hP Y Z S i pins s σ H E I hf st hg
  subst hP Y Z;obtain⟨U,f1,f2,f3,O,f5⟩:=hf it (by simp)
  have W:=Walks.range (prog:=X.prog) (w:=X.w) (I.ok.hd S) it lo 1 n;refine W.item i s _ _ hg st fun v h' tk hv J kk=>?_
  obtain⟨t,rfl⟩:=hv
  have I1:Inv X pins σ H { s with heap:=h',toks:=tk }:=I.turned (fun b o F e=>kk b o (by simpa using F) e) U f1 f3 O f5
  refine⟨_,rfl,v0 (s:={ s with heap:=h',toks:=tk }) (n := "range_iterator") J rfl rfl (by decide) ⟨.int (lo+i),H,I1,⟨t,?_⟩,⟨rfl,rfl⟩,J,fun b F=>(hf b F).1⟩⟩
  rw[Int.mul_one]
 done:=by
  intro X hP Y Z S i pins s σ H E I hf st hg
  subst hP Y Z;obtain⟨U,f1,f2,f3,O,f5⟩:=hf it (by simp)
  exact wpAny_pyNext_range_end (I.ok.hd S) st (by have:n≤i:=hg; omega) fun h' eb=>⟨rfl,I.turned (t':=s.toks) (fun b o F e=>eb b o F e) U f1 f3 O f5⟩
 self:=fun _ _ _ _ _ st h=>wpAny_pyIter_rangeiter st h
section
variable{X:Cx}{tg:Expr}
noncomputable def vK(K:W.Frag)(tl:TE):TI:=fun σ H R=>tl σ H fun x H1=>∃ a,x = .ref a∧(∃ xs,ud K H1 a xs)∧R (kc K a) H1
noncomputable def zX(K:W.Frag)(tl:TE):TI:=fun σ H R=>tl σ H fun x H1=>∃ a,x = .ref a∧(∃ xs,vr K H1 a xs)∧R (ux K a) H1
theorem B5{l:Expr}{tl:TE}(hl:PE X l tl):PI X tg l (vK X.K tl):=by
 intro pins s σ H R I h
 refine bu (hl pins s σ H _ I h) fun v F ⟨x,H1,J,O,U⟩=>?_
 obtain⟨a,e,⟨xs,S⟩,q⟩:=U
 subst e
 cases O;obtain⟨W,Z,p,hz⟩:=J.list S
 refine wpAny_pyIter_list p.isList ?_
 refine⟨F.heap.objs.size,[F.heap.objs.size],_,_,H1,rfl,J.kept (t':=F.toks) fun b o e=>zz _ e,xn a _,⟨_,zV _ rfl,rfl,rfl⟩,fun b Y=>?_,q⟩
 have e:b=F.heap.objs.size:=by simpa using Y
 subst e;exact J.fpOk (zl _) (J.hok.fresh (zl _))
theorem Dm{l:Expr}{tl:TE}(hl:PE X l tl):PI X tg l (zX X.K tl):=by
 intro pins s σ H R I h
 refine bu (hl pins s σ H _ I h) fun v F ⟨x,H1,J,S,W⟩=>?_
 obtain⟨a,e,⟨xs,U⟩,q⟩:=W
 subst e
 cases S;obtain⟨O,Z,p,hz⟩:=J.tuple U
 refine wpAny_pyIter_tuple (show F.heap.IsTuple a O.toArray from p) ?_
 refine⟨F.heap.objs.size,[F.heap.objs.size],_,_,H1,rfl,J.kept (t':=F.toks) fun b o e=>zz _ e,vc a _,⟨_,zV _ rfl,rfl,rfl⟩,fun b Y=>?_,q⟩
 have e:b=F.heap.objs.size:=by simpa using Y
 subst e;exact J.fpOk (zl _) (J.hok.fresh (zl _))
theorem A0{pins:List (Addr × Obj)}{σ : St}{H:Hp}{s:Shared}{R:It→Hp→Prop}{E:Value→Shared→Prop}{lo hi:Int}{t u v:Tok}{F:Nat}(I:Inv X pins σ H s)(h1:-(2 ^ 62)≤lo)(h2:lo<2 ^ 62)(S:-(2 ^ 62)≤hi)(O:hi<2 ^ 62)
  (q:R (kU lo (hi - lo).toNat) H):wpAny (model X.prog X.w) X.A (pyIter (.ref s.heap.objs.size)) (GQ X pins σ tg R) E { s with heap:=s.heap.push { cls:=.type "range", data:=.fields #[.int lo t,.int hi u,.int 1 v] },toks:=F }:=by
 refine wpAny_pyIter_range (IsRange.new ..) (small_one h1 h2 S O) ?_
 have J:Inv X pins σ H { s with heap:=s.heap.push { cls:=.type "range", data:=.fields #[.int lo t,.int hi u,.int 1 v] },toks:=F }:=I.kept fun b o e=>zz _ e
 refine⟨(s.heap.push { cls:=.type "range", data:=.fields #[.int lo t,.int hi u,.int 1 v] }).objs.size,[(s.heap.push { cls:=.type "range", data:=.fields #[.int lo t,.int hi u,.int 1 v] }).objs.size],_,_,H,rfl,
  J.kept (t':=F) fun b o e=>zz _ e,vn _ lo (hi - lo).toNat,?_,fun b U=>?_,q⟩
 ·have Y:lo+((0:Nat):Int) * 1=lo:=by simp
  have W:(((hi - lo).toNat:Nat):Int) - ((0:Nat):Int)=Builtin.Range.rangeSize lo hi 1:=by rw[rangeSize_one]; split <;> omega
  show IsRangeIter _ _ (lo+((0:Nat):Int) * 1) ((((hi - lo).toNat:Nat):Int) - ((0:Nat):Int)) 1
  rw[Y,W];exact zV _ rfl
 ·have e:b=(s.heap.push { cls:=.type "range", data:=.fields #[.int lo t,.int hi u,.int 1 v] }).objs.size:=by simpa using U
  subst e;exact J.fpOk (zl _) (J.hok.fresh (zl _))
noncomputable def A5(ta:TA):TI:=fun σ H R=>ta σ H fun vs H1=>∃ j:Int,vs=[.int j]∧-(2 ^ 62)≤j∧j<2 ^ 62∧R (kU 0 j.toNat) H1
theorem cZ{a:Expr}{ta:TA}{p pos:Pos}(hg:Gl X "range") (W:X.mg "range" = none) (O:PA X [a] ta) (Y:starEach [a] X.env=[(false,eval a X.env)]:=by rfl):PI X tg (.Call (.Name "range" p) [a] [] pos) (A5 ta):=by
 intro pins s σ H R I h
 refine Call_ (h8 I hg W boot_range (zaW (bu (O pos pins s σ H _ I h) fun us Z ⟨vs,H1,U,S,F⟩=>?_) Y rfl))
 obtain⟨j,e,F,J,q⟩:=F
 subst e
 cases S with
 | cons r rr=>
  cases rr;obtain⟨t,rfl⟩:=r
  exact call_range_1 (A0 U (by omega) (by omega) F J (by simpa using q))
noncomputable def EM(wi:TI)(g:TG)(tb:TS):TS:=fun D σ H=>wi σ H fun J H1=>∃ W:Nat→Nat→St→Hp→Prop,(∃ m,W 0 m σ H1)∧∀ i m σ H,W i m σ H→
 (J.stop i H∧D.nx σ H)∨(J.go i H∧∃ N:St→Hp→Prop,(∀ σ' H',N σ' H'→∃ m',m'<m∧W (i+1) m' σ' H')∧∀ x H',J.yld i H x H'→g x σ H' fun σ2 H2=>tb { D with nx:=N,ct:=N,bk:=D.nx } σ2 H2)
noncomputable def i_(fp:List Addr)(h:Heap):List (Addr × Obj):=fp.filterMap fun b=>(h.get? b).map fun o=>(b,o)
theorem gg{fp:List Addr}{h:Heap}{b:Addr}{o:Obj}(F:b∈fp)(e:h.get? b=some o):(b,o)∈i_ fp h:=Hw.mpr ⟨b,F,by rw[e]; rfl⟩
theorem yc{fp:List Addr}{h:Heap}{p:Addr × Obj}(F:p∈i_ fp h):p.1∈fp∧h.get? p.1=some p.2:=by
 obtain⟨b,J,e⟩:=Hw.mp F
 cases q:h.get? b with
 | none=>rw[q]at e; cases e
 | some o=>
  rw[q]at e
  have O:(b,o)=p:=Option.some.inj e
  subst O;exact⟨J,q⟩
theorem Inv.pinned{pins:List (Addr × Obj)}{σ : St}{H:Hp}{s:Shared}{fp:List Addr}(I:Inv X pins σ H s)(hf:∀ b∈fp,gF X pins H b)(Y:∀ b∈fp,∃ o,s.heap.get? b=some o∧∀ v,o.data ≠ .cell v):Inv X (pins++i_ fp s.heap) σ H s:=
 I.pins_of fun p W=>(Hj.mp W).elim (fun z=>I.pin p (kr _ z)) fun z=>by
  obtain⟨J,e⟩:=yc z
  obtain⟨S,U,O,_⟩:=hf p.1 J
  obtain⟨o,F,d⟩:=Y p.1 J
  rw[e]at F; cases F
  exact⟨e,S,U,O,d⟩
theorem Inv.unpinned{pins J:List (Addr × Obj)}{σ : St}{H:Hp}{s:Shared}(I:Inv X (pins++J) σ H s):Inv X pins σ H s:=I.pins_of fun p F=>I.pin p (kr _ (lZ _ F))
theorem b6{iter:Expr}{ab:List Stmt}{wi:TI}{g:TG}{tb:TS}{pos:Pos}(hp:PassesOwn (model X.prog X.w) X.A X.env X.xe)(hc:X.calm=true)(hi:PI X tg iter wi)(hg:PG X tg g)(O:Fi X ab tb)
  (hs:∀ x,foldedSetIterable iter X.env x=pure x:=by intro _; rfl):PS X (.For tg iter ab [] pos) (EM wi g tb):=by
 intro pins s σ H D I h
 refine wpAny_For (bu (hi pins s σ H _ I h) fun v s1 h1=>bu h1 fun a5 s2 h2=>?_) hs
 obtain⟨it,fp,tn,J,H2,e,I2,T,a3,f2,W,⟨m0,w0⟩,al⟩:=h2
 subst e
 -- what stays true of the iterator's objects through the loop
 have S:∀ {H':Hp},(∀ b∈fp,H' b=none)→∀ b∈fp,gF X pins H' b:=fun hn b O=>⟨hn b O,(f2 b O).2⟩
 refine codeAny_forLoop_any (fun n s'=>∃ i σ' H',Inv X pins σ' H' s'∧tn i s'.heap∧(∀ b∈fp,H' b=none)∧W i n σ' H') ?_ m0 ⟨0,σ,H2,I2,a3,fun b O=>(f2 b O).1,w0⟩
 rintro n s3 ⟨i,σ3,H3,I3,an,ag,w3⟩
 rcases al i n σ3 H3 w3 with ⟨stop,qn⟩ | ⟨go,N,hN,step⟩
 ·refine wpAny_passesOwn hp (bu (T.done X rfl rfl rfl hc i pins s3 σ3 H3 X.xe I3 (S ag) an stop) fun r s4 ⟨hr,I4⟩=>?_)
  subst hr;exact wpAny_execs_nil ⟨σ3,H3,I4,qn⟩
 ·refine wpAny_passesOwn hp (bu (T.item X rfl rfl rfl hc i pins s3 σ3 H3 X.xe I3 (S ag) an go) fun r s4 ⟨u,hr,h4⟩=>?_)
  subst hr;refine wpAny_passesOwn hp (bu h4 fun _ s5 ⟨x,H5,I5,r5,y5,ad,a4⟩=>?_)
  have as:=I5.pinned (S a4) (T.obj _ _ ad);refine wpAny_passesOwn hp (bu (hg _ s5 σ3 H5 x u _ as r5 (step x H5 y5)) fun _ s6 ⟨σ6,H6,I6,q6⟩=>?_)
  refine wpAny_passesOwn hp (bu (O _ s6 σ6 H6 _ I6 q6) fun f s7 Z=>?_)
  have again:∀ {U:St} {F:Hp},Inv X (pins++i_ fp s5.heap) U F s7→N U F→∃ m,m<n∧∃ i σ' H',Inv X pins σ' H' s7∧tn i s7.heap∧(∀ b∈fp,H' b=none)∧W i m σ' H':=fun {U F} Y n7=>by
   obtain⟨m',hm,w7⟩:=hN U F n7
   refine⟨m',hm,i+1,U,F,Y.unpinned,T.keep _ _ _ ad fun b O o e=>(Y.pin (b,o) (kr _ (kr _ (gg O e)))).1,fun b O=>?_,w7⟩
   obtain⟨o,e,d⟩:=T.obj _ _ ad b O
   exact(Y.pin (b,o) (kr _ (kr _ (gg O e)))).2.1
  cases f with
  | next=>obtain⟨U,F,Y,n7⟩:=Z; exact again Y n7
  | cont=>obtain⟨U,F,Y,n7⟩:=Z; exact again Y n7
  | brk=>obtain⟨U,F,Y,Z⟩:=Z; exact⟨U,F,Y.unpinned,Z⟩
  | ret v=>obtain⟨x7,U,F,Y,r7,Z⟩:=Z; exact⟨x7,U,F,Y.unpinned,r7,Z⟩
end
theorem zJ{K:PySem.W.Frag}{a:Addr}{xs:List V}{g:TG}{tb:TS}{D:dz}{σ : St}{H:Hp}(F:Nat→St→Hp→Prop)(U:F 0 σ H)(hl:∀ i σ H,i≤xs.length→F i σ H→ud K H a xs)
  (Y:∀ i x σ H,xs[i]? = some x→F i σ H→g x σ H fun O H2=>tb { D with nx:=F (i+1),ct:=F (i+1),bk:=D.nx } O H2) (hd:∀ σ H,F xs.length σ H→D.nx σ H) :
  ∃ W:Nat→Nat→St→Hp→Prop,(∃ m,W 0 m σ H)∧∀ i m σ H,W i m σ H→
   ((kc K a).stop i H∧D.nx σ H)∨((kc K a).go i H∧∃ N:St→Hp→Prop,(∀ J H',N J H'→∃ m',m'<m∧W (i+1) m' J H')∧∀ x H',(kc K a).yld i H x H'→g x σ H' fun O H2=>tb { D with nx:=N,ct:=N,bk:=D.nx } O H2):=by
 refine⟨fun i m σ H=>m=xs.length - i∧i≤xs.length∧F i σ H,⟨xs.length,by simp,vL _,U⟩,?_⟩
 rintro i m σ H ⟨rfl,hi,p⟩
 have q:=hl i σ H hi p
 by_cases hlt:i<xs.length
 ·refine .inr ⟨⟨xs,xs[i],q,by simp[hlt]⟩,F (i+1),fun J H' S=>⟨xs.length - (i+1),by omega,rfl,hlt,S⟩,fun x H' y=>?_⟩
  obtain⟨e,y⟩:=y
  subst e;exact Y i x σ _ (y xs q) p
 ·have e:i=xs.length:=by omega
  subst e;exact .inl ⟨⟨xs,q,zl _⟩,hd σ H p⟩
theorem yu{lo:Int}{n:Nat}{g:TG}{tb:TS}{D:dz}{σ : St}{H:Hp}(F:Nat→St→Hp→Prop)(U:F 0 σ H)
  (Y:∀ i σ H,i<n→F i σ H→g (.int (lo+i)) σ H fun O H2=>tb { D with nx:=F (i+1),ct:=F (i+1),bk:=D.nx } O H2) (hd:∀ σ H,F n σ H→D.nx σ H) :
  ∃ W:Nat→Nat→St→Hp→Prop,(∃ m,W 0 m σ H)∧∀ i m σ H,W i m σ H→
   ((kU lo n).stop i H∧D.nx σ H)∨((kU lo n).go i H∧∃ N:St→Hp→Prop,(∀ J H',N J H'→∃ m',m'<m∧W (i+1) m' J H')∧∀ x H',(kU lo n).yld i H x H'→g x σ H' fun O H2=>tb { D with nx:=N,ct:=N,bk:=D.nx } O H2):=by
 refine⟨fun i m σ H=>m=n - i∧i≤n∧F i σ H,⟨n,by simp,vL _,U⟩,?_⟩
 rintro i m σ H ⟨rfl,hi,p⟩
 by_cases hlt:i<n
 ·refine .inr ⟨hlt,F (i+1),fun J H' S=>⟨n - (i+1),by omega,rfl,hlt,S⟩,fun x H' y=>?_⟩
  obtain⟨e,y⟩:=y
  subst e y;exact Y i σ _ hlt p
 ·have e:i=n:=by omega
  subst e;exact .inl ⟨zl _,hd σ H p⟩
abbrev R2:=V→V→Hp→VK→Prop
def Ek(X:Cx)(f:Value→Value→Sem Value)(r:R2):Prop:=
 ∀ (pins:List (Addr × Obj)) (s:Shared) (σ : St) (H:Hp) (x y:V) (v u:Value) (Q:VK),Inv X pins σ H s→RelV x v→RelV y u→r x y H Q→
  wpAny (model X.prog X.w) X.A (f v u) (EP X pins σ Q) X.xe s
def UnR(X:Cx)(f:Value→Sem Value)(r:V→Hp→VK→Prop):Prop:=
 ∀ (pins:List (Addr × Obj)) (s:Shared) (σ : St) (H:Hp) (x:V) (v:Value) (Q:VK),Inv X pins σ H s→RelV x v→r x H Q→
  wpAny (model X.prog X.w) X.A (f v) (EP X pins σ Q) X.xe s
def AL(X:Cx)(f:Value)(r:List V→Hp→VK→Prop):Prop:=
 ∀ (pins:List (Addr × Obj)) (s:Shared) (σ : St) (H:Hp) (xs:List V) (us:List Value) (Q:VK),Inv X pins σ H s→yl xs us→r xs H Q→
  wpAny (model X.prog X.w) X.A (call f us) (EP X pins σ Q) X.xe s
noncomputable def xM(r:R2)(ta tb:TE):TE:=fun σ H Q=>ta σ H fun x H1=>tb σ H1 fun y H2=>r x y H2 Q
noncomputable def Gw(r:V→Hp→VK→Prop)(ta:TE):TE:=fun σ H Q=>ta σ H fun x H1=>r x H1 Q
noncomputable def rI(C:Int→Int→Prop)(g:Int→Int→V):R2:=fun x y H Q=>∃ i j,x = .int i∧y = .int j∧C i j∧Q (g i j) H
noncomputable def lg(g:Int→Int→V):R2:=fun x y H Q=>∃ i j,x = .int i∧y = .int j∧Q (g i j) H
noncomputable def rU(g:Int→V):V→Hp→VK→Prop:=fun x H Q=>∃ i,x = .int i∧Q (g i) H
section
variable{X:Cx}{a b c:Expr}{ta tb tc:TE}{pos:Pos}
theorem zi(J:PE X a ta)(hb:PE X b tb){pins:List (Addr × Obj)}{s:Shared}{σ : St}{H:Hp}{R:V→V→Hp→Prop}(I:Inv X pins σ H s)
  (h:ta σ H fun x H1=>tb σ H1 fun y H2=>R x y H2) {Q:Value→Shared→Prop} {f:Value→Value→Sem Value}
  (hf:∀ v u s2 x y H2,Inv X pins σ H2 s2→RelV x v→RelV y u→R x y H2→wpAny (model X.prog X.w) X.A (f v u) Q X.xe s2) :
  wpAny (model X.prog X.w) X.A (eval a X.env) (fun v S=>wpAny (model X.prog X.w) X.A (eval b X.env) (fun u W=>wpAny (model X.prog X.w) X.A (f v u) Q X.xe W) X.xe S) X.xe s:=by
 refine bu (J pins s σ H _ I h) fun v Y ⟨x,H1,Z,O,U⟩=>?_
 refine bu (hb pins Y σ H1 _ Z U) fun u s2 ⟨y,H2,I2,r2,F⟩=>?_
 exact hf v u s2 x y H2 I2 O r2 F
theorem ak{op:Operator}{r:R2}(W:Ek X (binaryOp op) r)(F:PE X a ta)(U:PE X b tb):PE X (.BinOp a op b pos) (xM r ta tb):=by
 intro pins s σ H Q I h
 exact wpAny_BinOp (zi F U I h fun v u s2 x y H2 O S J q=>W pins s2 σ H2 x y v u Q O S J q)
theorem fN{op:UnaryOp}{r:V→Hp→VK→Prop}(W:UnR X (unaryOp op) r)(F:PE X a ta):PE X (.UnaryOp op a pos) (Gw r ta):=by
 intro pins s σ H Q I h
 exact UnaryOp_ (bu (F pins s σ H _ I h) fun v S ⟨x,H1,U,J,O⟩=>W pins S σ H1 x v Q U J O)
theorem pq{f:Value→Value→Sem Value}{C:Int→Int→Prop}{g:Int→Int→Int}
  (rule:∀ (i j:Int) (t u:Tok) (s:Shared) (Q:Value→Shared→Prop) (E:Value→Shared→Prop),C i j→Q (.int (g i j) s.toks) { s with toks:=s.toks+1 }→wpAny (model X.prog X.w) X.A (f (.int i t) (.int j u)) Q E s) :
  Ek X f (rI C fun i j=>.int (g i j)):=by
 intro pins s σ H x y v u Q I O J h
 obtain⟨i,j,rfl,rfl,F,q⟩:=h
 obtain⟨t,rfl⟩:=O
 obtain⟨t',rfl⟩:=J
 exact rule i j t t' s _ _ F ⟨.int (g i j),H,I.tok _,⟨_,rfl⟩,q⟩
theorem zq{f:Value→Value→Sem Value}{g:Int→Int→Int}
  (rule:∀ (i j:Int) (t u:Tok) (s:Shared) (Q:Value→Shared→Prop) (E:Value→Shared→Prop),Q (.int (g i j) s.toks) { s with toks:=s.toks+1 }→wpAny (model X.prog X.w) X.A (f (.int i t) (.int j u)) Q E s) :
  Ek X f (lg fun i j=>.int (g i j)):=by
 intro pins s σ H x y v u Q I J F h
 obtain⟨i,j,rfl,rfl,q⟩:=h
 obtain⟨t,rfl⟩:=J
 obtain⟨t',rfl⟩:=F
 exact rule i j t t' s _ _ ⟨.int (g i j),H,I.tok _,⟨_,rfl⟩,q⟩
theorem zv{f:Value→Value→Sem Value}{g:Int→Int→Bool}
  (rule:∀ (i j:Int) (t u:Tok) (s:Shared) (Q:Value→Shared→Prop) (E:Value→Shared→Prop),Q (.bool (g i j)) s→wpAny (model X.prog X.w) X.A (f (.int i t) (.int j u)) Q E s) :
  Ek X f (lg fun i j=>.bl (g i j)):=by
 intro pins s σ H x y v u Q I J F h
 obtain⟨i,j,rfl,rfl,q⟩:=h
 obtain⟨t,rfl⟩:=J
 obtain⟨t',rfl⟩:=F
 exact rule i j t t' s _ _ ⟨.bl (g i j),H,I,rfl,q⟩
def IF(i j:Int):Prop:=0<j∧j<1073741824
def E9(i j:Int):Prop:=0≤j∧j≤1000000∧i.natAbs<2 ^ 64
def FF(i j:Int):Prop:=(-(2 ^ 64)<i∧i<2 ^ 64)∨(-(2 ^ 64)<j∧j<2 ^ 64)
theorem FF.ok{i j:Int}(h:FF i j):IntMulOk i j:=by
 rcases h with ⟨h1,h2⟩ | ⟨h1,h2⟩
 ·exact .of_left (intBits_le_64 h1 h2)
 ·exact .of_right (intBits_le_64 h1 h2)
theorem wu(k:Nat):(0:Int)≤2 ^ k:=by
 rw[two_pow_cast];exact Int.natCast_nonneg _
theorem Ft:Ek X (binaryOp .Add) (lg fun i j=>.int (i+j)):=zq fun _ _ _ _ _ _ _ q=>add_int q
theorem ji:Ek X (binaryOp .Sub) (lg fun i j=>.int (i - j)):=zq fun _ _ _ _ _ _ _ q=>sub_int q
theorem FH:Ek X (binaryOp .Mult) (rI FF fun i j=>.int (i * j)):=pq fun _ _ _ _ _ _ _ F q=>mul_int q F.ok
theorem cK:Ek X (binaryOp .FloorDiv) (rI IF fun i j=>.int (i / j)):=pq fun i j _ _ _ _ _ F q=>by
 have h1:(0:Int)<j:=F.1
 have h2:j<1073741824:=F.2
 exact floordiv_int (by omega) (by rw[zbd i (by omega)]; exact q) (.inl (PyProof.noPylong_small (by omega)))
theorem bq:Ek X (binaryOp .Mod) (rI (fun _ j=>0<j) fun i j=>.int (i % j)):=pq fun i j _ _ _ _ _ F q=>by
 have h1:(0:Int)<j:=F
 exact mod_int' (by omega) (by rw[Int.fmod_eq_emod_of_nonneg i (by omega)]; exact q)
theorem jo:Ek X (binaryOp .Pow) (rI E9 fun i j=>.int (i ^ j.toNat)):=pq fun _ _ _ _ _ _ _ F q=>pow_int_small F.1 F.2.1 F.2.2 q
theorem dZ:Ek X (binaryOp .LShift) (rI E9 fun i j=>.int (i * 2 ^ j.toNat)):=pq fun _ _ _ _ _ _ _ F q=>lshift_int_small F.1 F.2.1 F.2.2 q
theorem qV:Ek X (binaryOp .RShift) (rI (fun _ j=>0≤j) fun i j=>.int (i / 2 ^ j.toNat)):=pq fun i j _ _ _ _ _ F q=>
 rshift_int F (by rw[zbd i (wu _)]; exact q)
theorem jF:Ek X (binaryOp .BitAnd) (lg fun i j=>.int (Builtin.bitAnd i j)):=zq fun _ _ _ _ _ _ _ q=>and_int q
theorem GA{f:Value→Sem Value}{g:Int→Int}
  (rule:∀ (i:Int) (t:Tok) (s:Shared) (Q:Value→Shared→Prop) (E:Value→Shared→Prop),Q (.int (g i) s.toks) { s with toks:=s.toks+1 }→wpAny (model X.prog X.w) X.A (f (.int i t)) Q E s) :
  UnR X f (rU fun i=>.int (g i)):=by
 intro pins s σ H x v Q I F h
 obtain⟨i,rfl,q⟩:=h
 obtain⟨t,rfl⟩:=F
 exact rule i t s _ _ ⟨.int (g i),H,I.tok _,⟨_,rfl⟩,q⟩
theorem fc:UnR X (unaryOp .USub) (rU fun i=>.int (-i)):=GA fun _ _ _ _ _ q=>neg_int q
theorem CT:UnR X (unaryOp .Invert) (rU fun i=>.int (Builtin.bitNot i)):=GA fun _ _ _ _ _ q=>invert_int q
end
noncomputable def qj:V→V→Bool
 | .non,.non=>true | .non,.int _=>true | .int _,.non=>true | .non,.bl _=>true | .bl _,.non=>true | .non,.str _=>true | .str _,.non=>true
 | .int _,.int _=>true | .bl _,.bl _=>true | .str _,.str _=>true | .byt _,.byt _=>true
 | .int _,.str _=>true | .str _,.int _=>true | .bl _,.str _=>true | .str _,.bl _=>true
 | _,_=>false
noncomputable def Gu:R2:=fun x y H Q=>qj x y=true∧Q (.bl (decide (x=y))) H
noncomputable def GC:R2:=fun x y H Q=>qj x y=true∧Q (.bl (!decide (x=y))) H
theorem sK{i j:Int}:decide (V.int i=V.int j)=(i == j):=by
 rw[zaF];simp
theorem xu{i j:Bool}:decide (V.bl i=V.bl j)=(i == j):=by
 rw[zaF];simp
theorem sP{i j:Str}:decide (V.str i=V.str j)=(i == j):=by
 rw[zaF];simp
theorem um{i j:Array UInt8}:decide (V.byt i=V.byt j)=(i.toList == j.toList):=by
 rw[zaF]
 cases i
 cases j;simp
section
variable{X:Cx}{a b c:Expr}{ta tb tc:TE}{pos:Pos}
theorem br{pins:List (Addr × Obj)}{σ : St}{H:Hp}{s:Shared}{Q:VK}{k F:Bool}(I:Inv X pins σ H s)(q:Q (.bl k) H)(e:k=F):EP X pins σ Q (.bool F) s:=by
 subst e;exact⟨.bl k,H,I,rfl,q⟩
theorem F6:Ek X (compareOp .Eq) Gu:=by
 intro pins s σ H x y v u Q I O F h
 obtain⟨J,q⟩:=h
 cases x with
 | non=>
  cases O
  cases y with
  | non=>cases F; exact EqNone.eq_none_none (br I q (by simp))
  | bl j=>cases F; exact EqNone.eq_none_bool (br I q (by simp))
  | int j=>obtain⟨t',rfl⟩:=F; exact EqNone.eq_none_int (br I q (by simp))
  | str j=>obtain⟨t',rfl⟩:=F; exact EqNone.eq_none_str (br I q (by simp))
  | _=>exact absurd (show false=true from J) wj
 | bl i=>
  cases O
  cases y with
  | non=>cases F; exact EqNone.eq_bool_none (br I q (by simp))
  | bl j=>cases F; exact eq_bool (br I q xu)
  | str j=>obtain⟨t',rfl⟩:=F; exact EqMixed.eq_bool_str (br I q (by simp))
  | _=>exact absurd (show false=true from J) wj
 | int i=>
  obtain⟨t,rfl⟩:=O
  cases y with
  | non=>cases F; exact EqNone.eq_int_none (br I q (by simp))
  | int j=>obtain⟨t',rfl⟩:=F; exact eq_int (br I q sK)
  | str j=>obtain⟨t',rfl⟩:=F; exact EqMixed.eq_int_str (br I q (by simp))
  | _=>exact absurd (show false=true from J) wj
 | str i=>
  obtain⟨t,rfl⟩:=O
  cases y with
  | non=>cases F; exact EqNone.eq_str_none (br I q (by simp))
  | bl j=>cases F; exact EqMixed.eq_str_bool (br I q (by simp))
  | int j=>obtain⟨t',rfl⟩:=F; exact EqMixed.eq_str_int (br I q (by simp))
  | str j=>obtain⟨t',rfl⟩:=F; exact eq_str (br I q sP)
  | _=>exact absurd (show false=true from J) wj
 | byt i=>
  obtain⟨t,rfl⟩:=O
  cases y with
  | byt j=>obtain⟨t',rfl⟩:=F; exact W.eq_bytes (br I q um)
  | _=>exact absurd (show false=true from J) wj
 | _=>cases y <;> exact absurd (show false=true from J) wj
theorem Gi:Ek X (compareOp .NotEq) GC:=by
 intro pins s σ H x y v u Q I O F h
 obtain⟨J,q⟩:=h
 cases x with
 | non=>
  cases O
  cases y with
  | non=>cases F; exact EqNone.ne_none_none (br I q (by simp))
  | bl j=>cases F; exact EqNone.ne_none_bool (br I q (by simp))
  | int j=>obtain⟨t',rfl⟩:=F; exact EqNone.ne_none_int (br I q (by simp))
  | str j=>obtain⟨t',rfl⟩:=F; exact EqNone.ne_none_str (br I q (by simp))
  | _=>exact absurd (show false=true from J) wj
 | bl i=>
  cases O
  cases y with
  | non=>cases F; exact EqNone.ne_bool_none (br I q (by simp))
  | bl j=>cases F; exact ne_bool (br I q (congrArg not xu))
  | str j=>obtain⟨t',rfl⟩:=F; exact EqMixed.ne_bool_str (br I q (by simp))
  | _=>exact absurd (show false=true from J) wj
 | int i=>
  obtain⟨t,rfl⟩:=O
  cases y with
  | non=>cases F; exact EqNone.ne_int_none (br I q (by simp))
  | int j=>obtain⟨t',rfl⟩:=F; exact ne_int (br I q (congrArg not sK))
  | str j=>obtain⟨t',rfl⟩:=F; exact EqMixed.ne_int_str (br I q (by simp))
  | _=>exact absurd (show false=true from J) wj
 | str i=>
  obtain⟨t,rfl⟩:=O
  cases y with
  | non=>cases F; exact EqNone.ne_str_none (br I q (by simp))
  | bl j=>cases F; exact EqMixed.ne_str_bool (br I q (by simp))
  | int j=>obtain⟨t',rfl⟩:=F; exact EqMixed.ne_str_int (br I q (by simp))
  | str j=>obtain⟨t',rfl⟩:=F; exact ne_str (br I q (congrArg not sP))
  | _=>exact absurd (show false=true from J) wj
 | byt i=>
  obtain⟨t,rfl⟩:=O
  cases y with
  | byt j=>obtain⟨t',rfl⟩:=F; exact W.ne_bytes (br I q (congrArg not um))
  | _=>exact absurd (show false=true from J) wj
 | _=>cases y <;> exact absurd (show false=true from J) wj
theorem F3:Ek X (compareOp .Lt) (lg fun i j=>.bl (decide (i<j))):=zv fun _ _ _ _ _ _ _ q=>lt_int q
theorem FT:Ek X (compareOp .LtE) (lg fun i j=>.bl (decide (i≤j))):=zv fun _ _ _ _ _ _ _ q=>le_int q
theorem la:Ek X (compareOp .Gt) (lg fun i j=>.bl (decide (j<i))):=zv fun _ _ _ _ _ _ _ q=>gt_int q
theorem yv:Ek X (compareOp .Lt) (fun x y H Q=>∃ i j,x = .str i∧y = .str j∧Q (.bl (decide (i.cps.toList<j.cps.toList))) H):=by
 intro pins s σ H x y v u Q I J F h
 obtain⟨i,j,rfl,rfl,q⟩:=h
 obtain⟨t,rfl⟩:=J
 obtain⟨t',rfl⟩:=F
 exact lt_str (br I q rfl)
theorem w5:Ek X (compareOp .In) (fun x y H Q=>∃ i j,x = .str i∧y = .str j∧Q (.bl (!(Builtin.Str.occurrences j i 0 j.length 1).isEmpty)) H):=by
 intro pins s σ H x y v u Q I J F h
 obtain⟨i,j,rfl,rfl,q⟩:=h
 obtain⟨t,rfl⟩:=J
 obtain⟨t',rfl⟩:=F
 exact in_str (br I q rfl)
theorem C8:Ek X (compareOp .Is) (fun x y H Q=>y = .non∧Q (.bl (decide (x = .non))) H):=by
 intro pins s σ H x y v u Q I F J h
 obtain⟨rfl,q⟩:=h
 cases J;refine is_none_gen (br I q ?_)
 cases x <;> first
  | (cases F; rfl)
  | (obtain⟨t,rfl⟩:=F; rfl)
theorem CM:Ek X (compareOp .IsNot) (fun x y H Q=>y = .non∧Q (.bl (!decide (x = .non))) H):=by
 intro pins s σ H x y v u Q I F J h
 obtain⟨rfl,q⟩:=h
 cases J;refine isnot_none_gen (br I q ?_)
 cases x <;> first
  | (cases F; rfl)
  | (obtain⟨t,rfl⟩:=F; rfl)
theorem rE:Ek X (compareOp .NotIn) (fun x y H Q=>∃ i j,x = .str i∧y = .str j∧Q (.bl (!(!(Builtin.Str.occurrences j i 0 j.length 1).isEmpty))) H):=by
 intro pins s σ H x y v u Q I J F h
 obtain⟨i,j,rfl,rfl,q⟩:=h
 obtain⟨t,rfl⟩:=J
 obtain⟨t',rfl⟩:=F
 exact notIn_str (br I q rfl)
theorem aF(b:Expr){op:CmpOp}(h:op ≠ .In:=by decide)(h2:op ≠ .NotIn:=by decide):behindInMarks op b=false:=by
 have J:(op == CmpOp.In)=false:=by cases op <;> first | rfl | exact absurd rfl h
 have F:(op == CmpOp.NotIn)=false:=by cases op <;> first | rfl | exact absurd rfl h2
 cases b <;> simp[behindInMarks,J,F]
theorem cY{op:CmpOp}{r:R2}(Y:Ek X (compareOp op) r)(F:PE X a ta)(W:PE X b tb)(U:behindInMarks op b=false):PE X (.Compare a [op] [b] pos) (xM r ta tb):=by
 intro pins s σ H Q I h
 exact wpAny_Compare1 (zi F W I h fun v u s2 x y H2 O S J q=>Y pins s2 σ H2 x y v u Q O S J q) U
noncomputable def BA(t:TE):TT:=fun σ H Q=>t σ H fun x H'=>∃ k,x = .bl k∧Q k H'
theorem aB{op:CmpOp}{r:R2}(ho:Ek X (compareOp op) r)(O:PE X a ta)(hb:PE X b tb)(hm:behindInMarks op b=false):PT X (.Compare a [op] [b] pos) (BA (xM r ta tb)):=by
 intro pins s σ H Q I h
 refine wpAny_isTrue_Compare1 (bu (O pins s σ H _ I h) fun v Z ⟨x,H1,I1,U,W⟩=>bu (hb pins Z σ H1 _ I1 W) fun u s2 ⟨y,H2,Y,r2,J⟩=>
  bu (ho pins s2 σ H2 x y v u _ Y U r2 J) fun c s3 ⟨z,H3,S,F,k,e,q3⟩=>?_) hm
 subst e
 cases F;exact wpAny_truthy_bool ⟨H3,S,q3⟩
theorem hZ:(sizeLine:Nat)<2 ^ 63:=by rw[sizeLine_eq]; decide
theorem wc:Ek X (binaryOp .Add) (fun x y H Q=>∃ i j,x = .str i∧y = .str j∧i.length+j.length≤sizeLine∧Q (.str (i++j)) H):=by
 intro pins s σ H x y v u Q I J F h
 obtain⟨i,j,rfl,rfl,hz,q⟩:=h
 obtain⟨t,rfl⟩:=J
 obtain⟨t',rfl⟩:=F
 exact add_str (fun t' O=>⟨.str (i++j),H,I.tok _,⟨_,rfl⟩,q⟩) hz
theorem cT{x:V}{F:List Value}(r:yl [x] F):∃ u,F=[u]∧RelV x u:=by
 cases r with
 | cons r1 r2=>cases r2; exact⟨_,rfl,r1⟩
theorem kS{x y:V}{F:List Value}(r:yl [x,y] F):∃ u w',F=[u,w']∧RelV x u∧RelV y w':=by
 cases r with
 | cons r1 r2=>
  cases r2 with
  | cons r3 r4=>cases r4; exact⟨_,_,rfl,r1,r3⟩
theorem xx(F:X.calm=true):AL X (.builtin "max") (fun xs H Q=>∃ i j,xs=[.int i,.int j]∧Q (.int (if j>i then j else i)) H):=by
 intro pins s σ H xs S Q I r h
 obtain⟨i,j,rfl,q⟩:=h
 obtain⟨u,J,rfl,⟨t,rfl⟩,⟨t',rfl⟩⟩:=kS r
 refine max_two_ints (I.ok.hd F) fun h' O k=>⟨_,H,I.kept k,?_,q⟩
 by_cases hj:j>i
 ·rw[Hf hj,Hf hj]; exact⟨_,rfl⟩
 ·rw[He hj,He hj]; exact⟨_,rfl⟩
theorem wY:AL X (.type "int") (fun xs H Q=>(∃ i,xs=[.int i]∧Q (.int i) H)∨∃ k,xs=[.bl k]∧Q (.int (if k then 1 else 0)) H):=by
 intro pins s σ H xs J Q I r h
 rcases h with ⟨i,rfl,q⟩ | ⟨k,rfl,q⟩
 ·obtain⟨u,rfl,t,rfl⟩:=cT r
  exact call_int_int ⟨.int i,H,I,⟨_,rfl⟩,q⟩
 ·obtain⟨u,rfl,F⟩:=cT r
  cases F;exact call_int_bool ⟨.int (if k then 1 else 0),H,I.tok _,⟨_,rfl⟩,q⟩
theorem pL:AL X (.type "str") (fun xs H Q=>∃ i,xs=[.int i]∧i.natAbs.log2<1920∧Q (.str (toString i)) H):=by
 intro pins s σ H xs F Q I r h
 obtain⟨i,rfl,hz,q⟩:=h
 obtain⟨u,rfl,t,rfl⟩:=cT r
 exact P.str_of_int hz ⟨.str _,H,I.tok _,⟨_,rfl⟩,q⟩
end
structure FA (h:Heap) (x dx C:Addr) (mA:Str→Option Value):Prop where
 obj:h.get? x=some (W.instObj C dx)
 ns:h.Ns1 dx mA
 ne:dx≠x
theorem xN{h:Heap}{dx:Addr}{mA:Str→Option Value}(n:h.Ns1 dx mA):∃ od,h.get? dx=some od∧∀ name,W.lookIn name od=some (mA name):=by
 obtain⟨o,es,ep,Y,hd,J,_,S⟩:=n
 refine⟨o,Y,fun name=>?_⟩
 have e:=S name;unfold nsFind findBy at e;rw[← Array.find?_toList]at e
 unfold W.lookIn;rw[hd]
 dsimp only
 split
 ·rename_i y q
  rw[q]at e
  exact congrArg some e
 ·rename_i q
  rw[q]at e
  have a:es.toList.any (·.refKey)=false:=by
   rw[List.any_eq_false];intro y U
   obtain⟨z,t,F⟩:=J y (Array.mem_toList_iff.mp U)
   simp[DictEntry.refKey,F]
  have O:¬ es.toList.any (·.refKey)=true:=by rw[a]; exact wj
  rw[He O];exact congrArg some e
theorem FA.look{h:Heap}{x dx C:Addr}{mA:Str→Option Value}(I:FA h x dx C mA):∃ od,W.InstAt h x (W.instObj C dx) C (some od)∧∀ name,W.lookIn name od=some (mA name):=
 let ⟨od,ho,hl⟩:=xN I.ns
 ⟨od,⟨I.obj,rfl,rfl,ho⟩,hl⟩
section
variable{prog:Program}{w:World}{A:Around}{E:Value→Shared→Prop}{s:Shared}{K:W.Frag}{x dx C f:Addr}{mA:Str→Option Value}{name:Str}{v:Value}
theorem Cd{F:Bool}{Q:Value→Shared→Prop}(X:K.In s.heap)(I:FA s.heap x dx C mA)(hg:W.plainGet K C name=true)(hh:W.hasDictIn K C=true)
  (S:W.findIn K (.ref C) name=some none) (hv:mA name=some v) (O:W.handedIn v=true) (h:Q v { s with toks:=s.toks+1 }) :
  wpAny (model prog w) A (getAttr (.ref x) name F) Q E s:=by
 obtain⟨U,J,hl⟩:=I.look
 exact W.get_value X J (W.plainGet_of hg).1 (W.findObj_own hh S rfl (by rw[hl,hv])) O h
theorem Cb{ns:List Str}{Q:Unit→Shared→Prop}(X:K.In s.heap)(I:FA s.heap x dx C mA)
  (hs:W.findIn K (.ref C) "__setattr__" = some (some (.builtin "object.__setattr__"))) (hp:W.plainOver K C=true) (ht:W.takerIn K C name=some none) (hh:W.hasDictIn K C=true)
  (hw:PySem.Within mA ns) (hsz:ns.length≤sizeLine)
  (h:∀ h',FA h' x dx C (fun y=>if y=name then some v else mA y)→Heap.SameBut dx s.heap h'→Q () { s with heap:=h',toks:=s.toks+2 }) :
  wpAny (model prog w) A (setAttr (.ref x) name v) Q E s:=by
 obtain⟨od,J,hl⟩:=I.look
 refine W.set_plain X J hs (W.osa_open (s:={ s with toks:=s.toks+1 }) (r:=none) X J hp ht fun b=>?_)
 obtain⟨cd,hc,Z⟩:=W.any_some hh
 have hx:s.heap.get? x=some ⟨.ref C,some dx,.plain,#[]⟩:=I.obj
 refine G8 (Hc (G8 (G8 (wpAny_loadPart hx (G8 (W.Looks.here (s:={ s with toks:=s.toks+1 }) (W.looks_clsIn X hc) ?_))))))
 rw[Z];refine Hc (a:=some dx) (G8 (Hc (G8 ?_)))
 refine wpAny_nsSet1 (s:={ s with toks:=s.toks+1 }) I.ns fun h' O F=>?_
 obtain⟨oD,ab,ad,S,U,Y⟩:=O.count (Within.cons name v hw)
 refine G8 (wpAny_lookBehind S (by rw[U]; exact pastItsLine_dict (gV Y (by rw[zx]; omega))) ?_)
 exact Hc (h _ ⟨(F.2 _ (ve I.ne)).trans I.obj,O,I.ne⟩ F)
theorem Ah{R:Result→Shared→Prop}{vs:List Value}{F:List (Str × Value)}(X:K.In s.heap)(J:W.makesIn K C=true)
  (hi:W.findIn K (.ref C) "__init__" = some (some (.ref f))) (hf:W.typeIn K (.ref f)=some (.type "function"))
  (h:codeAny (model prog w) (A.under (.builtin "type.__call__" ⟨.ref C::vs,F⟩)) (.call (.ref f) ⟨.ref (s.heap.objs.size+1)::vs,F⟩) (W.InitBack (s.heap.objs.size+1) R)
   { s with heap:=(s.heap.push W.emptyDict).push (W.instObj C s.heap.objs.size) }) :
  codeAny (model prog w) A (.call (.ref C) ⟨vs,F⟩) R s:=by
 obtain⟨hh,g,d,t,os⟩:=s
 exact W.make_core (W.makes_of X J) (W.looks_findIn X hi) (fun self=>W.bind_fn X self hf) (.inl rfl) h
end
noncomputable def bE(f:Str)(v:V):List (Str × V)→List (Str × V)
 | []=>[(f,v)]
 | (g,x)::r=>if g=f then (g,v)::r else (g,x)::bE f v r
theorem jU(f g:Str)(v:V):∀ fs:List (Str × V),(bE f v fs).lookup g=if g=f then some v else fs.lookup g
 | []=>by
  show List.lookup g [(f,v)]=_
  by_cases h:g=f
  ·have F:(g == f)=true:=beq_iff_eq.mpr h
   simp only[List.lookup,F,Hf h]
  ·have F:(g == f)=false:=beq_eq_false_iff_ne.mpr h
   simp only[List.lookup,F,He h]
 | (k,x)::r=>by
  have ih:=jU f g v r;rw[show bE f v ((k,x)::r)=(if k=f then (k,v)::r else (k,x)::bE f v r) from rfl]
  by_cases hk:k=f
  ·rw[Hf hk]
   by_cases h:g=k
   ·have F:(g == k)=true:=beq_iff_eq.mpr h
    simp only[List.lookup,F,Hf (h.trans hk)]
   ·have F:(g == k)=false:=beq_eq_false_iff_ne.mpr h
    simp only[List.lookup,F,He (fun e:g=f=>h (e.trans hk.symm))]
  ·rw[He hk]
   by_cases h:g=k
   ·have F:(g == k)=true:=beq_iff_eq.mpr h
    simp only[List.lookup,F,He (fun e:g=f=>hk (h.symm.trans e))]
   ·have F:(g == k)=false:=beq_eq_false_iff_ne.mpr h
    simp only[List.lookup,F]
    exact ih
theorem jx(f:Str)(v:V):∀ fs:List (Str × V),f∈(bE f v fs).map (·.1)∧∀ g,g∈fs.map (·.1)→g∈(bE f v fs).map (·.1)
 | []=>⟨by simp[bE],fun g h=>by simp at h⟩
 | (k,x)::r=>by
  obtain⟨i1,i2⟩:=jx f v r
  rw[show bE f v ((k,x)::r)=(if k=f then (k,v)::r else (k,x)::bE f v r) from rfl]
  by_cases hk:k=f
  ·rw[Hf hk]
   subst hk;exact⟨by simp,fun g h=>by simpa using h⟩
  ·rw[He hk]
   refine⟨?_,fun g h=>?_⟩
   ·rw[zW]
    exact zO _ i1
   ·rw[zW]at h ⊢
    rcases Hi.mp h with e | e
    ·exact Hi.mpr (.inl e)
    ·exact zO _ (i2 g e)
theorem jZ(f:Str)(v:V):∀ fs:List (Str × V),(bE f v fs).length≤fs.length+1
 | []=>by simp[bE]
 | (k,x)::r=>by
  have ih:=jZ f v r;rw[show bE f v ((k,x)::r)=(if k=f then (k,v)::r else (k,x)::bE f v r) from rfl]
  by_cases hk:k=f
  ·rw[Hf hk,zx,zx]; omega
  ·rw[He hk,zx,zx]; omega
theorem EU.some_of{v:V}{o:Option Value}(r:EU (some v) o):∃ u,o=some u∧RelV v u:=by
 cases o with
 | none=>exact(show False from r).elim
 | some u=>exact⟨u,rfl,r⟩
theorem yE{v:V}{u:Value}(r:RelV v u):W.handedIn u=true:=by
 cases v with
 | non=>cases (show u=Value.none from r); rfl
 | bl b=>cases (show u=Value.bool b from r); rfl
 | int i=>obtain⟨t,e⟩:=(show ∃ t,u=Value.int i t from r); cases e; rfl
 | str x=>obtain⟨t,e⟩:=(show ∃ t,u=Value.str x t from r); cases e; rfl
 | byt b=>obtain⟨t,e⟩:=(show ∃ t,u=Value.bytes b t from r); cases e; rfl
 | flt b=>obtain⟨t,e⟩:=(show ∃ t,u=Value.float b t from r); cases e; rfl
 | ref a=>cases (show u=Value.ref a from r); rfl
 | ty n=>cases (show u=Value.type n from r); rfl
section
variable{P:Program}{w:World}{H H':Hp}{h h':Heap}{a C dx:Addr}{fs fs':List (Str × V)}
theorem mi(hok:EQ P w H h)(e:H a=some (.ins C dx fs)):∃ mA,FA h a dx C mA∧(∀ f,EU (fs.lookup f) (mA f))∧PySem.Within mA (fs.map (·.1))∧fs.length≤1000∧H dx=some (.own a):=by
 obtain⟨d,z,ne,F,mA,n,r,q⟩:=(show Ax P w H h a (.ins C dx fs) from hok a _ e)
 exact⟨mA,⟨F,n,ne⟩,r,q,z,d⟩
end
structure GY (K:W.Frag) (C:Addr):Prop where
 pg:W.plainGet K C Str.empty=true
 hd:W.hasDictIn K C=true
 po:W.plainOver K C=true
 sa:W.findIn K (.ref C) "__setattr__" = some (some (.builtin "object.__setattr__"))
theorem GY.get{K:W.Frag}{C:Addr}(c:GY K C)(f:Str):W.plainGet K C f=true:=c.pg
def E5(K:W.Frag)(C:Addr)(f:Str):Prop:=W.findIn K (.ref C) f=some none
theorem E5.taker{K:W.Frag}{C:Addr}{f:Str}(n:E5 K C f):W.takerIn K C f=some none:=by
 unfold W.takerIn;rw[show W.findIn K (.ref C) f=some none from n]
 rfl
section
variable{X:Cx}{pins:List (Addr × Obj)}{σ : St}{H:Hp}{s:Shared}{a C dx:Addr}{fs:List (Str × V)}{f:Str}{v:V}{A:Around}{E:Value→Shared→Prop}
theorem v7{b:Bool}{Q:Value→Shared→Prop}(I:Inv X pins σ H s)(e:H a=some (.ins C dx fs))(c:GY X.K C)(n:E5 X.K C f)(l:fs.lookup f=some v)
  (h:∀ u s',Inv X pins σ H s'→RelV v u→Q u s'):wpAny (model X.prog X.w) A (getAttr (.ref a) f b) Q E s:=by
 obtain⟨mA,O,r,_,_,_⟩:=mi I.hok e
 obtain⟨u,J,F⟩:=EU.some_of (v:=v) (o:=mA f) (by rw[← l]; exact r f)
 exact Cd I.kIn O (c.get f) c.hd n J (yE F) (h u _ (I.tok _) F)
theorem wa{y:V}{u:Value}{Q:Unit→Shared→Prop}(I:Inv X pins σ H s)(e:H a=some (.ins C dx fs))(c:GY X.K C)(n:E5 X.K C f)(hl:fs.length<1000)(S:RelV y u)
  (h:∀ s',Inv X pins σ (upd H a (.ins C dx (bE f y fs))) s'→Q () s'):wpAny (model X.prog X.w) A (setAttr (.ref a) f u) Q E s:=by
 obtain⟨mA,O,r,wi,_,J⟩:=mi I.hok e
 have hz:(fs.map (·.1)).length≤sizeLine:=by rw[ze,sizeLine_eq]; omega
 refine Cb I.kIn O c.sa c.po n.taker c.hd wi hz fun h' F W=>h _ ?_
 have hd:∃ o,h'.get? dx=some o:=let ⟨o,_,_,e',_⟩:=F.ns; ⟨o,e'⟩
 refine I.write (x:=a) (e:=dx) (by rw[e]; exact True.intro) (.inr J) (fun b q U z=>(W.2 b U).trans z) hd ?_
 refine⟨by rw[au O.ne]; exact J,?_,O.ne,F.obj,_,F.ns,fun g=>?_,fun g hg=>?_⟩
 ·have:=jZ f y fs; omega
 ·show EU ((bE f y fs).lookup g) (if g=f then some u else mA g)
  rw[jU]
  by_cases q:g=f
  ·rw[Hf q,Hf q]; exact S
  ·rw[He q,He q]; exact r g
 ·by_cases q:g=f
  ·rw[q]; exact(jx f y fs).1
  ·refine(jx f y fs).2 g (wi g fun z=>hg ?_)
   show (if g=f then some u else mA g)=none
   rw[He q]; exact z
theorem Inv.made(I:Inv X pins σ H s):Inv X pins σ (upd (upd H s.heap.objs.size (.own (s.heap.objs.size+1))) (s.heap.objs.size+1) (.ins C s.heap.objs.size []))
  { s with heap:=(s.heap.push W.emptyDict).push (W.instObj C s.heap.objs.size) }:=by
 have F:(s.heap.push W.emptyDict).get? s.heap.objs.size=some W.emptyDict:=zV s.heap rfl
 have Y:((s.heap.push W.emptyDict).push (W.instObj C s.heap.objs.size)).get? (s.heap.objs.size+1)=some (W.instObj C s.heap.objs.size):=by
  have:=zV (s.heap.push W.emptyDict) (o:=W.instObj C s.heap.objs.size) rfl
  rwa [vY]at this
 have S:(s.heap.push W.emptyDict).Ns s.heap.objs.size (fun _=>none):=⟨W.emptyDict,#[],_,F,rfl,(fun e J=>absurd J (by simp)),fun _=>rfl⟩
 have O:=I.laid (a:=s.heap.objs.size) (o:=.own (s.heap.objs.size+1)) (h':=s.heap.push W.emptyDict) (t':=s.toks) (fun b u q=>zz _ q) (zl _) ⟨_,F⟩
 refine O.laid (a:=s.heap.objs.size+1) (o:=.ins C s.heap.objs.size []) (t':=s.toks) (fun b u q=>zz _ q) (Nat.le_of_eq (vY _ _)) ?_
 have ne:s.heap.objs.size≠s.heap.objs.size+1:=zR (zaw _)
 refine⟨by rw[au ne,af],vL _,ne,Y,fun _=>none,(Heap.Ns1.of_empty S).at fun o q=>zz _ q,fun _=>True.intro,fun y U=>absurd rfl U⟩
theorem Ct{prog:Program}{w:World}{env:Env}{e:Expr}{f:Str}{pos:Pos}{s:Shared}{Q:Value→Shared→Prop}(J:attributeBase e f env (eval e env)=eval e env)
  (h:wpAny (model prog w) A (eval e env) (fun o F=>wpAny (model prog w) A (getAttr o f true) Q E F) E s):wpAny (model prog w) A (eval (.Attribute e f pos) env) Q E s:=
 Attribute_any_ h (by rw[arm_eval_Attribute,J])
end
section
variable{X:Cx}{pins:List (Addr × Obj)}{σ : St}{H:Hp}{s:Shared}{A:Around}{E:Value→Shared→Prop}{Q:Value→Shared→Prop}{c:Value}{b:Bool}
inductive fH (K:PySem.W.Frag) (H:Hp):V→Value→Prop where
 | non:fH K H .non (.type "NoneType")
 | bl (x:Bool):fH K H (.bl x) (.type "bool")
 | int (i:Int):fH K H (.int i) (.type "int")
 | str (x:Str):fH K H (.str x) (.type "str")
 | flt (x:UInt64):fH K H (.flt x) (.type "float")
 | lst {a:Addr} {xs:List V} (e:H a=some (.lst xs)):fH K H (.ref a) (.type "list")
 | frz {a:Addr} {o:Obj} {xs:List V} (e:H a=some (.frz o (.lst xs))):fH K H (.ref a) (.type "list")
 | tup {a:Addr} {xs:List V} (e:H a=some (.tup xs)):fH K H (.ref a) (.type "tuple")
 | dK {a:Addr} {kvs:List (aG × V)} (e:H a=some (.dK kvs)):fH K H (.ref a) (.type "dict")
 | dT {a:Addr} {kvs:List (List aG × V)} (e:H a=some (.dT kvs)):fH K H (.ref a) (.type "dict")
 | ins {a C dx:Addr} {fs:List (Str × V)} (e:H a=some (.ins C dx fs)) (cl:GY K C) (ha:PySem.W.findIn K (.ref C) "__class__" = some (some (.builtin "object.__class__")))
   (hn:PySem.W.specialIn K (.builtin "object.__class__") "__get__" = some (some (.builtin "getset_descriptor.__get__"))) (htk:PySem.W.takesIn K (.builtin "object.__class__")=some true)
   (hm:PySem.W.mroIn K C (.type "object")=some true):fH K H (.ref a) (.ref C)
theorem yq{x:V}{u t:Value}(I:Inv X pins σ H s)(F:RelV x u)(ty:fH X.K H x t)(e:W.kitOne X.K t c=some b)(h:∀ tk,Q (.bool b) { s with toks:=tk }) :
  wpAny (model X.prog X.w) A (call (.builtin "isinstance") [u,c]) Q E s:=by
 cases ty with
 | non=>cases (show u=Value.none from F); exact uU W.kitx_none I.kIn True.intro e (fun z=>nomatch z) h
 | bl y=>cases (show u=Value.bool y from F); exact uU W.kitx_bool I.kIn True.intro e (fun z=>nomatch z) h
 | int i=>obtain⟨t,q⟩:=(show ∃ t,u=Value.int i t from F); cases q; exact uU W.kitx_int I.kIn True.intro e (fun z=>nomatch z) h
 | str y=>obtain⟨t,q⟩:=(show ∃ t,u=Value.str y t from F); cases q; exact uU W.kitx_str I.kIn True.intro e (fun z=>nomatch z) h
 | flt y=>obtain⟨t,q⟩:=(show ∃ t,u=Value.float y t from F); cases q; exact uU W.kitx_float I.kIn True.intro e (fun z=>nomatch z) h
 | @lst a xs ea=>
  cases (show u=Value.ref a from F)
  obtain⟨_,_,n,_,h1⟩:=(show Ax X.prog X.w H s.heap a (.lst xs) from I.hok a _ ea)
  exact uU W.kitx_list I.kIn ⟨_,h1,rfl⟩ e (fun z=>nomatch z) h
 | @frz a ob xs ea=>
  cases (show u=Value.ref a from F)
  obtain⟨_,_,_,n,_,h1⟩:=(show Ax X.prog X.w H s.heap a (.frz ob (.lst xs)) from I.hok a _ ea)
  exact uU W.kitx_list I.kIn ⟨_,h1,rfl⟩ e (fun z=>nomatch z) h
 | @tup a xs ea=>
  cases (show u=Value.ref a from F)
  obtain⟨_,_,_,p⟩:=(show Ax X.prog X.w H s.heap a (.tup xs) from I.hok a _ ea)
  obtain⟨o,h1,h2,_⟩:=p
  exact uU W.kitx_tuple I.kIn ⟨o,h1,h2⟩ e (fun z=>nomatch z) h
 | @dK a kvs ea=>
  cases (show u=Value.ref a from F)
  obtain⟨_,_,vs,_,p⟩:=(show Ax X.prog X.w H s.heap a (.dK kvs) from I.hok a _ ea)
  obtain⟨o,es,ep,h1,h2,_⟩:=p
  exact uU W.kitx_dict I.kIn ⟨o,h1,h2.1⟩ e (fun z=>nomatch z) h
 | @dT a kvs ea=>
  cases (show u=Value.ref a from F)
  obtain⟨_,_,xs,_,o,es,ep,h1,h2,_⟩:=(show Ax X.prog X.w H s.heap a (.dT kvs) from I.hok a _ ea)
  exact uU W.kitx_dict I.kIn ⟨o,h1,h2.1⟩ e (fun z=>nomatch z) h
 | @ins a C dx fs ea cl ha hn htk hm=>
  cases (show u=Value.ref a from F)
  obtain⟨mA,O,_⟩:=mi I.hok ea
  obtain⟨S,J,_⟩:=O.look
  exact uU (W.kitx_own (cl.get _) cl.hd ha hn htk hm) I.kIn J e (fun z=>nomatch z) h
end
structure Dx (k:Nat) (A:Around):Prop where
 hd:A.handled=none
 dp:A.depth+3 * k+5<recursionLimit
 un:A.units+16 * k+200<cLine
theorem Dx.mono{j k:Nat}{A:Around}(r:Dx k A)(h:j≤k):Dx j A:=⟨r.hd,by have:=r.dp; omega,by have:=r.un; omega⟩
theorem Dx.deeper{k:Nat}{A:Around}(r:Dx (k+1) A)(env:Env):Dx k (A.deeper env):=
 ⟨r.hd,by have:=r.dp; show A.depth+1+3 * k+5<_; omega,by have:=r.un; show A.units+3+16 * k+200<_; omega⟩
theorem uW{A:Around}{C:Addr}{J:List Value}{F:List (Str × Value)}:(A.under (.builtin "type.__call__" ⟨.ref C::J,F⟩)).depth=A.depth+1:=by
 first | rfl | simp[Around.under,Code.weight,Code.isCreation,Code.isGuard,Code.isCaller,Code.frames,Code.isFrame,guardIds]
theorem u6{A:Around}{C:Addr}{J:List Value}{F:List (Str × Value)}:(A.under (.builtin "type.__call__" ⟨.ref C::J,F⟩)).units=A.units+1:=by
 first | rfl | simp[Around.under,Code.cUnits,Code.frames,Code.isFrame]
theorem Dx.make{k:Nat}{A:Around}(r:Dx (k+1) A)(C:Addr)(J:List Value)(F:List (Str × Value)):Dx k (A.under (.builtin "type.__call__" ⟨.ref C::J,F⟩)):=
 ⟨r.hd,by have:=r.dp; rw[uW]; omega,by have:=r.un; rw[u6]; omega⟩
theorem Dx.depth{k:Nat}{A:Around}(r:Dx k A):A.depth<recursionLimit:=by have:=r.dp; omega
noncomputable def DC:TA:=fun _ H Q=>Q [] H
noncomputable def A6(ta:TE)(tr:TA):TA:=fun σ H Q=>ta σ H fun x H1=>tr σ H1 fun xs H2=>Q (x::xs) H2
section
variable{X:Cx}{e:Expr}{es:List Expr}{te:TE}{t:TA}{pos:Pos}
theorem ac:PA X [] DC:=fun _ _ _ _ H Q I h=>Calls.spliced_nil ⟨[],H,I,.nil,h⟩
theorem aa(J:PE X e te)(S:PA X es t)(hs:starEach (e::es) X.env=(false,eval e X.env)::starEach es X.env:=by rfl):PA X (e::es) (A6 te t):=by
 intro pos pins s σ H Q I h
 rw[hs];show wpAny _ _ (spliced ((false,eval e X.env)::backTo pos (starEach es X.env))) _ _ s
 refine Calls.spliced_cons (bu (J pins s σ H _ I h) fun u W ⟨x,H1,Y,O,U⟩=>?_)
 exact bu (S pos pins W σ H1 _ Y U) fun us s2 ⟨xs,H2,I2,Z,F⟩=>⟨x::xs,H2,I2,.cons O Z,F⟩
noncomputable def Er(t:TA):TE:=fun σ H Q=>t σ H fun xs H1=>xs.length≤sizeLine∧∀ p,H1 p=none→Q (.ref p) (upd H1 p (.tup xs))
noncomputable def Fz(t:TA):TE:=fun σ H Q=>t σ H fun xs H1=>xs.length≤sizeLine∧∀ p,H1 p=none→Q (.ref p) (upd H1 p (.lst xs))
theorem aK{x1}(h:PA X es t):PE X (.Tuple es x1 pos) (Er t):=by
 intro pins s σ H Q I O
 refine wpAny_Tuple_spliced (bu (h pos pins s σ H _ I O) fun S F ⟨xs,H1,J,r,z,q⟩=>⟨by rw[← r.length]; exact z,?_⟩)
 have hf:H1 F.heap.objs.size=none:=J.hok.fresh (zl _)
 refine⟨.ref F.heap.objs.size,upd H1 F.heap.objs.size (.tup xs),J.laid (t':=F.toks) (fun b u e=>zz _ e) (zl _) ?_,rfl,q _ hf⟩
 exact⟨z,S,r,⟨_,zV _ rfl,rfl,rfl,_,rfl⟩⟩
theorem aY(h:PA X es t):PE X (.List es pos) (Fz t):=by
 intro pins s σ H Q I O
 refine wpAny_List_spliced (bu (h pos pins s σ H _ I O) fun S F ⟨xs,H1,J,r,z,q⟩=>⟨by rw[← r.length]; exact z,?_⟩)
 have hf:H1 F.heap.objs.size=none:=J.hok.fresh (zl _)
 refine⟨.ref F.heap.objs.size,upd H1 F.heap.objs.size (.lst xs),J.laid (t':=F.toks) (fun b u e=>zz _ e) (zl _) ?_,rfl,q _ hf⟩
 exact⟨z,S,0,r,zV _ rfl⟩
end
abbrev Sp:=List V→Hp→VK→XK→Prop
abbrev iq:=List Env→Hp→Shared→XK→Value→Shared→Prop
structure Fn (P:Program) (w:World) (K:W.Frag) (mg:Str→Option Value) (base:Heap) (A:Around) (outer:List Env) (s:Shared) (H:Hp):Prop where
 frames:A.frames=some outer
 mod:Mod K mg base
 bs:∀ b o,base.get? b=some o→s.heap.get? b=some o∧H b=none
 bsz:base.objs.size≤s.heap.objs.size
 funs:s.heap.FunFrames base outer
 frf:∀ b∈i0 outer,H b=none
 hok:EQ P w H s.heap
 bare:AllBare s.gens
def CE(outer:List Env)(P:Program)(w:World)(H:Hp)(s:Shared)(Q:VK)(u:Value)(s':Shared):Prop:=
 ∃ v H',s'.os=s.os∧AllBare s'.gens∧Un (i0 outer) [] H H' s.heap s'.heap∧EQ P w H' s'.heap∧RelV v u∧Q v H'
def CR(CX:iq)(outer:List Env)(P:Program)(w:World)(H:Hp)(s:Shared)(Q:VK)(E:XK)(r:Result)(s':Shared):Prop:=
 match r with
 | .ok (.ret u)=>CE outer P w H s Q u s'
 | .ok _=>False
 | .error e=>CX outer H s E e s'
structure EK (P:Program) (w:World) (K:W.Frag) (mg:Str→Option Value) (base:Heap) (CX:iq) (k:Nat) (f:Addr) (fd:FuncData) (ps:List Str) (sp:Sp):Prop where
 len:∀ vs H Q E,sp vs H Q E→vs.length=ps.length
 run:∀ (A:Around) (outer:List Env) (s:Shared) (H:Hp) (args:Args) (us:List Value) (vs:List V) (Q:VK) (E:XK),Dx k A→Fn P w K mg base A outer s H→BindsTo s fd args (ps.zip us)→yl vs us→sp vs H Q E→
  codeAny (model P w) A (.call (.ref f) args) (CR CX outer P w H s Q E) s
theorem EK.mono{P:Program}{w:World}{K:W.Frag}{mg:Str→Option Value}{base:Heap}{CX:iq}{j k:Nat}{f:Addr}{fd:FuncData}{ps:List Str}{sp:Sp}(F:EK P w K mg base CX j f fd ps sp)(h:j≤k) :
  EK P w K mg base CX k f fd ps sp:=⟨F.len,fun A outer s H args J vs Q E O=>F.run A outer s H args J vs Q E (O.mono h)⟩
theorem EK.imp{P:Program}{w:World}{K:W.Frag}{mg:Str→Option Value}{base:Heap}{CX:iq}{k:Nat}{f:Addr}{fd:FuncData}{ps:List Str}{sp J:Sp}(F:EK P w K mg base CX k f fd ps sp)
  (h:∀ vs H Q E,J vs H Q E→sp vs H Q E):EK P w K mg base CX k f fd ps J:=
 ⟨fun vs H Q E q=>F.len vs H Q E (h _ _ _ _ q),fun A outer s H args Y vs Q E O S U hv Z=>F.run A outer s H args Y vs Q E O S U hv (h _ _ _ _ Z)⟩
theorem Fn.make{P:Program}{w:World}{K:W.Frag}{mg:Str→Option Value}{base:Heap}{A:Around}{outer:List Env}{s:Shared}{H:Hp}(e:Fn P w K mg base A outer s H)(C:Addr)(J:List Value)(F:List (Str × Value)) :
  Fn P w K mg base (A.under (.builtin "type.__call__" ⟨.ref C::J,F⟩)) outer s H:=⟨by first | exact e.frames | (simpa [Around.under,Code.envs,Code.isFrame,pushEnvs] using e.frames),e.mod,e.bs,e.bsz,e.funs,e.frf,e.hok,e.bare⟩
section
variable{X:Cx}{pins:List (Addr × Obj)}{σ : St}{H:Hp}{s s':Shared}
theorem Inv.env0(I:Inv X pins σ H s):Fn X.prog X.w X.K X.mg X.base X.A X.stack s H:=
 ⟨I.ok.frames,I.ok.mod,I.bs,gV I.ok.bsz I.sz,I.stack,I.stkFree,I.hok,I.bare⟩
theorem Inv.after{Q:VK}{u:Value}(I:Inv X pins σ H s)(h:CE X.stack X.prog X.w H s Q u s'):EP X pins σ Q u s':=by
 obtain⟨v,H',os,bare,un,hok,r,q⟩:=h
 obtain⟨hh,g,d,t,F⟩:=s'
 obtain rfl:F=s.os:=os
 exact⟨v,H',I.call (h':=hh) (g':=g) (d':=d) (t':=t) (ch:=[]) un hok bare (fun b z=>absurd z (by simp)),r,q⟩
end
noncomputable def wM(sp:Sp)(dvs:List V)(E:XK)(t:TA):TE:=fun σ H Q=>t σ H fun vs H1=>sp (vs++dvs) H1 Q E
def Binds(K:W.Frag)(fd:FuncData)(ps:List Str)(ds:List Value):Prop:=
 ∀ (s:Shared) (us:List Value),K.In s.heap→(us++ds).length=ps.length→BindsTo s fd ⟨us,[]⟩ (ps.zip (us++ds))
theorem Binds.all{K:W.Frag}{fd:FuncData}{ps:List Str}(h:∀ F:List Value,F.length=ps.length→bindArgs fd ⟨F,[]⟩=pure (ps.zip F)):Binds K fd ps []:=fun s F _ hl=>by
 rw[gY]at hl ⊢
 exact .of_eq (h F hl)
def lx(CX:iq)(X:Cx)(E:XK):Prop:=∀ (pins:List (Addr × Obj)) (σ : St) (H:Hp) (s:Shared) (e:Value) (s':Shared),Inv X pins σ H s→CX X.stack H s E e s'→X.xe e s'
section
variable{X:Cx}{CX:iq}{k:Nat}{f C:Addr}{fd:FuncData}{ps:List Str}{sp:Sp}{dvs:List V}{ds:List Value}{E:XK}{x m:Str}{p pos apos:Pos}{e o:Expr}{es:List Expr}{ta:TE}{t:TA}
theorem DU{pins:List (Addr × Obj)}{σ : St}{H:Hp}{s:Shared}{Q:VK}{J:List Value}{vs:List V}(F:EK X.prog X.w X.K X.mg X.base CX k f fd ps sp)(U:Dx k X.A)(W:Binds X.K fd ps ds)(hd:yl dvs ds)(hx:lx CX X E)
  (I:Inv X pins σ H s) (r:yl vs J) (h:sp (vs++dvs) H Q E):wpAny (model X.prog X.w) X.A (call (.ref f) J) (EP X pins σ Q) X.xe s:=by
 have S:yl (vs++dvs) (J++ds):=r.append hd
 have hl:(J++ds).length=ps.length:=by rw[← S.length]; exact F.len _ _ _ _ h
 refine wpAny_call (codeAny_mono (F.run X.A X.stack s H ⟨J,[]⟩ (J++ds) (vs++dvs) Q E U I.env0 (W s J I.kIn hl) S h) fun r s' O=>?_)
 cases r with
 | error e=>exact hx pins σ H s e s' I O
 | ok fl=>
  cases fl with
  | ret u=>exact I.after O
  | next=>exact False.elim O
  | brk=>exact False.elim O
  | cont=>exact False.elim O
theorem BN(F:EK X.prog X.w X.K X.mg X.base CX k f fd ps sp)(U:Dx k X.A)(hg:Gl X x)(Z:X.mg x=some (.ref f))(Y:W.keepIn X.K (.ref f)=true)(hb:Binds X.K fd ps ds)(hd:yl dvs ds)(hx:lx CX X E)
  (S:PA X (e::es) t) (J:(x == ("__debug__" : Str))=false:=by decide) (he:starEach (e::es) X.env=(false,eval e X.env)::starEach es X.env:=by rfl) (hpl:(backTo pos (starEach es X.env)).any (·.1)=false:=by rfl) :
  PE X (.Call (.Name x p) (e::es) [] pos) (wM sp dvs E t):=by
 intro pins s σ H Q I h
 refine wpAny_Call_Name_kw (l5 I hg Z ?_ J)
 refine W.callWith_K (h₀:=X.base) I.ok.mod.kin Y (bu (S pos pins s σ H _ I h) fun us s1 ⟨vs,H1,O,r,q⟩=>⟨O.kIn,?_⟩) he hpl
 exact DU F U hb hd hx O r q
structure Mk (K:W.Frag) (C f:Addr):Prop where
 makes:W.makesIn K C=true
 init:W.findIn K (.ref C) "__init__" = some (some (.ref f))
 fn:W.isFn K (.ref f)=true
 kp:W.keepIn K (.ref C)=true
theorem Ad{pins:List (Addr × Obj)}{σ : St}{H:Hp}{s:Shared}{Q:VK}{O:List Value}{vs:List V}(M:Mk X.K C f)(F:EK X.prog X.w X.K X.mg X.base CX k f fd ps sp)(Z:Dx (k+1) X.A)(hb:Binds X.K fd ps ds)(hd:yl dvs ds)
  (hx:lx CX X E) (I:Inv X pins σ H s) (r:yl vs O)
  (h:∀ x dx,H x=none→H dx=none→dx≠x→sp (.ref x::(vs++dvs)) (upd (upd H dx (.own x)) x (.ins C dx [])) (fun v H2=>v = .non∧Q (.ref x) H2) E) :
  wpAny (model X.prog X.w) X.A (call (.ref C) O) (EP X pins σ Q) X.xe s:=by
 have U:=h (s.heap.objs.size+1) s.heap.objs.size (I.hok.fresh (Nat.le_succ _)) (I.hok.fresh (zl _)) (zR (zaw _));have S:=Inv.made (C:=C) I;have W:yl (V.ref (s.heap.objs.size+1)::(vs++dvs)) (Value.ref (s.heap.objs.size+1)::(O++ds)):=.cons rfl (r.append hd)
 have hl:(Value.ref (s.heap.objs.size+1)::O++ds).length=ps.length:=by
  have e:=W.length;rw[F.len _ _ _ _ U]at e
  exact e.symm
 refine wpAny_call (Ah (f:=f) I.kIn M.makes M.init (beq_iff_eq.mp M.fn) (codeAny_mono (F.run _ X.stack _ _ ⟨Value.ref (s.heap.objs.size+1)::O,[]⟩ (Value.ref (s.heap.objs.size+1)::(O++ds)) _ _ E (Z.make C O [])
  (S.env0.make C O []) (hb _ (Value.ref (s.heap.objs.size+1)::O) S.kIn hl) W U) fun r s' J=>?_))
 cases r with
 | error e=>exact hx pins σ _ _ e s' S J
 | ok fl=>
  cases fl with
  | ret u=>
   obtain⟨v,H',Y,rv,ev,q3⟩:=S.after J
   subst ev;exact⟨rv,⟨V.ref (s.heap.objs.size+1),H',Y,rfl,q3⟩⟩
  | next=>exact False.elim J
  | brk=>exact False.elim J
  | cont=>exact False.elim J
end
structure aE (N P:List Str) (sc:Scope):Prop where
 kind:sc.kind = .function
 co:sc.isCoroutine=false
 gen:sc.isGenerator=false
 nd:N.Nodup
 pre:N.take P.length=P
 par:∀ x∈P,sc.names.lookup x=some .local∨sc.names.lookup x=some .cell
 nofree:∀ y∈sc.names,y.2 ≠ .free
theorem Es{N P:List Str}{s:Stmt}(h1:(L2.rd s).kind = .function:=by rfl)(h2:(L2.rd s).isCoroutine=false:=by rfl)(h3:(L2.rd s).isGenerator=false:=by rfl)(h4:N.Nodup:=by decide +kernel)(h5:N.take P.length=P:=by rfl)(h6:∀ x∈P,(L2.rd s).names.lookup x=some .local∨(L2.rd s).names.lookup x=some .cell:=by decide +kernel)(h7:∀ y∈(L2.rd s).names,y.2 ≠ .free:=by decide +kernel):aE N P (L2.rd s):=⟨h1,h2,h3,h4,h5,h6,h7⟩
theorem om{kindOf:Str→Option NameKind}{x:Str}:∀ {binds:List (Str × Value)} {m:Str→Option Value},(∀ v,(x,v)∉binds)→bindL kindOf binds m x=m x
 | [],_,_=>rfl
 | (n,v)::r,m,h=>by
  unfold bindL;rw[om fun w F=>h w (zO _ F)]
  split
  ·have:x≠n:=by rintro rfl; exact h v zI
   simp[this]
  ·rfl
theorem nP{kindOf:Str→Option NameKind}{x:Str}:∀ {binds:List (Str × Value)} {m:Str→Option Value},(∀ v,(x,v)∉binds)→bindC kindOf binds m x=m x
 | [],_,_=>rfl
 | (n,v)::r,m,h=>by
  unfold bindC;rw[nP fun w F=>h w (zO _ F)]
  split
  ·rfl
  ·have:x≠n:=by rintro rfl; exact h v zI
   simp[this]
theorem nC{kindOf:Str→Option NameKind}{x:Str}{v:Value}:∀ {P:List Str} {vs:List Value} {i:Nat} {m:Str→Option Value},P.Nodup→P[i]? = some x→vs[i]? = some v→kindOf x=some .local→
  bindL kindOf (P.zip vs) m x=some v
 | [],_,_,_,_,h,_,_=>by simp at h
 | _::_,[],_,_,_,_,h,_=>by simp at h
 | p::P,w::vs,0,m,nd,h1,h2,hk=>by
  simp at h1 h2; subst h1; subst h2
  show bindL kindOf ((p,w)::P.zip vs) m p=_
  unfold bindL;rw[om fun v hv=>(List.nodup_cons.mp nd).1 (List.of_mem_zip hv).1,Hf hk]
  simp
 | p::P,w::vs,i+1,m,nd,h1,h2,hk=>by
  show bindL kindOf ((p,w)::P.zip vs) m x=_
  unfold bindL;exact nC (i:=i) (List.nodup_cons.mp nd).2 (by simpa using h1) (by simpa using h2) hk
theorem nB{kindOf:Str→Option NameKind}{x:Str}{v:Value}:∀ {P:List Str} {vs:List Value} {i:Nat} {m:Str→Option Value},P.Nodup→P[i]? = some x→vs[i]? = some v→kindOf x≠some .local→
  bindC kindOf (P.zip vs) m x=some v
 | [],_,_,_,_,h,_,_=>by simp at h
 | _::_,[],_,_,_,_,h,_=>by simp at h
 | p::P,w::vs,0,m,nd,h1,h2,hk=>by
  simp at h1 h2; subst h1; subst h2
  show bindC kindOf ((p,w)::P.zip vs) m p=_
  unfold bindC;rw[nP fun v hv=>(List.nodup_cons.mp nd).1 (List.of_mem_zip hv).1,He hk]
  simp
 | p::P,w::vs,i+1,m,nd,h1,h2,hk=>by
  show bindC kindOf ((p,w)::P.zip vs) m x=_
  unfold bindC;exact nB (i:=i) (List.nodup_cons.mp nd).2 (by simpa using h1) (by simpa using h2) hk
noncomputable def start(N:List Str)(vs:List V):St:=vs.map some++List.replicate (N.length - vs.length) none
noncomputable def i9(CX:iq)(P:Program)(w:World)(K:W.Frag)(mg:Str→Option Value)(base:Heap)(N:List Str)(qual:Str)(scope:Scope)(f:Addr)(cd:Value)(A:Around)(outer:List Env)(s:Shared)(H:Hp)(E:XK):Cx where
 prog:=P
 w:=w
 K:=K
 mg:=mg
 base:=base
 A:=A.deeper (envOfC qual scope s.heap.objs.size f cd)
 N:=N
 s₀:=s
 H₀:=H
 env:=envOfC qual scope s.heap.objs.size f cd
 outer:=outer
 stack:=envOfC qual scope s.heap.objs.size f cd::outer
 ex:=[]
 calm:=true
 fn:=fun _=>true
 pn:=[]
 xe:=fun e s'=>wpAny (model P w) (A.deeper (envOfC qual scope s.heap.objs.size f cd)) (leaving (envOfC qual scope s.heap.objs.size f cd) e) (fun _ s''=>CX outer H s E e s'') (fun e' s''=>CX outer H s E e' s'') s'
theorem pW{F:Scope}{n:Nat}{x:Str}(h:F.names.lookup x=some .cell):∃ c,(cellsFrom n F.names []).lookup x=some c:=by
 have q:=W.cellsFrom_some F.names n [] (.inl h);exact Hs.mp q
theorem xB{CX:iq}{P:Program}{w:World}{K:W.Frag}{mg:Str→Option Value}{base:Heap}{N ps:List Str}{F:Str}{scope:Scope}{f:Addr}{cd:Value}{A:Around}{outer:List Env}{s s1:Shared}{H:Hp}{E:XK}{us:List Value}{vs:List V}
  (S:aE N ps scope) (hd:A.handled=none) (J:Fn P w K mg base A outer s H) (hl:vs.length=ps.length) (r:yl vs us)
  (x:InCallC s s.heap.objs.size (bindL (envOfC F scope s.heap.objs.size f cd).kindOf (ps.zip us) fun _=>none) (cellsFrom (s.heap.objs.size+1) scope.names []) (bindC (envOfC F scope s.heap.objs.size f cd).kindOf (ps.zip us) fun _=>none) s1) :
  Inv (i9 CX P w K mg base N F scope f cd A outer s H E) [] (start N vs) H s1:=by
 have ab:ps.length≤N.length:=by have:=congrArg List.length S.pre; rw[vW]at this; omega
 obtain⟨h1,tk,rfl,hk⟩:=x.done
 have O:∀ b:Addr,b∉(i9 CX P w K mg base N F scope f cd A outer s H E).ex:=fun b z=>absurd (show b∈([]:List Addr) from z) (by simp)
 refine⟨⟨J.mod,S.kind,rfl,rfl,zl _,fun y z c h1 h2=>?_,fun y U=>?_,fun y c _ h=>?_,fun _=>hd,Around.frames_deeper J.frames,.inr ⟨rfl,rfl⟩,fun b z=>absurd z (O b),J.bs,J.bsz,fun b _ _=>O b,fun b z=>absurd z (O b),J.funs,J.frf⟩,
  rfl,J.bare,Un.kept hk,⟨_,x.toInCall.ns,fun i y v h1 h2 h3=>?_⟩,fun y c h=>⟨_,x.cell y c h⟩,J.hok.fresh (zl _),fun y c h=>?_,fun p Z=>absurd (show p∈([]:List (Addr × Obj)) from Z) (by simp),J.hok.kept hk,?_⟩
 ·exact name_of_addr x.apart (zaG h1) (zaG h2)
 ·have U:scope.names.lookup y=some .cell∨scope.names.lookup y=some .free:=U
  rcases U with U | U
  ·exact pW U
  ·exact absurd rfl (S.nofree _ (zaG U))
 ·exact wm (x.above y c (zaG h))
 ·have hi:i<vs.length:=by
   unfold start at h2
   by_cases hi:i<vs.length
   ·exact hi
   ·rw[vw (by simpa using hi)]at h2
    rw[zbe]at h2
    split at h2 <;> cases h2
  have ha:vs[i]? = some v:=by
   unfold start at h2;rw[vX (by simpa using hi),zy]at h2
   cases e:vs[i]? with
   | none=>rw[e]at h2; cases h2
   | some a=>rw[e]at h2; cases h2; rfl
  obtain⟨u,hu,rv⟩:=r.get ha
  have Z:ps[i]? = some y:=by
   rw[← S.pre,List.getElem?_take_of_lt (by omega)]; exact h1
  have Y:ps.Nodup:=by rw[← S.pre]; exact S.nd.sublist (List.take_sublist _ _)
  refine⟨u,rv,?_⟩
  rcases S.par y (vx Z) with k | k
  ·exact .inl ⟨k,nC Y Z hu k⟩
  ·obtain⟨c,e⟩:=pW (n:=s.heap.objs.size+1) k
   refine .inr ⟨.inl k,c,e,?_⟩
   have q:=x.cell y c e;rw[nB Y Z hu (by show scope.names.lookup y≠_; rw[k]; decide)]at q
   exact q
 ·exact J.hok.fresh (wm (x.above y c (zaG h)))
 ·unfold start
  show _=N.length
  rw[zr,ze,List.length_replicate];omega
theorem F2{CX:iq}{P:Program}{w:World}{K:W.Frag}{mg:Str→Option Value}{base:Heap}{k:Nat}{f:Addr}{name F:Str}{U:Arguments}{Y:List Stmt}{scope:Scope}{dV kV ag pm O ct oc:Value}{an od:Option Addr}
  {a3:Array (Option Value)} {N ps:List Str} {sp:Sp} (lk:K.lookup f=some ⟨oc,od,.func (W.fnOf name F U Y scope dV kV ag pm an O ct),a3⟩) (as:W.codeIn K O F=true) (S:aE N ps scope)
  (len:∀ vs H Q E,sp vs H Q E→vs.length=ps.length)
  (ab:∀ (A:Around) (outer:List Env) (s:Shared) (H:Hp) (vs:List V) (Q:VK) (E:XK),Dx k (A.deeper (envOfC F scope s.heap.objs.size f O))→sp vs H Q E→
   ∃ t,Fi (i9 CX P w K mg base N F scope f O A outer s H E) Y t∧t { nx:=fun _ H'=>Q .non H',rt:=Q } (start N vs) H) :
  EK P w K mg base CX (k+1) f (W.fnOf name F U Y scope dV kV ag pm an O ct) ps sp:=by
 refine⟨len,fun A outer s H args us vs Q E hr e0 hb r al=>?_⟩
 have hl:=len _ _ _ _ al;have KX:K.In s.heap:=e0.mod.kin.keeps fun b o e=>(e0.bs b o e).1
 have a4:s.heap.NoLimit:=e0.mod.nolimit.keeps fun b o e=>(e0.bs b o e).1
 have Z:∀ y∈ps.zip us,scope.names.lookup y.1=some .local∨(scope.names.lookup y.1=some .cell∧((cellsFrom (s.heap.objs.size+1) scope.names []).lookup y.1).isSome=true):=fun ⟨n,v⟩ hy=>by
  rcases S.par n (List.of_mem_zip hy).1 with q | q
  ·exact .inl q
  ·exact .inr ⟨q,W.cellsFrom_some _ _ _ (.inl q)⟩
 refine codeAny_call_function hr.depth (KX _ _ lk) rfl S.co S.gen rfl (W.codeRec_of KX as) (hb _ _ _ _ ?_)
 refine wpAny_newFunctionEnv_cells S.kind Z fun env he s1 x=>?_
 subst he;refine⟨a4.keeps x.toInCall.keep,codeAny_func ?_⟩
 obtain⟨t,ht,hq⟩:=ab A outer s H vs Q E (hr.deeper _) al
 have I:Inv (i9 CX P w K mg base N F scope f O A outer s H E) [] (start N vs) H s1:=xB S hr.hd e0 hl r x
 refine wpAny_mono (ht [] s1 (start N vs) H _ I hq) (fun fl s' hs=>?_) fun e s' hs=>hs
 have ad:∀ {σ':St} {H':Hp} {v:V} {u:Value},Inv (i9 CX P w K mg base N F scope f O A outer s H E) [] σ' H' s'→RelV v u→Q v H'→CE outer P w H s Q u s':=
  fun {σ' H' v u} J rv q=>⟨v,H',J.os,J.bare,J.base,J.hok,rv,q⟩
 cases fl with
 | ret u=>
  obtain⟨v,σ',H',J,rv,q⟩:=hs
  exact ad J rv q
 | next=>
  obtain⟨σ',H',J,q⟩:=hs
  exact ad (v:=V.non) (u:=Value.none) J rfl q
 | brk=>
  obtain⟨_,_,_,q⟩:=hs
  exact False.elim q
 | cont=>
  obtain⟨_,_,_,q⟩:=hs
  exact False.elim q
section
variable{X:Cx}{x:Str}{p pos:Pos}{e:Expr}{es:List Expr}{t:TA}{id T:String}{r:List V→Hp→VK→Prop}
noncomputable def xC(r:List V→Hp→VK→Prop)(t:TA):TE:=fun σ H Q=>t σ H fun vs H1=>r vs H1 Q
theorem Az(J:AL X (.builtin id) r)(hg:Gl X x)(hm:X.mg x=none)(hv:bootBuiltins x=some (.builtin id))(F:PA X (e::es) t)(W:x ≠ "__name__" := by decide) (hdb:(x == ("__debug__" : Str))=false:=by decide)
  (he:starEach (e::es) X.env=(false,eval e X.env)::starEach es X.env:=by rfl) (hpl:(backTo pos (starEach es X.env)).any (·.1)=false:=by rfl):PE X (.Call (.Name x p) (e::es) [] pos) (xC r t):=by
 intro pins s σ H Q I h
 refine wpAny_Call_Name_kw (h8 I hg hm hv ?_ W hdb)
 exact PyProof.Rows.callWith_builtin1 (bu (F pos pins s σ H _ I h) fun Z U ⟨vs,H1,Y,O,S⟩=>J pins U σ H1 vs Z Q Y O S) he hpl
theorem yf(J:AL X (.type T) r)(hg:Gl X x)(hm:X.mg x=none)(hv:bootBuiltins x=some (.type T))(F:PA X (e::es) t)(W:x ≠ "__name__" := by decide) (hdb:(x == ("__debug__" : Str))=false:=by decide)
  (he:starEach (e::es) X.env=(false,eval e X.env)::starEach es X.env:=by rfl) (hpl:(backTo pos (starEach es X.env)).any (·.1)=false:=by rfl):PE X (.Call (.Name x p) (e::es) [] pos) (xC r t):=by
 intro pins s σ H Q I h
 refine wpAny_Call_Name_kw (h8 I hg hm hv ?_ W hdb)
 exact zaW (bu (F pos pins s σ H _ I h) fun Z U ⟨vs,H1,Y,O,S⟩=>J pins U σ H1 vs Z Q Y O S) he hpl
end
end L2
namespace HT
open PySem PyProof.Rows
theorem rcLt_int(A:Around)(s:Shared)(a:Int)(t:Tok)(c:Int)(u:Tok)(prog:Program)(w:World)(E:Value→Shared→Prop)(Q:Value→Shared→Prop)(h:Q (.bool (decide (a<c))) s) :
  wpAny (model prog w) A (richCompare .Lt (.int a t) (.int c u)) Q E s:=
 (PyProof.Rows.lt_int h:wpAny (model prog w) A (compareOp .Lt (.int a t) (.int c u)) Q E s)
section
variable{prog:Program}{w:World}{A:Around}{E:Value→Shared→Prop}{s:Shared}
theorem cat_tup{t b:Addr}{vs ws:List Value}{Q:Value→Shared→Prop}(ht:IsTup s.heap t vs.toArray)(hb:IsTup s.heap b ws.toArray)(hv:vs≠[])
  (h1:ws=[]→Q (.ref t) s) (h2:ws≠[]→Q (.ref s.heap.objs.size) { s with heap:=s.heap.push { cls:=.type "tuple", data:=.seq (vs++ws).toArray } })
  (hsz:vs.length+ws.length≤sizeLine):wpAny (model prog w) A (binaryOp .Add (.ref t) (.ref b)) Q E s:=by
 obtain⟨⟨cls,dd,data,sl⟩,Y,hc,n,hd⟩:=id ht
 obtain⟨⟨Z,S,data2,U⟩,J,O,n2,W⟩:=id hb
 simp only at hc hd O W
 subst hc hd O W;have e:vs.toArray++ws.toArray=(vs++ws).toArray:=by simp
 by_cases hw:ws=[]
 ·exact concat_meets ⟨_,Y,rfl⟩ ⟨_,J,rfl⟩ noFill_tuple_add seq_tuple_add PySem.F.slot_tuple_add PySem.F.entry_tuple_add (PySem.F.args_tuple_add_2 _ _)
   (tuple_addW1 t b vs.toArray ws.toArray n n2 dd S sl U (by simpa using hv) (by simp[hw])) ⟨Y,J,h1 hw⟩
 ·refine concat_meets ⟨_,Y,rfl⟩ ⟨_,J,rfl⟩ noFill_tuple_add seq_tuple_add PySem.F.slot_tuple_add PySem.F.entry_tuple_add (PySem.F.args_tuple_add_2 _ _)
   (tuple_addW2 t b vs.toArray ws.toArray n n2 dd S sl U (by simpa using hv) (by simpa using hw) (by rw[List.size_toArray,List.size_toArray]; exact hsz)) ⟨Y,J,?_⟩
  rw[e];exact h2 hw
noncomputable def sIx(n d:Nat):Option Int→Nat
 | none=>d
 | some v=>if v<0 then (v+(n:Int)).toNat else min v.toNat n
theorem sIx_none(n d:Nat):sIx n d none=d:=rfl
theorem sIx_nat(n d k:Nat):sIx n d (some (k:Int))=min k n:=by
 show (if (k:Int)<0 then ((k:Int)+(n:Int)).toNat else min (k:Int).toNat n)=min k n
 rw[if_neg (by omega),Int.toNat_natCast]
theorem Ea(n d:Nat)(hd:d≤n)(o:Option Int):sIx n d o≤n:=by
 cases o with
 | none=>exact hd
 | some v=>
  show (if v<0 then (v+(n:Int)).toNat else min v.toNat n)≤n
  by_cases hv:v<0
  ·rw[if_pos hv]; omega
  ·rw[if_neg hv]; exact Nat.min_le_right _ _
theorem uu(v:Int)(n d:Nat):(if v<0 then max (v+(n:Int)) 0 else min v (n:Int))=((sIx n d (some v):Nat):Int):=by
 show (if v<0 then max (v+(n:Int)) 0 else min v (n:Int))=(((if v<0 then (v+(n:Int)).toNat else min v.toNat n):Nat):Int)
 by_cases hv:v<0
 ·simp only[if_pos hv]; omega
 ·simp only[if_neg hv]; omega
theorem u5(lo hi:Option Int)(n:Nat):Builtin.Slice.sliceAdjust lo hi 1 (n:Int)=(((sIx n 0 lo:Nat):Int),((sIx n n hi:Nat):Int)):=by
 have h1:¬ ((1:Int)<0):=by omega
 unfold Builtin.Slice.sliceAdjust;simp only[h1,if_false]
 refine Prod.ext ?_ ?_
 ·cases lo with
  | none=>rfl
  | some v=>exact uu v n 0
 ·cases hi with
  | none=>rfl
  | some v=>exact uu v n n
theorem uQ(i j:Nat):Builtin.Slice.slicePlaces (i:Int) (j:Int) 1=j - i:=by
 unfold Builtin.Slice.slicePlaces;have h1:(1:Int)>0:=by omega
 simp only[h1,if_true,Int.ediv_one]
 split <;> omega
theorem lF{v:Value}{o:Option Int}{Q:Option Int→Shared→Prop}(p:IsPart v o)(h:Q o s):wpAny (model prog w) A (Builtin.Slice.slicePartIndex v) Q E s:=by
 cases p with
 | none=>exact slicePart_none h
 | int i t=>exact slicePart_int h
theorem sliceApplied_gen{U:Addr}{O S:Value}{lo hi:Option Int}{n:Nat}{Q:Int × Int × Nat→Shared→Prop}(hs:s.heap.IsSliceOf U O S .none)(Z:IsPart O lo)(W:IsPart S hi)
  (h:Q (((sIx n 0 lo:Nat):Int),1,sIx n n hi - sIx n 0 lo) s):wpAny (model prog w) A (Builtin.Slice.sliceApplied (.ref U) (pure (n:Int))) Q E s:=by
 obtain⟨os,J,Y,F⟩:=id hs
 unfold Builtin.Slice.sliceApplied Builtin.Slice.sliceFields;refine wpAny_bind (wpAny_bind (wpAny_field J F (x:=O) rfl (wpAny_bind (wpAny_field J F (x:=S) rfl (wpAny_bind (wpAny_field J F (x:=.none) rfl (wpAny_pure ?_)))))))
 refine wpAny_bind (slicePart_none ?_)
 show wpAny _ _ (if ((1:Int) == 0)=true then _ else _) _ _ s
 rw[if_neg (by decide)]
 refine wpAny_bind (lF Z (wpAny_bind (lF W (wpAny_bind (wpAny_pure ?_)))))
 show wpAny _ _ (match Builtin.Slice.sliceAdjust lo hi 1 (n:Int) with | (lo,hi)=>pure (lo,(1:Int),Builtin.Slice.slicePlaces lo hi 1)) _ _ s
 rw[u5 lo hi n];show wpAny _ _ (pure (((sIx n 0 lo:Nat):Int),(1:Int),Builtin.Slice.slicePlaces ((sIx n 0 lo:Nat):Int) ((sIx n n hi:Nat):Int) 1)) _ _ s
 rw[uQ];exact wpAny_pure h
theorem z_(xs:Array Value)(i k:Nat):((List.range k).filterMap fun (m:Nat)=>xs[((i:Int)+(m:Int) * 1).toNat]?).toArray=((xs.toList.drop i).take k).toArray:=by
 have e:(fun (m:Nat)=>xs[((i:Int)+(m:Int) * 1).toNat]?)=fun m=>xs[i+m]?:=by
  funext m
  have:((i:Int)+(m:Int) * 1).toNat=i+m:=by omega
  rw[this]
 rw[e];have:=pick_run xs i k
 rw[List.filterMap_map]at this
 have F:((fun x=>xs[x]?) ∘ fun x=>i+x)=fun m=>xs[i+m]?:=rfl
 rw[F]at this
 rw[this]
theorem getItem_tuple_cut{t S:Addr}{F:Array Value}{vl vu:Value}{lo hi:Option Int}{Q:Value→Shared→Prop}(O:IsTup s.heap t F)(hs:s.heap.IsSliceOf S vl vu .none)(pl:IsPart vl lo)(pu:IsPart vu hi)
  (hw:¬ (sIx F.size 0 lo=0∧sIx F.size F.size hi=F.size))
  (h:Q (.ref s.heap.objs.size) { s with heap:=s.heap.push { cls:=.type "tuple", data:=.seq ((F.toList.drop (sIx F.size 0 lo)).take (sIx F.size F.size hi - sIx F.size 0 lo)).toArray } })
  (hsz:F.size≤sizeLine):wpAny (model prog w) A (getItem (.ref t) (.ref S)) Q E s:=by
 have J:sizeOk (.seq ((F.toList.drop (sIx F.size 0 lo)).take (sIx F.size F.size hi - sIx F.size 0 lo)).toArray):=by
  show ((F.toList.drop (sIx F.size 0 lo)).take (sIx F.size F.size hi - sIx F.size 0 lo)).toArray.size≤sizeLine
  rw[List.size_toArray,List.length_take,List.length_drop,Array.length_toList];omega
 have hj:sIx F.size F.size hi≤F.size:=Ea _ _ (Nat.le_refl _) hi
 obtain⟨os,U,Z,ab⟩:=id hs
 have Y:s.TypeIs (.ref S) "slice" := ⟨os,U,Z⟩
 unfold getItem
 try with_reducible refine wpAny_holding ?_
 first | refine wpAny_bind (wpAny_pure ?_) | skip
 refine wpAny_bind (wpAny_sequenceKey O.typeIs (by decide) ?_)
 refine wpAny_bind (wpAny_callSpecial?_slot (name:=Str.ofString "__getitem__") O.typeIs PyProof.Rows.slot_tuple_getitem
  (wpAny_call_entry PyProof.Rows.slot_tuple_getitem O.typeIs entry_tuple_getitem ?_ (args_tuple_getitem _ _)))
 show wpAny _ _ (Builtin.Tuple.tupleItemsOf (.ref t) >>= _) _ _ s
 refine wpAny_bind (tupleItemsOf_ O ?_)
 refine wpAny_bind (wpAny_typeOf Y ?_)
 rw[if_pos (by decide)]
 refine wpAny_bind (sliceApplied_gen hs pl pu ?_)
 have W:¬ ((((sIx F.size 0 lo:Nat):Int) == 0&&(1:Int) == 1&&(sIx F.size F.size hi - sIx F.size 0 lo) == F.size)=true):=by
  intro q
  rw[Bool.and_eq_true,Bool.and_eq_true]at q
  have q1:((sIx F.size 0 lo:Nat):Int)=0:=eq_of_beq q.1.1
  have q2:sIx F.size F.size hi - sIx F.size 0 lo=F.size:=eq_of_beq q.2
  exact hw ⟨by omega,by omega⟩
 show wpAny _ _ (if (((sIx F.size 0 lo:Nat):Int) == 0&&(1:Int) == 1&&(sIx F.size F.size hi - sIx F.size 0 lo) == F.size)=true then _ else _) _ _ s
 rw[if_neg W,z_]
 first
  | exact wpAny_bind (m:=Builtin.Tuple.tupleExact _) (wpAny_newObj_type (wpAny_pure ⟨_,rfl,wpAny_pure h⟩) J)
  | exact wpAny_bind (m:=Builtin.Tuple.tupleExact _) (wpAny_newObj_type (wpAny_bind (wpAny_pure (wpAny_pure ⟨_,rfl,wpAny_pure h⟩))) J)
  | exact wpAny_bind (wpAny_bind (m:=Builtin.Tuple.tupleExact _) (wpAny_newObj_type (wpAny_pure (wpAny_pure ⟨_,rfl,wpAny_pure h⟩)) J))
  | exact wpAny_bind (wpAny_bind (m:=Builtin.Tuple.tupleExact _) (wpAny_newObj_type (wpAny_pure ⟨_,rfl,wpAny_pure h⟩) J))
end
end HT
namespace L2
open PySem PySem.Spec PyProof.Rows
abbrev TO:=St→Hp→(Option Int→Hp→Prop)→Prop
def PO(X:Cx)(e:Option Expr)(t:TO):Prop:=
 ∀ (pins:List (Addr × Obj)) (s:Shared) (σ : St) (H:Hp) (Q:Option Int→Hp→Prop),Inv X pins σ H s→t σ H Q→
  wpAny (model X.prog X.w) X.A (evalPart e X.env) (fun u s'=>∃ o H',Inv X pins σ H' s'∧IsPart u o∧Q o H') X.xe s
noncomputable def tT:TO:=fun _ H Q=>Q none H
noncomputable def Be(t:TE):TO:=fun σ H Q=>t σ H fun x H1=>∃ i,x = .int i∧Q (some i) H1
theorem wR{ns:List Int}:∀ {F:List Value},yl (ns.map V.int) F→IntsAre F ns:=by
 induction ns with
 | nil=>intro F r; rw[rW]at r; cases r; exact .nil
 | cons n ns ih=>
  intro F r
  rw[zW]at r
  cases r with
  | cons r1 r2=>
   obtain⟨t,e⟩:=r1
   subst e;exact .cons n t (ih r2)
section
variable{X:Cx}{e:Expr}{te:TE}{lo hi:Option Expr}{tl th:TO}{pos p2:Pos}
theorem fC:PO X none tT:=by
 intro pins s σ H Q I h
 rw[evalPart_none];exact Hc ⟨none,H,I,.none,h⟩
theorem er(h:PE X e te):PO X (some e) (Be te):=by
 intro pins s σ H Q I J
 rw[evalPart_some];refine bu (h pins s σ H _ I J) fun u U ⟨x,H1,S,F,O⟩=>?_
 obtain⟨i,rfl,q⟩:=O
 obtain⟨t,rfl⟩:=F
 exact⟨some i,H1,S,.int i t,q⟩
def Ey(X:Cx)(r:V→Option Int→Option Int→Hp→VK→Prop):Prop:=
 ∀ (pins:List (Addr × Obj)) (s:Shared) (σ : St) (H:Hp) (x:V) (v vl vu:Value) (lo hi:Option Int) (sl:Addr) (Q:VK),Inv X pins σ H s→RelV x v→s.heap.IsSliceOf sl vl vu .none→IsPart vl lo→IsPart vu hi→r x lo hi H Q→
  ∃ T id,typeLookup (.type T) "__getitem__" = pure (some (.builtin id))∧s.TypeIs v T∧wpAny (model X.prog X.w) X.A (getItem v (.ref sl)) (EP X pins σ Q) X.xe s
theorem Ey.or{r W:V→Option Int→Option Int→Hp→VK→Prop}(h:Ey X r)(h':Ey X W):Ey X (fun x lo hi H Q=>r x lo hi H Q∨W x lo hi H Q):=by
 intro pins s σ H x v J S lo hi F Q I Z Y U O q
 rcases q with q | q
 ·exact h pins s σ H x v J S lo hi F Q I Z Y U O q
 ·exact h' pins s σ H x v J S lo hi F Q I Z Y U O q
noncomputable def Gy(r:V→Option Int→Option Int→Hp→VK→Prop)(te:TE)(tl th:TO):TE:=fun σ H Q=>te σ H fun x H1=>tl σ H1 fun l H2=>th σ H2 fun u H3=>r x l u H3 Q
theorem dW{r:V→Option Int→Option Int→Hp→VK→Prop}(hr:Ey X r)(he:PE X e te)(hl:PO X lo tl)(S:PO X hi th):PE X (.Subscript e (.Slice lo hi none p2) pos) (Gy r te tl th):=by
 intro pins s σ H Q I h
 refine Subscript_ (bu (he pins s σ H _ I h) fun v s1 ⟨x,H1,I1,Z,q1⟩=>?_)
 refine wpAny_Slice (bu (hl pins s1 σ H1 _ I1 q1) fun J s2 ⟨l,H2,I2,W,Y⟩=>bu (S pins s2 σ H2 _ I2 Y) fun F s3 ⟨u,O,I3,U,q3⟩=>?_)
 rw[evalPart_none];refine Hc ?_
 have I4:Inv X pins σ O { s3 with heap:=s3.heap.push { cls:=.type "slice", data:=.fields #[J,F,.none] } }:=I3.kept (t':=s3.toks) fun b ob q=>zz _ q
 obtain⟨T,id,hT,ht,hg⟩:=hr pins { s3 with heap:=s3.heap.push { cls:=.type "slice", data:=.fields #[J,F,.none] } } σ O x v J F l u s3.heap.objs.size Q I4 Z (Heap.IsSliceOf.new ..) W U q3
 show wpAny (model X.prog X.w) X.A (subscriptTail e (.Slice lo hi none p2) v (.ref s3.heap.objs.size)) (EP X pins σ Q) X.xe { s3 with heap:=s3.heap.push { cls:=.type "slice", data:=.fields #[J,F,.none] } }
 exact tail_any (ops:=[.ref s3.heap.objs.size,v]) ht hT hg (by with_unfolding_all rfl)
noncomputable def de(xs:List V)(lo hi:Option Int):List V:=(xs.drop (HT.sIx xs.length 0 lo)).take (HT.sIx xs.length xs.length hi - HT.sIx xs.length 0 lo)
theorem jS(xs:List V)(lo hi:Option Int):(de xs lo hi).length≤xs.length:=by
 unfold de;rw[vW,GO];omega
noncomputable def Kb(K:W.Frag):V→Option Int→Option Int→Hp→VK→Prop:=fun x lo hi H Q=>∃ a xs,x = .ref a∧vr K H a xs∧
 ¬ (HT.sIx xs.length 0 lo=0∧HT.sIx xs.length xs.length hi=xs.length)∧∀ p,H p=none→Q (.ref p) (upd H p (.tup (de xs lo hi)))
theorem Fx:Ey X (Kb X.K):=by
 intro pins s σ H x v vl vu lo hi sl Q I Z Y W U h
 obtain⟨a,xs,rfl,hx,S,q⟩:=h
 cases Z;obtain⟨J,r,O,hz⟩:=I.tuple hx
 have F:J.toArray.size=xs.length:=by rw[qf]; exact r.length.symm
 refine⟨"tuple", _,PyProof.Rows.slot_tuple_getitem.lookup,O.typeIs,?_⟩
 refine HT.getItem_tuple_cut O Y W U (by rw[F]; exact S) ?_ (by rw[F]; exact hz)
 rw[F];refine⟨.ref s.heap.objs.size,_,I.laid (t':=s.toks) (o:=.tup (de xs lo hi)) (fun b ob q=>zz _ q) (zl _) ?_,rfl,q _ (I.hok.fresh (zl _))⟩
 exact⟨gV (jS xs lo hi) hz,_,(r.drop (HT.sIx xs.length 0 lo)).take (HT.sIx xs.length xs.length hi - HT.sIx xs.length 0 lo),EE.new _ _⟩
noncomputable def vI(K:W.Frag):R2:=fun x y H Q=>∃ a b xs ys,x = .ref a∧y = .ref b∧vr K H a xs∧vr K H b ys∧xs≠[]∧xs.length+ys.length≤sizeLine∧
 (ys=[]→Q (.ref a) H)∧(ys≠[]→∀ p,H p=none→Q (.ref p) (upd H p (.tup (xs++ys))))
theorem yl.nil_iff{xs:List V}{F:List Value}(r:yl xs F):F=[] ↔ xs=[]:=by
 cases r with
 | nil=>simp
 | cons _ _=>simp
theorem B3:Ek X (binaryOp .Add) (vI X.K):=by
 intro pins s σ H x y v u Q I rx W h
 obtain⟨a,b,xs,ys,rfl,rfl,U,hb,hx,hz,Z,S⟩:=h
 cases rx
 cases W;obtain⟨ab,J,Y,_⟩:=I.tuple U
 obtain⟨O,F,p2,_⟩:=I.tuple hb
 refine HT.cat_tup Y p2 (fun z=>hx (J.nil_iff.mp z)) (fun z=>⟨.ref a,H,I,rfl,Z (F.nil_iff.mp z)⟩) (fun z=>?_) (by rw[← J.length,← F.length]; exact hz)
 refine⟨.ref s.heap.objs.size,_,I.laid (t':=s.toks) (o:=.tup (xs++ys)) (fun b ob q=>zz _ q) (zl _) ?_,rfl,S (fun w=>z (F.nil_iff.mpr w)) _ (I.hok.fresh (zl _))⟩
 exact⟨by rw[zr]; exact hz,_,J.append F,EE.new _ _⟩
end
noncomputable def jv(n:Nat)(i:Int):Option Nat:=if 0≤i then (if i<n then some i.toNat else none) else if -(n:Int)≤i then some (i+n).toNat else none
noncomputable def cJ{α : Type}(xs:List α)(i:Int):Option α:=(jv xs.length i).bind fun j=>xs[j]?
theorem tJ{n:Nat}{i:Int}{j:Nat}(h:jv n i=some j):seqIndex? i n=some j∧j<n∧-(n:Int)≤i∧i<n:=by
 unfold jv at h
 by_cases h0:0≤i
 ·rw[Hf h0]at h
  by_cases h1:i<n
  ·rw[Hf h1]at h
   have e:i.toNat=j:=Option.some.inj h
   exact⟨by rw[seqIndex_of h0 h1,e],by omega,by omega,h1⟩
  ·rw[He h1]at h; cases h
 ·rw[He h0]at h
  by_cases h1:-(n:Int)≤i
  ·rw[Hf h1]at h
   have e:(i+n).toNat=j:=Option.some.inj h
   exact⟨by rw[seqIndex_neg (by omega) h1,e],by omega,h1,by omega⟩
  ·rw[He h1]at h; cases h
theorem mf{α : Type}{xs:List α}{i:Int}{v:α}(h:cJ xs i=some v):∃ j,seqIndex? i xs.length=some j∧xs[j]? = some v∧j<xs.length∧-(xs.length:Int)≤i∧i<xs.length:=by
 unfold cJ at h
 cases e:jv xs.length i with
 | none=>rw[e]at h; cases h
 | some j=>
  rw[e]at h
  obtain⟨h1,h2,J,F⟩:=tJ e
  exact⟨j,h1,h,h2,J,F⟩
theorem av{α : Type}{xs:List α}{j:Nat}{v:α}(h:xs[j]? = some v):cJ xs (j:Int)=some v:=by
 have F:j<xs.length:=(Hd.mp h).1
 have e:jv xs.length (j:Int)=some j:=by
  unfold jv;rw[Hf (by omega),Hf (by omega)]; simp
 unfold cJ; rw[e]; exact h
def CI(b:Expr):Prop:=∀ o i,subscripted b false o i=operate [o,i] (getItem o i)
def Fq(X:Cx)(r:R2):Prop:=
 ∀ (value slice:Expr) (pins:List (Addr × Obj)) (s:Shared) (σ : St) (H:Hp) (x y:V) (v u:Value) (Q:VK),Inv X pins σ H s→RelV x v→RelV y u→r x y H Q→
  subscripted slice false v u=operate [v,u] (getItem v u)→wpAny (model X.prog X.w) X.A (subscriptTail value slice v u) (EP X pins σ Q) X.xe s
def Fh(X:Cx)(id:String)(r:V→List V→Hp→VK→Prop):Prop:=
 ∀ (pins:List (Addr × Obj)) (s:Shared) (σ : St) (H:Hp) (x:V) (xs:List V) (v:Value) (us:List Value) (Q:VK),Inv X pins σ H s→RelV x v→yl xs us→r x xs H Q→
  wpAny (model X.prog X.w) X.A (call (.builtin id) (v::us)) (EP X pins σ Q) X.xe s
section
variable{X:Cx}{a b:Expr}{ta tb:TE}{pos:Pos}
theorem Fq.or{r O:R2}(h:Fq X r)(h':Fq X O):Fq X (fun x y H Q=>r x y H Q∨O x y H Q):=by
 intro value F pins s σ H x y v u Q I U J q S
 rcases q with q | q
 ·exact h value F pins s σ H x y v u Q I U J q S
 ·exact h' value F pins s σ H x y v u Q I U J q S
theorem ao{r:R2}(J:Fq X r)(F:PE X a ta)(W:PE X b tb)(O:CI b):PE X (.Subscript a b pos) (xM r ta tb):=by
 intro pins s σ H Q I h
 exact Subscript_ (zi F W I h fun v u s2 x y H2 U Y S q=>J a b pins s2 σ H2 x y v u Q U Y S q (O _ _))
noncomputable def Dp(K:W.Frag):R2:=fun x y H Q=>∃ p xs i v,x = .ref p∧y = .int i∧ud K H p xs∧cJ xs i=some v∧Q v H
noncomputable def Ex(K:W.Frag):R2:=fun x y H Q=>∃ p xs i v,x = .ref p∧y = .int i∧vr K H p xs∧cJ xs i=some v∧Q v H
noncomputable def C4:R2:=fun x y H Q=>∃ z i c,x = .str z∧y = .int i∧z.length≤sizeLine∧cJ z.cps.toList i=some c∧Q (.str ⟨#[c]⟩) H
theorem Gq:Fq X (Dp X.K):=by
 intro value J pins s σ H x y v u Q I rx ry h Z
 obtain⟨p,xs,i,z,rfl,rfl,hq,he,q⟩:=h
 cases rx;obtain⟨t,rfl⟩:=ry
 obtain⟨W,r,U,hz⟩:=I.list hq
 obtain⟨j,h1,h2,h3,h4,h5⟩:=mf he
 obtain⟨w,Y,S⟩:=r.get h2
 have hl:=r.length;have hn:=hZ;have F:EP X pins σ Q w s:=⟨z,H,I,S,q⟩
 by_cases h0:0≤i
 ·have O:i.toNat=j:=by
   rw[seqIndex_of h0 h5]at h1
   exact Option.some.inj h1
  exact item_listR U.isList h0 (by omega) (by rw[O]; simpa using Y) F Z
 ·have O:(i+(W.toArray.size:Int)).toNat=j:=by
   rw[seqIndex_neg (by omega) h4]at h1
   rw[qf,← hl];exact Option.some.inj h1
  exact subscriptTail_builtinR (x:=w) U.isList.typeIs slot_list_getitem.lookup
   (wpAny_getItem_list_neg (Q:=fun r s'=>r=w∧EP X pins σ Q r s') U.isList (by omega) (by rw[qf] <;> omega) (by omega) (by rw[O]; simpa using Y) ⟨rfl,F⟩) Z
theorem GW:Fq X (Ex X.K):=by
 intro value F pins s σ H x y v u Q I rx W h hs
 obtain⟨p,xs,i,z,rfl,rfl,Y,U,q⟩:=h
 cases rx;obtain⟨t,rfl⟩:=W
 obtain⟨ab,r,S,hz⟩:=I.tuple Y
 obtain⟨j,h1,h2,h3,h4,h5⟩:=mf U
 obtain⟨w,Z,O⟩:=r.get h2
 have hl:=r.length;have hn:=hZ;have J:EP X pins σ Q w s:=⟨z,H,I,O,q⟩
 exact subscriptTail_builtinR (x:=w) S.typeIs slot_tuple_getitem.lookup
  (getItem_tuple (j:=j) (Q:=fun r s'=>r=w∧EP X pins σ Q r s') S (by omega) (by omega) (by rw[qf,← hl]; exact h1) (by simpa using Z) ⟨rfl,J⟩) hs
theorem Dn:Fq X C4:=by
 intro value F pins s σ H x y v u Q I Z S h Y
 obtain⟨z,i,c,rfl,rfl,hz,O,q⟩:=h
 obtain⟨t,rfl⟩:=Z
 obtain⟨t',rfl⟩:=S
 obtain⟨j,h1,h2,h3,J,U⟩:=mf O
 have hl:z.cps.toList.length=z.length:=by simp[Str.length]
 rw[hl]at h1 J U
 have hn:=hZ
 exact tail_any (typeIs_str s z t) slot_str_getitem.lookup (getItem_str (c:=c) (by
  have e1:decide (i < -(2 ^ 63:Int))=false:=decide_eq_false (by omega)
  have W:decide (i≥2 ^ 63)=false:=decide_eq_false (by omega)
  rw[e1,W,zaI]) (by rw[h1]; simpa using h2) ⟨.str ⟨#[c]⟩,H,I.tok _,⟨_,rfl⟩,q⟩) Y
noncomputable def KU(K:W.Frag):R2:=fun x y H Q=>Dp K x y H Q∨Ex K x y H Q∨C4 x y H Q
theorem DR:Fq X (KU X.K):=Gq.or (GW.or Dn)
theorem wy(F:List Value)(n j:Nat)(u:Value):Obj.mapSeq (·.setIfInBounds j u) { cls:=.type "list", data:=.seq F.toArray n }={ cls:=.type "list", data:=.seq (F.set j u).toArray n }:=by
 simp[Obj.mapSeq]
theorem Inv.lst{pins:List (Addr × Obj)}{σ : St}{H:Hp}{s:Shared}{p:Addr}{xs:List V}(I:Inv X pins σ H s)(h:H p=some (.lst xs)) :
  ∃ (F:List Value) (n:Nat),yl xs F∧s.heap.get? p=some { cls:=.type "list", data:=.seq F.toArray n }∧xs.length≤sizeLine:=by
 obtain⟨z,F,n,r,e⟩:=I.hok p _ h
 exact⟨F,n,r,e,z⟩
theorem Inv.lstUpd{pins:List (Addr × Obj)}{σ : St}{H:Hp}{s:Shared}{p:Addr}{xs ys:List V}{F its':List Value}{n n':Nat}{f:Obj→Obj}(I:Inv X pins σ H s)(h:H p=some (.lst xs))
  (O:s.heap.get? p=some { cls:=.type "list", data:=.seq F.toArray n }) (hf:f { cls:=.type "list", data:=.seq F.toArray n }={ cls:=.type "list", data:=.seq its'.toArray n' }) (r:yl ys its') (hz:ys.length≤sizeLine) (t:Nat) :
  Inv X pins σ (upd H p (.lst ys)) { s with heap:=s.heap.update p f,toks:=t }:=by
 have e:(s.heap.update p f).get? p=some { cls:=.type "list", data:=.seq its'.toArray n' }:=by
  rw[mr f O (by rw[hf] <;> rfl),hf]
 refine I.write (x:=p) (e:=p) (by rw[h]; trivial) (.inl rfl) (fun b u J q=>(zaJ _ _ (ve J)).trans q) ⟨_,e⟩ ?_
 exact⟨hz,its',n',r,e⟩
noncomputable def uO:V→V→V→Hp→(Hp→Prop)→Prop:=fun o i v H Q=>∃ p xs k j,o = .ref p∧i = .int k∧H p=some (.lst xs)∧jv xs.length k=some j∧Q (upd H p (.lst (xs.set j v)))
theorem Ai:Fv X uO:=by
 intro pins s σ H o i v ov iv u Q I ro ri rv h
 obtain⟨p,xs,k,j,rfl,rfl,Z,hj,q⟩:=h
 cases ro;obtain⟨t,rfl⟩:=ri
 obtain⟨F,n,r,O,hz⟩:=I.lst Z
 obtain⟨h1,h2,U,S⟩:=tJ hj
 have hl:=r.length;have hn:=hZ
 have Y:Inv X pins σ (upd H p (.lst (xs.set j v))) { s with heap:=s.heap.update p (Obj.mapSeq (·.setIfInBounds j u)) }:=
  I.lstUpd Z O (wy F n j u) (r.set rv j) (by rw[List.length_set]; exact hz) s.toks
 by_cases h0:0≤k
 ·have J:k.toNat=j:=by
   rw[seqIndex_of h0 S]at h1
   exact Option.some.inj h1
  exact W.ki_setAt O h0 (by omega) (by rw[qf,← hl]; exact S) (by rw[J]; exact⟨_,Y,q⟩)
 ·have J:(k+(F.toArray.size:Int)).toNat=j:=by
   rw[seqIndex_neg (by omega) U]at h1
   rw[qf,← hl];exact Option.some.inj h1
  exact W.ki_setBack O (by omega) (by rw[qf,← hl]; exact U) (by omega) (by rw[J]; exact⟨_,Y,q⟩)
theorem p_(lo hi:Option Int)(n:Nat):(sliceBounds lo hi none n).1=((HT.sIx n 0 lo:Nat):Int)∧(sliceBounds lo hi none n).2.1=((HT.sIx n n hi:Nat):Int)∧(sliceBounds lo hi none n).2.2=1:=by
 refine⟨?_,?_,rfl⟩
 ·cases lo with
  | none=>simp[sliceBounds,HT.sIx]
  | some i=>
   simp only[sliceBounds,HT.sIx,Option.getD_none,show (1:Int)>0 by decide,if_true]
   by_cases h:i<0
   ·simp only[h,if_true] <;> omega
   ·simp only[h,if_false] <;> omega
 ·cases hi with
  | none=>simp[sliceBounds,HT.sIx]
  | some i=>
   simp only[sliceBounds,HT.sIx,Option.getD_none,show (1:Int)>0 by decide,if_true]
   by_cases h:i<0
   ·simp only[h,if_true] <;> omega
   ·simp only[h,if_false] <;> omega
theorem ou(F:List Value)(lo hi:Option Int):slicePick F.toArray lo hi none=((F.drop (HT.sIx F.length 0 lo)).take (HT.sIx F.length F.length hi - HT.sIx F.length 0 lo)).toArray:=by
 obtain⟨h1,h2,J⟩:=p_ lo hi F.toArray.size
 unfold slicePick;rw[h1,h2,J];simp only[sliceRange_one,pick_run,qf] <;> rfl
noncomputable def Ac(K:W.Frag):V→Option Int→Option Int→Hp→VK→Prop:=fun x lo hi H Q=>∃ a xs,x = .ref a∧ud K H a xs∧∀ p,H p=none→Q (.ref p) (upd H p (.lst (de xs lo hi)))
theorem Cp:Ey X (Ac X.K):=by
 intro pins s σ H x v vl vu lo hi Z Q I Y W S O h
 obtain⟨a,xs,rfl,hx,q⟩:=h
 cases Y;obtain⟨U,r,J,hz⟩:=I.list hx
 have F:=r.length;refine⟨"list", _,slot_list_getitem.lookup,J.isList.typeIs,?_⟩
 refine wpAny_getItem_list_slice J.isList W S O .none (by simp) ?_ (by rw[qf] <;> omega)
 rw[ou,← F];refine⟨.ref s.heap.objs.size,_,I.laid (t':=s.toks) (o:=.lst (de xs lo hi)) (fun b ob q=>zz _ q) (zl _) ?_,rfl,q _ (I.hok.fresh (zl _))⟩
 exact⟨gV (jS xs lo hi) hz,_,0,(r.drop (HT.sIx xs.length 0 lo)).take (HT.sIx xs.length xs.length hi - HT.sIx xs.length 0 lo),zV _ rfl⟩
noncomputable def bM:V→Bool
 | .non=>true
 | .bl _=>true
 | .int _=>true
 | .str _=>true
 | _=>false
noncomputable def fw:V→V→Bool
 | .non,.non=>true
 | .bl a,.bl b=>a == b
 | .bl a,.int b=>(if a then 1 else 0) == b
 | .int a,.bl b=>a == (if b then 1 else 0)
 | .int a,.int b=>a == b
 | .str a,.str b=>a == b
 | _,_=>false
theorem jf{A:Around}{s:Shared}{y x:V}{u v:Value}(J:RelV y u)(F:RelV x v)(S:bM y=true)(O:bM x=true):SeqAt.EqAt A s u v (fw y x):=by
 cases y with
 | non=>
  cases J
  cases x with
  | non=>cases F; exact SeqAt.EqAt.same _
  | bl b=>cases F; exact SeqAt.EqAt.none_bool b
  | int b=>obtain⟨t,rfl⟩:=F; exact SeqAt.EqAt.none_int b t
  | str b=>obtain⟨t,rfl⟩:=F; exact SeqAt.EqAt.none_str b t
  | _=>exact absurd (show false=true from O) wj
 | bl a=>
  cases J
  cases x with
  | non=>cases F; exact SeqAt.EqAt.bool_none a
  | bl b=>cases F; exact SeqAt.EqAt.bool_bool a b
  | int b=>obtain⟨t,rfl⟩:=F; exact SeqAt.EqAt.bool_int a b t
  | str b=>obtain⟨t,rfl⟩:=F; exact SeqAt.EqAt.bool_str a b t
  | _=>exact absurd (show false=true from O) wj
 | int a=>
  obtain⟨t',rfl⟩:=J
  cases x with
  | non=>cases F; exact SeqAt.EqAt.int_none a t'
  | bl b=>cases F; exact SeqAt.EqAt.int_bool a t' b
  | int b=>obtain⟨t,rfl⟩:=F; exact SeqAt.EqAt.int_int a t' b t
  | str b=>obtain⟨t,rfl⟩:=F; exact SeqAt.EqAt.int_str a t' b t
  | _=>exact absurd (show false=true from O) wj
 | str a=>
  obtain⟨t',rfl⟩:=J
  cases x with
  | non=>cases F; exact SeqAt.EqAt.str_none a t'
  | bl b=>cases F; exact SeqAt.EqAt.str_bool a t' b
  | int b=>obtain⟨t,rfl⟩:=F; exact SeqAt.EqAt.str_int a t' b t
  | str b=>obtain⟨t,rfl⟩:=F; exact SeqAt.EqAt.str_str a t' b t
  | _=>exact absurd (show false=true from O) wj
 | _=>exact absurd (show false=true from S) wj
noncomputable def fv(x:V)(u:Value):Bool:=match u with
 | .none=>fw .non x
 | .bool b=>fw (.bl b) x
 | .int i _=>fw (.int i) x
 | .str z _=>fw (.str z) x
 | _=>false
theorem xO{x y:V}{u:Value}(r:RelV y u)(f:bM y=true):fv x u=fw y x:=by
 cases y with
 | non=>cases r; rfl
 | bl b=>cases r; rfl
 | int i=>obtain⟨t,rfl⟩:=r; rfl
 | str z=>obtain⟨t,rfl⟩:=r; rfl
 | _=>exact absurd (show false=true from f) wj
theorem hX{x:V}:∀ {xs:List V} {F:List Value},yl xs F→xs.all bM=true→F.any (fv x)=xs.any fun y=>fw y x
 | _,_,.nil,_=>rfl
 | y::xs,u::F,.cons r t,f=>by
  rw[List.all_cons,zaH]at f
  rw[zaK,zaK,xO r f.1,hX t f.2]
theorem gH{A:Around}{s:Shared}{x:V}{v:Value}(S:RelV x v)(O:bM x=true):∀ {xs:List V} {J:List Value},yl xs J→xs.all bM=true→∀ u∈J,SeqAt.EqAt A s u v (fv x u)
 | _,_,.nil,_=>fun u F=>by cases F
 | y::xs,u::J,.cons r t,f=>fun U F=>by
  rw[List.all_cons,zaH]at f
  rcases Hi.mp F with rfl | F
  ·rw[xO r f.1]; exact jf r S f.1 O
  ·exact gH S O t f.2 U F
noncomputable def iX(x:V)(xs:List V):Bool:=xs.any fun y=>fw y x
noncomputable def Gz(K:W.Frag)(neg:Bool):R2:=fun x y H Q=>∃ p xs,y = .ref p∧(ud K H p xs∨vr K H p xs)∧bM x=true∧xs.all bM=true∧Q (.bl (if neg then !iX x xs else iX x xs)) H
theorem yi:Ek X (compareOp .In) (Gz X.K false):=by
 intro pins s σ H x y v u Q I W Y h
 obtain⟨p,xs,rfl,J,U,fs,q⟩:=h
 cases Y;rcases J with J | J
 ·obtain⟨F,r,S,hz⟩:=I.list J
  refine SeqAt.in_listAt (fv x) S.isList (fun w O=>gH W U r fs w (by simpa using O)) ⟨.bl _,H,I,rfl,?_⟩
  rw[show F.toArray.any (fv x)=F.any (fv x) by simp,hX r fs]
  exact q
 ·obtain⟨F,r,S,hz⟩:=I.tuple J
  refine SeqAt.in_tupleAt (fv x) S (fun w O=>gH W U r fs w (by simpa using O)) ⟨.bl _,H,I,rfl,?_⟩
  rw[show F.toArray.any (fv x)=F.any (fv x) by simp,hX r fs]
  exact q
theorem ph:Ek X (compareOp .NotIn) (Gz X.K true):=by
 intro pins s σ H x y v u Q I W Y h
 obtain⟨p,xs,rfl,J,U,fs,q⟩:=h
 cases Y;rcases J with J | J
 ·obtain⟨F,r,S,hz⟩:=I.list J
  refine SeqAt.notIn_listAt (fv x) S.isList (fun w O=>gH W U r fs w (by simpa using O)) ⟨.bl _,H,I,rfl,?_⟩
  rw[show F.toArray.any (fv x)=F.any (fv x) by simp,hX r fs]
  exact q
 ·obtain⟨F,r,S,hz⟩:=I.tuple J
  refine SeqAt.notIn_tupleAt (fv x) S (fun w O=>gH W U r fs w (by simpa using O)) ⟨.bl _,H,I,rfl,?_⟩
  rw[show F.toArray.any (fv x)=F.any (fv x) by simp,hX r fs]
  exact q
theorem oS:AL X (.builtin "len") (fun xs H Q=>∃ p ys,xs=[.ref p]∧(ud X.K H p ys∨vr X.K H p ys)∧Q (.int ys.length) H):=by
 intro pins s σ H xs Z Q I r h
 obtain⟨p,ys,rfl,J,q⟩:=h
 obtain⟨u,rfl,W⟩:=cT r
 cases W;have Y:=hZ;rcases J with J | J
 ·obtain⟨S,U,O,hz⟩:=I.list J
  have F:=U.length;exact Calls.call_len_list O.isList (by simp only[qf] <;> omega) ⟨.int ys.length,H,I.tok _,⟨s.toks+1,by rw[qf,F]⟩,q⟩
 ·obtain⟨S,U,O,hz⟩:=I.tuple J
  have F:=U.length;exact len_tuple O (by simp only[qf] <;> omega) ⟨.int ys.length,H,I.tok _,⟨s.toks+1,by rw[qf,F]⟩,q⟩
theorem rj:AL X (.builtin "len") (fun xs H Q=>∃ z,xs=[.str z]∧z.length≤sizeLine∧Q (.int z.length) H):=by
 intro pins s σ H xs J Q I r h
 obtain⟨z,rfl,hz,q⟩:=h
 obtain⟨u,rfl,t,rfl⟩:=cT r
 have F:=hZ;exact len_str (by omega) ⟨.int z.length,H,I.tok _,⟨_,rfl⟩,q⟩
theorem pe:AL X (.type "list") (fun xs H Q=>∃ p ys,xs=[.ref p]∧(ud X.K H p ys∨vr X.K H p ys)∧∀ l,H l=none→Q (.ref l) (upd H l (.lst ys))):=by
 intro pins s σ H xs us Q I r h
 obtain⟨p,ys,rfl,U,q⟩:=h
 obtain⟨u,rfl,rx⟩:=cT r
 cases rx
 have W:∀ (F:List Value),yl ys F→ys.length≤sizeLine→∀ (h':Heap) (O:Nat),(∀ b o',s.heap.get? b=some o'→h'.get? b=some o')→
   h'.get? s.heap.objs.size=some { cls:=.type "list", dict:=none,data:=.seq F.toArray O,slots:=#[] }→EP X pins σ Q (.ref s.heap.objs.size) { s with heap:=h' }:=fun F J hz h' O kp e=>
  ⟨.ref s.heap.objs.size,_,I.laid (t':=s.toks) kp (zl _) (show Ax X.prog X.w _ h' _ (.lst ys) from ⟨hz,F,O,J,e⟩),rfl,q _ (I.hok.fresh (zl _))⟩
 rcases U with U | U
 ·obtain⟨F,J,Z,hz⟩:=I.list U
  have S:=J.length;obtain⟨o,ho,Y,n,hd⟩:=Z.isList
  exact call_list_seq p (.inl rfl) ho Y hd (fun h' O kp e=>W F J hz h' O kp e) (by simp only[qf] <;> omega)
 ·obtain⟨F,J,Z,hz⟩:=I.tuple U
  have S:=J.length;obtain⟨o,ho,Y,n,hd⟩:=Z
  exact call_list_seq p (.inr rfl) ho Y hd (fun h' O kp e=>W F J hz h' O kp e) (by simp only[qf] <;> omega)
theorem oE:AL X (.type "tuple") (fun xs H Q=>∃ p ys,xs=[.ref p]∧((ud X.K H p ys∧∀ l,H l=none→Q (.ref l) (upd H l (.tup ys)))∨(vr X.K H p ys∧Q (.ref p) H))):=by
 intro pins s σ H xs us Q I r h
 obtain⟨p,ys,rfl,h⟩:=h
 obtain⟨u,rfl,Z⟩:=cT r
 cases Z;rcases h with ⟨J,q⟩ | ⟨J,q⟩
 ·obtain⟨F,S,O,hz⟩:=I.list J
  have U:=S.length;refine call_tuple_list O.isList (fun h' kp=>?_) (by simp only[qf] <;> omega)
  have W:Inv X pins σ H { s with heap:=h' }:=I.kept (t':=s.toks) kp
  have Y:Inv X pins σ (upd H h'.objs.size (.tup ys)) { s with heap:=h'.push { cls:=.type "tuple", data:=.seq F.toArray } }:=
   W.laid (t':=s.toks) (fun b o e=>zz _ e) (zl _) (show Ax X.prog X.w _ _ _ (.tup ys) from ⟨hz,F,S,EE.new _ _⟩)
  exact⟨.ref h'.objs.size,_,Y,rfl,q _ (W.hok.fresh (zl _))⟩
 ·obtain⟨F,S,O,hz⟩:=I.tuple J
  exact call_tuple_same O ⟨.ref p,H,I,rfl,q⟩
def rM(K:W.Frag)(T:String)(x:V)(H:Hp):Prop:=match x with
 | .str _=>T = "str"
 | .int _=>T = "int"
 | .ref p=>(T = "list" ∧ ∃ xs,ud K H p xs)∨(T = "tuple" ∧ ∃ o,K.lookup p=some o∧o.cls = .type "tuple" ∧ o.dict=none)∨
   (T = "dict" ∧ ((∃ kvs,H p=some (.dK kvs))∨∃ kvs,H p=some (.dT kvs)))∨(T = "set" ∧ ∃ S n,H p=some (.set S n))
 | _=>False
theorem xE{pins:List (Addr × Obj)}{σ : St}{H:Hp}{s:Shared}{T:String}{x:V}{v:Value}(I:Inv X pins σ H s)(r:RelV x v)(ty:rM X.K T x H) :
  s.TypeIs v T∧∀ a,v = .ref a→∃ ob,s.heap.get? a=some ob∧ob.dict=none:=by
 cases x with
 | str z=>
  obtain⟨t,rfl⟩:=r
  cases (show T = "str" from ty)
  exact⟨typeIs_str s z t,fun _ e=>nomatch e⟩
 | int i=>
  obtain⟨t,rfl⟩:=r
  cases (show T = "int" from ty)
  exact⟨typeIs_int s i t,fun _ e=>nomatch e⟩
 | ref p=>
  cases r;rcases ty with ⟨rfl,xs,W⟩ | ⟨rfl,o,F,U,hd⟩ | ⟨rfl,F⟩ | ⟨rfl,S,n,F⟩
  ·obtain⟨Y,_,O,_⟩:=I.list W
   refine⟨O.isList.typeIs,fun a e=>?_⟩
   cases e;obtain⟨o,n,e,c,hd,_⟩:=O
   exact⟨o,e,hd⟩
  ·refine⟨⟨o,I.kIn p o F,U⟩,fun a e=>?_⟩
   cases e;exact⟨o,I.kIn _ o F,hd⟩
  ·have z:∃ o,s.heap.get? p=some o∧o.ExactDict:=by
    rcases F with ⟨kvs,F⟩ | ⟨kvs,F⟩
    ·obtain⟨_,_,_,_,o,_,_,e,ex,_⟩:=I.hok p _ F
     exact⟨o,e,ex⟩
    ·obtain⟨_,_,_,_,o,_,_,e,ex,_⟩:=I.hok p _ F
     exact⟨o,e,ex⟩
   obtain⟨o,e,ex⟩:=z
   refine⟨⟨o,e,ex.1⟩,fun a J=>?_⟩
   cases J;exact⟨o,e,ex.2.1⟩
  ·obtain⟨o,_,_,_,e,ex,_⟩:=I.hok p _ F
   refine⟨⟨o,e,ex.1⟩,fun a J=>?_⟩
   cases J;exact⟨o,e,ex.2.1⟩
 | _=>exact False.elim ty
noncomputable def Af(K:W.Frag)(T:String)(r:V→List V→Hp→VK→Prop)(to:TE):TE:=fun σ H Q=>to σ H fun x H1=>rM K T x H1∧r x [] H1 Q
noncomputable def Dg(K:W.Frag)(T:String)(r:V→List V→Hp→VK→Prop)(to:TE)(t:TA):TE:=fun σ H Q=>to σ H fun x H1=>rM K T x H1∧t σ H1 fun xs H2=>r x xs H2 Q
variable{o e:Expr}{es:List Expr}{to:TE}{t:TA}{name:Str}{apos cpos:Pos}{T id:String}{r:V→List V→Hp→VK→Prop}
theorem DQ(W:PlainAttrs T)(slot:Slot T name id)(J:typeOf (.builtin id)=pure (.type "method_descriptor")) (Z:Fh X id r) (ho:PE X o to)
  (F:attributeBase o name X.env (eval o X.env)=eval o X.env:=by rfl) (hline:(apos.endLine == cpos.line)=true:=by rfl):PE X (.Call (.Attribute o name apos) [] [] cpos) (Af X.K T r to):=by
 intro pins s σ H Q I h
 refine wpAny_Call_method0_late F hline (bu (ho pins s σ H _ I h) fun v Y ⟨x,H1,S,O,ty,U⟩=>?_)
 obtain⟨h1,h2⟩:=xE S O ty
 exact⟨T,id,W,slot,J,h1,h2,zbf rfl (PySem.evalArgs_none (Z pins Y σ H1 x [] v [] Q S O .nil U))⟩
theorem Gd(pa:PlainAttrs T)(slot:Slot T name id)(J:typeOf (.builtin id)=pure (.type "method_descriptor")) (hm:Fh X id r) (ho:PE X o to) (Y:PA X (e::es) t)
  (F:attributeBase o name X.env (eval o X.env)=eval o X.env:=by rfl)
  (hfew:((backTo cpos (starEach (e::es) X.env)).all (fun x=>!x.1)&&(backToKw cpos (keywordEach [] X.env)).all (fun x=>x.1.isSome)
   && decide ((e::es).length+([]:List Keyword).length+(if ([]:List Keyword).isEmpty then 0 else 1)<30))=true:=by rfl)
  (hline:(apos.endLine == cpos.line)=true:=by rfl) (hs:starEach (e::es) X.env=(false,eval e X.env)::starEach es X.env:=by rfl) (hplain:(backTo cpos (starEach es X.env)).any (·.1)=false:=by rfl) :
  PE X (.Call (.Attribute o name apos) (e::es) [] cpos) (Dg X.K T r to t):=by
 intro pins s σ H Q I h
 refine wpAny_Call_method_late F hfew hline rfl (bu (ho pins s σ H _ I h) fun v s1 ⟨x,H1,U,O,ty,Z⟩=>?_)
 obtain⟨h1,h2⟩:=xE U O ty
 refine⟨T,id,pa,slot,J,h1,h2,?_⟩
 have S:=Y cpos pins s1 σ H1 _ U Z;rw[hs]at S ⊢
 refine zbf (by show (false||(backTo cpos (starEach es X.env)).any (·.1))=false; rw[hplain] <;> rfl) (Calls.evalArgs_plain ?_)
 exact bu S fun us s2 ⟨vs,H2,I2,r2,W⟩=>hm pins s2 σ H2 x vs v us Q I2 O r2 W
/- xs.append(e), list.index on a module's tuple .. are Fh facts of 06m -/
end
def xr(X:Cx)(id:String)(r:V→List V→Hp→VK→Prop):Prop:=
 ∀ (pins:List (Addr × Obj)) (s:Shared) (σ : St) (H:Hp) (x:V) (xs:List V) (v:Value) (us:List Value) (Q:VK),Inv X pins σ H s→RelV x v→yl xs us→r x xs H Q→
  wpAny (model X.prog X.w) X.A (call (.builtin id) (v::us)) (EP X pins σ Q) X.xe s
theorem yl.one:∀ {x:V} {F:List Value},yl [x] F→∃ u,F=[u]∧RelV x u
 | _,_,.cons r .nil=>⟨_,rfl,r⟩
theorem yl.zero:∀ {F:List Value},yl [] F→F=[]
 | _,.nil=>rfl
theorem yl.dropLast{xs:List V}{F:List Value}(h:yl xs F):yl xs.dropLast F.dropLast:=by
 induction h with
 | nil=>exact .nil
 | cons r t ih=>
  cases t with
  | nil=>exact .nil
  | cons q t'=>exact .cons r ih
theorem yl.reverse{xs:List V}{F:List Value}(h:yl xs F):yl xs.reverse F.reverse:=by
 induction h with
 | nil=>exact .nil
 | cons r t ih=>rw[List.reverse_cons,List.reverse_cons]; exact yl.append ih (.cons r .nil)
theorem vi{α : Type}(l:List α):l.eraseIdx (l.length - 1)=l.dropLast:=by
 induction l with
 | nil=>rfl
 | cons a r ih=>
  cases r with
  | nil=>rfl
  | cons b r=>
   have e:(a::b::r).length - 1=((b::r).length - 1)+1:=by
    have h1:(a::b::r).length=r.length+2:=rfl
    have h2:(b::r).length=r.length+1:=rfl
    omega
   rw[e,List.eraseIdx_cons_succ,ih]
   all_goals rfl
section
variable{X:Cx}{pins:List (Addr × Obj)}{σ : St}{H:Hp}{s:Shared}{l b:Addr}{xs ys zs:List V}
theorem Inv.lset{F its':List Value}{n:Nat}{f:Array Value→Array Value}{t':Nat}(I:Inv X pins σ H s)(J:H l=some (.lst xs))
  (e:s.heap.get? l=some { cls:=.type "list", data:=.seq F.toArray n }) (hf:f F.toArray=its'.toArray) (hv:yl ys its') (hz:ys.length≤sizeLine) :
  Inv X pins σ (upd H l (.lst ys)) { s with heap:=s.heap.update l (Obj.mapSeq f),toks:=t' }:=by
 have q:=IsL.update e f;rw[hf]at q
 refine I.write (x:=l) (e:=l) (by rw[J]; exact trivial) (.inl rfl) (fun U u S O=>(zaJ s.heap (Obj.mapSeq f) (ve S)).trans O) ⟨_,q⟩ ?_
 exact⟨hz,its',_,hv,q⟩
theorem Inv.lnew{F:List Value}{t':Nat}(I:Inv X pins σ H s)(hv:yl ys F)(hz:ys.length≤sizeLine) :
  Inv X pins σ (upd H s.heap.objs.size (.lst ys)) { s with heap:=s.heap.push { cls:=.type "list", data:=.seq F.toArray },toks:=t' }:=
 I.laid (fun _ _ q=>zz _ q) (zl _) ⟨hz,F,0,hv,zV _ rfl⟩
theorem Inv.fresh(I:Inv X pins σ H s):H s.heap.objs.size=none:=I.hok.fresh (zl _)
theorem Inv.lstM(I:Inv X pins σ H s)(J:H l=some (.lst xs)):xs.length≤sizeLine∧∃ (F:List Value) (n:Nat),yl xs F∧xs.length=F.length∧s.heap.get? l=some { cls:=.type "list", data:=.seq F.toArray n }:=by
 obtain⟨z,F,n,r,e⟩:=I.hok l _ J
 exact⟨z,F,n,r,r.length,e⟩
theorem Aa{n:Nat}(h:n≤sizeLine):Builtin.List.listTooLong n=false:=by
 unfold Builtin.List.listTooLong;exact decide_eq_false (by omega)
end
section
variable{X:Cx}
noncomputable def lU:V→List V→Hp→VK→Prop:=fun x vs H Q=>∃ l xs y,x = .ref l∧vs=[y]∧H l=some (.lst xs)∧xs.length<sizeLine∧Q .non (upd H l (.lst (xs++[y])))
theorem oh:xr X "list.append" lU:=by
 intro pins s σ H x vs v Y Q I W U h
 obtain⟨l,xs,y,rfl,rfl,O,hz,q⟩:=h
 cases W;obtain⟨u,rfl,S⟩:=U.one
 obtain⟨z,J,n,r,hl,e⟩:=I.lstM O
 refine call_meets F.slot_list_append ⟨_,e,rfl⟩ F.entry_list_append (F.args_list_append_2 _ _) (PySem.list_append l J.toArray n u (by rw[qf]; omega)) ⟨e,?_⟩
 refine⟨.non,_,I.lset (its':=J++[u]) O e (by simp) (r.append (.cons S .nil)) ?_,rfl,q⟩
 rw[zr,Gv];omega
noncomputable def mq:V→List V→Hp→VK→Prop:=fun x vs H Q=>∃ l b xs zs,x = .ref l∧vs=[.ref b]∧H l=some (.lst xs)∧H b=some (.lst zs)∧xs.length+zs.length≤sizeLine∧Q .non (upd H l (.lst (xs++zs)))
theorem xh:xr X "list.extend" mq:=by
 intro pins s σ H x vs v us Q I rx rv h
 obtain⟨l,b,xs,zs,rfl,rfl,U,W,hz,q⟩:=h
 cases rx;obtain⟨u,rfl,Y⟩:=rv.one
 cases Y;obtain⟨z,O,n,r,hl,e⟩:=I.lstM U
 obtain⟨z2,J,Z,r2,ab,e2⟩:=I.lstM W
 have hsz:O.toArray.size+J.toArray.size≤sizeLine:=by rw[qf,qf]; omega
 have S:¬ (!O.toArray.isEmpty&&Builtin.List.listTooLong (O.toArray.size+J.toArray.size))=true:=by
  rw[Aa hsz,Bool.and_false];exact wj
 refine call_meets F.slot_list_extend ⟨_,e,rfl⟩ F.entry_list_extend (F.args_list_extend_2 _ _)
  (AutoSeq1.list_extend_list_list_0 l O.toArray n b J.toArray Z S (by rw[qf]; omega) (by omega)) ⟨e,e2,?_⟩
 refine⟨.non,_,I.lset (its':=O++J) U e (by simp) (r.append r2) ?_,rfl,q⟩
 rw[zr];omega
noncomputable def AE:V→List V→Hp→VK→Prop:=fun x vs H Q=>∃ l xs y,x = .ref l∧vs=[]∧H l=some (.lst xs)∧xs[xs.length - 1]? = some y∧Q y (upd H l (.lst xs.dropLast))
theorem Df:xr X "list.pop" AE:=by
 intro pins s σ H x vs v us Q I rx Z h
 obtain⟨l,xs,y,rfl,rfl,U,hy,q⟩:=h
 cases rx;have O:=Z.zero;subst O;obtain⟨z,J,n,r,hl,e⟩:=I.lstM U
 obtain⟨u,Y,W⟩:=r.get hy
 have S:J.toArray[J.toArray.size - 1]? = some u:=by
  show J.toArray[J.length - 1]? = some u
  rw[← mD,← hl];exact Y
 refine call_meets F.slot_list_pop ⟨_,e,rfl⟩ F.entry_list_pop (F.args_list_pop_1 _) (MeetsSeq.list_pop_last l J.toArray n u S (by rw[qf]; omega)) ⟨e,?_⟩
 refine⟨y,_,I.lset (its':=J.dropLast) U e ?_ r.dropLast ?_,W,q⟩
 ·show J.toArray.eraseIdxIfInBounds (J.toArray.size - 1)=J.dropLast.toArray
  rw[qf,List.eraseIdxIfInBounds_toArray,vi]
 ·rw[List.length_dropLast]
  omega
noncomputable def pc:V→List V→Hp→VK→Prop:=fun x vs H Q=>∃ l xs,x = .ref l∧vs=[]∧H l=some (.lst xs)∧Q .non (upd H l (.lst xs.reverse))
theorem wv:xr X "list.reverse" pc:=by
 intro pins s σ H x vs v Y Q I W U h
 obtain⟨l,xs,rfl,rfl,S,q⟩:=h
 cases W;have O:=U.zero;subst O;obtain⟨z,J,n,r,hl,e⟩:=I.lstM S
 refine call_meets F.slot_list_reverse ⟨_,e,rfl⟩ F.entry_list_reverse (F.args_list_reverse_1 _) (AutoSeq1.list_reverse_list_0 l J.toArray n (by rw[qf]; omega)) ⟨e,?_⟩
 refine⟨.non,_,I.lset (its':=J.reverse) S e (by simp) r.reverse ?_,rfl,q⟩
 rw[zaX];omega
noncomputable def xi:V→List V→Hp→VK→Prop:=fun x vs H Q=>∃ l xs,x = .ref l∧vs=[]∧H l=some (.lst xs)∧Q .non (upd H l (.lst []))
theorem zE:xr X "list.clear" xi:=by
 intro pins s σ H x vs v Y Q I W U h
 obtain⟨l,xs,rfl,rfl,S,q⟩:=h
 cases W;have J:=U.zero;subst J;obtain⟨z,O,n,r,hl,e⟩:=I.lstM S
 refine call_meets F.slot_list_clear ⟨_,e,rfl⟩ F.entry_list_clear (F.args_list_clear_1 _) (AutoSeq1.list_clear_list_0 l O.toArray n (by rw[qf]; omega)) ⟨e,?_⟩
 exact⟨.non,_,I.lset (its':=[]) (ys:=[]) S e rfl .nil (vL _),rfl,q⟩
noncomputable def G3:R2:=fun x y H Q=>∃ l b xs zs,x = .ref l∧y = .ref b∧H l=some (.lst xs)∧H b=some (.lst zs)∧xs.length+zs.length≤sizeLine∧∀ p,H p=none→Q (.ref p) (upd H p (.lst (xs++zs)))
theorem D9:Ek X (binaryOp .Add) G3:=by
 intro pins s σ H x y v u Q I rx U h
 obtain⟨l,b,xs,zs,rfl,rfl,W,O,hz,q⟩:=h
 cases rx
 cases U;obtain⟨z,J,n,r,hl,e⟩:=I.lstM W
 obtain⟨z2,F,n2,Z,Y,e2⟩:=I.lstM O
 refine P.add_list e e2 ?_ (by rw[qf,qf]; omega)
 have S:J.toArray++F.toArray=(J++F).toArray:=by simp
 rw[S];exact⟨.ref _,_,I.lnew (t':=s.toks) (r.append Z) (by rw[zr]; omega),rfl,q _ I.fresh⟩
end
section
variable{κ : Type}[DecidableEq κ]
noncomputable def cf(kvs:List (κ × V))(k:κ):Option V:=(kvs.find? fun kv=>decide (kv.1=k)).map (·.2)
noncomputable def cy(kvs:List (κ × V))(k:κ)(v:V):List (κ × V):=
 if (kvs.any fun kv=>decide (kv.1=k))=true then kvs.map (fun kv=>if kv.1=k then (kv.1,v) else kv) else kvs++[(k,v)]
theorem cR{p:κ × V}{r:List (κ × V)}{k:κ}(e:p.1=k):cf (p::r) k=some p.2:=by simp[cf,zax,e]
theorem cS{p:κ × V}{r:List (κ × V)}{k:κ}(e:¬ p.1=k):cf (p::r) k=cf r k:=by simp[cf,zax,e]
theorem iS(k:κ):∀ kvs:List (κ × V),(kvs.any fun kv=>decide (kv.1=k))=(cf kvs k).isSome
 | []=>rfl
 | p::r=>by
  rw[zaK]
  by_cases e:p.1=k
  ·simp only[cR e,decide_eq_true e,Bool.true_or,Option.isSome_some]
  ·rw[cS e,decide_eq_false e,Bool.false_or]; exact iS k r
theorem qc(k j:κ)(y:V):∀ kvs:List (κ × V),cf (kvs.map fun kv=>if kv.1=k then (kv.1,y) else kv) j=(cf kvs j).map fun x=>if j=k then y else x
 | []=>rfl
 | p::r=>by
  have ih:=qc k j y r;rw[zW]
  by_cases h:p.1=k
  ·rw[Hf h]
   by_cases e:p.1=j
   ·rw[cR (p:=(p.1,y)) e,cR e,Option.map_some,Hf (e.symm.trans h)]
   ·rw[cS (p:=(p.1,y)) e,cS e,ih]
  ·rw[He h]
   by_cases e:p.1=j
   ·rw[cR (p:=p) e,cR e,Option.map_some,He (fun z=>h (e.trans z))]
   ·rw[cS (p:=p) e,cS e,ih]
theorem nA(k j:κ)(y:V):∀ kvs:List (κ × V),cf kvs k=none→cf (kvs++[(k,y)]) j=if j=k then some y else cf kvs j
 | [],_=>by
  by_cases e:k=j
  ·rw[Hf e.symm]; exact cR (p:=(k,y)) e
  ·rw[He (fun z=>e z.symm)]; exact cS (p:=(k,y)) e
 | p::r,hn=>by
  rw[pT];have F:¬ p.1=k:=fun z=>by rw[cR z]at hn; cases hn
  rw[cS F]at hn
  have ih:=nA k j y r hn
  by_cases e:p.1=j
  ·rw[cR e,cR e,He (fun z=>F (e.trans z))]
  ·rw[cS e,cS e,ih]
theorem kH(kvs:List (κ × V))(k j:κ)(y:V):cf (cy kvs k y) j=if j=k then some y else cf kvs j:=by
 unfold cy
 by_cases a:(kvs.any fun kv=>decide (kv.1=k))=true
 ·rw[Hf a,qc]
  rw[iS]at a
  by_cases e:j=k
  ·obtain⟨x,hx⟩:=Hs.mp a
   rw[Hf e,e,hx,Option.map_some,Hf rfl]
  ·rw[He e]
   cases cf kvs j with
   | none=>rfl
   | some x=>rw[Option.map_some,He e]
 ·rw[He a]
  refine nA k j y kvs ?_
  rw[iS]at a
  cases q:cf kvs k with
  | none=>rfl
  | some x=>rw[q]at a; exact(a rfl).elim
theorem jY(kvs:List (κ × V))(k:κ)(v:V):(cy kvs k v).length≤kvs.length+1:=by
 unfold cy;split
 ·rw[ze]; omega
 ·rw[zr,zx,qR]; omega
theorem EU.isSome_eq{o:Option V}{u:Option Value}(r:EU o u):o.isSome=u.isSome:=by
 cases o with
 | none=>cases u with
  | none=>rfl
  | some _=>exact(show False from r).elim
 | some _=>cases u with
  | none=>exact(show False from r).elim
  | some _=>rfl
theorem EU.getD{o:Option V}{u:Option Value}{d:V}{d':Value}(r:EU o u)(F:RelV d d'):RelV (o.getD d) (u.getD d'):=by
 cases o with
 | none=>cases u with
  | none=>exact F
  | some _=>exact(show False from r).elim
 | some _=>cases u with
  | none=>exact(show False from r).elim
  | some _=>exact r
theorem KV.val{kvs:List (κ × V)}{vs:List (κ × Value)}(r:KV kvs vs)(k:κ):EU (cf kvs k) (valueAt vs k):=by
 unfold KV at r
 induction r with
 | nil=>exact True.intro
 | @cons p q ps qs h t ih=>
  obtain⟨h1,h2⟩:=h
  by_cases e:p.1=k
  ·have F:q.1=k:=h1.symm.trans e
   have b:valueAt (q::qs) k=some q.2:=by simp[valueAt,zax,F]
   rw[cR e,b]; exact h2
  ·have F:¬ q.1=k:=fun z=>e (h1.trans z)
   have b:valueAt (q::qs) k=valueAt qs k:=by simp[valueAt,zax,F]
   rw[cS e,b]; exact ih
theorem KV.any{kvs:List (κ × V)}{vs:List (κ × Value)}(r:KV kvs vs)(k:κ):(kvs.any fun kv=>decide (kv.1=k))=vs.any fun kv=>decide (kv.1=k):=by
 unfold KV at r
 induction r with
 | nil=>rfl
 | cons h t ih=>rw[zaK,zaK,ih,h.1]
theorem KV.repl{kvs:List (κ × V)}{vs:List (κ × Value)}(r:KV kvs vs)(k:κ){y:V}{u:Value}(F:RelV y u) :
  KV (kvs.map fun kv=>if kv.1=k then (kv.1,y) else kv) (vs.map fun kv=>if kv.1=k then (kv.1,u) else kv):=by
 unfold KV at r ⊢
 induction r with
 | nil=>exact .nil
 | @cons p q ps qs h t ih=>
  rw[zW,zW];refine .cons ?_ ih
  obtain⟨h1,h2⟩:=h
  by_cases e:p.1=k
  ·rw[Hf e,Hf (h1.symm.trans e)]; exact⟨h1,F⟩
  ·rw[He e,He (fun z=>e (h1.trans z))]; exact⟨h1,h2⟩
theorem KV.put{kvs:List (κ × V)}{vs:List (κ × Value)}(r:KV kvs vs)(k:κ){y:V}{u:Value}(F:RelV y u):KV (cy kvs k y) (stored vs k u):=by
 unfold cy stored;rw[r.any k]
 by_cases e:(vs.any fun kv=>decide (kv.1=k))=true
 ·rw[Hf e,Hf e]; exact r.repl k F
 ·rw[He e,He e]; exact Paired.snoc r ⟨rfl,F⟩
theorem KV.length{kvs:List (κ × V)}{vs:List (κ × Value)}(r:KV kvs vs):kvs.length=vs.length:=G2 r
end
theorem vf{P:Program}{w:World}{k:aG}{u:Value}(r:RelV (kV k) u):(cC P w).is k u=true:=by
 cases k with
 | inl i=>obtain⟨t,e⟩:=(show ∃ t,u=Value.int i t from r); subst e; exact sr P w i t
 | inr x=>obtain⟨t,e⟩:=(show ∃ t,u=Value.str x t from r); subst e; exact rZ P w x t
theorem nU{P:Program}{w:World}:∀ {ks:List aG} {F:List Value},yl (ks.map kV) F→ItemsAre (cC P w) ks F
 | [],_,r=>by rw[rW]at r; cases r; exact .nil
 | k::ks,_,r=>by
  rw[zW]at r
  cases r with
  | cons h t=>exact .cons (vf h) (nU t)
abbrev KT (H:Hp):List (List aG × V)→List (List aG × Addr × Value)→Prop:=Paired fun p q=>p.1=q.1∧H q.2.1=some (.tup (p.1.map kV))∧RelV p.2 q.2.2
theorem KT.val{H:Hp}{kvs:List (List aG × V)}{xs:List (List aG × Addr × Value)}(r:KT H kvs xs)(k:List aG):EU (cf kvs k) ((atKey xs k).map (·.2)):=by
 induction r with
 | nil=>exact True.intro
 | @cons p q ps qs h t ih=>
  obtain⟨h1,_,h2⟩:=h
  by_cases e:p.1=k
  ·have F:q.1=k:=h1.symm.trans e
   have b:atKey (q::qs) k=some q.2:=by simp[atKey,zax,F]
   rw[cR e,b]; exact h2
  ·have F:¬ q.1=k:=fun z=>e (h1.trans z)
   have b:atKey (q::qs) k=atKey qs k:=by simp[atKey,zax,F]
   rw[cS e,b]; exact ih
theorem KT.repl{H:Hp}{kvs:List (List aG × V)}{xs:List (List aG × Addr × Value)}(r:KT H kvs xs)(k:List aG){y:V}{u:Value}(F:RelV y u) :
  KT H (kvs.map fun kv=>if kv.1=k then (kv.1,y) else kv) (xs.map (putAt k u)):=by
 induction r with
 | nil=>exact .nil
 | @cons p q ps qs h t ih=>
  rw[zW,zW];refine .cons ?_ ih
  obtain⟨h1,h2,J⟩:=h
  unfold putAt
  by_cases e:p.1=k
  ·rw[Hf e,Hf (h1.symm.trans e)]; exact⟨h1,h2,F⟩
  ·rw[He e,He (fun z=>e (h1.trans z))]; exact⟨h1,h2,J⟩
theorem KT.put{H:Hp}{kvs:List (List aG × V)}{xs:List (List aG × Addr × Value)}(r:KT H kvs xs)(k:List aG){b:Addr}{y:V}{u:Value}(J:H b=some (.tup (k.map kV)))(F:RelV y u) :
  KT H (cy kvs k y) (storedH xs k b u):=by
 have e:(kvs.any fun kv=>decide (kv.1=k))=(atKey xs k).isSome:=by
  rw[iS,(r.val k).isSome_eq,Option.isSome_map]
 unfold cy storedH;rw[e]
 by_cases q:(atKey xs k).isSome=true
 ·rw[Hf q,Hf q]; exact r.repl k F
 ·rw[He q,He q]; exact Paired.snoc r ⟨rfl,J,F⟩
theorem KT.keeps{H H':Hp}{kvs:List (List aG × V)}{xs:List (List aG × Addr × Value)}(r:KT H kvs xs)(F:∀ b ys,H b=some (.tup ys)→H' b=some (.tup ys)):KT H' kvs xs:=
 Paired.mapP r fun _ _ z=>⟨z.1,F _ _ z.2.1,z.2.2⟩
section
variable{P:Program}{w:World}{H:Hp}{h:Heap}{a:Addr}
theorem Bk{u:HO}(ok:EQ P w H h)(e:Rd H a u):Ax P w H h a u:=e.ok ok
theorem vv{kvs:List (aG × V)}(ok:EQ P w H h)(e:Rd H a (.dK kvs)):kvs.length≤sizeLine∧(a == sysModules)=false∧∃ vs,KV kvs vs∧h.DictOf (cC P w) a vs:=
 show Ax P w H h a (.dK kvs) from Bk ok e
theorem F9{kvs:List (aG × V)}(ok:EQ P w H h)(e:H a=some (.dK kvs)):kvs.length≤sizeLine∧(a == sysModules)=false∧∃ vs,KV kvs vs∧h.DictOf (cC P w) a vs:=vv ok (.inl e)
theorem yJ{ks:List aG}(ok:EQ P w H h)(e:H a=some (.tup (ks.map kV))):(tupleKind (cC P w)).is h ks a:=by
 obtain⟨_,F,r,o,h1,h2,_,n,J⟩:=(show Ax P w H h a (.tup (ks.map kV)) from ok a _ e)
 exact⟨o,F.toArray,n,h1,h2,J,by simpa using nU r⟩
theorem F4{kvs:List (List aG × V)}(ok:EQ P w H h)(e:Rd H a (.dT kvs)):kvs.length≤sizeLine∧(a == sysModules)=false∧
  ∃ xs,KT H kvs xs∧h.DictOfH (tupleKind (cC P w)) a xs:=by
 obtain⟨z,y,xs,r,o,es,ep,h1,h2,O,F,J⟩:=(show Ax P w H h a (.dT kvs) from Bk ok e)
 refine⟨z,y,xs,r,o,es,ep,h1,h2,O,F,fun x hx=>?_,J⟩
 have all:∀ {l:List (List aG × V)} {m:List (List aG × Addr × Value)},KT H l m→∀ x∈m,(tupleKind (cC P w)).is h x.1 x.2.1:=by
  intro l m q
  induction q with
  | nil=>intro x hx; exact nomatch hx
  | @cons p q ps qs hq t ih=>
   intro x hx
   rcases Hi.mp hx with e | hx
   ·subst e
    exact yJ ok (by rw[← hq.1]; exact hq.2.1)
   ·exact ih x hx
 exact all r x hx
theorem FR{kvs:List (List aG × V)}(ok:EQ P w H h)(e:H a=some (.dT kvs)):kvs.length≤sizeLine∧(a == sysModules)=false∧
  ∃ xs,KT H kvs xs∧h.DictOfH (tupleKind (cC P w)) a xs:=F4 ok (.inl e)
end
def Fm(H:Hp)(a:Addr)(y v:V)(H':Hp):Prop:=
 (∃ kvs k,H a=some (.dK kvs)∧y=kV k∧kvs.length<sizeLine∧H'=upd H a (.dK (cy kvs k v)))∨
 ∃ kvs k b,H a=some (.dT kvs)∧y = .ref b∧H b=some (.tup (k.map kV))∧kvs.length<sizeLine∧H'=upd H a (.dT (cy kvs k v))
theorem Fm.k{H:Hp}{a:Addr}{kvs:List (aG × V)}{k:aG}{v:V}(e:H a=some (.dK kvs))(hl:kvs.length<sizeLine):Fm H a (kV k) v (upd H a (.dK (cy kvs k v))):=.inl ⟨kvs,k,e,rfl,hl,rfl⟩
theorem Fm.t{H:Hp}{a b:Addr}{kvs:List (List aG × V)}{k:List aG}{v:V}(e:H a=some (.dT kvs))(F:H b=some (.tup (k.map kV)))(hl:kvs.length<sizeLine) :
  Fm H a (.ref b) v (upd H a (.dT (cy kvs k v))):=.inr ⟨kvs,k,b,e,rfl,F,hl,rfl⟩
section
variable{X:Cx}{pins:List (Addr × Obj)}{σ : St}{H:Hp}{s:Shared}{a:Addr}{y v:V}{u r:Value}{o:Option V}{A:Around}{E:Value→Shared→Prop}
theorem Inv.big(I:Inv X pins σ H s):sysModules<s.heap.objs.size:=by
 have h:mainGlobals<s.heap.objs.size:=(I.mod.glob.keeps I.bk).lt
 exact Nat.lt_trans (by decide) h
theorem tV{h':Heap}{t':Nat}{F:HO}(I:Inv X pins σ H s)(O:yo (H a))(U:Heap.SameBut a s.heap h')(J:∃ q,h'.get? a=some q)(new:Ax X.prog X.w (upd H a F) h' a F) :
  Inv X pins σ (upd H a F) { s with heap:=h',toks:=t' }:=
 I.write (x:=a) (e:=a) O (.inl rfl) (fun b q S z=>(U.2 b S).trans z) J new
theorem FG{P:Program}{w:World}{H':Hp}{h':Heap}{kvs:List (aG × V)}{vs:List (aG × Value)}(z:kvs.length≤sizeLine)(hd:(a == sysModules)=false)(F:KV kvs vs)(dd:h'.DictOf (cC P w) a vs) :
  Ax P w H' h' a (.dK kvs):=⟨z,hd,vs,F,dd⟩
theorem mY{H':Hp}{Q:Unit→Shared→Prop}(hu:A.units+1<cLine)(I:Inv X pins σ H s)(g:Fm H a y v H')(Y:RelV y u)(rv:RelV v r)(h:∀ s',Inv X pins σ H' s'→Q () s') :
  wpAny (model X.prog X.w) A (setItem (.ref a) u r) Q E s:=by
 rcases g with ⟨kvs,k,e,S,l,U⟩ | ⟨kvs,k,b,e,S,Z,l,U⟩
 ·subst S U
  obtain⟨z,hd,vs,F,dd⟩:=F9 I.hok e
  have hz:vs.length≤sizeLine:=by rw[← F.length]; exact z
  have hl:(cy kvs k v).length≤sizeLine:=by have:=jY kvs k v; omega
  refine wpAny_setItem_pairs (hsz:=hz) (vf Y) dd fun h' J W=>h _ ?_
  have he:∃ q,h'.get? a=some q:=let ⟨q,_,_,O,_⟩:=J; ⟨q,O⟩
  exact tV I (by rw[e]; exact True.intro) W he (FG hl hd (F.put k rv) J)
 ·subst S U
  cases (show u=Value.ref b from Y)
  obtain⟨z,hd,xs,F,dd⟩:=FR I.hok e
  have hz:xs.length≤sizeLine:=by rw[← G2 F]; exact z
  have hl:(cy kvs k v).length≤sizeLine:=by have:=jY kvs k v; omega
  refine wpAny_setItem_heap (hsz:=hz) (tupleKind_room_in1 hu) (yJ I.hok Z) dd fun h' J W=>h _ ?_
  obtain⟨q,es,ep,O,h2,h3,h4,_,h5⟩:=J
  refine tV I (by rw[e]; exact True.intro) W ⟨q,O⟩ ⟨hl,hd,_,(F.put k Z rv).keeps fun c ys ec=>?_,q,es,ep,O,h2,h3,h4,h5⟩
  rw[au (cF ec e (fun z=>nomatch z))]
  exact ec
end
theorem zZ{P:Program}{w:World}{H:Hp}(h:Heap)(F:sysModules<h.objs.size):Ax P w H (h.push { cls:=.type "dict", data:=.dict #[] }) h.objs.size (.dK []):=
 ⟨vL _,beq_eq_false_iff_ne.mpr (ve (zR F)),[],.nil,Heap.DictOf.new h⟩
theorem zk{P:Program}{w:World}{H:Hp}(h:Heap)(F:sysModules<h.objs.size):Ax P w H (h.push { cls:=.type "dict", data:=.dict #[] }) h.objs.size (.dT []):=
 ⟨vL _,beq_eq_false_iff_ne.mpr (ve (zR F)),[],.nil,_,#[],0,zV _ rfl,⟨rfl,rfl,rfl⟩,rfl,rfl,GB⟩
noncomputable def Fw:TE:=fun _ H Q=>∀ p,H p=none→Q (.ref p) (upd H p (.dK []))
noncomputable def Et:TE:=fun _ H Q=>∀ p,H p=none→Q (.ref p) (upd H p (.dT []))
section
variable{X:Cx}{pos:Pos}
theorem qe:PE X (.Dict [] [] pos) Fw:=fun pins s σ H Q I h=>
 wpAny_Dict_empty ⟨.ref s.heap.objs.size,_,I.laid (a:=s.heap.objs.size) (o:=.dK []) (t':=s.toks) (fun _ _ q=>zz _ q) (zl _) (zZ s.heap I.big),rfl,h _ (I.hok.fresh (zl _))⟩
theorem AC:PE X (.Dict [] [] pos) Et:=fun pins s σ H Q I h=>
 wpAny_Dict_empty ⟨.ref s.heap.objs.size,_,I.laid (a:=s.heap.objs.size) (o:=.dT []) (t':=s.toks) (fun _ _ q=>zz _ q) (zl _) (zk s.heap I.big),rfl,h _ (I.hok.fresh (zl _))⟩
end
noncomputable def jd:List (TE × TE)→St→Hp→(List (V × V)→Hp→Prop)→Prop
 | [],_,H,Q=>Q [] H
 | (tk,tv)::r,σ,H,Q=>tk σ H fun x H1=>tv σ H1 fun y H2=>jd r σ H2 fun ps H3=>Q ((x,y)::ps) H3
abbrev VV:List (V × V)→List (Value × Value)→Prop:=Paired fun p q=>RelV p.1 q.1∧RelV p.2 q.2
def PPs(X:Cx)(pos:Pos)(keys:List (Option Expr))(values:List Expr)(trs:List (TE × TE)):Prop:=
 ∀ (pins:List (Addr × Obj)) (s:Shared) (σ : St) (H:Hp) (Q:List (V × V)→Hp→Prop),Inv X pins σ H s→jd trs σ H Q→
  wpAny (model X.prog X.w) X.A (evalPairs (pairTrees keys values X.env pos)) (fun vs s'=>∃ ps H',Inv X pins σ H' s'∧VV ps vs∧Q ps H') X.xe s
structure M1 (X:Cx) (o:Expr) (m:Str) (apos:Pos) (e:Expr) (cpos:Pos):Prop where
 base:attributeBase o m X.env (eval o X.env)=eval o X.env
 few:((backTo cpos (starEach [e] X.env)).all (fun x=>!x.1)&&(backToKw cpos (keywordEach [] X.env)).all (fun x=>x.1.isSome)
  && decide (([e]:List Expr).length+([]:List Keyword).length+(if ([]:List Keyword).isEmpty then 0 else 1)<30))=true
 line:(apos.endLine == cpos.line)=true
 trees:backTo cpos (starEach [e] X.env)=[(false,eval e X.env)]
end L2
namespace Att
open PySem PySem.W PySem.Calls PyProof.Rows
theorem k5{P:Params}{h:Heap}:∀ (ns:List Int) (vs:List Value),WellAll P h vs (ns.map WData.int)→IntsAre vs ns:=by
 intro ns
 induction ns with
 | nil=>
  intro vs w
  rw[List.map_nil]at w
  cases w;exact .nil
 | cons n ns ih=>
  intro vs w
  rw[List.map_cons]at w
  cases w with
  | cons a b=>
   cases a;exact .cons _ _ (ih _ b)
theorem yY{l:OpenLaw}{n:Nat}(hn:l.most=some n){P:Params}{h:Heap}{args:List WData}{J:List Value}
  (F:l.row.toRowW.claim.pre args=true) (Y:WellAll P h J args) :
  ∃ a vs ns,J=[Value.ref a]∧args=[WData.list (ns.map WData.int)]∧h.get? a=some { cls:=.type "list", data:=.seq vs.toArray }∧IntsAre vs ns∧ns.length≤n:=by
 have W:WShape.hasAll [] args [.list .int]=true:=(pre_splitW F).1
 have Z:l.pre.holds [] { args:=args }=true:=(pre_splitW F).2
 obtain⟨d,r,rfl,h1,h2⟩:=hasAllW_cons W
 obtain rfl:=hasAllW_nil h2
 obtain⟨xs,rfl,h3⟩:=hasW_list h1
 obtain⟨ns,rfl⟩:=items_int h3
 have O:ns.length≤n:=by
  unfold OpenLaw.pre at Z
  have S:(WTm.not (.lt (.lit (.int (n:Int))) (.len (.arg 0)))).holds [] { args:=[.list (ns.map .int)] }=true:=by
   have S:=(holds_andW Z).1;rw[hn]at S
   exact S
  have U:=condW_of S (w_not (w_lt w_lit (w_len_list (w_arg rfl))));rw[List.length_map]at U
  refine Nat.le_of_not_lt fun q=>?_
  have q':(n:Int)<((ns.length:Nat):Int):=by omega
  first
   | (rw[decide_eq_true q']at U; exact absurd U (by decide))
   | (simp at U; omega)
 cases Y with
 | cons w1 w2=>
  cases w2
  cases w1 with
  | list ho hall=>exact⟨_,_,ns,rfl,rfl,ho,k5 ns _ hall,O⟩
theorem yb(l:OpenLaw)(args:List WData):l.row.toRowW.claim.post args (.bool true) args=true:=
 postW_of (r:=l.row.toRowW) (X:=(true == true))
  (show WShape.has [] (.bool true) .bool=true by first | rfl | decide | simp[WShape.has,WShape.arms,WShape.armsAll])
  (show (WTm.eq .res (.lit (.bool true))).value [] { args:=args,res:=some (.bool true),after:=args }=some (.bool (true == true)) from w_eq_bool (w_res rfl) w_lit) rfl
theorem attach_call{l:OpenLaw}{n:Nat}{q:Program}{loose:List Str}{XP:(Str→Option Value)→Heap→Prop}{YP:World→Heap→Prop}{d:DefRec}
  (hn:l.most=some n) (al:d.params.defaults=[])
  (call:∀ (w:World) (s₀ F:Shared) (mg mb:Str→Option Value) (fa:Addr) (o:Obj) (pm Z J:Value) (a:Addr) (vs:List Value) (ns:List Int),
   Ground q loose [] XP w s₀ mg mb F.heap→YP w F.heap→
   F.heap.get? fa=some o→o.data = .func (docDef d.name d.params d.body d.scope pm Z J)→F.heap.CodeRec Z d.name→mg d.name=some (.ref fa)→
   F.heap.get? a=some { cls:=.type "list", data:=.seq vs.toArray }→IntsAre vs ns→ns.length≤n→F.gens = #[]→
   codeAny (model l.prog w) callerA (.call (.ref fa) ⟨[.ref a],[]⟩) (fun r s'=>r = .ok (.ret (.bool true))∧OldK F.heap s'.heap∧s'.os=F.os∧AllBare s'.gens) F) :
  WalkO q loose XP YP l.row.toRowW d [] (fun f vs=>PySem.call f vs):=by
 intro w s₀ F mg mb G Y fa o pm Z J dV kV ho hd ab hD ad hg args a3 as U an a4 ag a5
 obtain rfl:dV = .none:=Dflts.none hD al
 obtain rfl:kV = .none:=Dflts.noKw hD
 obtain⟨a,vs,ns,rfl,rfl,W,O,S⟩:=yY hn U ag
 refine enter_call (codeAny_mono (call w s₀ F mg mb fa o pm Z J a vs ns G Y ho (fd_plain hd) ab ad W O S hg) fun r s' hq=>?_)
 obtain⟨rfl,h2,h3,h4⟩:=hq
 exact⟨.inl ⟨.bool true,.bool true,[],rfl,fun _=>rfl,.bool true,yb l _,fun _=>⟨List.Pairwise.nil,fun _ hm=>(nomatch hm)⟩⟩,h2,h3,h4⟩
end Att
namespace L2
open PySem PySem.Spec PyProof.Rows
theorem n8:∀ {vs:List Value} {ns:List Int},IntsAre vs ns→yl (ns.map V.int) vs
 | _,_,.nil=>.nil
 | _,_,.cons n t h=>.cons ⟨t,rfl⟩ (n8 h)
def zm(H:Hp):Prop:=∀ b,H b=none∨∃ o xs,H b=some (.frz o (.lst xs))
theorem zD{P:Program}{w:World}{K:W.Frag}{mg mb:Str→Option Value}{CX:iq}{k:Nat}{fa a:Addr}{fd:FuncData}{x:Str}{sp:Sp}{J:Shared}{vs:List Value}{ns:List Int}
  (KX:K.In J.heap) (ad:J.heap.Ns mainGlobals mg) (S:J.heap.Ns builtinsNs mb) (a3:∀ x:Str,x ≠ "__name__" → mb x=bootBuiltins x) (ag:J.heap.NoLimit) (hg:J.gens = #[])
  (ha:J.heap.get? a=some { cls:=.type "list", data:=.seq vs.toArray }) (hi:IntsAre vs ns) (hl:ns.length≤sizeLine) (hr:Dx k callerA)
  (F:∀ base:Heap,K.In base→base.Ns mainGlobals mg→EK P w K mg base CX k fa fd [x] sp) (hbind:∀ (s:Shared) (u:Value),BindsTo s fd ⟨[u],[]⟩ [(x,u)])
  (hsp:∀ H:Hp,zm H→ud K H a (ns.map V.int)→sp [.ref a] H (fun v _=>v = .bl true) fun _ _ _=>False)
  (hCX:∀ H e s',CX [] H J (fun _ _ _=>False) e s'→False) :
  codeAny (model P w) callerA (.call (.ref fa) ⟨[.ref a],[]⟩) (fun r s'=>r = .ok (.ret (.bool true))∧OldK J.heap s'.heap∧s'.os=J.os∧AllBare s'.gens) J:=by
 have rv:=n8 hi;have Z:=hi.length
 -- from an abstract heap in which nothing but the script may be tracked
 have Y:∀ H:Hp,zm H→ud K H a (ns.map V.int)→EQ P w H J.heap→(∀ b,H b≠none→b=a)→(H a≠none→K.lookup a=none)→
   codeAny (model P w) callerA (.call (.ref fa) ⟨[.ref a],[]⟩) (fun r s'=>r = .ok (.ret (.bool true))∧OldK J.heap s'.heap∧s'.os=J.os∧AllBare s'.gens) J:=by
  intro H hO hS hok hA hK
  have O:∀ {b:Addr} {o:Obj},J.heap.get? b=some o→H b=none→(iJ J.heap H).get? b=some o:=fun e n=>AF e n
  have as:∀ {b:Addr} {o:Obj} {es:Array DictEntry} {ep:Nat},J.heap.get? b=some o→o.data = .dict es ep→H b=none:=fun {b o es ep} e d=>by
   cases q:H b with
   | none=>rfl
   | some u=>
    have e':b=a:=hA b (by rw[q]; simp)
    subst e';rw[ha]at e; cases e
    have d':Data.seq vs.toArray _=Data.dict es ep:=d
    cases d'
  have U:∀ {b:Addr} {m:Str→Option Value},J.heap.Ns b m→(iJ J.heap H).Ns b m:=fun {b m} ⟨o,es,ep,e,d,r⟩=>⟨o,es,ep,O e (as e d),d,r⟩
  have al:K.In (iJ J.heap H):=fun b o e=>O (KX b o e) (by
   cases q:H b with
   | none=>rfl
   | some u=>
    have e':b=a:=hA b (by rw[q]; simp)
    subst e';rw[hK (by rw[q]; simp)]at e; cases e)
  have hM:Mod K mg (iJ J.heap H):=⟨al,U ad,⟨mb,U S,a3⟩,let ⟨mc,h1,h2⟩:=ag; ⟨mc,U h1,h2⟩⟩
  have e0:Fn P w K mg (iJ J.heap H) callerA [] J H:=⟨rfl,hM,fun b o e=>BJ e,Nat.le_of_eq (y4 _ _),trivial,fun b S=>absurd (show b∈([]:List Addr) from S) (by simp),hok,.of_eq hg⟩
  refine codeAny_mono ((F _ al (U ad)).run callerA [] J H ⟨[.ref a],[]⟩ [.ref a] [.ref a] _ _ hr e0 (hbind J (.ref a)) (.cons rfl .nil) (hsp H hO hS)) fun r s' h=>?_
  cases r with
  | error e=>exact(hCX H e s' h).elim
  | ok fl=>
   cases fl with
   | next=>exact False.elim h
   | brk=>exact False.elim h
   | cont=>exact False.elim h
   | ret u=>
    obtain⟨v,H',os,bare,un,ab,r',q⟩:=h
    have q':v = .bl true:=q
    subst q';obtain rfl:u=Value.bool true:=r'
    refine⟨rfl,OldK.of_keep fun b o e=>?_,os,bare⟩
    cases q:H b with
    | none=>exact un.keep b o e q (by intro z; exact absurd (show b∈([]:List Addr) from z) (by simp)) (by simp)
    | some u=>
     rcases hO b with z | ⟨ob,xs,z⟩
     ·rw[q]at z; cases z
     ·have z2:=un.frzs b ob _ z
      obtain⟨e1,_⟩:=hok b _ z
      obtain⟨e2,_⟩:=ab b _ z2
      rw[e]at e1; cases e1
      exact e2
 cases hk:K.lookup a with
 | some o=>
  -- the script is one of the module's own objects
  have e:=KX a o hk;rw[ha]at e
  cases e;refine Y (fun _=>none) (fun _=>.inl rfl) (.inr ⟨_,vs.toArray,_,hk,rfl,rfl,rfl,by rw[qf,Z]; exact hl,by simpa using rv⟩) (fun b u z=>by have z':(none:Option HO)=some u:=z; cases z') (fun b z=>absurd rfl z) fun z=>absurd rfl z
 | none=>
  refine Y (fun b=>if b=a then some (.frz { cls:=.type "list", data:=.seq vs.toArray } (.lst (ns.map V.int))) else none) (fun b=>?_) (.inl (.inr ⟨{ cls:=.type "list", data:=.seq vs.toArray },Hf rfl⟩)) (fun b u z=>?_) (fun b z=>?_) fun _=>hk
  ·by_cases S:b=a
   ·exact .inr ⟨_,_,Hf S⟩
   ·exact .inl (He S)
  ·by_cases S:b=a
   ·have z':=(Hf S).symm.trans z
    cases z';subst S;exact⟨ha,by rw[ze]; exact hl,vs,_,rv,ha⟩
   ·have z':=(He S).symm.trans z
    cases z'
  ·by_cases S:b=a
   ·exact S
   ·exact absurd (He S) z
abbrev KOf {K:W.Frag} {h:Heap} (_:K.In h):W.Frag:=K
theorem Fp{l:W.OpenLaw}{n k:Nat}{q:Program}{loose:List Str}{XP:(Str→Option Value)→Heap→Prop}{YP:World→Heap→Prop}{d:DefRec}{K:Params→W.Frag}{CX:World→iq}{sp:World→Sp}{x:Str}
  (hn:l.most=some n) (U:n≤sizeLine) (ad:d.params.defaults=[]) (hr:Dx k callerA)
  (hY:∀ (w:World) (h:Heap),YP w h→(K w.params).In h)
  (F:∀ (w:World) (mg:Str→Option Value) (fa:Addr) (h:Heap),(K w.params).In h→h.Ns mainGlobals mg→mg d.name=some (.ref fa)→
   ∃ fd:FuncData,(∀ (s:Shared) (u:Value),BindsTo s fd ⟨[u],[]⟩ [(x,u)])∧
    ∀ base:Heap,(K w.params).In base→base.Ns mainGlobals mg→EK l.prog w (K w.params) mg base (CX w) k fa fd [x] (sp w))
  (ag:∀ (w:World) (H:Hp) (a:Addr) (ns:List Int),ns.length≤n→zm H→ud (K w.params) H a (ns.map V.int)→sp w [.ref a] H (fun v _=>v = .bl true) fun _ _ _=>False)
  (Z:∀ (w:World) (H:Hp) (s:Shared) (e:Value) (s':Shared),CX w [] H s (fun _ _ _=>False) e s'→False) :
  W.WalkO q loose XP YP l.row.toRowW d [] (fun f vs=>PySem.call f vs):=by
 refine Att.attach_call hn ad fun w s₀ s₁ mg mb fa o pm cd an a vs ns G Y ho hd al ab S O J hg=>?_
 have KX:=hY w _ Y;obtain⟨fd,hb,hF⟩:=F w mg fa _ KX G.T.g ab
 exact zD KX G.T.g G.T.b G.T.builtins G.T.nolimit hg S O (gV J U) hr hF hb (fun H hO hS=>ag w H a ns J hO hS) fun H e s'=>Z w H s₁ e s'
end L2
/- THE LAST THEOREM (shape; LID, My.* are yours):
   My.Adr: a structure of the addresses that your layer names (classes,functions); My.Txt K t: a structure (Prop) of the equations over K;
   My.txt_mk:{K} {implicit addresses ..} (e1:nsIn K mainGlobals "law" = some (some (.ref f))) (e2:K.lookup f=some ⟨oc,od,.func (fnOf "law" "law" params body scope dV kV doc pm an cdv ct),sl⟩) (e3:codeIn K cdv "law" = true) .. : ∃ t,My.Txt K t
set_option maxRecDepth 100000 in
set_option maxHeartbeats 0 in
theorem PySem.Challenge.cw_LID_holds : PySem.Challenge.rw_LID.Holds := by
 w_on; o_law; k_head; (case hw=>w_witness2)
 k_fill
 refine L2.Fp (l:=PySem.Challenge.rw_LID) (n:=63) (k:=40) (x := "script") (CX:=fun w=>..) (sp:=fun _=>My.sp_law) rfl (by decide) rfl ⟨rfl,by decide,by decide⟩ (fun w h Y=>PySem.W.kIn_of Y) ?F ?S ?C
 case F=>
  intro w mg fa h KX G hmg
  have T:∃ t,My.Txt (L2.KOf KX) t:=by
   dsimp only[L2.KOf]                          -- K must stand as «<heap const> w.params» for k_is
   refine' My.txt_mk ?e1 ?e2 ?e3 ..
   (case e1=>PySem.W.k_is)                    -- in the order: a name -> its address -> its object -> its parts
   (case e2=>PySem.W.k_is)
   ..
  obtain⟨t,T⟩:=T
  have e0:=hmg.symm.trans (PySem.W.mg_of KX G T.law)
  cases e0                                       -- fa is the law's own address
  exact⟨_,fun s u=>.of_eq rfl,fun base kb nb=>My.law_fn T kb nb⟩     -- if «.of_eq rfl» comes too early: refine' ⟨_,?b,fun base kb nb=>My.law_fn T kb nb⟩; exact fun s u=>.of_eq rfl
 case S=>exact fun w H a ns hl hO hS=>..
 case C=>exact ..
(the tactic k_is has no namespace: write k_is) -/
namespace L2
open PySem PySem.Spec PyProof.Rows
abbrev jB:iq:=fun _ _ _ _ _ _=>False
abbrev E0:XK:=fun _ _ _=>False
theorem Bz{X:Cx}:lx jB X E0:=fun _ _ _ _ _ _ _ h=>h.elim
structure GL (K:W.Frag) (x qual:Str) (st:Stmt) (f:Addr) (fd:FuncData):Prop where
 ex:∃ (oc:Value) (od:Option Addr) (kV doc pm:Value) (an:Option Addr) (cdv ct:Value) (osl:Array (Option Value)),
  fd=W.fnOf x qual (DM st) (Dq st) (rd st) .none kV doc pm an cdv ct∧K.lookup f=some ⟨oc,od,.func fd,osl⟩∧W.codeIn K cdv qual=true
 kp:W.keepIn K (.ref f)=true
section
variable{P:Program}{w:World}{K:W.Frag}{mg:Str→Option Value}{base:Heap}
theorem GL.ok{x J:Str}{st:Stmt}{f:Addr}{fd:FuncData}{N ps:List Str}{k:Nat}{sp:Sp}(F:GL K x J st f fd)(S:aE N ps (rd st))(len:∀ vs H Q E,sp vs H Q E→vs.length=ps.length)
  (U:∀ (O:Value) (A:Around) (outer:List Env) (s:Shared) (H:Hp) (vs:List V) (Q:VK) (E:XK),Dx k (A.deeper (envOfC J (rd st) s.heap.objs.size f O))→sp vs H Q E→
   ∃ t,Fi (i9 jB P w K mg base N J (rd st) f O A outer s H E).nox (Dq st) t∧t { nx:=fun _ H'=>Q .non H',rt:=Q } (start N vs) H):EK P w K mg base jB (k+1) f fd ps sp:=by
 obtain⟨oc,od,kV,Z,pm,an,O,ct,ab,rfl,lk,W⟩:=F.ex
 refine F2 lk W S len fun A outer s H vs Q E hr Y=>?_
 obtain⟨t,h,q⟩:=U O A outer s H vs Q E hr Y
 exact⟨t,h.nox,q⟩
theorem GL.binds{x J:Str}{st:Stmt}{f:Addr}{fd:FuncData}{ps:List Str}(F:GL K x J st f fd)
  (h:∀ (kV O pm:Value) (U:Option Addr) (S ct:Value) (Y:List Value),Y.length=ps.length→bindArgs (W.fnOf x J (DM st) (Dq st) (rd st) .none kV O pm U S ct) ⟨Y,[]⟩=pure (ps.zip Y)):Binds K fd ps []:=by
 obtain⟨oc,od,kV,O,pm,U,S,ct,ab,rfl,lk,Z⟩:=F.ex
 exact .all (h kV O pm U S ct)
theorem qg{x F:Str}{st:Stmt}{f:Addr}{Z:Value}{Y U:Option Addr}{S:Array (Option Value)}{kV O pm J ct:Value}(l:K.lookup f=some ⟨Z,Y,.func (W.fnOf x F (DM st) (Dq st) (rd st) .none kV O pm U J ct),S⟩)
  (c:W.codeIn K J F=true) (k:W.keepIn K (.ref f)=true):GL K x F st f (W.fnOf x F (DM st) (Dq st) (rd st) .none kV O pm U J ct):=⟨⟨Z,Y,kV,O,pm,U,J,ct,S,rfl,l,c⟩,k⟩
end
section
variable{X:Cx}
theorem pv(i:Nat){x:Str}{pos:Pos}(F:X.N[i]? = some x:=by rfl)(hv:am X.env.scope x:=by first | exact vSs (by decide +kernel) | exact Or.inl rfl)(hd:(x == ("__debug__" : Str))=false:=by decide)
  (hcd:(x == ("__classdict__" : Str))=false:=by decide):PE X (.Name x pos) (AY i):=Fc F hv hd hcd
end
theorem bd{c A B:Prop}[Decidable c](h1:c→A)(h2:¬ c→B):if c then A else B:=by
 by_cases h:c
 ·rw[Hf h]
  exact h1 h
 ·rw[He h]
  exact h2 h
def rm(H H':Hp):Prop:=∀ b o,H b=some o→H' b=some o
theorem rm.refl(H:Hp):rm H H:=fun _ _ h=>h
theorem rm.trans{H H1 H2:Hp}(a:rm H H1)(b:rm H1 H2):rm H H2:=fun c o h=>b c o (a c o h)
theorem rm.free{H H':Hp}(e:rm H H'){l:Addr}(h:H' l=Option.none):H l=Option.none:=by
 cases q:H l with
 | none=>rfl
 | some o=>
  rw[e l o q]at h
  cases h
theorem rm.seq{K:W.Frag}{H H':Hp}{a:Addr}{xs:List V}(e:rm H H')(h:ud K H a xs):ud K H' a xs:=by
 rcases h with (h | ⟨o,h⟩) | h
 ·exact .inl (.inl (e _ _ h))
 ·exact .inl (.inr ⟨o,e _ _ h⟩)
 ·exact .inr h
noncomputable def dC(cells:List (Str × Addr)):List (Str × NameKind)→List (Str × Addr)→List (Str × Addr)
 | [],acc=>acc
 | (n,k)::r,acc=>dC cells r (if k == .free then (n,(cells.lookup n).getD 0)::acc else acc)
theorem ql{env:Env}{f:(Str × NameKind)→List (Str × Addr)→Sem (ForInStep (List (Str × Addr)))}
  (hf:∀ n k cs,f (n,k) cs=if (k == NameKind.free)=true then (cellOf env n >>= fun c=>pure (ForInStep.yield ((n,c)::cs))) else pure (ForInStep.yield cs)) :
  ∀ (names:List (Str × NameKind)) (acc:List (Str × Addr)),(∀ x∈names,x.2 = .free→∃ c,env.cells.lookup x.1=some c)→
  forIn names acc f=(pure (dC env.cells names acc):Sem _)
 | [],acc,_=>rfl
 | (n,k)::r,acc,h=>by
  rw[List.forIn_cons,hf];have ih:=fun acc=>ql hf r acc fun x hx=>h x (zO _ hx)
  by_cases hk:(k == NameKind.free)=true
  ·rw[Hf hk]
   obtain⟨c,F⟩:=h (n,k) zI (by simpa using hk)
   have e:cellOf env n=pure c:=by unfold cellOf; rw[F]
   rw[e,pure_bind,pure_bind];show forIn r ((n,c)::acc) f=_
   rw[ih];show _=pure (dC env.cells r (if (k == NameKind.free)=true then (n,(env.cells.lookup n).getD 0)::acc else acc))
   rw[Hf hk,F]; rfl
  ·rw[He hk,pure_bind]
   show forIn r acc f=_
   rw[ih];show _=pure (dC env.cells r (if (k == NameKind.free)=true then (n,(env.cells.lookup n).getD 0)::acc else acc))
   rw[He hk]
theorem iZ{env:Env}{scope:Scope}(h:∀ x∈scope.names,x.2 = .free→∃ c,env.cells.lookup x.1=some c):closureFor scope env=pure (dC env.cells scope.names []):=by
 unfold closureFor;show (forIn scope.names ([]:List (Str × Addr)) _ >>= fun cs=>pure cs)=_
 rw[ql (env:=env) (fun n k cs=>?_) _ _ h]
 ·rfl
 ·rfl
theorem jR{cells:List (Str × Addr)}:∀ {names:List (Str × NameKind)} {acc:List (Str × Addr)} {x:Str} {c:Addr},(∀ y∈names,y.2 = .free→∃ c,cells.lookup y.1=some c)→
  (∀ y c,acc.lookup y=some c→cells.lookup y=some c)→(dC cells names acc).lookup x=some c→cells.lookup x=some c
 | [],acc,x,c,_,ha,h=>ha x c h
 | (n,k)::r,acc,x,c,hn,ha,h=>by
  refine jR (names:=r) (fun y F=>hn y (zO _ F)) ?_ h
  intro y d F
  by_cases hk:(k == NameKind.free)=true
  ·rw[Hf hk]at F
   obtain⟨e,S⟩:=hn (n,k) zI (by simpa using hk)
   have O:cells.lookup n=some e:=S
   rw[GX]at F
   by_cases hyn:(y == n)=true
   ·rw[hyn]at F
    have J:(cells.lookup n).getD 0=d:=Option.some.inj F
    rw[O]at J
    have U:y=n:=by simpa using hyn
    rw[U,O,← J]; rfl
   ·have hf:(y == n)=false:=by simpa using hyn
    rw[hf]at F
    exact ha y d F
  ·rw[He hk]at F
   exact ha y d F
theorem lH{cells:List (Str × Addr)}:∀ {names:List (Str × NameKind)} {acc:List (Str × Addr)} {x:Str},(∃ c,acc.lookup x=some c)→∃ c,(dC cells names acc).lookup x=some c
 | [],_,_,h=>h
 | (n,k)::r,acc,x,h=>by
  refine lH (names:=r) ?_
  by_cases hk:(k == NameKind.free)=true
  ·rw[Hf hk,GX]
   cases hx:(x == n) with
   | true=>exact⟨_,rfl⟩
   | false=>exact h
  ·rw[He hk]; exact h
theorem iG{cells:List (Str × Addr)}:∀ {names:List (Str × NameKind)} {acc:List (Str × Addr)} {x:Str},(x,NameKind.free)∈names→∃ c,(dC cells names acc).lookup x=some c
 | (n,k)::r,acc,x,h=>by
  rcases Hi.mp h with e | h
  ·have J:x=n:=congrArg (·.1) e
   have F:NameKind.free=k:=congrArg (·.2) e
   subst J F;refine lH (names:=r) ?_
   rw[Hf (by rfl),GX]
   rw[beq_self_eq_true];exact⟨_,rfl⟩
  ·exact iG (names:=r) h
theorem dS{env:Env}:∀ {names:List (Str × NameKind)} {x:Str} {k:NameKind},(∀ y∈names,y.2 ≠ .cell)→
  (names.map fun (n,k)=>if (k == NameKind.free&&env.scope.kind == .function&&env.kindOf n == some .cell) then (n,NameKind.cell) else (n,k)).lookup x=some k→(k = .cell∨k = .free)→(x,NameKind.free)∈names
 | [],_,_,_,h,_=>by simp at h
 | (n,k0)::r,x,k,hc,h,hk=>by
  have ih:=@dS env r x k (fun y J=>hc y (zO _ J))
  rw[zW]at h
  by_cases hf:(k0 == NameKind.free&&env.scope.kind == .function&&env.kindOf n == some .cell)=true
  ·have F:k0 = .free:=by
    have:(k0 == NameKind.free)=true:=by
     rw[zaH,zaH]at hf; exact hf.1.1
    simpa using this
   dsimp only at h
   rw[Hf hf,GX]at h
   cases hx:(x == n) with
   | true=>
    have:x=n:=by simpa using hx
    rw[this,F]; exact zI
   | false=>rw[hx]at h; exact zO _ (ih h hk)
  ·dsimp only at h
   rw[He hf,GX]at h
   cases hx:(x == n) with
   | true=>
    rw[hx]at h
    have e:k0=k:=Option.some.inj h
    have:x=n:=by simpa using hx
    rcases hk with z | z
    ·exact absurd (e.trans z) (hc (n,k0) zI)
    ·rw[this,e,z]; exact zI
   | false=>rw[hx]at h; exact zO _ (ih h hk)
noncomputable def bY(X:Cx)(N0 T:List Str)(scope:Scope)(C:Addr)(fp:List Addr)(s:Shared)(H:Hp):Cx:=
 { X with N:=N0++T,s₀:=s,H₀:=H,env:=compEnvC scope (dC X.env.cells scope.names []) C X.env,outer:=X.stack,stack:=X.stack,ex:=fp,fn:=fun _=>false,pn:=[],xe:=fun _ _=>False }
structure gQ (X:Cx) (N0 T:List Str) (scope:Scope):Prop where
 kind:scope.kind = .function
 nocell:∀ y∈scope.names,y.2 ≠ .cell
 names:∀ y∈scope.names,y.2 = .local→scope.names.lookup y.1=some .local
 free:∀ y∈scope.names,y.2 = .free→X.env.kindOf y.1=some .cell∨X.env.kindOf y.1=some .free
 apart:∀ y∈scope.names,y.2 = .local→y.1∉N0
 len0:N0.length=X.N.length
 same:∀ (i:Nat) (x:Str) (k:NameKind),N0[i]? = some x→(x,k)∈scope.names→X.N[i]? = some x
theorem i8{prog:Program}{w:World}{A:Around}{R:Result→Shared→Prop}{s:Shared}{elt F iter:Expr}{ifs:List Expr}{scope:Scope}{pos:Pos}{it acc:Value}{env:Env}(I:Nat→Shared→Prop)
  (J:∀ n s,I n s→wpAny (model prog w) A (pyNext it) (fun r S=>match r with
   | none=>R (.ok .next) S
   | some v=>wpAny (model prog w) A (letOwnedTupleGo F it v) (fun _ s₀=>wpAny (model prog w) A (assign F env v) (fun _ Y=>
     wpAny (model prog w) A (forIn ifs true fun c r=>if r=true then do let ok ← isTrue c env (eval c env); pure (ForInStep.yield ok) else pure (ForInStep.yield r)) (fun ok O=>
      if ok=true then wpAny (model prog w) A (eval elt env) (fun x U=>
       wpAny (model prog w) A (call (.builtin "list.append") [acc,x]) (fun _ W=>∃ m,m<n∧I m W) (fun _ _=>False) U) (fun _ _=>False) O
      else ∃ m,m<n∧I m O) (fun _ _=>False) Y) (fun _ _=>False) s₀) (fun _ _=>False) S) (fun _ _=>False) s)
  (n:Nat) (h:I n s) :
  codeAny (model prog w) A (.compLoop (.ListComp elt [⟨F,iter,ifs,0⟩] scope pos) 0 it acc env) R s:=by
 refine codeAny_loop rfl I (fun n s hI=>?_) n h
 show wpAny _ A ((compTurn (.ListComp elt [⟨F,iter,ifs,0⟩] scope pos) 0 it acc env).onRaise (fun x=>do noteFrame x env; theTreesLotGoes x)) _ _ s
 refine wpAny_noted ?_
 rw[compTurn_list];refine G8 (wpAny_standAt (G8 (wpAny_mono (J n s hI) (fun r S h₁=>?_) fun _ _ h'=>h'.elim)))
 cases r with
 | none=>exact Hc h₁
 | some v=>
  refine G8 (wpAny_mono h₁ (fun _ s₀ h₀=>?_) fun _ _ h'=>h'.elim)
  refine G8 (wpAny_mono h₀ (fun _ Y h₂=>G8 (wpAny_mono h₂ (fun ok O Z=>?_) fun _ _ h'=>h'.elim)) fun _ _ h'=>h'.elim)
  cases ok with
  | false=>exact Hc ⟨rfl,Z⟩
  | true=>
   exact G8 (G8 (wpAny_mono Z (fun x U h₄=>G8 (wpAny_mono h₄ (fun _ W h₅=>Hc (Hc ⟨rfl,h₅⟩)) fun _ _ h'=>h'.elim)) fun _ _ h'=>h'.elim))
def FC(X:Cx)(ifs:List Expr)(tc:TT):Prop:=
 ∀ (pins:List (Addr × Obj)) (s:Shared) (σ : St) (H:Hp) (Q:Bool→Hp→Prop),Inv X pins σ H s→tc σ H Q→
  wpAny (model X.prog X.w) X.A (forIn ifs true fun c r=>if r=true then do let ok ← isTrue c X.env (eval c X.env); pure (ForInStep.yield ok) else pure (ForInStep.yield r)) (TP X pins σ Q) X.xe s
noncomputable def kJ:TT:=fun _ H Q=>Q true H
theorem gE{X:Cx}:FC X [] kJ:=fun _ _ _ H _ I h=>wpAny_tests_nil ⟨H,I,h⟩
theorem iD{X:Cx}{c:Expr}{tc:TT}(F:PT X c tc):FC X [c] tc:=fun pins s σ H Q I h=>wpAny_tests_one (F pins s σ H Q I h)
def sZ(g:TG)(n:Nat):Prop:=∀ x σ H Q,g x σ H Q→g x σ H fun σ' H'=>Q σ' H'∧σ'.length=σ.length∧∀ k,k<n→σ'[k]? = σ[k]?
def vH(g:fA)(n:Nat):Prop:=∀ x σ H Q,g x σ H Q→g x σ H fun σ' H'=>Q σ' H'∧σ'.length=σ.length∧∀ k,k<n→σ'[k]? = σ[k]?
theorem df{i n:Nat}(h:n≤i):sZ (gN i) n:=fun x σ H Q q=>⟨q,by simp,fun k F=>by rw[List.getElem?_set_ne (by omega)]⟩
theorem AN{n:Nat}:vH vS n:=fun x σ H Q q=>⟨q.1,q.2,rfl,fun _ _=>rfl⟩
def wf(g:TG):Prop:=∀ x σ H Q Q',(∀ σ' H',Q σ' H'→Q' σ' H')→g x σ H Q→g x σ H Q'
def kP(g:fA):Prop:=∀ x σ H Q Q',(∀ σ' H',Q σ' H'→Q' σ' H')→g x σ H Q→g x σ H Q'
theorem lT{i:Nat}:wf (gN i):=fun x σ H Q F h q=>h _ _ q
theorem tY:kP vS:=fun x σ H Q F h q=>⟨q.1,h _ _ q.2⟩
theorem Ar{t:TG}{u:fA}(h1:wf t)(h2:kP u):kP (oO t u):=fun x σ H Q F h ⟨v,r,e,q⟩=>⟨v,r,e,h1 _ _ _ _ _ (fun J H' z=>h2 _ _ _ _ _ h z) q⟩
theorem nQ{t:TG}{u:fA}{n:Nat}(h1:sZ t n)(O:wf t)(h2:vH u n)(J:kP u):vH (oO t u) n:=fun x σ H Q ⟨v,r,e,q⟩=>by
 refine⟨v,r,e,?_⟩
 refine O _ _ _ _ _ (fun U H' z=>?_) (h1 _ _ _ _ q)
 obtain⟨z,S,k1⟩:=z
 exact J _ _ _ _ _ (fun W H2 y=>⟨y.1,y.2.1.trans S,fun k F=>(y.2.2 k F).trans (k1 k F)⟩) (h2 _ _ _ _ z)
theorem CK{K:W.Frag}{m n:Nat}{t:fA}(h:vH t n):sZ (u7 K m t) n:=fun x σ H Q ⟨a,xs,e,q,l,z⟩=>⟨a,xs,e,q,l,h _ _ _ _ z⟩
def eO(J:It)(g:TG)(tc:TT)(te:TE)(nT:Nat)(σ : St)(D:Addr)(Q:VK)(H:Hp):Prop:=
 ∃ W:Nat→Nat→List V→Hp→Prop,(∃ m,W 0 m [] H)∧∀ i m ys H2,W i m ys H2→
  (J.stop i H2∧Q (.ref D) H2)∨(J.go i H2∧∀ x H',J.yld i H2 x H'→g x (σ++List.replicate nT none) H' fun σ2 H3=>tc σ2 H3 fun b H4=>
   if b=true then te σ2 H4 fun y H5=>H5 D=some (.lst ys)∧ys.length<sizeLine∧∃ m',m'<m∧W (i+1) m' (ys++[y]) (upd H5 D (.lst (ys++[y]))) else ∃ m',m'<m∧W (i+1) m' ys H4)
noncomputable def we(wi:TI)(g:TG)(tc:TT)(te:TE)(nT:Nat):TE:=fun σ H Q=>wi σ H fun J H1=>∀ D,H1 D=none→eO J g tc te nT σ D Q (upd H1 D (.lst []))
theorem EQ.sameBut{P:Program}{w:World}{H:Hp}{h h':Heap}{C:Addr}(x:EQ P w H h)(J:Heap.SameBut C h h')(F:H C=none):EQ P w H h':=fun a o e=>
 (x a o e).stay (fun b u O q=>(J.2 b (by
  rintro rfl
  rcases O with z | z
  ·rw[z]at F; rw[F]at e; cases e
  ·rw[F]at z; cases z)).trans q) (fun _ q=>q) fun _ _ q=>q
section
variable{X:Cx}{N0 T:List Str}{scope:Scope}{tg elt iter:Expr}{ifs:List Expr}{pos:Pos}{wi:TI}{g:TG}{tc:TT}{te:TE}
theorem m6{pins:List (Addr × Obj)}{σ : St}{H:Hp}{s:Shared}{E:Value→Shared→Prop}{it:Addr}{fp:List Addr}{tn:Nat→Heap→Prop}{J:It}{Q:VK}{RR:Value→Addr→Result→Shared→Prop}
  (S:gQ X N0 T scope) (hc:X.calm=true)
  (hg:∀ C fp s H,PG (bY X N0 T scope C fp s H) tg g) (c0:sZ g X.N.length) (hi:∀ C fp s H,FC (bY X N0 T scope C fp s H) ifs tc) (he:∀ C fp s H,PE (bY X N0 T scope C fp s H) elt te)
  (I:Inv X pins σ H s) (Tn:kG X.prog X.w X.K tg J fp it tn) (st:tn 0 s.heap) (hf:∀ b∈fp,gF X pins H b)
  (h:∀ D,H D=none→eO J g tc te T.length σ D Q (upd H D (.lst [])))
  (b3:∀ D C s' H' m,s'.heap.Ns C m→H' C=none→C≠X.env.locals→(∀ x c,X.env.cells.lookup x=some c→c≠C)→(∀ p∈X.pn++pins,p.1≠C)→X.s₀.heap.objs.size≤C→Inv X pins σ H' s'→
   (∀ h',Heap.SameBut C s'.heap h'→Inv X pins σ H' { s' with heap:=h' })→Q (.ref D) H'→RR (.ref D) C (.ok .next) s') :
  wpAny (model X.prog X.w) X.A (newList []) (fun acc s₃=>wpAny (model X.prog X.w) X.A (newFunctionEnv scope X.env.globals (dC X.env.cells scope.names []) [] X.env.qual none .none (some X.env)) (fun a3 s₄=>
   codeAny (model X.prog X.w) X.A (.compStart (.ListComp elt [⟨tg,iter,ifs,0⟩] scope pos) 0 (.ref it) acc { a3 with scope:=relabel scope X.env }) (RR acc a3.locals) s₄) E s₃) E s:=by
 refine wpAny_newObj_type (wpAny_newFunctionEnv S.nocell (by intro y hy; simp at hy) (fun h₁ Z O=>?_) S.kind)
 dsimp only at Z O ⊢
 generalize hH2:s.heap.push { cls:=.type "list", dict:=none,data:=.seq ([]:List Value).toArray }=P2 at Z O ⊢;have hC:P2.objs.size=s.heap.objs.size+1:=by rw[← hH2,vY]
 -- the new list D, the block's names C
 obtain⟨D,hD⟩ : ∃ D:Nat,D=s.heap.objs.size:=⟨_,rfl⟩
 obtain⟨C,cd⟩ : ∃ C:Nat,C=P2.objs.size:=⟨_,rfl⟩
 rw[← cd]at Z O hC ⊢
 rw[← hD]at hC ⊢
 have a7:D≠C:=by omega
 have ab:D<C:=by omega
 have a8:∀ b o,s.heap.get? b=some o→b≠D:=fun b o e=>hD ▸ zR (zA e)
 have U:∀ b o,s.heap.get? b=some o→b≠C:=fun b o e=>zR (Nat.lt_trans (hD ▸ zA e) ab)
 have ad:∀ b o,s.heap.get? b=some o→h₁.get? b=some o:=fun b o e=>O.extBut b o (U b o e) (zz _ (hH2 ▸ zz _ e))
 have bt:H D=none:=I.hok.fresh (by omega)
 have ca:H C=none:=I.hok.fresh (by omega)
 have dat:h₁.get? D=some { cls:=.type "list", data:=.seq ([]:List Value).toArray 0 }:=by
  refine O.extBut _ _ a7 (zz _ ?_)
  rw[← hH2,hD];exact zV _ rfl
 -- the block's context stands
 have Y:∀ x c,(dC X.env.cells scope.names []).lookup x=some c→X.env.cells.lookup x=some c:=fun x c e=>
  jR (fun y hy hk=>I.ok.has y.1 (S.free y hy hk)) (fun y c z=>by simp at z) e
 have ag:(bY X N0 T scope C fp s H).Ok:=by
  refine⟨I.ok.mod,?_,I.ok.glob,I.ok.blt,?_,fun x y c e1 e2=>I.ok.inj x y c (Y x c e1) (Y y c e2),fun x hx=>?_,fun x c z _=>(by cases z),I.ok.hd,I.ok.frames,.inl rfl,fun b F=>⟨?_,fun x c e=>(hf b F).2.2.2.2.1 x c (Y x c e)⟩,
   I.bs,?_,fun b o e F=>?_,fun b F z=>?_,I.stack,I.stkFree⟩
  ·show (relabel scope X.env).kind = .function
   exact S.kind
  ·show s.heap.objs.size≤C
   omega
  ·have c1:(relabel scope X.env).names.lookup x=some .cell∨(relabel scope X.env).names.lookup x=some .free:=hx
   have m:(x,NameKind.free)∈scope.names:=by
    rcases c1 with z | z
    ·exact dS S.nocell z (.inl rfl)
    ·exact dS S.nocell z (.inr rfl)
   exact iG m
  ·show b≠C
   obtain⟨o,e,_⟩:=Tn.obj 0 _ st b F
   exact U b o e
  ·exact gV I.ok.bsz I.sz
  ·obtain⟨_,_,_,z,_⟩:=hf b F
   rcases z with z | z
   ·exact I.ok.noex b o e z
   ·exact absurd (vV (vV (zA e) I.ok.bsz) z) (GR _)
  ·obtain⟨_,z1,z2,_⟩:=hf b F
   rcases Hi.mp (I.stkSub b z) with q | q
   ·exact z1 q
   ·exact z2 q
 have I1:Inv (bY X N0 T scope C fp s H) [] (σ++List.replicate T.length none) (upd H D (.lst [])) { s with heap:=h₁,toks:=s.toks+([]:List (Str × Value)).length }:=by
  refine⟨ag,rfl,I.bare,Un.laid (h:=s.heap) ad (by omega) bt,⟨_,Z,fun i x v e1 e2 e3=>?_⟩,fun x c e=>?_,?_,fun x c e=>?_,fun p hp=>(by simp[bY]at hp),I.hok.laid ad (by omega) ?_,?_⟩
  ·have a5:(N0++T)[i]? = some x:=e1
   have hl:=I.len;have c2:=S.len0
   have hi:i<σ.length:=by
    rcases vA i σ.length with z | z
    ·exact z
    ·rw[vw z]at e2
     rw[zbe]at e2
     split at e2 <;> cases e2
   rw[vX hi]at e2
   rw[vX (by omega)]at a5
   have cl:x∈N0:=vx a5
   have cq:(relabel scope X.env).names.lookup x=some .local∨(relabel scope X.env).names.lookup x=some .cell∨(relabel scope X.env).names.lookup x=some .free:=e3
   have fr:(relabel scope X.env).names.lookup x=some .cell∨(relabel scope X.env).names.lookup x=some .free:=by
    rcases cq with z | z | z
    ·exfalso
     -- a local of the block is no tracked name
     have cb:∀ (names:List (Str × NameKind)),(names.map fun (n,k)=>if (k == NameKind.free&&X.env.scope.kind == .function&&X.env.kindOf n == some .cell) then (n,NameKind.cell) else (n,k)).lookup x=some .local→(x,NameKind.local)∈names:=by
      intro names
      induction names with
      | nil=>intro z; simp at z
      | cons y r ih=>
       obtain⟨n,k⟩:=y
       intro z
       rw[zW]at z
       dsimp only at z
       by_cases hfk:(k == NameKind.free&&X.env.scope.kind == .function&&X.env.kindOf n == some .cell)=true
       ·rw[Hf hfk,GX]at z
        cases hx:(x == n) with
        | true=>rw[hx]at z; cases z
        | false=>rw[hx]at z; exact zO _ (ih z)
       ·rw[He hfk,GX]at z
        cases hx:(x == n) with
        | true=>
         rw[hx]at z
         have ek:k = .local:=Option.some.inj z
         have en:x=n:=by simpa using hx
         rw[ek,en]; exact zI
        | false=>rw[hx]at z; exact zO _ (ih z)
     exact S.apart (x,.local) (cb _ z) rfl cl
    ·exact .inl z
    ·exact .inr z
   have m:(x,NameKind.free)∈scope.names:=by
    rcases fr with z | z
    ·exact dS S.nocell z (.inl rfl)
    ·exact dS S.nocell z (.inr rfl)
   have kX:=S.free _ m rfl;obtain⟨mm,hn,cv⟩:=I.loc
   obtain⟨u,r,lk⟩:=cv i x v (S.same i x _ a5 m) e2 (.inr kX)
   refine⟨u,r,.inr ⟨fr,?_⟩⟩
   rcases lk with ⟨z,_⟩ | ⟨_,c,ec,cc⟩
   ·rcases kX with q | q
    ·rw[q]at z; cases z
    ·rw[q]at z; cases z
   ·obtain⟨c',bg⟩:=iG (cells:=X.env.cells) (acc:=[]) m
    have:=Y x c' bg
    rw[ec]at this; cases this
    exact⟨c,bg,cc.keeps ad⟩
  ·obtain⟨v,z⟩:=I.cell x c (Y x c e)
   exact⟨v,z.keeps ad⟩
  ·show upd H D (.lst []) C=none
   rw[au (ve a7)]; exact ca
  ·have q:=I.freeC x c (Y x c e)
   obtain⟨v,o,z,_⟩:=I.cell x c (Y x c e)
   rw[au (a8 c o z)]; exact q
  ·exact⟨vL _,[],0,.nil,dat⟩
  ·show (σ++List.replicate T.length none).length=(N0++T).length
   rw[zr,zr,List.length_replicate,I.len,S.len0]
 have b1:tn 0 h₁:=Tn.keep _ _ _ st fun b _ o e=>ad b o e
 have a4:∀ {H':Hp},(∀ b∈fp,H' b=none)→∀ b∈fp,gF (bY X N0 T scope C fp s H) [] H' b:=fun hn b F=>
  ⟨hn b F,(ag.exf b F).1,ag.exfs b F,.inl F,(ag.exf b F).2,fun p hp=>(by simp[bY]at hp)⟩
 have cB:∀ b∈fp,upd H D (.lst []) b=none:=fun b F=>by
  obtain⟨o,e,_⟩:=Tn.obj 0 _ st b F
  rw[au (a8 b o e)]; exact(hf b F).1
 obtain⟨W,⟨m0,w0⟩,a9⟩:=h D bt
 have an:∀ s₃ : Shared,s₃={ s with heap:=h₁,toks:=s.toks+([]:List (Str × Value)).length }→
   codeAny (model X.prog X.w) X.A (.compLoop (.ListComp elt [⟨tg,iter,ifs,0⟩] scope pos) 0 (.ref it) (.ref D) (compEnvC scope (dC X.env.cells scope.names []) C X.env)) (RR (.ref D) C) s₃:=by
  rintro s₃ rfl
  refine i8 (fun n s'=>∃ i H' ys,Inv (bY X N0 T scope C fp s H) [] (σ++List.replicate T.length none) H' s'∧tn i s'.heap∧(∀ b∈fp,H' b=none)∧W i n ys H') ?_ m0 ⟨0,_,[],I1,b1,cB,w0⟩
  rintro n s3 ⟨i,H3,ys,I3,b0,be,w3⟩
  rcases a9 i n ys H3 w3 with ⟨stop,qn⟩ | ⟨go,step⟩
  ·refine bu (Tn.done (bY X N0 T scope C fp s H) rfl rfl rfl hc i [] s3 _ H3 (fun _ _=>False) I3 (a4 be) b0 stop) fun r s4 ⟨hr,I4⟩=>?_
   subst hr;obtain⟨m,hm,_⟩:=I4.loc
   have bp:∀ b∈fp,(b∈X.ex∨X.s₀.heap.objs.size≤b)∧b≠X.env.locals∧(∀ x c,X.env.cells.lookup x=some c→c≠b)∧∀ p∈X.pn++pins,p.1≠b:=fun b F=>
    ⟨(hf b F).2.2.2.1,(hf b F).2.1,(hf b F).2.2.2.2.1,(hf b F).2.2.2.2.2⟩
   have u4:Un (i0 X.stack) fp H H3 s.heap s4.heap:=I4.base
   refine b3 D C s4 H3 m hm I4.free (ve (zR (Nat.lt_trans (hD ▸ I.lt) ab))) (fun x c e=>?_) (fun p hp=>?_) (gV (hD ▸ I.sz) (wm ab)) (I.call' (ch:=fp) I4.os u4 I4.hok I4.bare bp) (fun h' al=>?_) qn
   ·obtain⟨v,o,q,_⟩:=I.cell x c e
    exact U c o q
   ·exact U _ _ (I.pin p hp).1
   ·refine I.call' (ch:=fp) (s':={ s4 with heap:=h' }) I4.os ⟨fun b o q n' F hx=>(al.2 b (U b o q)).trans (u4.keep b o q n' F hx),fun b o q n' F hx=>?_,u4.free,fun b o q hx=>?_,u4.tups,u4.frzs,u4.tbls⟩ (I4.hok.sameBut al I4.free) I4.bare bp
    ·obtain⟨sl,e⟩:=u4.slot b o q n' F hx
     exact⟨sl,(al.2 b (U b o q)).trans e⟩
    ·obtain⟨o',e⟩:=u4.there b o q hx
     exact⟨o',(al.2 b (U b o q)).trans e⟩
  ·refine bu (Tn.item (bY X N0 T scope C fp s H) rfl rfl rfl hc i [] s3 _ H3 (fun _ _=>False) I3 (a4 be) b0 go) fun r s4 ⟨u,hr,h4⟩=>?_
   subst hr;refine bu h4 fun _ s5 ⟨x,H5,I5,r5,y5,a6,b4⟩=>?_
   have cA:=I5.pinned (a4 b4) (Tn.obj _ _ a6);refine bu (hg C fp s H _ s5 _ H5 x u _ cA r5 (c0 _ _ _ _ (step x H5 y5))) fun _ s6 ⟨σ6,H6,I6,q6,l6,k6⟩=>?_
   have as:∀ {H7:Hp} {s7:Shared},Inv (bY X N0 T scope C fp s H) ([]++i_ fp s5.heap) σ6 H7 s7→(∀ {m':Nat} {zs:List V},m'<n→W (i+1) m' zs H7→∃ m,m<n∧∃ i H' ys,Inv (bY X N0 T scope C fp s H) [] (σ++List.replicate T.length none) H' s7∧tn i s7.heap∧(∀ b∈fp,H' b=none)∧W i m ys H'):=fun {H7 s7} I7 {m' zs} hm w7=>by
    refine⟨m',hm,i+1,H7,zs,I7.unpinned.weak (by rw[l6]) (fun j v e=>?_),Tn.keep _ _ _ a6 fun b F o e=>(I7.pin (b,o) (kr _ (kr _ (gg F e)))).1,fun b F=>?_,w7⟩
    ·have hj:j<σ.length:=by
      rcases vA j σ.length with z | z
      ·exact z
      ·rw[vw z,zbe]at e
       split at e <;> cases e
     rw[k6 j (by rw[← I.len]; exact hj)]
     exact e
    ·obtain⟨o,e,d⟩:=Tn.obj _ _ a6 b F
     exact(I7.pin (b,o) (kr _ (kr _ (gg F e)))).2.1
   refine bu (hi C fp s H _ s6 σ6 H6 _ I6 q6) fun b s7 ⟨H7,I7,q7⟩=>?_
   cases b with
   | false=>
    obtain⟨m',hm,w7⟩:=(show ∃ m',m'<n∧W (i+1) m' ys H7 from by simpa using q7)
    exact as I7 hm w7
   | true=>
    rw[Hf rfl]at q7
    refine bu (he C fp s H _ s7 σ6 H7 _ I7 q7) fun v s8 ⟨y,H8,I8,r8,b2,hz,m',hm,w8⟩=>?_
    refine bu (oh (X:=bY X N0 T scope C fp s H) _ s8 σ6 H8 (.ref D) [y] (.ref D) [v] (fun _ H9=>H9=upd H8 D (.lst (ys++[y]))) I8 rfl (.cons r8 .nil) ⟨D,ys,y,rfl,rfl,b2,hz,rfl⟩) fun v9 s9 ⟨y9,H9,I9,_,e9⟩=>?_
    subst e9;exact as I9 hm w8
 exact codeAny_compStart_list (an _ rfl) (Tn.self X.A 0 _ _ _ b1 (an _ rfl))
theorem fI(S:gQ X N0 T scope)(hc:X.calm=true)(hI:PI X tg iter wi)
  (hg:∀ C fp s H,PG (bY X N0 T scope C fp s H) tg g) (U:sZ g X.N.length) (hi:∀ C fp s H,FC (bY X N0 T scope C fp s H) ifs tc) (he:∀ C fp s H,PE (bY X N0 T scope C fp s H) elt te)
  (hs:∀ x,foldedSetIterable iter X.env x=pure x:=by intro _; rfl):PE X (.ListComp elt [⟨tg,iter,ifs,0⟩] scope pos) (we wi g tc te T.length):=by
 intro pins s σ H Q I h
 rw[eval_ListComp];refine wpAny_comprehension_free (use:=none) rfl hs (iZ fun x hx hk=>I.ok.has x.1 (S.free x hx hk)) S.kind S.names (bu (hI pins s σ H _ I h) fun v s1 h1=>bu h1 fun ad s2 h2=>?_)
 obtain⟨it,fp,tn,J,H2,e,I2,Tn,Z,f2,q2⟩:=h2
 subst e;refine m6 (RR:=fun acc C=>compPost (model X.prog X.w) X.A X.xe none (EP X pins σ Q) acc C) S hc hg U hi he I2 Tn Z f2 q2 ?_
 intro D C s' H' m hn hC hL O ab F I' W q
 exact⟨m,hn,fun h' Y=>⟨.ref D,H',W h' Y,rfl,q⟩⟩
theorem lC{i:Nat}{x:Str}{pos' U:Pos}(S:gQ X N0 T scope)(hc:X.calm=true)(hN:X.N.Nodup)(ad:X.N[i]? = some x)(hx:X.env.scope.names.lookup x=some .local)(hI:PI X tg iter wi)
  (hg:∀ C fp s H,PG (bY X N0 T scope C fp s H) tg g) (ag:sZ g X.N.length) (hi:∀ C fp s H,FC (bY X N0 T scope C fp s H) ifs tc) (he:∀ C fp s H,PE (bY X N0 T scope C fp s H) elt te)
  (ab:swapsWith (.ListComp elt [⟨tg,iter,ifs,0⟩] scope pos) (some (.Name x pos')) U.line X.env=pure true:=by rfl)
  (hs:∀ x,foldedSetIterable iter X.env x=pure x:=by intro _; rfl):PS X (.Assign [.Name x pos'] (.ListComp elt [⟨tg,iter,ifs,0⟩] scope pos) U) (qr (we wi g tc te T.length) (gN i)):=by
 intro pins s σ H D I h
 rw[exec_Assign_Name_used _ _ _ _ ab];refine G8 (wpAny_standAt (G8 ?_))
 show wpAny _ X.A (do let _ ← comprehension (.ListComp elt [⟨tg,iter,ifs,0⟩] scope pos) scope X.env _ (newList []) false (eval iter X.env) (some (assign (.Name x pos') X.env))) _ _ s
 refine G8 (wpAny_mono (wpAny_comprehension_free (use:=some (assign (.Name x pos') X.env)) (Q:=fun _ s'=>SP X pins D .next s') rfl hs (iZ fun x hx hk=>I.ok.has x.1 (S.free x hx hk)) S.kind S.names
  (bu (hI pins s σ H _ I h) fun v s1 h1=>bu h1 fun a5 s2 h2=>?_)) (fun _ s' hq=>Hc (Hc hq)) fun _ _ e=>e)
 obtain⟨it,fp,tn,J,H2,e,I2,Tn,as,f2,q2⟩:=h2
 subst e;refine m6 (RR:=fun acc C=>compPost (model X.prog X.w) X.A X.xe (some (assign (.Name x pos') X.env)) (fun _ s'=>SP X pins D .next s') acc C) S hc hg ag hi he I2 Tn as f2 q2 ?_
 intro L C s' H' m hn hC hL F W O I' a4 q
 show wpAny _ X.A (assign (.Name x pos') X.env (.ref L)) _ _ _
 refine wpAny_assign_Name (ni (v:=.ref L) I' hN ad (.inl hx) rfl (fun a3 Y ⟨a,an,ha⟩=>?_) (.inr hx))
 have Z:C≠a:=by
  rintro rfl
  rcases ha with z | z
  ·exact hL z
  ·exact F x C z rfl
 refine⟨m,hn.sameBut an Z,fun h' al=>?_⟩
 exact⟨σ.set i (some (.ref L)),H',Y.turned (t':=a3.toks) (fun b o hb e=>(al.2 b hb).trans e) hC hL (.inr O) F W,q⟩
end
theorem yl.of:∀ {xs:List V} {F:List Value} {i:Nat} {u:Value},yl xs F→F[i]? = some u→∃ x,xs[i]? = some x∧RelV x u
 | _,_,0,u,.cons r _,e=>⟨_,rfl,by simp at e; subst e; exact r⟩
 | _,_,i+1,u,.cons _ rr,e=>by
  obtain⟨x,hx,r⟩:=yl.of (i:=i) rr (by simpa using e)
  exact⟨x,by simpa using hx,r⟩
theorem jl:∀ {F:List Str} {J:List Value},yl (F.map V.str) J→StrsAre J F
 | [],_,.nil=>.nil
 | s::F,_,.cons r rr=>by
  obtain⟨t,rfl⟩:=r
  exact .cons s t (jl rr)
theorem mQ:∀ {J:List Value} {F:List Str},StrsAre J F→yl (F.map V.str) J
 | _,_,.nil=>.nil
 | _,_,.cons y t h=>.cons ⟨t,rfl⟩ (mQ h)
section
variable{X:Cx}
noncomputable def cI(H:Hp):V→Option String
 | .non=>some "NoneType"
 | .bl _=>some "bool"
 | .int _=>some "int"
 | .str _=>some "str"
 | .ref a=>match H a with
  | some (.lst _)=>some "list"
  | some (.frz _ (.lst _))=>some "list"
  | some (.tup _)=>some "tuple"
  | some (.dK _)=>some "dict"
  | some (.dT _)=>some "dict"
  | _=>none
 | _=>none
theorem yj{K:W.Frag}{H:Hp}:∀ {x:V} {T:String},cI H x=some T→fH K H x (.type T)
 | .non,T,h=>by cases h; exact .non
 | .bl b,T,h=>by cases h; exact .bl b
 | .int i,T,h=>by cases h; exact .int i
 | .str y,T,h=>by cases h; exact .str y
 | .byt _,T,h=>by cases h
 | .flt _,T,h=>by cases h
 | .ty _,T,h=>by cases h
 | .ref a,T,h=>by
  cases e:H a with
  | none=>simp[cI,e]at h
  | some o=>
   cases o with
   | lst xs=>simp[cI,e]at h; subst h; exact .lst e
   | tup xs=>simp[cI,e]at h; subst h; exact .tup e
   | dK xs=>simp[cI,e]at h; subst h; exact .dK e
   | dT xs=>simp[cI,e]at h; subst h; exact .dT e
   | frz ob u=>
    cases u with
    | lst xs=>simp[cI,e]at h; subst h; exact .frz e
    | _=>simp[cI,e]at h
   | _=>simp[cI,e]at h
noncomputable def Bw(T C:String):Bool:=T == C||(T == "bool" && C == "int")
theorem Al(K:W.Frag){T C:String}(F:T∈["NoneType", "bool", "int", "str", "list", "tuple", "dict"]) (J:C∈["bool", "int", "str", "list", "tuple"]):W.kitOne K (.type T) (.type C)=some (Bw T C):=by
 simp only[zK,ma,or_false]at F J
 rcases F with rfl | rfl | rfl | rfl | rfl | rfl | rfl <;> rcases J with rfl | rfl | rfl | rfl | rfl <;> (with_unfolding_all rfl)
theorem wz{H:Hp}{x:V}{T:String}(h:cI H x=some T):T∈["NoneType", "bool", "int", "str", "list", "tuple", "dict"]:=by
 cases x with
 | ref a=>
  cases e:H a with
  | none=>simp[cI,e]at h
  | some o=>
   cases o with
   | frz ob u=>cases u <;> simp[cI,e]at h <;> subst h <;> decide
   | _=>simp[cI,e]at h <;> subst h <;> decide
 | _=>first | (cases h; decide) | cases h
noncomputable def Dd:List V→Hp→VK→Prop:=fun xs H Q=>∃ (x:V) (T C:String),xs=[x,.ty C]∧cI H x=some T∧C∈["bool", "int", "str", "list", "tuple"]∧Q (.bl (Bw T C)) H
theorem uq{H:Hp}{Q:VK}(x:V)(C:String):Dd [x,.ty C] H Q=∃ T,cI H x=some T∧C∈["bool", "int", "str", "list", "tuple"]∧Q (.bl (Bw T C)) H:=
 propext ⟨fun ⟨_,T,_,e,q⟩=>by cases e; exact⟨T,q⟩,fun ⟨T,q⟩=>⟨x,T,C,rfl,q⟩⟩
theorem iO:AL X (.builtin "isinstance") Dd:=by
 intro pins s σ H xs Y Q I r h
 obtain⟨x,T,C,rfl,J,U,q⟩:=h
 obtain⟨u,W,rfl,S,F⟩:=kS r
 cases F;exact yq I S (yj J) (Al X.K (wz J) U) fun O=>⟨.bl (Bw T C),H,I.tok O,rfl,q⟩
noncomputable def vd(K:W.Frag):V→List V→Hp→VK→Prop:=fun x vs H Q=>∃ (sep:Str) (p:Addr) (ss:List Str),x = .str sep∧vs=[.ref p]∧ud K H p (ss.map V.str)∧(ss.map (·.length)).sum+ss.length * sep.length≤16777216∧Q (.str (Txt.join sep ss)) H
theorem BH:Fh X "str.join" (vd X.K):=by
 intro pins s σ H x xs v us Q I Z r h
 obtain⟨F,p,U,rfl,rfl,O,hz,q⟩:=h
 obtain⟨t,rfl⟩:=Z
 obtain⟨u,rfl,J⟩:=cT r
 cases J;obtain⟨W,Y,S,_⟩:=I.list O
 exact join_list S.isList (by simpa using jl Y) hz fun t' k=>⟨.str (Txt.join F U),H,I.tok k,⟨t',rfl⟩,q⟩
end
def km(J:It)(g:TG)(tb:TS)(D:dz)(σ : St)(H:Hp):Prop:=∃ W:Nat→Nat→St→Hp→Prop,(∃ m,W 0 m σ H)∧∀ i m σ H,W i m σ H→
 (J.stop i H∧D.nx σ H)∨(J.go i H∧∃ N:St→Hp→Prop,(∀ σ' H',N σ' H'→∃ m',m'<m∧W (i+1) m' σ' H')∧∀ x H',J.yld i H x H'→g x σ H' fun σ2 H2=>tb { D with nx:=N,ct:=N,bk:=D.nx } σ2 H2)
theorem uE(wi:TI)(g:TG)(tb:TS)(D:dz)(σ : St)(H:Hp):EM wi g tb D σ H=wi σ H fun J H1=>km J g tb D σ H1:=rfl
theorem mE{J:It}{g:TG}{tb:TS}{D:dz}{σ : St}{H:Hp}(n:Nat)(F:Nat→St→Hp→Prop)(W:F 0 σ H)(S:∀ i σ H,i<n→F i σ H→J.go i H)(O:∀ σ H,F n σ H→J.stop n H)
  (Z:∀ i σ H x H',i<n→F i σ H→J.yld i H x H'→g x σ H' fun Y H2=>tb { D with nx:=F (i+1),ct:=F (i+1),bk:=D.nx } Y H2) (hd:∀ σ H,F n σ H→D.nx σ H):km J g tb D σ H:=by
 refine⟨fun i m σ H=>m=n - i∧i≤n∧F i σ H,⟨n,by simp,vL _,W⟩,?_⟩
 rintro i m σ H ⟨rfl,hi,p⟩
 by_cases hlt:i<n
 ·exact .inr ⟨S i σ H hlt p,F (i+1),fun σ' H' U=>⟨n - (i+1),by omega,rfl,hlt,U⟩,fun x H' y=>Z i σ H x H' hlt p y⟩
 ·have e:i=n:=by omega
  subst e;exact .inl ⟨O σ H p,hd σ H p⟩
theorem cw{K:W.Frag}{a:Addr}{xs:List V}{g:TG}{tb:TS}{D:dz}{σ : St}{H:Hp}(F:Nat→St→Hp→Prop)(S:F 0 σ H)(hl:∀ i σ H,i≤xs.length→F i σ H→ud K H a xs)
  (O:∀ i x σ H,xs[i]? = some x→F i σ H→g x σ H fun J H2=>tb { D with nx:=F (i+1),ct:=F (i+1),bk:=D.nx } J H2) (hd:∀ σ H,F xs.length σ H→D.nx σ H):km (kc K a) g tb D σ H:=
 zJ F S hl O hd
theorem dy{lo:Int}{n:Nat}{g:TG}{tb:TS}{D:dz}{σ : St}{H:Hp}(F:Nat→St→Hp→Prop)(S:F 0 σ H)
  (O:∀ i σ H,i<n→F i σ H→g (.int (lo+i)) σ H fun J H2=>tb { D with nx:=F (i+1),ct:=F (i+1),bk:=D.nx } J H2) (hd:∀ σ H,F n σ H→D.nx σ H):km (kU lo n) g tb D σ H:=
 yu F S O hd
def gi(n i:Nat)(Pv:Nat→List V→Hp→Prop)(D:Addr)(ys:List V)(y:V)(H:Hp):Prop:=
 H D=some (.lst ys)∧ys.length<sizeLine∧∃ m',m'<n - i∧(m'=n - (i+1)∧i+1≤n∧Pv (i+1) (ys++[y]) (upd H D (.lst (ys++[y]))))
theorem kY{n i:Nat}{F:Nat→List V→Hp→Prop}{D:Addr}{ys:List V}{y:V}{H:Hp}(hi:i<n)(J:ys.length=i)(hz:n≤sizeLine)(h1:H D=some (.lst ys))(h2:F (i+1) (ys++[y]) (upd H D (.lst (ys++[y])))):gi n i F D ys y H:=
 ⟨h1,by omega,n - (i+1),by omega,rfl,hi,h2⟩
def iF(n i:Nat)(Pv:Nat→List V→Hp→Prop)(D:Addr)(ys:List V)(te:TE)(σ : St)(H:Hp):Prop:=
 if true=true then te σ H (gi n i Pv D ys) else ∃ m',m'<n - i∧(m'=n - (i+1)∧i+1≤n∧Pv (i+1) ys H)
theorem kM{n i:Nat}{F:Nat→List V→Hp→Prop}{D:Addr}{ys:List V}{te:TE}{σ : St}{H:Hp}:iF n i F D ys te σ H=te σ H (gi n i F D ys):=by
 unfold iF; rw[Hf rfl]
theorem kI{J:It}{g:TG}{te:TE}{nT:Nat}{σ : St}{D:Addr}{Q:VK}{H:Hp}(n:Nat)(F:Nat→List V→Hp→Prop)(U:F 0 [] H)(S:∀ i ys H,i<n→F i ys H→J.go i H)(O:∀ ys H,F n ys H→J.stop n H)
  (W:∀ i ys H x H',i<n→F i ys H→J.yld i H x H'→g x (σ++List.replicate nT none) H' (iF n i F D ys te))
  (hd:∀ ys H,F n ys H→Q (.ref D) H):eO J g kJ te nT σ D Q H:=by
 refine⟨fun i m ys H=>m=n - i∧i≤n∧F i ys H,⟨n,by simp,vL _,U⟩,?_⟩
 rintro i m ys H ⟨rfl,hi,p⟩
 by_cases hlt:i<n
 ·exact .inr ⟨S i ys H hlt p,fun x H' y=>W i ys H x H' hlt p y⟩
 ·have e:i=n:=by omega
  subst e;exact .inl ⟨O ys H p,hd ys H p⟩
theorem vo{K:W.Frag}{a:Addr}{xs:List V}{g:TG}{te:TE}{nT:Nat}{σ : St}{D:Addr}{Q:VK}{H:Hp}(F:Nat→List V→Hp→Prop)(S:F 0 [] H)(hl:∀ i ys H,i≤xs.length→F i ys H→ud K H a xs)
  (O:∀ i ys H x,xs[i]? = some x→i<xs.length→F i ys H→g x (σ++List.replicate nT none) H (iF xs.length i F D ys te))
  (hd:∀ ys H,F xs.length ys H→Q (.ref D) H):eO (kc K a) g kJ te nT σ D Q H:=by
 refine kI xs.length F S (fun i ys H hi p=>⟨xs,xs[i],hl i ys H (wm hi) p,by simp[hi]⟩) (fun ys H p=>⟨xs,hl _ ys H (zl _) p,zl _⟩) (fun i ys H x H' hi p J=>?_) hd
 obtain⟨rfl,y⟩:=J
 exact O i ys _ x (y xs (hl i ys _ (wm hi) p)) hi p
theorem jV{lo:Int}{n:Nat}{g:TG}{te:TE}{nT:Nat}{σ : St}{D:Addr}{Q:VK}{H:Hp}(F:Nat→List V→Hp→Prop)(S:F 0 [] H)
  (O:∀ i ys H,i<n→F i ys H→g (.int (lo+i)) (σ++List.replicate nT none) H (iF n i F D ys te))
  (hd:∀ ys H,F n ys H→Q (.ref D) H):eO (kU lo n) g kJ te nT σ D Q H:=by
 refine kI n F S (fun i ys H hi p=>hi) (fun ys H p=>zl _) (fun i ys H x H' hi p J=>?_) hd
 obtain⟨rfl,rfl⟩:=J
 exact O i ys _ hi p
def vJ(u:TS)(D:dz)(σ : St)(H:Hp):Prop:=u D σ H
section
variable{D:dz}{σ : St}{H:Hp}{Q:VK}{B:Bool→Hp→Prop}{L:List V→Hp→Prop}{R:It→Hp→Prop}{G:St→Hp→Prop}
theorem sJ(t u:TS):y8 t u D σ H=t { D with nx:=vJ u D } σ H:=rfl
theorem l7(u:TS):vJ u D σ H=u D σ H:=rfl
theorem qv:Bb D σ H=D.nx σ H:=rfl
theorem tS(c:TT)(t u:TS):Fs c t u D σ H=c σ H fun b H1=>if b=true then t D σ H1 else u D σ H1:=rfl
theorem tK(t:TE):FI t D σ H=t σ H D.rt:=rfl
theorem pE(t:TE):A8 t D σ H=t σ H fun _ H1=>D.nx σ H1:=rfl
theorem sV(t:TE)(g:TG):qr t g D σ H=t σ H fun x H1=>g x σ H1 D.nx:=rfl
theorem o0(i:Nat)(v:V):gN i v σ H G=G (σ.set i (some v)) H:=rfl
theorem ub(vs:List V):vS vs σ H G=(vs=[]∧G σ H):=rfl
theorem qW(t:TG)(u:fA)(vs:List V):oO t u vs σ H G=∃ v r,vs=v::r∧t v σ H fun F H'=>u r F H' G:=rfl
theorem tM(K:W.Frag)(n:Nat)(t:fA)(v:V):u7 K n t v σ H G=∃ a xs,v = .ref a∧vr K H a xs∧xs.length=n∧t xs σ H G:=rfl
theorem uD(to ti:TE)(t:mh)(v:V):CW to ti t v σ H G=to σ H fun o H1=>ti σ H1 fun i H2=>t o i v H2 fun F=>G σ F:=rfl
theorem sY(i:Nat):AY i σ H Q=∃ v,σ[i]? = some (some v)∧Q v H:=rfl
theorem By(v:V):tC v σ H Q=Q v H:=rfl
theorem yx(r:R2)(ta tb:TE):xM r ta tb σ H Q=ta σ H fun x H1=>tb σ H1 fun y H2=>r x y H2 Q:=rfl
theorem xQ(r:V→Hp→VK→Prop)(ta:TE):Gw r ta σ H Q=ta σ H fun x H1=>r x H1 Q:=rfl
theorem qy(t:TE):BA t σ H B=t σ H fun x H'=>∃ k,x = .bl k∧B k H':=rfl
theorem BC(t:TE):tB t σ H B=t σ H fun x H'=>∃ k,x = .bl k∧B k H':=rfl
theorem uv(t u:TT):EX t u σ H B=t σ H fun c H1=>if c=true then u σ H1 B else B false H1:=rfl
theorem w_(t u:TT):GJ t u σ H B=t σ H fun c H1=>if c=true then B true H1 else u σ H1 B:=rfl
theorem ut(t:TT):Dv t σ H B=t σ H fun c H1=>B (!c) H1:=rfl
theorem rK(ta tb:TE):Bv ta tb σ H Q=ta σ H fun x H1=>∃ c,x = .bl c∧if c=true then tb σ H1 Q else Q (.bl false) H1:=rfl
theorem rT(ta:TE):Bf ta σ H Q=ta σ H fun x H1=>∃ c,x = .bl c∧Q (.bl (!c)) H1:=rfl
theorem xG(t:TT)(ta tb:TE):GG t ta tb σ H Q=t σ H fun c H1=>if c=true then ta σ H1 Q else tb σ H1 Q:=rfl
theorem yC(r:List V→Hp→VK→Prop)(t:TA):xC r t σ H Q=t σ H fun vs H1=>r vs H1 Q:=rfl
theorem qH(ta:TE)(F:TA):A6 ta F σ H L=ta σ H fun x H1=>F σ H1 fun xs H2=>L (x::xs) H2:=rfl
theorem uH:DC σ H L=L [] H:=rfl
theorem tN(t:TA):Er t σ H Q=t σ H fun xs H1=>xs.length≤sizeLine∧∀ p,H1 p=none→Q (.ref p) (upd H1 p (.tup xs)):=rfl
theorem sG(t:TA):Fz t σ H Q=t σ H fun xs H1=>xs.length≤sizeLine∧∀ p,H1 p=none→Q (.ref p) (upd H1 p (.lst xs)):=rfl
theorem pO(sp:Sp)(dvs:List V)(E:XK)(t:TA):wM sp dvs E t σ H Q=t σ H fun vs H1=>sp (vs++dvs) H1 Q E:=rfl
theorem xc(K:W.Frag)(T:String)(r:V→List V→Hp→VK→Prop)(to:TE)(t:TA):Dg K T r to t σ H Q=to σ H fun x H1=>rM K T x H1∧t σ H1 fun xs H2=>r x xs H2 Q:=rfl
theorem uz(K:W.Frag)(T:String)(r:V→List V→Hp→VK→Prop)(to:TE):Af K T r to σ H Q=to σ H fun x H1=>rM K T x H1∧r x [] H1 Q:=rfl
theorem yQ(r:V→Option Int→Option Int→Hp→VK→Prop)(te:TE)(tl th:TO):Gy r te tl th σ H Q=te σ H fun x H1=>tl σ H1 fun l H2=>th σ H2 fun u F=>r x l u F Q:=rfl
theorem qw(t:TE)(O:Option Int→Hp→Prop):Be t σ H O=t σ H fun x H1=>∃ i,x = .int i∧O (some i) H1:=rfl
theorem lu(O:Option Int→Hp→Prop):tT σ H O=O none H:=rfl
theorem rC(wi:TI)(g:TG)(tc:TT)(te:TE)(nT:Nat):we wi g tc te nT σ H Q=wi σ H fun J H1=>∀ D,H1 D=none→eO J g tc te nT σ D Q (upd H1 D (.lst [])):=rfl
theorem ug:kJ σ H B=B true H:=rfl
theorem pM(K:W.Frag)(tl:TE):vK K tl σ H R=tl σ H fun x H1=>∃ a,x = .ref a∧(∃ xs,ud K H1 a xs)∧R (kc K a) H1:=rfl
theorem pS(ta:TA):A5 ta σ H R=ta σ H fun vs H1=>∃ j:Int,vs=[.int j]∧-(2 ^ 62)≤j∧j<2 ^ 62∧R (kU 0 j.toNat) H1:=rfl
theorem yU(g:Int→Int→V)(i j:Int):lg g (.int i) (.int j) H Q=Q (g i j) H:=propext ⟨fun ⟨_,_,J,F,q⟩=>by cases J; cases F; exact q,fun q=>⟨i,j,rfl,rfl,q⟩⟩
theorem Bj(C:Int→Int→Prop)(g:Int→Int→V)(i j:Int):rI C g (.int i) (.int j) H Q=(C i j∧Q (g i j) H):=propext ⟨fun ⟨_,_,J,F,q⟩=>by cases J; cases F; exact q,fun q=>⟨i,j,rfl,rfl,q⟩⟩
end
structure Ab (K:W.Frag) (mg:Str→Option Value) (x:Str) (st:Stmt):Prop where
 ex:∃ f fd,GL K x x st f fd∧mg x=some (.ref f)
structure aH (P:Program) (w:World) (K:W.Frag) (mg:Str→Option Value) (base:Heap) (k:Nat) (x:Str) (ps:List Str) (sp:Sp):Prop where
 ex:∃ f fd,EK P w K mg base jB k f fd ps sp∧Binds K fd ps []∧W.keepIn K (.ref f)=true∧mg x=some (.ref f)
section
variable{P:Program}{w:World}{K:W.Frag}{mg:Str→Option Value}{base:Heap}
theorem Ab.cal{x:Str}{st:Stmt}{N ps:List Str}{k:Nat}{sp:Sp}(D:Ab K mg x st)(S:aE N ps (rd st))
  (hb:∀ (kV U pm:Value) (an:Option Addr) (J ct:Value) (Y:List Value),Y.length=ps.length→bindArgs (W.fnOf x x (DM st) (Dq st) (rd st) .none kV U pm an J ct) ⟨Y,[]⟩=pure (ps.zip Y))
  (len:∀ vs H Q E,sp vs H Q E→vs.length=ps.length)
  (O:∀ (f:Addr) (J:Value) (A:Around) (outer:List Env) (s:Shared) (H:Hp) (vs:List V) (Q:VK) (E:XK),Dx k (A.deeper (envOfC x (rd st) s.heap.objs.size f J))→sp vs H Q E→
   ∃ t,Fi (i9 jB P w K mg base N x (rd st) f J A outer s H E).nox (Dq st) t∧t { nx:=fun _ H'=>Q .non H',rt:=Q } (start N vs) H):aH P w K mg base (k+1) x ps sp:=by
 obtain⟨f,fd,F,m⟩:=D.ex
 exact⟨f,fd,F.ok S len fun J A outer s H vs Q E Z h=>O f J A outer s H vs Q E Z h,F.binds hb,F.kp,m⟩
end
section
variable{X:Cx}
theorem ay{j k:Nat}{x:Str}{ps:List Str}{sp:Sp}{p pos:Pos}{e:Expr}{es:List Expr}{t:TA}(c:aH X.prog X.w X.K X.mg X.base j x ps sp)(O:Dx k X.A)(J:PA X (e::es) t)(hle:j≤k:=by decide)(hg:Gl X x:=by first | exact vGg (by decide +kernel) | rfl)
  (hdb:(x == ("__debug__" : Str))=false:=by decide) (he:starEach (e::es) X.env=(false,eval e X.env)::starEach es X.env:=by rfl) (hpl:(backTo pos (starEach es X.env)).any (·.1)=false:=by rfl) :
  PE X (.Call (.Name x p) (e::es) [] pos) (wM sp [] E0 t):=by
 obtain⟨f,fd,F,b,kp,m⟩:=c.ex
 exact BN F (O.mono hle) hg m kp b .nil Bz J hdb he hpl
theorem li{x:Str}{T:String}{pos:Pos}(F:X.mg x=none)(hv:bootBuiltins x=some (.type T))(hg:Gl X x:=by first | exact vGg (by decide +kernel) | rfl)(hn:x ≠ "__name__" := by decide) (hd:(x == ("__debug__" : Str))=false:=by decide):PE X (.Name x pos) (tC (.ty T)):=
 CL hg F hv rfl hn hd
theorem bi{x:Str}{p pos:Pos}{e:Expr}{es:List Expr}{t:TA}{id:String}{r:List V→Hp→VK→Prop}(J:AL X (.builtin id) r)(O:X.mg x=none)(hv:bootBuiltins x=some (.builtin id))(F:PA X (e::es) t)(hg:Gl X x:=by first | exact vGg (by decide +kernel) | rfl)
  (hn:x ≠ "__name__" := by decide) (hdb:(x == ("__debug__" : Str))=false:=by decide) (he:starEach (e::es) X.env=(false,eval e X.env)::starEach es X.env:=by rfl) (hpl:(backTo pos (starEach es X.env)).any (·.1)=false:=by rfl) :
  PE X (.Call (.Name x p) (e::es) [] pos) (xC r t):=Az J hg O hv F hn hdb he hpl
theorem cM{x:Str}{p pos:Pos}{e:Expr}{es:List Expr}{t:TA}{T:String}{r:List V→Hp→VK→Prop}(J:AL X (.type T) r)(O:X.mg x=none)(hv:bootBuiltins x=some (.type T))(F:PA X (e::es) t)(hg:Gl X x:=by first | exact vGg (by decide +kernel) | rfl)
  (hn:x ≠ "__name__" := by decide) (hdb:(x == ("__debug__" : Str))=false:=by decide) (he:starEach (e::es) X.env=(false,eval e X.env)::starEach es X.env:=by rfl) (hpl:(backTo pos (starEach es X.env)).any (·.1)=false:=by rfl) :
  PE X (.Call (.Name x p) (e::es) [] pos) (xC r t):=yf J hg O hv F hn hdb he hpl
end
section
variable{X:Cx}
noncomputable def oK:R2:=fun x y H Q=>match x,y with
 | .int i,.int j=>Q (.int (i+j)) H
 | .str a,.str b=>a.length+b.length≤sizeLine∧Q (.str (a++b)) H
 | .ref l,.ref b=>∃ xs zs,H l=some (.lst xs)∧H b=some (.lst zs)∧xs.length+zs.length≤sizeLine∧∀ p,H p=none→Q (.ref p) (upd H p (.lst (xs++zs)))
 | _,_=>False
theorem az:Ek X (binaryOp .Add) oK:=by
 intro pins s σ H x y v u Q I J F h
 cases x <;> cases y <;> first
  | exact(show False from h).elim
  | exact Ft pins s σ H _ _ v u Q I J F ⟨_,_,rfl,rfl,h⟩
  | exact wc pins s σ H _ _ v u Q I J F ⟨_,_,rfl,rfl,h⟩
  | (obtain⟨xs,zs,h1,h2,S,O⟩:=h; exact D9 pins s σ H _ _ v u Q I J F ⟨_,_,xs,zs,rfl,rfl,h1,h2,S,O⟩)
noncomputable def zQ:R2:=fun x y H Q=>match x,y with
 | .int i,.int j=>Q (.bl (decide (i<j))) H
 | .str i,.str j=>Q (.bl (decide (i.cps.toList<j.cps.toList))) H
 | _,_=>False
theorem EL:Ek X (compareOp .Lt) zQ:=by
 intro pins s σ H x y v u Q I J F h
 cases x <;> cases y <;> first
  | exact(show False from h).elim
  | exact F3 pins s σ H _ _ v u Q I J F ⟨_,_,rfl,rfl,h⟩
  | exact yv pins s σ H _ _ v u Q I J F ⟨_,_,rfl,rfl,h⟩
noncomputable def vy(K:W.Frag):R2:=fun x y H Q=>match x,y with
 | .str i,.str j=>Q (.bl (!(Builtin.Str.occurrences j i 0 j.length 1).isEmpty)) H
 | x,.ref p=>∃ xs,(ud K H p xs∨vr K H p xs)∧bM x=true∧xs.all bM=true∧Q (.bl (iX x xs)) H
 | _,_=>False
theorem Ds:Ek X (compareOp .In) (vy X.K):=by
 intro pins s σ H x y v u Q I J F h
 cases y with
 | str j=>
  cases x with
  | str i=>exact w5 pins s σ H _ _ v u Q I J F ⟨i,j,rfl,rfl,h⟩
  | _=>exact(show False from h).elim
 | ref p=>
  have h':∃ xs,(ud X.K H p xs∨vr X.K H p xs)∧bM x=true∧xs.all bM=true∧Q (.bl (iX x xs)) H:=by cases x <;> exact h
  obtain⟨xs,h1,h2,S,O⟩:=h'
  exact yi pins s σ H _ _ v u Q I J F ⟨p,xs,rfl,h1,h2,S,O⟩
 | _=>cases x <;> exact(show False from h).elim
noncomputable def jI(K:W.Frag):R2:=fun x y H Q=>match x,y with
 | .str i,.str j=>Q (.bl (!(!(Builtin.Str.occurrences j i 0 j.length 1).isEmpty))) H
 | x,.ref p=>∃ xs,(ud K H p xs∨vr K H p xs)∧bM x=true∧xs.all bM=true∧Q (.bl (!iX x xs)) H
 | _,_=>False
theorem x9:Ek X (compareOp .NotIn) (jI X.K):=by
 intro pins s σ H x y v u Q I J F h
 cases y with
 | str j=>
  cases x with
  | str i=>exact rE pins s σ H _ _ v u Q I J F ⟨i,j,rfl,rfl,h⟩
  | _=>exact(show False from h).elim
 | ref p=>
  have h':∃ xs,(ud X.K H p xs∨vr X.K H p xs)∧bM x=true∧xs.all bM=true∧Q (.bl (!iX x xs)) H:=by cases x <;> exact h
  obtain⟨xs,h1,h2,S,O⟩:=h'
  exact ph pins s σ H _ _ v u Q I J F ⟨p,xs,rfl,h1,h2,S,O⟩
 | _=>cases x <;> exact(show False from h).elim
noncomputable def oJ(K:W.Frag):List V→Hp→VK→Prop:=fun xs H Q=>match xs with
 | [.str z]=>z.length≤sizeLine∧Q (.int z.length) H
 | [.ref p]=>∃ ys,(ud K H p ys∨vr K H p ys)∧Q (.int ys.length) H
 | _=>False
theorem yB:AL X (.builtin "len") (oJ X.K):=by
 intro pins s σ H xs F Q I r h
 match xs,h with
 | [.str z],h=>exact rj pins s σ H _ F Q I r ⟨z,rfl,h⟩
 | [.ref p],h=>obtain⟨ys,h1,h2⟩:=h; exact oS pins s σ H _ F Q I r ⟨p,ys,rfl,h1,h2⟩
noncomputable def pJ(K:W.Frag):R2:=fun x y H Q=>match x,y with
 | .ref p,.int i=>∃ xs v,(ud K H p xs∨vr K H p xs)∧cJ xs i=some v∧Q v H
 | .str z,.int i=>∃ c,z.length≤sizeLine∧cJ z.cps.toList i=some c∧Q (.str ⟨#[c]⟩) H
 | _,_=>False
theorem J0:Fq X (pJ X.K):=by
 intro value F pins s σ H x y v u Q I W S h U
 refine DR value F pins s σ H x y v u Q I W S ?_ U
 match x,y,h with
 | .ref p,.int i,h=>
  obtain⟨xs,O,h1,h2,J⟩:=h
  rcases h1 with h1 | h1
  ·exact .inl ⟨p,xs,i,O,rfl,rfl,h1,h2,J⟩
  ·exact .inr (.inl ⟨p,xs,i,O,rfl,rfl,h1,h2,J⟩)
 | .str z,.int i,h=>
  obtain⟨c,h1,h2,J⟩:=h
  exact .inr (.inr ⟨z,i,c,rfl,rfl,h1,h2,J⟩)
end
section
variable{K:W.Frag}{H:Hp}{Q:VK}
theorem nI(i j:Int):oK (.int i) (.int j) H Q=Q (.int (i+j)) H:=rfl
theorem m9(a b:Str):oK (.str a) (.str b) H Q=(a.length+b.length≤sizeLine∧Q (.str (a++b)) H):=rfl
theorem ja(l b:Addr):oK (.ref l) (.ref b) H Q=∃ xs zs,H l=some (.lst xs)∧H b=some (.lst zs)∧xs.length+zs.length≤sizeLine∧∀ p,H p=none→Q (.ref p) (upd H p (.lst (xs++zs))):=rfl
theorem q8(i j:Int):zQ (.int i) (.int j) H Q=Q (.bl (decide (i<j))) H:=rfl
theorem qx(i j:Str):zQ (.str i) (.str j) H Q=Q (.bl (decide (i.cps.toList<j.cps.toList))) H:=rfl
theorem oY(i j:Str):vy K (.str i) (.str j) H Q=Q (.bl (!(Builtin.Str.occurrences j i 0 j.length 1).isEmpty)) H:=rfl
theorem rG(x:V)(p:Addr):vy K x (.ref p) H Q=∃ xs,(ud K H p xs∨vr K H p xs)∧bM x=true∧xs.all bM=true∧Q (.bl (iX x xs)) H:=by cases x <;> rfl
theorem j8(i j:Str):jI K (.str i) (.str j) H Q=Q (.bl (!(!(Builtin.Str.occurrences j i 0 j.length 1).isEmpty))) H:=rfl
theorem j9(x:V)(p:Addr):jI K x (.ref p) H Q=∃ xs,(ud K H p xs∨vr K H p xs)∧bM x=true∧xs.all bM=true∧Q (.bl (!iX x xs)) H:=by cases x <;> rfl
theorem nR(z:Str):oJ K [.str z] H Q=(z.length≤sizeLine∧Q (.int z.length) H):=rfl
theorem oj(p:Addr):oJ K [.ref p] H Q=∃ ys,(ud K H p ys∨vr K H p ys)∧Q (.int ys.length) H:=rfl
theorem qz(p:Addr)(i:Int):pJ K (.ref p) (.int i) H Q=∃ xs v,(ud K H p xs∨vr K H p xs)∧cJ xs i=some v∧Q v H:=rfl
theorem rV(z:Str)(i:Int):pJ K (.str z) (.int i) H Q=∃ c,z.length≤sizeLine∧cJ z.cps.toList i=some c∧Q (.str ⟨#[c]⟩) H:=rfl
theorem qh(p:Addr)(k:Int)(v:V)(G:Hp→Prop):uO (.ref p) (.int k) v H G=∃ xs j,H p=some (.lst xs)∧jv xs.length k=some j∧G (upd H p (.lst (xs.set j v))):=
 propext ⟨fun ⟨_,xs,_,j,J,F,q⟩=>by cases J; cases F; exact⟨xs,j,q⟩,fun ⟨xs,j,q⟩=>⟨p,xs,k,j,rfl,rfl,q⟩⟩
theorem kO(p:Addr)(y:V):lU (.ref p) [y] H Q=∃ xs,H p=some (.lst xs)∧xs.length<sizeLine∧Q .non (upd H p (.lst (xs++[y]))):=
 propext ⟨fun ⟨_,xs,_,J,F,q⟩=>by cases J; cases F; exact⟨xs,q⟩,fun ⟨xs,q⟩=>⟨p,xs,y,rfl,rfl,q⟩⟩
theorem o8(F:Str)(p:Addr):vd K (.str F) [.ref p] H Q=∃ J,ud K H p (J.map V.str)∧(J.map (·.length)).sum+J.length * F.length≤16777216∧Q (.str (Txt.join F J)) H:=
 propext ⟨fun ⟨_,_,J,S,O,q⟩=>by cases S; cases O; exact⟨J,q⟩,fun ⟨J,q⟩=>⟨F,p,J,rfl,rfl,q⟩⟩
theorem uA(y:Str):rM K "str" (.str y) H=True:=eq_true rfl
theorem sQ(p:Addr):(rM K "list" (.ref p) H)=∃ xs,ud K H p xs:=by
 refine propext ⟨fun h=>?_,fun h=>.inl ⟨rfl,h⟩⟩
 rcases h with ⟨_,h⟩ | ⟨h,_⟩ | ⟨h,_⟩ | ⟨h,_⟩
 ·exact h
 ·exact absurd h (by decide)
 ·exact absurd h (by decide)
 ·exact absurd h (by decide)
end
theorem bK:bootBuiltins "len" = some (.builtin "len"):=by decide +kernel
theorem eL:bootBuiltins "isinstance" = some (.builtin "isinstance"):=by decide +kernel
theorem jc:bootBuiltins "sorted" = some (.builtin "sorted"):=by decide +kernel
theorem D4:bootBuiltins "str" = some (.type "str"):=by decide +kernel
theorem gw:bootBuiltins "int" = some (.type "int"):=by decide +kernel
theorem B4:bootBuiltins "bool" = some (.type "bool"):=by decide +kernel
theorem gn:bootBuiltins "list" = some (.type "list"):=by decide +kernel
theorem pC:bootBuiltins "tuple" = some (.type "tuple"):=by decide +kernel
theorem ar{X:Cx}(i:Nat){x:Str}{e:Expr}{te:TE}{pos pos':Pos}(J:X.N.Nodup)(F:PE X e te)(hi:X.N[i]? = some x:=by rfl)(hx:aD X.env.scope x:=by first | exact vLl (by decide +kernel) | exact Or.inl rfl)(hs:swapsWith e (some (.Name x pos')) pos.line X.env=pure false:=by rfl)
  (hf:X.fn x=true∨X.env.scope.names.lookup x=some .local:=by first | exact .inl rfl | exact .inr rfl | assumption):PS X (.Assign [.Name x pos'] e pos) (qr te (gN i)):=D7 J hi hx F hs hf
theorem ba{X:Cx}(i:Nat){x:Str}{pos:Pos}(F:X.N.Nodup)(hi:X.N[i]? = some x:=by rfl)(hx:aD X.env.scope x:=by first | exact vLl (by decide +kernel) | exact Or.inl rfl)
  (hf:X.fn x=true∨X.env.scope.names.lookup x=some .local:=by first | exact .inl rfl | exact .inr rfl | assumption):PG X (.Name x pos) (gN i):=BR F hi hx hf
structure El (fsc:Scope) (N N0 T:List Str) (scope:Scope):Prop where
 kind:scope.kind = .function
 nocell:∀ y∈scope.names,y.2 ≠ .cell
 names:∀ y∈scope.names,y.2 = .local→scope.names.lookup y.1=some .local
 free:∀ y∈scope.names,y.2 = .free→fsc.names.lookup y.1=some .cell∨fsc.names.lookup y.1=some .free
 apart:∀ y∈scope.names,y.2 = .local→y.1∉N0
 len0:N0.length=N.length
 same:((N0.zip N).all fun p=>p.1 == p.2 || !(scope.names.any fun y=>y.1 == p.1))=true
theorem El.to{X:Cx}{fsc:Scope}{N N0 T:List Str}{scope:Scope}(S:El fsc N N0 T scope)(h1:X.env.scope=fsc)(h2:X.N=N):gQ X N0 T scope:=by
 subst h1 h2;refine⟨S.kind,S.nocell,S.names,S.free,S.apart,S.len0,fun i x k e m=>?_⟩
 have hl:=S.len0;have hi:i<N0.length:=(Hd.mp e).1
 have F:X.N[i]? = some X.N[i]:=zg (by omega)
 have hz:(x,X.N[i])∈N0.zip X.N:=vx (i:=i) (by rw[List.getElem?_zip_eq_some]; exact⟨e,F⟩)
 have q:=List.all_eq_true.mp S.same _ hz;simp only[zaN,beq_iff_eq,Bool.not_eq_true']at q
 rcases q with q | q
 ·rw[F,← q]
 ·have:(scope.names.any fun y=>y.1 == x)=true:=List.any_eq_true.mpr ⟨_,m,by simp⟩
  rw[this]at q; cases q
noncomputable def AO:R2:=Gu
noncomputable def Ew:R2:=GC
theorem bb{X:Cx}:Ek X (compareOp .Eq) AO:=F6
theorem C9{X:Cx}:Ek X (compareOp .NotEq) Ew:=Gi
section
variable{K:W.Frag}{H:Hp}{Q:VK}
theorem ra(i j:Int):AO (.int i) (.int j) H Q=Q (.bl (decide (i=j))) H:=by
 have e:decide (V.int i=V.int j)=decide (i=j):=by by_cases h:i=j <;> simp[h]
 show (qj (.int i) (.int j)=true∧Q (.bl (decide (V.int i=V.int j))) H)=_
 rw[e]; exact propext ⟨fun h=>h.2,fun h=>⟨rfl,h⟩⟩
theorem pZ(i j:Str):AO (.str i) (.str j) H Q=Q (.bl (decide (i=j))) H:=by
 have e:decide (V.str i=V.str j)=decide (i=j):=by by_cases h:i=j <;> simp[h]
 show (qj (.str i) (.str j)=true∧Q (.bl (decide (V.str i=V.str j))) H)=_
 rw[e]; exact propext ⟨fun h=>h.2,fun h=>⟨rfl,h⟩⟩
theorem qB(i j:Str):Ew (.str i) (.str j) H Q=Q (.bl (!decide (i=j))) H:=by
 have e:decide (V.str i=V.str j)=decide (i=j):=by by_cases h:i=j <;> simp[h]
 show (qj (.str i) (.str j)=true∧Q (.bl (!decide (V.str i=V.str j))) H)=_
 rw[e]; exact propext ⟨fun h=>h.2,fun h=>⟨rfl,h⟩⟩
end
theorem Gf{X:Cx}:Fv X uO:=Ai
section
variable{X:Cx}(K:W.Frag)
theorem rB(F:X.K=K:=by rfl):Ek X (compareOp .In) (vy K):=F ▸ Ds
theorem gU(F:X.K=K:=by rfl):Ek X (compareOp .NotIn) (jI K):=F ▸ x9
theorem aV(F:X.K=K:=by rfl):AL X (.builtin "len") (oJ K):=F ▸ yB
theorem aw(F:X.K=K:=by rfl):Fq X (pJ K):=F ▸ J0
theorem rH(F:X.K=K:=by rfl):Fh X "str.join" (vd K):=F ▸ BH
theorem kB(F:X.K=K:=by rfl):Ey X (Ac K):=F ▸ Cp
theorem ci{tg l:Expr}{tl:TE}(hl:PE X l tl)(F:X.K=K:=by rfl):PI X tg l (vK K tl):=F ▸ B5 hl
theorem jP{es:List Expr}{k n:Nat}{t:fA}{pos:Pos}(h:GT X es t)(F:(assignEach es X.env).length=n:=by rfl)(hst:(assignEach es X.env).findIdx? (·.1)=none:=by rfl)(hK:X.K=K:=by rfl)(hc:X.calm=true:=by rfl):PG X (.Tuple es k pos) (u7 K n t):=hK ▸ DE hc h F hst
theorem bA{o e:Expr}{es:List Expr}{to:TE}{t:TA}{name:Str}{apos cpos:Pos}{T id:String}{r:V→List V→Hp→VK→Prop}(S:PlainAttrs T)(slot:Slot T name id)(J:typeOf (.builtin id)=pure (.type "method_descriptor")) (U:Fh X id r) (W:PE X o to) (O:PA X (e::es) t)
  (F:attributeBase o name X.env (eval o X.env)=eval o X.env:=by rfl)
  (hfew:((backTo cpos (starEach (e::es) X.env)).all (fun x=>!x.1)&&(backToKw cpos (keywordEach [] X.env)).all (fun x=>x.1.isSome)&&decide ((e::es).length+([]:List Keyword).length+(if ([]:List Keyword).isEmpty then 0 else 1)<30))=true:=by rfl)
  (hline:(apos.endLine == cpos.line)=true:=by rfl) (hs:starEach (e::es) X.env=(false,eval e X.env)::starEach es X.env:=by rfl) (hplain:(backTo cpos (starEach es X.env)).any (·.1)=false:=by rfl) (hK:X.K=K:=by rfl) :
  PE X (.Call (.Attribute o name apos) (e::es) [] cpos) (Dg K T r to t):=hK ▸ Gd S slot J U W O F hfew hline hs hplain
theorem vq(F:X.K=K:=by rfl):AL X (.type "list") (fun xs H Q=>∃ p ys,xs=[.ref p]∧(ud K H p ys∨vr K H p ys)∧∀ l,H l=none→Q (.ref l) (upd H l (.lst ys))):=F ▸ pe
theorem r_(F:X.K=K:=by rfl):AL X (.type "tuple") (fun xs H Q=>∃ p ys,xs=[.ref p]∧((ud K H p ys∧∀ l,H l=none→Q (.ref l) (upd H l (.tup ys)))∨(vr K H p ys∧Q (.ref p) H))):=F ▸ oE
end
theorem wV(n:Int)(P:Int→Prop):(∃ j,[V.int n]=[V.int j]∧P j)=P n:=propext ⟨fun ⟨_,e,h⟩=>by cases e; exact h,fun h=>⟨n,rfl,h⟩⟩
theorem uI(x:V)(xs:List V)(P:V→List V→Prop):(∃ v r,x::xs=v::r∧P v r)=P x xs:=propext ⟨fun ⟨_,_,e,h⟩=>by cases e; exact h,fun h=>⟨x,xs,rfl,h⟩⟩
noncomputable def fE(scope fsc:Scope):Scope:={ scope with names:=scope.names.map fun (n,k)=>if (k == .free&&fsc.kind == .function&&fsc.names.lookup n == some .cell) then (n,.cell) else (n,k) }
section
variable{X:Cx}{N0 T:List Str}{scope:Scope}{C:Addr}{fp:List Addr}{s:Shared}{H:Hp}{x:Str}
theorem n5(fsc:Scope)(h:(fE scope fsc).names.lookup x=some .globalImplicit)(e:X.env.scope=fsc:=by rfl):Gl (bY X N0 T scope C fp s H) x:=by subst e; exact h
theorem cQ(fsc:Scope)(h:((fE scope fsc).names.lookup x=some .local||(fE scope fsc).names.lookup x=some .cell||(fE scope fsc).names.lookup x=some .free)=true)(e:X.env.scope=fsc:=by rfl):am (bY X N0 T scope C fp s H).env.scope x:=by
 subst e;simp only[zaN,decide_eq_true_eq]at h
 rcases h with (h | h) | h
 ·exact .inl h
 ·exact .inr (.inl h)
 ·exact .inr (.inr h)
theorem hJ(fsc:Scope)(h:(fE scope fsc).names.lookup x=some .local)(e:X.env.scope=fsc:=by rfl):aD (bY X N0 T scope C fp s H).env.scope x:=by subst e; exact .inl h
theorem jW(fsc:Scope)(h:(fE scope fsc).names.lookup x=some .local)(e:X.env.scope=fsc:=by rfl):(bY X N0 T scope C fp s H).fn x=true∨(bY X N0 T scope C fp s H).env.scope.names.lookup x=some .local:=by subst e; exact .inr h
end
theorem bo{X:Cx}:Fh X "list.append" lU:=oh
theorem PW.pt'{X:Cx}{e:Expr}{t:TT}(h:PW X e t):PT X e t:=h.pt
theorem fY{t u:TS}{D:dz}{σ : St}{H:Hp}(I:St→Hp→Prop)(h:∀ k:St→Hp→Prop,(∀ σ' H',I σ' H'→k σ' H')→t { D with nx:=k } σ H)(hu:∀ σ' H',I σ' H'→vJ u D σ' H'):vJ (y8 t u) D σ H:=h _ hu
theorem kT{σ : St}{H:Hp}{Q:List (V × V)→Hp→Prop}:jd [] σ H Q=Q [] H:=rfl
theorem j_{σ : St}{H:Hp}{Q:List (V × V)→Hp→Prop}(F tv:TE)(r:List (TE × TE)):jd ((F,tv)::r) σ H Q=F σ H fun x H1=>tv σ H1 fun y H2=>jd r σ H2 fun ps J=>Q ((x,y)::ps) J:=rfl
theorem rm.upd{H H':Hp}{p:Addr}(sm:rm H H')(h:H p=none)(o:HO):rm H (upd H' p o):=fun b u q=>by rw[au (aA q h)]; exact sm b u q
theorem ah{H:Hp}{p:Addr}(h:H p=none)(o:HO):rm H (upd H p o):=fun b u q=>by rw[au (aA q h)]; exact q
end L2
namespace L2
open PySem PySem.Spec PyProof.Rows PySem.SeqAt
noncomputable def Eo(K:W.Frag)(H:Hp):Nat→V→V→Bool→Prop
 | 0,x,y,b=>bM x=true∧bM y=true∧b=fw x y
 | n+1,x,y,b=>(bM x=true∧bM y=true∧b=fw x y)∨∃ a c xs ys,x = .ref a∧y = .ref c∧((ud K H a xs∧ud K H c ys)∨(vr K H a xs∧vr K H c ys))∧
   ((∃ e:Nat→Bool,xs.length=ys.length∧(∀ (i:Nat) x y,xs[i]? = some x→ys[i]? = some y→Eo K H n x y (e i))∧b=(List.range xs.length).all e)∨
    (ud K H a xs∧ud K H c ys∧xs.length≠ys.length∧b=false))
theorem kg:∀ {x:V},bM x=true→fw x x=true
 | .non,_=>rfl
 | .bl b,_=>by simp[fw]
 | .int i,_=>by simp[fw]
 | .str y,_=>by simp[fw]
section
variable{X:Cx}{pins:List (Addr × Obj)}{σ : St}{H:Hp}{s:Shared}
theorem Eo.self(I:Inv X pins σ H s):∀ {n:Nat} {x:V} {b:Bool},Eo X.K H n x x b→b=true
 | 0,x,b,h=>by obtain⟨h1,_,rfl⟩:=h; exact kg h1
 | n+1,x,b,h=>by
  rcases h with ⟨h1,_,rfl⟩ | ⟨a,c,xs,ys,rfl,e,W,h⟩
  ·exact kg h1
  ·cases e
   have S:xs=ys:=by
    rcases W with ⟨O,J⟩ | ⟨O,J⟩
    ·exact I.list_inj O J
    ·exact I.tuple_inj O J
   subst S;rcases h with ⟨e,_,U,rfl⟩ | ⟨_,_,z,_⟩
   ·rw[zaM]
    intro i hi
    have F:=Hm.mp hi;have q:=U i xs[i] xs[i] (zg F) (zg F);exact Eo.self I q
   ·exact absurd rfl z
theorem Eo.rc(I:Inv X pins σ H s){n:Nat}(ih:∀ {A:Around} {x y:V} {b:Bool} {u v:Value},A.units+n<cLine→Eo X.K H n x y b→RelV x u→RelV y v→EqAt A s u v b)
  {A:Around} {a c:Addr} {xs ys:List V} {b:Bool} (hu:A.units+(n+1)<cLine) (hq:(ud X.K H a xs∧ud X.K H c ys)∨(vr X.K H a xs∧vr X.K H c ys))
  (h:(∃ e:Nat→Bool,xs.length=ys.length∧(∀ (i:Nat) x y,xs[i]? = some x→ys[i]? = some y→Eo X.K H n x y (e i))∧b=(List.range xs.length).all e)∨(ud X.K H a xs∧ud X.K H c ys∧xs.length≠ys.length∧b=false)) :
  RcAt A s (.ref a) (.ref c) b∧RcNeAt A s (.ref a) (.ref c) (!b):=by
 have Y:A.in1.units+n<cLine:=by
  have:A.in1.units=A.units+1:=rfl
  omega
 rcases h with ⟨e,hl,he,rfl⟩ | ⟨Z,W,hl,rfl⟩
 ·rcases hq with ⟨Z,W⟩ | ⟨Z,W⟩
  ·obtain⟨i1,O,J,z1⟩:=I.list Z
   obtain⟨i2,S,p2,z2⟩:=I.list W
   have l1:=O.length;have l2:=S.length
   have F:∀ j (h1:j<i1.toArray.size) (h2:j<i2.toArray.size),EqAt A.in1 s i1.toArray[j] i2.toArray[j] (e j):=fun j h1 h2=>by
    obtain⟨x,hx,rx⟩:=O.of (i:=j) (u:=i1.toArray[j]) (by simp at h1 ⊢)
    obtain⟨y,hy,ry⟩:=S.of (i:=j) (u:=i2.toArray[j]) (by simp at h2 ⊢)
    exact ih Y (he j x y hx hy) rx ry
   have ez:xs.length=i1.toArray.size:=by simp; omega
   rw[ez];exact⟨RcAt.lists J.isList p2.isList (by simp; omega) (by omega) F,RcNeAt.lists J.isList p2.isList (by simp; omega) (by omega) F⟩
  ·obtain⟨i1,O,J,z1⟩:=I.tuple Z
   obtain⟨i2,S,p2,z2⟩:=I.tuple W
   have l1:=O.length;have l2:=S.length
   have F:∀ j (h1:j<i1.toArray.size) (h2:j<i2.toArray.size),EqAt A.in1 s i1.toArray[j] i2.toArray[j] (e j):=fun j h1 h2=>by
    obtain⟨x,hx,rx⟩:=O.of (i:=j) (u:=i1.toArray[j]) (by simp at h1 ⊢)
    obtain⟨y,hy,ry⟩:=S.of (i:=j) (u:=i2.toArray[j]) (by simp at h2 ⊢)
    exact ih Y (he j x y hx hy) rx ry
   have ez:(List.range xs.length).all e=((List.range (min i1.toArray.size i2.toArray.size)).all e&&i1.toArray.size == i2.toArray.size):=by
    have e1:i1.toArray.size=xs.length:=by simp; omega
    have e2:i2.toArray.size=xs.length:=by simp; omega
    rw[e1,e2,Nat.min_self]; simp
   rw[ez];exact⟨RcAt.tuples (show s.heap.IsTuple a i1.toArray from J) (show s.heap.IsTuple c i2.toArray from p2) (by omega) F,RcNeAt.tuples (show s.heap.IsTuple a i1.toArray from J) (show s.heap.IsTuple c i2.toArray from p2) (by omega) F⟩
 ·obtain⟨i1,O,J,z1⟩:=I.list Z
  obtain⟨i2,S,p2,z2⟩:=I.list W
  have l1:=O.length;have l2:=S.length
  have U:(i1.toArray.size != i2.toArray.size)=true:=by
   rw[bne_iff_ne]; simp; omega
  exact⟨RcAt.lists_lengths J.isList p2.isList U (by omega),RcNeAt.lists_lengths J.isList p2.isList U (by omega)⟩
theorem Eo.at(I:Inv X pins σ H s):∀ {n:Nat} {A:Around} {x y:V} {b:Bool} {u v:Value},A.units+n<cLine→Eo X.K H n x y b→RelV x u→RelV y v→EqAt A s u v b
 | 0,A,x,y,b,u,v,_,h,J,F=>by obtain⟨h1,h2,rfl⟩:=h; exact jf J F h1 h2
 | n+1,A,x,y,b,u,v,hu,h,J,F=>by
  have U:=h;rcases h with ⟨h1,h2,rfl⟩ | ⟨a,c,xs,ys,rfl,rfl,S,h⟩
  ·exact jf J F h1 h2
  ·cases J
   cases F
   by_cases hac:a=c
   ·subst hac
    rw[Eo.self I U];exact EqAt.same _
   ·exact EqAt.of_refs hac (Eo.rc I (fun O q J F=>Eo.at I O q J F) hu S h).1
end
section
variable{X:Cx}
noncomputable def zf(K:W.Frag):R2:=fun x y H Q=>∃ (a c:Addr) (n:Nat) (b:Bool),x = .ref a∧y = .ref c∧n≤100∧Eo K H (n+1) x y b∧Q (.bl b) H
noncomputable def Ae(K:W.Frag):R2:=fun x y H Q=>∃ (a c:Addr) (n:Nat) (b:Bool),x = .ref a∧y = .ref c∧n≤100∧Eo K H (n+1) x y b∧Q (.bl (!b)) H
theorem Da(Z:X.A.units+101<cLine):Ek X (compareOp .Eq) (zf X.K):=by
 intro pins s σ H x y v u Q I O F h
 obtain⟨a,c,n,b,rfl,rfl,hn,S,q⟩:=h
 cases O
 cases F;rcases S with ⟨h1,_⟩ | ⟨a',c',xs,ys,Y,W,U,h⟩
 ·cases h1
 ·cases Y
  cases W;exact(Eo.rc I (fun J q O F=>Eo.at I J q O F) (by omega) U h).1 _ _ _ _ ⟨.bl b,H,I,rfl,q⟩
theorem Do(Z:X.A.units+101<cLine):Ek X (compareOp .NotEq) (Ae X.K):=by
 intro pins s σ H x y v u Q I O F h
 obtain⟨a,c,n,b,rfl,rfl,hn,S,q⟩:=h
 cases O
 cases F;rcases S with ⟨h1,_⟩ | ⟨a',c',xs,ys,Y,W,U,h⟩
 ·cases h1
 ·cases Y
  cases W;exact(Eo.rc I (fun J q O F=>Eo.at I J q O F) (by omega) U h).2 _ _ _ _ ⟨.bl (!b),H,I,rfl,q⟩
theorem h9(K:W.Frag){k:Nat}(J:Dx k X.A)(F:X.K=K:=by rfl):Ek X (compareOp .Eq) (zf K):=by subst F; exact Da (by have:=J.un; omega)
theorem mF(K:W.Frag){k:Nat}(J:Dx k X.A)(F:X.K=K:=by rfl):Ek X (compareOp .NotEq) (Ae K):=by subst F; exact Do (by have:=J.un; omega)
end
section
variable{K:W.Frag}{H:Hp}{Q:VK}
theorem ul(a c:Addr):zf K (.ref a) (.ref c) H Q=∃ (n:Nat) (b:Bool),n≤100∧Eo K H (n+1) (.ref a) (.ref c) b∧Q (.bl b) H:=
 propext ⟨fun ⟨_,_,n,b,J,F,q⟩=>⟨n,b,q⟩,fun ⟨n,b,q⟩=>⟨a,c,n,b,rfl,rfl,q⟩⟩
theorem tE(a c:Addr):Ae K (.ref a) (.ref c) H Q=∃ (n:Nat) (b:Bool),n≤100∧Eo K H (n+1) (.ref a) (.ref c) b∧Q (.bl (!b)) H:=
 propext ⟨fun ⟨_,_,n,b,J,F,q⟩=>⟨n,b,q⟩,fun ⟨n,b,q⟩=>⟨a,c,n,b,rfl,rfl,q⟩⟩
theorem Eo.flat{n:Nat}{x y:V}(hx:bM x=true)(F:bM y=true):Eo K H n x y (fw x y):=by
 cases n with
 | zero=>exact⟨hx,F,rfl⟩
 | succ n=>exact .inl ⟨hx,F,rfl⟩
theorem Eo.refl{n:Nat}{x:V}(hx:bM x=true):Eo K H n x x true:=by
 have q:Eo K H n x x (fw x x):=Eo.flat hx hx
 rwa [kg hx]at q
theorem Eo.seq{n:Nat}{a c:Addr}{xs ys:List V}(F:(ud K H a xs∧ud K H c ys)∨(vr K H a xs∧vr K H c ys))(hl:xs.length=ys.length)(J:∀ (i:Nat) x y,xs[i]? = some x→ys[i]? = some y→Eo K H n x y true):Eo K H (n+1) (.ref a) (.ref c) true:=
 .inr ⟨a,c,xs,ys,rfl,rfl,F,.inl ⟨fun _=>true,hl,J,by simp⟩⟩
theorem Eo.seqFlat{n:Nat}{a c:Addr}{xs:List V}(O:(ud K H a xs∧ud K H c xs)∨(vr K H a xs∧vr K H c xs))(hf:∀ x∈xs,bM x=true):Eo K H (n+1) (.ref a) (.ref c) true:=
 Eo.seq O rfl fun i x y J F=>by
  rw[J]at F; cases F
  exact Eo.refl (hf x (vx J))
end
theorem ye{y:Str}:∀ {l:List Str} {j:Nat},j<l.idxOf y→∀ (h:j<l.length),l[j]≠y
 | n::r,0,h,_=>by
  intro e
  have J:n=y:=e
  subst J;simp at h
 | n::r,j+1,h,h2=>by
  by_cases e:n=y
  ·subst e; simp at h
  ·rw[List.idxOf_cons]at h
   have F:(n == y)=false:=beq_eq_false_iff_ne.mpr e
   rw[F]at h
   have h':j+1<r.idxOf y+1:=h
   have q:=ye (y:=y) (l:=r) (j:=j) (by omega) (by simpa using h2)
   simpa using q
section
variable{X:Cx}
noncomputable def tG(K:W.Frag):V→List V→Hp→VK→Prop:=fun x vs H Q=>∃ (p:Addr) (ss:List Str) (y:Str),x = .ref p∧vs=[.str y]∧ud K H p (ss.map V.str)∧y∈ss∧Q (.int (ss.idxOf y:Nat)) H
theorem k8{K:W.Frag}{H:Hp}{Q:VK}(p:Addr)(y:Str):tG K (.ref p) [.str y] H Q=∃ F:List Str,ud K H p (F.map V.str)∧y∈F∧Q (.int (F.idxOf y:Nat)) H:=
 propext ⟨fun ⟨_,F,_,O,J,q⟩=>by cases O; cases J; exact⟨F,q⟩,fun ⟨F,q⟩=>⟨p,F,y,rfl,rfl,q⟩⟩
theorem nD(K:W.Frag)(hK:X.K=K:=by rfl):Fh X "list.index" (tG K):=by
 subst hK;intro pins s σ H x xs v us Q I Y r h
 obtain⟨p,O,y,rfl,rfl,hq,hy,q⟩:=h
 cases Y;obtain⟨u,rfl,ru⟩:=cT r
 obtain⟨t,rfl⟩:=ru
 obtain⟨J,rv,pl,hz⟩:=I.list hq
 have U:J.length=O.length:=by rw[← rv.length,ze]
 rw[ze]at hz
 have hs:sizeLine=16777216:=sizeLine_eq
 obtain⟨⟨cls,dd,data,sl⟩,ho,hc,n,hd⟩:=pl.isList
 simp only at hc hd
 subst hc hd;have hj:O.idxOf y<O.length:=List.idxOf_lt_length_iff.mpr hy
 have S:∀ (i:Nat) (h:i<J.length),∃ t',J[i] = .str O[i] t':=fun i h=>by
  obtain⟨x,hx,Y⟩:=rv.of (i:=i) (u:=J[i]) (zg h)
  rw[zy,zg (by omega)]at hx
  have al:V.str O[i]=x:=Option.some.inj hx
  subst al;exact Y
 refine call_meets zbh ⟨_,ho,rfl⟩ F.entry_list_index (F.args_list_index_2 _ _)
  (list_indexAt p J.toArray n dd sl (.str y t) (fv (.str y)) (O.idxOf y) (by simpa [U] using hj) (by omega) ?_ ?_) ⟨ho,fun z hz=>?_,⟨.int _,H,I.tok _,⟨_,rfl⟩,q⟩⟩
 ·show fv (.str y) J[O.idxOf y]=true
  obtain⟨t',e⟩:=S (O.idxOf y) (by omega)
  rw[e];show (O[O.idxOf y] == y)=true
  rw[List.getElem_idxOf hj]; simp
 ·intro j ag Z
  have ad:j<J.length:=by simpa using ag
  show fv (.str y) J[j]=false
  obtain⟨t',e⟩:=S j ad
  rw[e];show (O[j] == y)=false
  exact beq_eq_false_iff_ne.mpr (ye Z _)
 ·have ab:z∈J:=by simpa using hz
  obtain⟨i,hi,rfl⟩:=Ho.mp ab
  obtain⟨t',e⟩:=S i hi
  have q':=jf (A:=X.A.in1) (s:=s) (y:=.str O[i]) (x:=.str y) (u:=J[i]) (v:=.str y t) ⟨t',e⟩ ⟨t,rfl⟩ rfl rfl;rw[e]; rw[e]at q'
  exact q'
end
section
variable{X:Cx}
noncomputable def EI:R2:=fun x y H Q=>y = .non∧Q (.bl (decide (x = .non))) H
noncomputable def A2:R2:=fun x y H Q=>y = .non∧Q (.bl (!decide (x = .non))) H
theorem Cc:Ek X (compareOp .Is) EI:=C8
theorem zB:Ek X (compareOp .IsNot) A2:=CM
noncomputable def A9:List V→Hp→VK→Prop:=fun xs H Q=>(∃ i,xs=[.int i]∧Q (.int i) H)∨∃ k,xs=[.bl k]∧Q (.int (if k then 1 else 0)) H
theorem eT:AL X (.type "int") A9:=wY
noncomputable def sH(K:W.Frag):List V→Hp→VK→Prop:=fun xs H Q=>∃ p ys,xs=[.ref p]∧(ud K H p ys∨vr K H p ys)∧∀ l,H l=none→Q (.ref l) (upd H l (.lst ys))
theorem iL(K:W.Frag)(F:X.K=K:=by rfl):AL X (.type "list") (sH K):=vq K F
noncomputable def xa(K:W.Frag):List V→Hp→VK→Prop:=fun xs H Q=>∃ p ys,xs=[.ref p]∧((ud K H p ys∧∀ l,H l=none→Q (.ref l) (upd H l (.tup ys)))∨(vr K H p ys∧Q (.ref p) H))
theorem xZ(K:W.Frag)(F:X.K=K:=by rfl):AL X (.type "tuple") (xa K):=r_ K F
noncomputable def wI:R2:=fun x y H Q=>match x,y with
 | .int i,.int j=>FF i j∧Q (.int (i * j)) H
 | .str z,.int n=>0≤n∧n≤4096∧z.length≤4096∧Q (.str (Txt.mul z n)) H
 | _,_=>False
theorem cz:Ek X (binaryOp .Mult) wI:=by
 intro pins s σ H x y v u Q I J F h
 match x,y,h with
 | .int i,.int j,h=>exact FH pins s σ H _ _ v u Q I J F ⟨_,_,rfl,rfl,h⟩
 | .str z,.int n,h=>
  obtain⟨t,rfl⟩:=J
  obtain⟨t',rfl⟩:=F
  obtain⟨O,h1,h2,q⟩:=h
  exact SB.mul (mulOk_of 4096 4096 h2 (by omega) (by omega) (by decide) (by decide)) fun t' k=>⟨.str (Txt.mul z n),H,I.tok k,⟨t',rfl⟩,q⟩
end
section
variable{K:W.Frag}{H:Hp}{Q:VK}
theorem tI(x:V):EI x .non H Q=Q (.bl (decide (x = .non))) H:=propext ⟨fun h=>h.2,fun h=>⟨rfl,h⟩⟩
theorem pN(x:V):A2 x .non H Q=Q (.bl (!decide (x = .non))) H:=propext ⟨fun h=>h.2,fun h=>⟨rfl,h⟩⟩
theorem qM(k:Bool):A9 [.bl k] H Q=Q (.int (if k then 1 else 0)) H:=propext ⟨fun h=>by rcases h with ⟨_,e,q⟩ | ⟨_,e,q⟩ <;> cases e; exact q,fun q=>.inr ⟨k,rfl,q⟩⟩
theorem lf(p:Addr):sH K [.ref p] H Q=∃ ys,(ud K H p ys∨vr K H p ys)∧∀ l,H l=none→Q (.ref l) (upd H l (.lst ys)):=propext ⟨fun ⟨_,ys,e,q⟩=>by cases e; exact⟨ys,q⟩,fun ⟨ys,q⟩=>⟨p,ys,rfl,q⟩⟩
theorem nE(p:Addr):xa K [.ref p] H Q=∃ ys,((ud K H p ys∧∀ l,H l=none→Q (.ref l) (upd H l (.tup ys)))∨(vr K H p ys∧Q (.ref p) H)):=propext ⟨fun ⟨_,ys,e,q⟩=>by cases e; exact⟨ys,q⟩,fun ⟨ys,q⟩=>⟨p,ys,rfl,q⟩⟩
theorem nZ(i j:Int):wI (.int i) (.int j) H Q=(FF i j∧Q (.int (i * j)) H):=rfl
theorem nS(z:Str)(n:Int):wI (.str z) (.int n) H Q=(0≤n∧n≤4096∧z.length≤4096∧Q (.str (Txt.mul z n)) H):=rfl
theorem ur(a:Addr)(lo hi:Option Int):Ac K (.ref a) lo hi H Q=∃ xs,ud K H a xs∧∀ p,H p=none→Q (.ref p) (upd H p (.lst (de xs lo hi))):=propext ⟨fun ⟨_,xs,e,q⟩=>by cases e; exact⟨xs,q⟩,fun ⟨xs,q⟩=>⟨a,xs,rfl,q⟩⟩
theorem Bx(g:Int→V)(i:Int):rU g (.int i) H Q=Q (g i) H:=propext ⟨fun ⟨_,e,q⟩=>by cases e; exact q,fun q=>⟨i,rfl,q⟩⟩
end
theorem b5{n:Nat}(h:n≤1000000):n<sizeLine:=by
 have:sizeLine=16777216:=sizeLine_eq
 omega
theorem aX{n:Nat}(h:n≤1000000):n≤sizeLine:=wm (b5 h)
theorem je{α : Type}{f:α→V}{xs:List α}{i:Int}{x:α}(J:0≤i)(h:xs[i.toNat]? = some x):cJ (xs.map f) i=some (f x):=by
 have q:(xs.map f)[i.toNat]? = some (f x):=by rw[zy,h]; rfl
 have F:=av q
 rwa [show ((i.toNat:Nat):Int)=i by omega]at F
theorem yN{α : Type}{xs:List α}{i:Int}(J:0≤i)(h:i<xs.length):∃ x,xs[i.toNat]? = some x∧cJ xs i=some x:=by
 have F:i.toNat<xs.length:=by omega
 refine⟨xs[i.toNat],zg F,?_⟩
 have q:=av (zg F)
 rwa [show ((i.toNat:Nat):Int)=i by omega]at q
theorem gm{H H':Hp}{p:Addr}{o:HO}(h:upd H p o=H')(F:H p=none):rm H H':=h ▸ ah F o
theorem jM{H H':Hp}{p:Addr}{o:HO}(h:upd H p o=H'):H' p=some o:=h ▸ af
theorem q_{α β : Type}{f:α→β}(xs:List α)(x:α):xs.map f++[f x]=(xs++[x]).map f:=by rw[zP]; rfl
theorem iR{α : Type}{P:α→Prop}{xs:List α}{x:α}(h:∀ y∈xs,P y)(hx:P x):∀ y∈xs++[x],P y:=fun y F=>(Hj.mp F).elim (h y) fun z=>by rw[Hg.mp z]; exact hx
theorem kq{α : Type}{xs:List α}{x:α}{n:Nat}(h:xs.length=n):(xs++[x]).length=n+1:=by simp[h]
end L2
namespace L2
open PySem PySem.Spec PyProof.Rows
theorem Inv.turnedL{X:Cx}{pins:List (Addr × Obj)}{σ : St}{H:Hp}{s:Shared}{h':Heap}{t':Nat}{ch:List Addr}(I:Inv X pins σ H s)(k:∀ b o,b∉ch→s.heap.get? b=some o→h'.get? b=some o)
  (hf:∀ b∈ch,gF X pins H b):Inv X pins σ H { s with heap:=h',toks:=t' }:=by
 have J:∀ b u,H b=some u→b∉ch:=fun b u e z=>by rw[(hf b z).1]at e; cases e
 refine I.step (g':=s.gens) (d':=s.drawn) (ch:=ch) (fun b Z=>?_) (fun b o _ _ F e _=>k b o F e) (fun b o _ _ F e _=>⟨o.slots,k b o F e⟩) (fun _ _ _ _ n=>n)
  (fun b o F e=>⟨o,k b o F e⟩) (fun _ _ e=>e) (fun _ _ _ e=>e) (fun b ps e=>⟨#[],by rw[e]; simp⟩) (fun m Y=>?_) (fun b u e=>?_) I.bare
 ·obtain⟨_,W,_,U,O,S⟩:=hf b Z
  exact⟨U,W,O,S⟩
 ·obtain⟨o,es,ep,ho,r⟩:=Y
  exact⟨o,es,ep,k _ o (fun z=>(hf _ z).2.1 rfl) ho,r⟩
 ·refine(I.hok b u e).stay (fun c v F q=>k c v ?_ q) (fun _ q=>q) fun _ _ q=>q
  rcases F with z | z
  ·rw[z]; exact J b u e
  ·exact J c _ z
theorem Inv.turnedLaid{X:Cx}{pins:List (Addr × Obj)}{σ : St}{H:Hp}{s:Shared}{h':Heap}{t':Nat}{ch:List Addr}{a:Addr}{o:HO}(I:Inv X pins σ H s)(k:∀ b o,b∉ch→s.heap.get? b=some o→h'.get? b=some o)
  (hf:∀ b∈ch,gF X pins H b) (U:s.heap.objs.size≤a) (new:Ax X.prog X.w (upd H a o) h' a o):Inv X pins σ (upd H a o) { s with heap:=h',toks:=t' }:=by
 have O:H a=none:=I.hok.fresh U
 have J:∀ b u,H b=some u→b∉ch:=fun b u e z=>by rw[(hf b z).1]at e; cases e
 refine I.step (g':=s.gens) (d':=s.drawn) (ch:=ch) (fun b S=>?_) (fun b o _ _ F e _=>k b o F e) (fun b o _ _ F e _=>⟨o.slots,k b o F e⟩) (fun b u _ q n=>?_)
  (fun b o F e=>⟨o,k b o F e⟩) (fun b xs q=>?_) (fun b u xs q=>?_) (fun b ps q=>⟨#[],?_⟩) (fun m hm=>?_) (fun b u e=>?_) I.bare
 ·obtain⟨_,f1,_,Z,W,Y⟩:=hf b S
  exact⟨Z,f1,W,Y⟩
 ·rw[au (zR (vV (zA q) U))]; exact n
 ·rw[au (aA q O)]; exact q
 ·rw[au (aA q O)]; exact q
 ·rw[au (aA q O),q]; simp
 ·obtain⟨o,es,ep,ho,r⟩:=hm
  exact⟨o,es,ep,k _ o (fun z=>(hf _ z).2.1 rfl) ho,r⟩
 ·by_cases S:b=a
  ·subst S; rw[af]at e; cases e; exact new
  ·rw[au S]at e
   refine(I.hok b u e).stay (fun c v F q=>k c v ?_ q) (fun c q=>by rw[au (aA q O)]; exact q) fun c xs q=>by rw[au (aA q O)]; exact q
   rcases F with z | z
   ·rw[z]; exact J b u e
   ·exact J c _ z
structure yy (z TI TO i1 i2:Addr):Prop where
 TIz:TI≠z
 TOz:TO≠z
 i1z:i1≠z
 i2z:i2≠z
 TITO:TI≠TO
 TIi1:TI≠i1
 TIi2:TI≠i2
 TOi1:TO≠i1
 TOi2:TO≠i2
 i12:i1≠i2
theorem Lw(n:Nat):yy (n+4) (n+2) (n+3) n (n+1):=⟨(show (@Ne Nat (n+2) (n+4):Prop) by omega),(show (@Ne Nat (n+3) (n+4):Prop) by omega),(show (@Ne Nat (n) (n+4):Prop) by omega),(show (@Ne Nat (n+1) (n+4):Prop) by omega),(show (@Ne Nat (n+2) (n+3):Prop) by omega),(show (@Ne Nat (n+2) (n):Prop) by omega),(show (@Ne Nat (n+2) (n+1):Prop) by omega),(show (@Ne Nat (n+3) (n):Prop) by omega),(show (@Ne Nat (n+3) (n+1):Prop) by omega),(show (@Ne Nat (n) (n+1):Prop) by omega)⟩
theorem zF:bootBuiltins "zip" = some (.type "zip"):=by decide +kernel
theorem qO(n m:Addr)(P:Addr→Addr→Prop):(∃ i j,[V.ref n,V.ref m]=[V.ref i,V.ref j]∧P i j)=P n m:=propext ⟨fun ⟨_,_,e,h⟩=>by cases e; exact h,fun h=>⟨n,m,rfl,h⟩⟩
noncomputable def xW(K:W.Frag)(a:Addr):It:=
  ⟨fun i H=>∃ xs x,ud K H a xs∧xs[i]? = some x,
   fun i H v H'=>∃ t x,H t=none∧v = .ref t∧H'=upd H t (.tup [.int i,x])∧∀ xs,ud K H a xs→xs[i]? = some x,
   fun i H=>∃ xs,ud K H a xs∧xs.length≤i⟩
def K3(e it l:Addr)(i:Nat)(h:Heap):Prop:=(∃ old,IsEnum h e it i old)∧h.IsListIter it l i
theorem y3{P:Program}{w:World}{K:W.Frag}{al:List Expr}{k:Nat}{pos:Pos}{e it l:Addr}(ag:e≠it):kG P w K (.Tuple al k pos) (xW K l) [e,it] e (K3 e it l) where
 mem:=by simp
 obj:=fun i h st b S=>by
  obtain⟨⟨O,J⟩,⟨o4,U,c4,d4⟩⟩:=st
  simp only[zK,ma,or_false]at S
  rcases S with rfl | rfl
  ·exact⟨_,J,fun v e=>by cases e⟩
  ·exact⟨_,U,fun v e=>by rw[d4]at e; cases e⟩
 keep:=fun i h h' st kk=>by
  obtain⟨⟨O,J⟩,U⟩:=st
  exact⟨⟨O,kk e (by simp) _ J⟩,U.at fun o z=>kk it (by simp) o z⟩
 item:=by
  intro X hP hw hK hc i pins s σ H E I hf st hg
  subst hP hw hK;obtain⟨xs,x,q1,hx⟩:=hg
  obtain⟨a9,ab,p1,_⟩:=I.list q1
  obtain⟨u1,be,an⟩:=ab.get hx
  obtain⟨⟨O,J⟩,U⟩:=st
  refine wpAny_pyNext_enum_item J U p1.isList (x:=u1) (by simpa using be) ag fun h' a1 a3 a5 a6 kk=>?_
  refine⟨_,rfl,wpAny_letOwnedTupleGo_enum a1 fun a8 a4 Z=>?_⟩
  have lt:∀ {c o},s.heap.get? c=some o→s.heap.objs.size≠c:=fun z=>GI (zA z)
  have as:s.heap.objs.size≠e:=lt J
  have Y:∀ b o,b∉[e,it]→s.heap.get? b=some o→a8.get? b=some o:=fun b o S z=>by
   simp only[zK,ma,or_false,not_or]at S
   exact Z.extBut _ _ S.1 (kk b o S.1 S.2 z)
  have hsz:H s.heap.objs.size=none:=I.hok.fresh (zl _)
  have ad:=Z.extBut _ _ as a5
  have a7:∀ c∈[e,it],c≠s.heap.objs.size:=fun c F=>by
   obtain⟨o4,e4,_⟩:=id U
   simp only[zK,ma,or_false]at F
   rcases F with rfl | rfl
   ·exact(lt J).symm
   ·exact(lt e4).symm
  refine⟨.ref s.heap.objs.size,upd H s.heap.objs.size (.tup [.int i,x]),I.turnedLaid (t':=s.toks+1) Y hf (zl _) ⟨aX (by show 2≤1000000; decide),[.int i s.toks,u1],.cons ⟨_,rfl⟩ (.cons an .nil),⟨_,ad,rfl,rfl,0,rfl⟩⟩,rfl,⟨_,x,hsz,rfl,rfl,fun bp q'=>?_⟩,
   ⟨⟨_,by simpa using a4⟩,a3.extBut Z.extBut ag.symm⟩,fun c F=>?_⟩
  ·rw[I.list_inj q' q1]; exact hx
  ·rw[au (a7 c F)]; exact(hf c F).1
 done:=by
  intro X hP hw hK hc i pins s σ H E I hf st hg
  subst hP hw hK;obtain⟨xs,q1,bg⟩:=hg
  obtain⟨a9,ab,p1,_⟩:=I.list q1
  have l1:=ab.length;obtain⟨⟨O,J⟩,U⟩:=st
  refine wpAny_pyNext_enum_end (I.ok.hd hc) J U p1.isList (by simp; omega) fun h' kk=>⟨rfl,I.turnedL (t':=s.toks) (fun b o S z=>?_) hf⟩
  simp only[zK,ma,or_false,not_or]at S
  exact kk b o S.2 z
 self:=fun A i s Q E st h=>by
  obtain⟨⟨O,J⟩,_⟩:=st
  exact wpAny_pyIter_enum J h
theorem lR:bootBuiltins "enumerate" = some (.type "enumerate"):=by decide +kernel
noncomputable def Bm(K:W.Frag)(ta:TA):TI:=fun σ H R=>ta σ H fun vs H1=>∃ a:Addr,vs=[.ref a]∧(∃ xs,H1 a=some (.lst xs))∧R (xW K a) H1
theorem pY(K:W.Frag)(ta:TA){σ : St}{H:Hp}{R:It→Hp→Prop}:Bm K ta σ H R=ta σ H fun vs H1=>∃ a:Addr,vs=[.ref a]∧(∃ xs,H1 a=some (.lst xs))∧R (xW K a) H1:=rfl
theorem sW(n:Addr)(P:Addr→Prop):(∃ i,[V.ref n]=[V.ref i]∧P i)=P n:=propext ⟨fun ⟨_,e,h⟩=>by cases e; exact h,fun h=>⟨n,rfl,h⟩⟩
theorem pQ(K:W.Frag){X:Cx}{O:List Expr}{k:Nat}{U:Pos}{a:Expr}{ta:TA}{p pos:Pos}(hg:Gl X "enumerate") (hm:X.mg "enumerate" = none) (ha:PA X [a] ta) (hs:starEach [a] X.env=[(false,eval a X.env)]:=by rfl) (hK:X.K=K:=by rfl) :
  PI X (.Tuple O k U) (.Call (.Name "enumerate" p) [a] [] pos) (Bm K ta):=by
 subst hK;intro pins s σ H R I h
 refine Call_ (h8 I hg hm lR (zaW (bu (ha pos pins s σ H _ I h) fun us F ⟨vs,H1,Y,r1,q1⟩=>?_) hs rfl))
 obtain⟨l,e,⟨xs,h1⟩,q⟩:=q1
 subst e;obtain⟨u1,rfl,Z⟩:=cT r1
 obtain rfl:u1=Value.ref l:=Z
 obtain⟨hz,J,n,rv,hl⟩ : xs.length≤sizeLine∧∃ (J:List Value) (n:Nat),yl xs J∧F.heap.get? l=some { cls:=.type "list", data:=.seq J.toArray n }:=Y.hok l _ h1
 refine call_enumerate_1 hl fun h' a1 a4 a6 kk=>?_
 refine wpAny_pyIter_enum a1 ⟨_,[F.heap.objs.size+1,F.heap.objs.size],_,_,H1,rfl,Y.kept (t':=F.toks) kk,
  y3 (e:=F.heap.objs.size+1) (it:=F.heap.objs.size) (GI (zaw _)),⟨⟨_,a1⟩,a4⟩,fun b hb=>?_,q⟩
 have S:F.heap.objs.size≤b:=by
  simp only[zK,ma,or_false]at hb
  rcases hb with rfl | rfl <;> first | exact zl _ | exact zaZ _ _
 exact Y.fpOk S (Y.hok.fresh S)
section
variable{K:W.Frag}{a b:Addr}{xs ys:List V}{g:TG}{te:TE}{nT:Nat}{σ : St}{D:Addr}{Q:VK}{H:Hp}
theorem xP{tb:TS}{D:dz}(F:Nat→St→Hp→Prop)(O:F 0 σ H)(hl:∀ i σ H,i≤xs.length→F i σ H→ud K H a xs)
  (W:∀ i x t σ H,xs[i]? = some x→F i σ H→H t=none→g (.ref t) σ (upd H t (.tup [.int i,x])) fun U H2=>tb { D with nx:=F (i+1),ct:=F (i+1),bk:=D.nx } U H2) (hd:∀ σ H,F xs.length σ H→D.nx σ H):km (xW K a) g tb D σ H:=by
 refine mE xs.length F O (fun i σ H hi p=>⟨xs,xs[i],hl i σ H (wm hi) p,by simp[hi]⟩) (fun σ H p=>⟨xs,hl _ σ H (zl _) p,zl _⟩) (fun i σ H v H' hi p J=>?_) hd
 obtain⟨t,x,Y,rfl,rfl,S⟩:=J
 exact W i x t σ H (S xs (hl i σ H (wm hi) p)) p Y
def oN(n i:Nat)(Pv:Nat→List V→Hp→Prop)(ys:List V)(H:Hp):Prop:=∃ m',m'<n - i∧(m'=n - (i+1)∧i+1≤n∧Pv (i+1) ys H)
theorem oI{n i:Nat}{F:Nat→List V→Hp→Prop}{ys:List V}{H:Hp}(hi:i<n)(h:F (i+1) ys H):oN n i F ys H:=⟨n - (i+1),by omega,rfl,hi,h⟩
theorem qX{n i:Nat}{F:Nat→List V→Hp→Prop}{D:Addr}{ys:List V}{y:V}{H:Hp}(hi:i<n)(J:ys.length≤i)(hz:n≤sizeLine)(h1:H D=some (.lst ys))(h2:F (i+1) (ys++[y]) (upd H D (.lst (ys++[y])))):gi n i F D ys y H:=
 ⟨h1,by omega,n - (i+1),by omega,rfl,hi,h2⟩
def kR(n i:Nat)(Pv:Nat→List V→Hp→Prop)(D:Addr)(ys:List V)(tc:TT)(te:TE)(σ : St)(H:Hp):Prop:=
 tc σ H fun b H4=>if b=true then te σ H4 (gi n i Pv D ys) else oN n i Pv ys H4
theorem q9{n i:Nat}{F:Nat→List V→Hp→Prop}{D:Addr}{ys:List V}{tc:TT}{te:TE}{σ : St}{H:Hp}:kR n i F D ys tc te σ H=tc σ H fun b J=>if b=true then te σ J (gi n i F D ys) else oN n i F ys J:=rfl
theorem kE{J:It}{tc:TT}(n:Nat)(F:Nat→List V→Hp→Prop)(U:F 0 [] H)(S:∀ i ys H,i<n→F i ys H→J.go i H)(O:∀ ys H,F n ys H→J.stop n H)
  (W:∀ i ys H x H',i<n→F i ys H→J.yld i H x H'→g x (σ++List.replicate nT none) H' (kR n i F D ys tc te))
  (hd:∀ ys H,F n ys H→Q (.ref D) H):eO J g tc te nT σ D Q H:=by
 refine⟨fun i m ys H=>m=n - i∧i≤n∧F i ys H,⟨n,by simp,vL _,U⟩,?_⟩
 rintro i m ys H ⟨rfl,hi,p⟩
 by_cases hlt:i<n
 ·exact .inr ⟨S i ys H hlt p,fun x H' y=>W i ys H x H' hlt p y⟩
 ·have e:i=n:=by omega
  subst e;exact .inl ⟨O ys H p,hd ys H p⟩
theorem lz{tc:TT}(F:Nat→List V→Hp→Prop)(S:F 0 [] H)(hl:∀ i ys H,i≤xs.length→F i ys H→ud K H a xs)
  (O:∀ i ys H x,xs[i]? = some x→i<xs.length→F i ys H→g x (σ++List.replicate nT none) H (kR xs.length i F D ys tc te))
  (hd:∀ ys H,F xs.length ys H→Q (.ref D) H):eO (kc K a) g tc te nT σ D Q H:=by
 refine kE xs.length F S (fun i ys H hi p=>⟨xs,xs[i],hl i ys H (wm hi) p,by simp[hi]⟩) (fun ys H p=>⟨xs,hl _ ys H (zl _) p,zl _⟩) (fun i ys H x H' hi p J=>?_) hd
 obtain⟨rfl,y⟩:=J
 exact O i ys _ x (y xs (hl i ys _ (wm hi) p)) hi p
end
set_option genInjectivity false in
set_option genSizeOf false in
structure IK (prog:Program) (w:World) (κ : Type) [DecidableEq κ] where
 is:Heap→κ→Value→Prop
 hash:κ→Int
 draws:κ→Nat
 deep:Nat
 inj:∀ {h:Heap} {v:Value} {x y:κ},is h x v→is h y v→x=y
 keeps:∀ {h h':Heap} {k:κ} {v:Value} {d:Addr} {o:Obj} {es ep},is h k v→h.get? d=some o→o.data = .dict es ep→Heap.SameBut d h h'→is h' k v
 pyHash:∀ {A:Around} {E:Value→Shared→Prop} {s:Shared} {k:κ} {v:Value} {Q:Int→Shared→Prop},A.units+deep<cLine→is s.heap k v→Q (hash k) { s with toks:=s.toks+draws k }→
  wpAny (model prog w) A (PySem.pyHash v) Q E s
 eqBool:∀ {A:Around} {E:Value→Shared→Prop} {s:Shared} {x y:κ} {u v:Value} {Q:Bool→Shared→Prop},A.units+deep<cLine→is s.heap x u→is s.heap y v→Q (decide (x=y)) s→
  wpAny (model prog w) A (PySem.eqBool u v) Q E s
 quiet:∀ {A:Around} {E:Value→Shared→Prop} {s:Shared} {k:κ} {v:Value} {n:Nat} {Q:Bool→Shared→Prop},is s.heap k v→Q true s→wpAny (model prog w) A (eqIsQuiet (n+deep) v) Q E s
section
variable{prog:Program}{w:World}{κ : Type}[DecidableEq κ](K:IK prog w κ)
inductive AT (h:Heap):List κ→List Value→Prop
 | nil:AT h [] []
 | cons {k:κ} {v:Value} {ks:List κ} {vs:List Value}:K.is h k v→AT h ks vs→AT h (k::ks) (v::vs)
def CV(h:Heap)(ks:List κ)(v:Value):Prop:=∃ a o items n,v = .ref a∧h.get? a=some o∧o.cls = .type "tuple" ∧ o.data = .seq items n∧AT K h ks items.toList
variable{K}
theorem AT.inj{h:Heap}:∀ {x y:List κ} {vs:List Value},AT K h x vs→AT K h y vs→x=y
 | _,_,_,.nil,.nil=>rfl
 | _,_,_,.cons a b,.cons c d=>by rw[K.inj a c,AT.inj b d]
theorem AT.keeps{h h':Heap}{d:Addr}{o:Obj}{es ep}(J:h.get? d=some o)(hd:o.data = .dict es ep)(F:Heap.SameBut d h h'):∀ {x:List κ} {vs:List Value},AT K h x vs→AT K h' x vs
 | _,_,.nil=>.nil
 | _,_,.cons a b=>.cons (K.keeps a J hd F) (b.keeps J hd F)
theorem AT.len{h:Heap}:∀ {x:List κ} {vs:List Value},AT K h x vs→x.length=vs.length
 | _,_,.nil=>rfl
 | _,_,.cons _ b=>by rw[zx,zx,b.len]
noncomputable def gZ(K:IK prog w κ)(ks:List κ):Nat:=(ks.map K.draws).sum
noncomputable def pR(K:IK prog w κ)(ks:List κ):Int:=reduceHash (Builtin.Tuple.tupleHashOf (ks.map K.hash))
theorem jA{A:Around}{E:Value→Shared→Prop}{s:Shared}{ks:List κ}{v:Value}{Q:Int→Shared→Prop}(hu:A.units+(K.deep+1)<cLine)(Z:CV K s.heap ks v)(h:Q (pR K ks) { s with toks:=s.toks+(gZ K ks+1) }) :
  wpAny (model prog w) A (PySem.pyHash v) Q E s:=by
 obtain⟨a,o,S,n,rfl,W,Y,hd,hi⟩:=Z
 have O:s.TypeIs (.ref a) "tuple" := ⟨o,W,Y⟩
 unfold PySem.pyHash
 first | unfold pyHashByItsType | skip
 first | refine G8 (wpAny_cRoomFor_or (.inr (by omega)) ?_) | skip
 refine G8 (wpAny_specialOf O F.slot_tuple_hash.lookup ?_)
 rw[He (by rw[beq_builtin_none]; exact wj)]
 refine G8 (wpAny_specialOf O F.slot_tuple_hash.lookup ?_)
 show wpAny _ _ (callSpecialIfBoundUnlessNone? (.ref a) "__hash__" _ >>= _) Q E s
 refine G8 (wpAny_callSpecialIfBoundUnlessNone?_slot O F.slot_tuple_hash (wpAny_call_entry F.slot_tuple_hash O
  F.entry_tuple_hash ?_ (F.args_tuple_hash_1 _)))
 show wpAny _ _ (Builtin.Tuple.tupleItemsOf (.ref a) >>= _) _ _ s
 refine G8 (wpAny_tupleItemsOf W hd (G8 ?_))
 rw[← za0];refine wpAny_forIn_list _ (fun CS (b:Array Int) s'=>∃ done left,ks=done++left∧AT K s.heap left CS∧b.toList=done.map K.hash∧s'={ s with toks:=s.toks+gZ K done }) _ ?_ ?_ _ _ ⟨[],ks,rfl,hi,rfl,rfl⟩
 ·rintro x CS b s' ⟨done,left,rfl,hl,U,rfl⟩
  cases hl with
  | @cons k _ ks' _ h1 hl'=>
   have e:gZ K (done++[k])=gZ K done+K.draws k:=by simp[gZ]
   refine G8 (K.pyHash (show A.in1.units+K.deep<cLine from by show A.units+1+K.deep<cLine; omega) h1 ?_)
   have J:∃ done' left',done++k::ks'=done'++left'∧AT K s.heap left' CS∧(b.push (K.hash k)).toList=done'.map K.hash∧({ s with toks:=s.toks+gZ K done+K.draws k }:Shared)={ s with toks:=s.toks+gZ K done' }:=
    ⟨done++[k],ks',by simp,hl',by simp[U],by rw[e,GH]⟩
   first
    | exact Hc J
    | exact G8 (Hc (Hc J))
 ·rintro b s' ⟨done,left,rfl,hl,U,rfl⟩
  cases hl;rw[gY]at h
  show wpAny _ _ (retInt (Builtin.Tuple.tupleHashOf b.toList)) _ _ _
  rw[U];refine wpAny_ret_mkInt ?_
  unfold pR reduceHash at h;show wpAny _ _ (if (decide (-(2:Int) ^ 63≤Builtin.Tuple.tupleHashOf (done.map K.hash))&&decide (Builtin.Tuple.tupleHashOf (done.map K.hash)<2 ^ 63))=true then _ else _) Q E _
  by_cases hr:(decide (-(2:Int) ^ 63≤Builtin.Tuple.tupleHashOf (done.map K.hash))&&decide (Builtin.Tuple.tupleHashOf (done.map K.hash)<2 ^ 63))=true
  ·rw[Hf hr]at h ⊢
   exact Hc (by simpa [GH] using h)
  ·rw[He hr]at h ⊢
   exact G8 (wpAny_rule (Hc (by simpa [GH] using h)))
theorem wJ{A:Around}{E:Value→Shared→Prop}{s:Shared}{x y:List κ}{a b:Addr}{P:Fin→Shared→Prop}(hu:A.units+K.deep<cLine)(hx:CV K s.heap x (.ref a))(hy:CV K s.heap y (.ref b))(h:P (.done (.ret (.bool (decide (x=y))))) s) :
  wpAny (model prog w) A (Builtin.«tuple.__eq__» ⟨[.ref a,.ref b],[]⟩) P E s:=by
 obtain⟨_,oa,xs,na,e1,an,ca,al,ag⟩:=hx
 obtain⟨_,ob,ys,nb,e2,Z,cb,ab,ad⟩:=hy
 cases e1
 cases e2;show wpAny _ _ (isInstance (.ref b) (.type "tuple") >>= _) _ _ s
 refine G8 (wpAny_isInstance ⟨ob,Z,cb⟩ isSubtype_tuple_tuple ?_)
 simp only[u0,wA,if_false]
 refine G8 (wpAny_tupleItemsOf an al (G8 (wpAny_tupleItemsOf Z ab (G8 ?_))))
 refine wpAny_forIn_list _ (fun CS r s'=>r.1=none∧s'=s∧∃ x' y' O S,CS=List.zip O S∧AT K s.heap x' O∧AT K s.heap y' S∧decide (x'=y')=decide (x=y)∧(O.length == S.length)=(xs.size == ys.size)) _ ?_ ?_ _ _
  ⟨rfl,rfl,x,y,xs.toList,ys.toList,rfl,ag,ad,rfl,by simp⟩
 ·rintro⟨u,v⟩ CS r s' ⟨hr,rfl,x',y',O,S,hz,W,U,F,J⟩
  cases W with
  | nil=>simp at hz
  | @cons k1 u' x'' xs'' h1 hx''=>
   cases U with
   | nil=>simp at hz
   | @cons k2 v' y'' ys'' h2 hy''=>
    simp only[za1,List.cons.injEq,Prod.mk.injEq]at hz
    obtain⟨⟨rfl,rfl⟩,rfl⟩:=hz
    refine G8 (K.eqBool (x:=k1) (y:=k2) hu h1 h2 ?_)
    by_cases hk:k1=k2
    ·subst hk
     rw[decide_eq_true rfl];simp only[u0,wA,if_false]
     refine Hc ⟨rfl,rfl,x'',y'',xs'',ys'',rfl,hx'',hy'',?_,by simpa using J⟩
     rw[← F]
     by_cases hxy:x''=y'' <;> simp[hxy]
    ·rw[decide_eq_false hk]
     simp only[Bool.not_false,if_true]
     have hf:decide (x=y)=false:=by rw[← F]; simp[hk]
     rw[hf]at h
     exact G8 (Hc (Hc (Hc h)))
 ·rintro⟨r1,r2⟩ s' ⟨hr,rfl,x',y',O,S,hz,W,U,F,J⟩
  simp only at hr
  subst hr;refine Hc ?_
  have Y:(xs.size == ys.size)=decide (x=y):=by
   rw[← F,← J]
   cases W with
   | nil=>cases U <;> simp
   | cons _ _=>
    cases U with
    | nil=>simp
    | cons _ _=>simp at hz
  show P (.done (.ret (.bool (xs.size == ys.size)))) s'
  rw[Y]; exact h
theorem lQ{A:Around}{E:Value→Shared→Prop}{s:Shared}{x y:List κ}{u v:Value}{Q:Bool→Shared→Prop}(hu:A.units+(K.deep+1)<cLine)(hx:CV K s.heap x u)(hy:CV K s.heap y v)(h:Q (decide (x=y)) s) :
  wpAny (model prog w) A (PySem.eqBool u v) Q E s:=by
 have Z:=hx;have ab:=hy;obtain⟨a,oa,xs,na,rfl,S,ca,W,Y⟩:=hx
 obtain⟨b,ob,ys,nb,rfl,J,cb,O,U⟩:=hy
 unfold PySem.eqBool
 try with_reducible refine wpAny_holding ?_
 show wpAny _ _ (if (Value.ref a == Value.ref b)=true then _ else _) Q E s
 by_cases hab:(Value.ref a == Value.ref b)=true
 ·rw[Hf hab]
  have e:a=b:=by have:=eq_of_beq hab; injection this
  subst e;rw[S]at J
  cases J;rw[W]at O
  injection O with e1 _
  subst e1;rw[decide_eq_true (Y.inj U)]at h
  exact G8 (wpAny_rule (Hc h))
 ·rw[He hab]
  have ta:s.TypeIs (.ref a) "tuple" := ⟨oa,S,ca⟩
  have tb:s.TypeIs (.ref b) "tuple" := ⟨ob,J,cb⟩
  refine G8 (wpAny_richCompare_same_room (op:=.Eq) ta tb F.slot_tuple_eq (wpAny_call_entry F.slot_tuple_eq ta F.entry_tuple_eq ?_ (F.args_tuple_eq_2 _ _)) (by omega))
  refine wJ (K:=K) ?_ Z ab ⟨_,rfl,(fun e=>nomatch e),wpAny_truthy_bool h⟩
  show A.units+1+K.deep<cLine
  omega
theorem iT{A:Around}{E:Value→Shared→Prop}{s:Shared}{ks:List κ}{v:Value}{n:Nat}{Q:Bool→Shared→Prop}(hk:CV K s.heap ks v)(h:Q true s):wpAny (model prog w) A (eqIsQuiet (n+(K.deep+1)) v) Q E s:=by
 obtain⟨a,o,J,m,rfl,Y,Z,hd,hi⟩:=hk
 have W:s.TypeIs (.ref a) "tuple" := ⟨o,Y,Z⟩
 rw[show n+(K.deep+1)=(n+K.deep)+1 from rfl];unfold eqIsQuiet;refine G8 (wpAny_specialOf W F.slot_tuple_eq.lookup ?_)
 show wpAny _ _ (isInstance (.ref a) (.type "tuple") >>= _) _ _ s
 refine G8 (wpAny_isInstance W isSubtype_tuple_tuple ?_)
 simp only[u0,wA,if_false]
 refine G8 (wpAny_seqItems Y hd (G8 ?_))
 show wpAny _ _ (forIn J _ _) _ _ s
 rw[← za0];refine wpAny_forIn_list _ (fun CS r s'=>r.1=none∧s'=s∧∃ S,AT K s.heap S CS) _ ?_ ?_ _ _ ⟨rfl,rfl,ks,hi⟩
 ·rintro v CS r s' ⟨U,rfl,S,O⟩
  cases O with
  | cons h1 h2=>
   refine G8 (K.quiet h1 ?_)
   simp only[u0,wA,if_false]
   exact Hc ⟨rfl,rfl,_,h2⟩
 ·rintro⟨r1,r2⟩ s' ⟨U,rfl,_⟩
  simp only at U
  subst U;exact Hc h
noncomputable def tupK(K:IK prog w κ):IK prog w (List κ) where
 is:=CV K
 hash:=pR K
 draws:=fun ks=>gZ K ks+1
 deep:=K.deep+1
 inj:=by
  rintro h v x y ⟨a,oa,xs,na,rfl,hoa,ca,hda,hia⟩ ⟨b,ob,ys,nb,e,hob,cb,hdb,hib⟩
  cases e;rw[hoa]at hob
  cases hob;rw[hda]at hdb
  injection hdb with e1 _
  subst e1;exact hia.inj hib
 keeps:=by
  rintro h h' k v d o es ep ⟨a,oa,xs,na,rfl,hoa,ca,hda,hia⟩ ho hd hs
  have hne:a≠d:=by
   rintro rfl
   rw[hoa]at ho
   cases ho;rw[hd]at hda; cases hda
  exact⟨a,oa,xs,na,rfl,(hs.2 a hne).trans hoa,ca,hda,hia.keeps ho hd hs⟩
 pyHash:=fun hu hk h=>jA hu hk h
 eqBool:=fun hu hx hy h=>lQ hu hx hy h
 quiet:=fun hk h=>iT hk h
noncomputable def A3(K:IK prog w κ)(hd:K.deep≤7):HeapKind prog w (List κ) where
 is:=fun h k a=>CV K h k (.ref a)
 hash:=pR K
 draws:=fun ks=>gZ K ks+1
 room:=fun A=>A.units+(K.deep+1)<cLine
 inj:=(tupK K).inj
 keeps:=(tupK K).keeps
 pyHash:=fun hu hk h=>jA hu hk h
 eqBool:=fun hu hx hy h=>lQ hu hx hy h
 quiet:=fun {A E s k a Q} hk h=>by
  have q:=iT (n:=7 - K.deep) (A:=A) (E:=E) hk h
  rwa [show 7 - K.deep+(K.deep+1)=8 by omega]at q
end
noncomputable def iA:Option Int→V
 | none=>.non
 | some i=>.int i
theorem An{x y:Option Int}{v:Value}(a:RelV (iA x) v)(b:RelV (iA y) v):x=y:=by
 have e:=a.inj b
 cases x <;> cases y <;> simp_all [iA]
theorem mM(x:Option Int):bM (iA x)=true:=by cases x <;> rfl
theorem B7(x y:Option Int):fw (iA x) (iA y)=decide (x=y):=by
 cases x with
 | none=>cases y <;> rfl
 | some i=>
  cases y with
  | none=>rfl
  | some j=>
   show (i == j)=_
   by_cases h:i=j <;> simp[h]
theorem yT{prog:Program}{w:World}{A:Around}{E:Value→Shared→Prop}{s:Shared}{Q:Int→Shared→Prop}(h:Q 0xFCA86420 { s with toks:=s.toks+1 }):wpAny (model prog w) A (PySem.pyHash .none) Q E s:=by
 have J:s.TypeIs .none "NoneType" := rfl
 unfold PySem.pyHash
 first | unfold pyHashByItsType | skip
 refine G8 ?_
 rw[cRoomFor,He (by decide)]
 refine Hc (G8 (wpAny_specialOf J F.slot_NoneType_hash.lookup ?_))
 rw[He (by rw[beq_builtin_none]; exact wj)]
 refine G8 (wpAny_specialOf J F.slot_NoneType_hash.lookup ?_)
 show wpAny _ _ (callSpecialIfBoundUnlessNone? .none "__hash__" _ >>= _) Q E s
 refine G8 (wpAny_callSpecialIfBoundUnlessNone?_slot J F.slot_NoneType_hash (wpAny_call_entry F.slot_NoneType_hash J
  F.entry_NoneType_hash ?_ (F.args_NoneType_hash_1 _)))
 show wpAny _ _ (retInt 0xFCA86420) _ _ s
 refine wpAny_ret_mkInt ?_
 exact Hc h
noncomputable def dQ(prog:Program)(w:World):IK prog w (Option Int) where
 is:=fun _ k v=>RelV (iA k) v
 hash:=fun k=>match k with
  | none=>0xFCA86420
  | some i=>hashInt i
 draws:=fun _=>1
 deep:=0
 inj:=fun a b=>An a b
 keeps:=fun a _ _ _=>a
 pyHash:=fun {A E s k v Q} _ hk h=>by
  cases k with
  | none=>
   obtain rfl:v=Value.none:=hk
   exact yT h
  | some i=>
   obtain⟨t,rfl⟩:=(show ∃ t,v=Value.int i t from hk)
   exact wpAny_pyHash_int h
 eqBool:=fun {A E s x y u v Q} _ hx hy h=>by
  have q:=jf (A:=A) (s:=s) hx hy (mM x) (mM y);rw[B7]at q
  exact q prog w E Q h
 quiet:=fun {A E s k v n Q} hk h=>by
  have e:carriedByValue v=true:=by
   cases k with
   | none=>obtain rfl:v=Value.none:=hk; rfl
   | some i=>obtain⟨t,rfl⟩:=(show ∃ t,v=Value.int i t from hk); rfl
  rw[eqIsQuiet_byValue _ e];exact Hc h
abbrev NI:=Sum Int (List (Option Int))
theorem CV.tup{prog:Program}{w:World}{κ : Type}[DecidableEq κ]{K:IK prog w κ}{h:Heap}{l:List κ}{v:Value}(x:CV K h l v):∃ a its,v = .ref a∧h.IsTuple a its:=by
 obtain⟨a,o,F,n,rfl,O,J,hd,hi⟩:=x
 exact⟨a,F,rfl,o,O,J,n,hd⟩
theorem tZ{A:Around}{prog:Program}{w:World}(F:A.units+1<cLine):A.units+((dQ prog w).deep+1)<cLine:=F
abbrev zY:=Int × List (Option Int)
noncomputable def nk(k:zY):List NI:=[.inl k.1,.inr k.2]
section
variable{X:Cx}{pins:List (Addr × Obj)}{σ : St}{H:Hp}{s:Shared}{a b:Addr}{k:zY}{kvs:List (zY × V)}
theorem Paired.snoc{α β : Type}{F:α→β→Prop}{x:α}{y:β}(h:F x y):∀ {l:List α} {m:List β},Paired F l m→Paired F (l++[x]) (m++[y])
 | _,_,.nil=>.cons h .nil
 | _,_,.cons r t=>.cons r (Paired.snoc h t)
end
end L2
namespace L2
open PySem PySem.Spec PyProof.Rows PySem.SeqAt
section
variable{X:Cx}
noncomputable def G5(K:W.Frag):R2:=fun x y H Q=>pJ K x y H Q∨∃ a kvs k v,x = .ref a∧y=kV k∧H a=some (.dK kvs)∧cf kvs k=some v∧Q v H
theorem qu(K:W.Frag)(hK:X.K=K:=by rfl):Fq X (G5 K):=by
 intro value J pins s σ H x y v u Q I Z U h Y
 rcases h with h | ⟨a,kvs,k,z,rfl,rfl,e,l,q⟩
 ·exact aw K hK value J pins s σ H x y v u Q I Z U h Y
 ·cases Z
  obtain⟨_,hd,vs,S,dd⟩:=vv I.hok (.inl e)
  obtain⟨w',hw,O⟩:=EU.some_of (v:=z) (o:=valueAt vs k) (by rw[← l]; exact S.val k)
  have hl:typeLookup (.type "dict") "__getitem__" = pure (some (.builtin "dict.__getitem__")):=F.slot_dict_getitem.lookup
  exact subscriptTail_builtinR (x:=w') dd.typeIs hl (wpAny_getItem_of (vf U) dd.mapOf hw ⟨rfl,z,H,I.tok _,O,q⟩) Y
noncomputable def Ge:mh:=fun o i v H Q=>∃ a kvs k,o = .ref a∧i=kV k∧H a=some (.dK kvs)∧kvs.length<sizeLine∧Q (upd H a (.dK (cy kvs k v)))
theorem Bp{n:Nat}(J:Dx n X.A):Fv X Ge:=by
 intro pins s σ H o i v Y W u Q I F O U h
 obtain⟨a,kvs,k,rfl,rfl,e,hl,q⟩:=h
 cases F;exact mY (by have:=J.un; omega) I (Fm.k e hl) O U fun s' S=>⟨_,S,q⟩
end
section
variable{K:W.Frag}{H:Hp}{Q:VK}
theorem Eo.ints{n:Nat}{a c:Addr}{F ts:List Int}(h1:ud K H a (F.map V.int))(h2:ud K H c (ts.map V.int)):Eo K H (n+1) (.ref a) (.ref c) (decide (F=ts)):=by
 refine .inr ⟨a,c,_,_,rfl,rfl,.inl ⟨h1,h2⟩,?_⟩
 by_cases hl:F.length=ts.length
 ·refine .inl ⟨fun i=>F.getD i 0 == ts.getD i 0,by simp[hl],fun i x y S O=>?_,?_⟩
  ·rw[zy]at S O
   cases q1:F[i]? with
   | none=>rw[q1]at S; cases S
   | some u=>
    cases q2:ts[i]? with
    | none=>rw[q2]at O; cases O
    | some v=>
     rw[q1]at S; rw[q2]at O
     cases S; cases O
     dsimp only
     rw[vE,vE,q1,q2];exact Eo.flat rfl rfl
  ·rw[ze]
   by_cases e:F=ts
   ·subst e
    rw[decide_eq_true rfl]
    symm
    rw[zaM];intro i _
    simp
   ·rw[decide_eq_false e]
    symm
    rw[List.all_eq_false]
    have:∃ i:Nat,F[i]? ≠ ts[i]?:=by
     refine GD fun U=>e (List.ext_getElem? fun i=>?_)
     exact GD fun h=>U ⟨i,h⟩
    obtain⟨i,hi⟩:=this
    have J:i<F.length:=by
     refine GD fun U=>hi ?_
     rw[G7 (by omega),G7 (by omega)]
    refine⟨i,Hm.mpr J,?_⟩
    rw[vE,vE,zg J,zg (by omega)]
    rw[zg J,zg (by omega)]at hi
    simpa using hi
 ·have e:F≠ts:=fun e=>hl (by rw[e])
  rw[decide_eq_false e];exact .inr ⟨h1,h2,by simpa using hl,rfl⟩
end
theorem B8{X:Cx}:Fh X "list.pop" AE:=Df
section
variable{K:W.Frag}{H:Hp}{Q:VK}
theorem tu(p:Addr):AE (.ref p) [] H Q=∃ xs y,H p=some (.lst xs)∧xs[xs.length - 1]? = some y∧Q y (upd H p (.lst xs.dropLast)):=
 propext ⟨fun ⟨_,xs,y,F,_,q⟩=>by cases F; exact⟨xs,y,q⟩,fun ⟨xs,y,q⟩=>⟨p,xs,y,rfl,rfl,q⟩⟩
end
theorem l8{X:Cx}(K:W.Frag){o:Expr}{to:TE}{name:Str}{apos cpos:Pos}{T id:String}{r:V→List V→Hp→VK→Prop}(O:PlainAttrs T)(slot:Slot T name id)(J:typeOf (.builtin id)=pure (.type "method_descriptor")) (S:Fh X id r) (U:PE X o to)
  (F:attributeBase o name X.env (eval o X.env)=eval o X.env:=by rfl) (hline:(apos.endLine == cpos.line)=true:=by rfl) (hK:X.K=K:=by rfl):PE X (.Call (.Attribute o name apos) [] [] cpos) (Af K T r to):=hK ▸ DQ O slot J S U F hline
theorem lJ:∀ (xs:List V) (F:List Value),xs.length=F.length→(∀ (j:Nat) x u,xs[j]? = some x→F[j]? = some u→RelV x u)→yl xs F
 | [],[],_,_=>.nil
 | [],u::F,hl,_=>by simp at hl
 | x::xs,[],hl,_=>by simp at hl
 | x::xs,u::F,hl,h=>.cons (h 0 x u rfl rfl) (lJ xs F (by simpa using hl) fun j a b O J=>h (j+1) a b O J)
section
variable{X:Cx}
theorem iK{α β : Type}{F:α→β→Prop}:∀ {l:List α} {m:List β} {j:Nat} {a:α} {b:β},Paired F l m→l[j]? = some a→m[j]? = some b→F a b
 | _,_,0,_,_,.cons h _,e1,e2=>by
  cases e1; cases e2; exact h
 | _,_,j+1,_,_,.cons _ t,e1,e2=>iK (j:=j) t e1 e2
 | _,_,0,_,_,.nil,e1,_=>by cases e1
 | _,_,_+1,_,_,.nil,e1,_=>by cases e1
theorem rb:bootBuiltins "set" = some (.type "set"):=by decide +kernel
end
def dw(xs:Array Nat):Prop:=∀ (a b:Nat) (ha:a<xs.size) (hb:b<xs.size),a<b→xs[a]<xs[b]
theorem ku{xs:Array Nat}(h:dw xs)(j:Nat):∀ (F lo hi:Nat),lo≤hi→hi≤xs.size→hi - lo≤F→(∀ k (J:k<xs.size),k<lo→xs[k]<j)→(∀ k (J:k<xs.size),hi≤k→j≤xs[k])→
  SetTable.below.go xs j F lo hi≤xs.size∧(∀ k (J:k<xs.size),k<SetTable.below.go xs j F lo hi→xs[k]<j)∧(∀ k (J:k<xs.size),SetTable.below.go xs j F lo hi≤k→j≤xs[k])
 | 0,lo,hi,h1,h2,h3,h4,h5=>by
  have e:lo=hi:=by omega
  subst e;exact⟨h2,h4,h5⟩
 | F+1,lo,hi,h1,h2,h3,h4,h5=>by
  unfold SetTable.below.go;split
  ·rename_i hlt
   have S:(lo+hi) / 2<xs.size:=by omega
   have U:xs.getD ((lo+hi) / 2) j=xs[(lo+hi) / 2]:=by simp[Array.getD,S]
   dsimp only
   rw[U];split
   ·rename_i hj
    refine ku h j F _ hi (by omega) h2 (by omega) (fun k J O=>?_) h5
    rcases vA k ((lo+hi) / 2) with z | z
    ·exact Nat.lt_trans (h k _ J S z) hj
    ·have:k=(lo+hi) / 2:=by omega
     subst this; exact hj
   ·rename_i hj
    refine ku h j F lo _ (by omega) (by omega) (by omega) h4 (fun k J O=>?_)
    rcases vA ((lo+hi) / 2) k with z | z
    ·exact gV (Nat.le_of_not_lt hj) (wm (h _ k S J z))
    ·have:k=(lo+hi) / 2:=by omega
     subst this; exact Nat.le_of_not_lt hj
  ·have e:lo=hi:=by omega
   subst e;exact⟨h2,h4,h5⟩
theorem eh{xs:Array Nat}(h:dw xs)(j:Nat):SetTable.below xs j≤xs.size∧(∀ k (F:k<xs.size),k<SetTable.below xs j→xs[k]<j)∧(∀ k (F:k<xs.size),SetTable.below xs j≤k→j≤xs[k]):=
 ku h j xs.size 0 xs.size (vL _) (zl _) (by omega) (fun k _ z=>absurd z (GN _)) (fun k F z=>absurd F (by omega))
theorem wQ{xs:Array Nat}(h:dw xs):SetTable.below xs 0=0:=by
 obtain⟨h1,h2,J⟩:=eh h 0
 refine GD fun F=>?_
 exact absurd (h2 0 (by omega) (by omega)) (GN _)
theorem vm{xs:Array Nat}(h:dw xs){i:Nat}(hi:i<xs.size):SetTable.below xs (xs[i]+1)=i+1:=by
 obtain⟨h1,h2,F⟩:=eh h (xs[i]+1)
 rcases Nat.lt_trichotomy (SetTable.below xs (xs[i]+1)) (i+1) with z | z | z
 ·have:=F i hi (by omega); omega
 ·exact z
 ·have J:=h2 (i+1) (by omega) z
  have O:=h i (i+1) hi (by omega) (by omega)
  omega
theorem jk{xs:Array Nat}{p x k:Nat}(O:p≤xs.size)(J:k<(SetTable.insertAt xs p x).size):(SetTable.insertAt xs p x)[k]=if h:k<p then xs[k]'(by omega) else if k=p then x else xs.getD (k - 1) 0:=by
 have S:(SetTable.insertAt xs p x).size=xs.size+1:=by
  unfold SetTable.insertAt; simp; omega
 have e:(SetTable.insertAt xs p x)[k]? = some (if h:k<p then xs[k]'(by omega) else if k=p then x else xs.getD (k - 1) 0):=by
  unfold SetTable.insertAt;rw[Array.getElem?_append];simp only[Array.size_push,Array.size_extract]
  split
  ·rename_i h
   rw[Array.getElem?_push];simp only[Array.size_extract]
   by_cases hkp:k<p
   ·rw[He (by omega),dif_pos hkp,Array.getElem?_extract]
    simp; omega
   ·have:k=p:=by omega
    subst this;rw[Hf (by omega),dif_neg hkp,Hf rfl]
  ·rename_i h
   rw[dif_neg (by omega),He (by omega),Array.getElem?_extract]
   have F:k - 1<xs.size:=by omega
   rw[Hf (by omega),show p+(k - (min p xs.size - 0+1))=k - 1 by omega]
   simp[Array.getD,F]
 rw[wt J]at e
 exact Option.some.inj e
theorem jg{xs:Array Nat}(h:dw xs){j:Nat}(W:∀ k (F:k<xs.size),xs[k]≠j):dw (SetTable.insertAt xs (SetTable.below xs j) j):=by
 obtain⟨h1,h2,S⟩:=eh h j
 have hs:(SetTable.insertAt xs (SetTable.below xs j) j).size=xs.size+1:=by
  unfold SetTable.insertAt; simp; omega
 generalize SetTable.below xs j=p at h1 h2 S hs;intro a b U Z O
 rw[jk h1 U,jk h1 Z];have J:∀ k,k<xs.size→∃ F:k<xs.size,xs.getD k 0=xs[k]:=fun k F=>⟨F,by simp[Array.getD,F]⟩
 by_cases a1:a<p
 ·rw[dif_pos a1]
  by_cases b1:b<p
  ·rw[dif_pos b1]; exact h a b _ _ O
  ·rw[dif_neg b1]
   by_cases b2:b=p
   ·rw[Hf b2]; exact h2 a (by omega) a1
   ·rw[He b2]
    obtain⟨F,e⟩:=J (b - 1) (by omega)
    rw[e]; exact h a (b - 1) _ _ (by omega)
 ·rw[dif_neg a1,dif_neg (by omega)]
  by_cases a2:a=p
  ·rw[Hf a2,He (by omega)]
   obtain⟨F,e⟩:=J (b - 1) (by omega)
   rw[e];have:=S (b - 1) F (by omega)
   have:=W (b - 1) F
   omega
  ·rw[He a2,He (by omega)]
   obtain⟨F,e⟩:=J (b - 1) (by omega)
   obtain⟨Y,e2⟩:=J (a - 1) (by omega)
   rw[e,e2]; exact h _ _ _ _ (by omega)
theorem xb{t:SetTable}{j:Nat}(h:dw t.place)(e:∀ i,t.slot j ≠ .live i):∀ k (F:k<t.place.size),t.place[k]≠j:=fun k F J=>by
 obtain⟨h1,h2,S⟩:=eh h j
 have O:SetTable.below t.place j=k:=by
  rcases Nat.lt_trichotomy (SetTable.below t.place j) k with z | z | z
  ·have:=S (SetTable.below t.place j) (by omega) (zl _)
   have:=h (SetTable.below t.place j) k (by omega) F z
   omega
  ·exact z
  ·have:=h2 k F z; omega
 refine e k ?_
 unfold SetTable.slot;rw[O]
 dsimp only
 rw[wt F,J];simp
theorem kK{t:SetTable}{hashAt:Nat→Int}{h:Int}:∀ (F:Nat) (p:SetTable.Probe),(∀ d,p.dummy=some d→t.slot d = .dummy)→∀ j dm,SetTable.probe.go t hashAt h F p=some (.empty j dm)→t.slot j = .empty∧∀ d,dm=some d→t.slot d = .dummy
 | 0,p,_,j,dm,e=>by unfold SetTable.probe.go at e; cases e
 | F+1,p,hp,j,dm,e=>by
  unfold SetTable.probe.go at e;have Fy:∀ q:SetTable.Probe,(t.advance q).dummy=q.dummy:=fun q=>by unfold SetTable.advance; split <;> rfl
  cases hs:t.slot p.j with
  | empty=>
   rw[hs]at e
   cases e;exact⟨hs,hp⟩
  | dummy=>
   rw[hs]at e
   refine kK F _ (fun d hd=>?_) j dm e
   rw[Fy]at hd
   cases hd;exact hs
  | live i=>
   rw[hs]at e
   dsimp only at e
   split at e
   ·cases e
   ·exact kK F _ (fun d hd=>by rw[Fy]at hd; exact hp d hd) j dm e
structure cx (L:Bool) (t:SetTable):Prop where
 led:t.led=L
 rise:dw t.place
theorem sw(n:Nat):dw (Array.range n):=fun a b J O F=>by simpa using F
theorem fe{L:Bool}{t:SetTable}(h:cx L t)(n:Nat):cx L (t.standIn n):=⟨h.led,sw n⟩
theorem x_{L:Bool}{t:SetTable}(h:cx L t){hh:Int}{j:Nat}{b:Bool}(e:t.freeSlot hh=some (j,b)):cx L (t.put j).1:=by
 refine⟨h.led,jg h.rise (xb h.rise ?_)⟩
 unfold SetTable.freeSlot at e;split at e
 ·rename_i j' dm hpr
  have:=kK (t:=t) _ (t.probeStart hh) (fun d hd=>by cases hd) j' dm hpr
  cases dm with
  | none=>
   cases e;exact fun i z=>by have:=this.1; rw[show (none:Option Nat).getD j'=j' from rfl,this]at z; cases z
  | some d=>
   cases e;exact fun i z=>by have:=this.2 d rfl; rw[show (some d:Option Nat).getD j'=d from rfl,this]at z; cases z
 ·cases e
theorem sv{L:Bool}{t:SetTable}(h:cx L t)(es:Array (Int × Value))(hh:Int)(x:Value):cx L (layNew t es hh x).2.1:=by
 unfold layNew
 cases e:t.freeSlot hh with
 | none=>exact fe h _
 | some q=>
  obtain⟨j,b⟩:=q
  have hg:=x_ h e;show cx L ((t.put j).1.orStandIn _)
  unfold SetTable.orStandIn;split
  ·exact hg
  ·exact fe hg _
theorem f_{l:List Nat}(h:l.Pairwise (· < ·)):dw l.toArray:=fun a b J O F=>by
 have:=(List.pairwise_iff_getElem.mp h) a b (by simpa using J) (by simpa using O) F
 simpa using this
theorem vz{L:Bool}{t:SetTable}(h:cx L t)(es:Array (Int × Value))(n:Nat):cx L (relayAll t es n).2.1:=by
 unfold relayAll;split
 ·rename_i t' order e
  dsimp only
  split
  ·unfold SetTable.relaid SetTable.laid at e
   cases ho:SetTable.layClean (SetTable.sizeAbove n - 1) (es.map (·.1)) with
   | none=>rw[ho]at e; cases e
   | some owner=>
    rw[ho]at e
    cases e;refine⟨h.led,f_ ?_⟩
    refine Ht.mpr ?_
    refine List.Pairwise.filterMap _ ?_ List.pairwise_lt_range
    intro a b F x hx y J
    obtain⟨k,_,rfl⟩:=Hr.mp hx
    obtain⟨O,_,rfl⟩:=Hr.mp J
    exact F
  ·exact fe h _
 ·exact fe h _
section
variable{prog:Program}{w:World}{K:Type}[DecidableEq K]{knd:KeyKind prog w K}{A:Around}{E:Value→Shared→Prop}{s:Shared}{G:SetTable→Prop}
def Apart(knd:KeyKind prog w K)(l:List (Int × Value)):Prop:=l.Pairwise fun e e'=>∀ k,knd.is k e.2=true→knd.is k e'.2=false
theorem Apart.perm{l O:List (Int × Value)}(h:Apart knd l)(p:O.Perm l):Apart knd O:=
 (p.pairwise_iff fun {x y} F k J=>by
  cases e:knd.is k x.2 with
  | false=>rfl
  | true=>rw[F k e]at J; cases J).mpr h
theorem Apart.push{l:List (Int × Value)}{k:K}{x:Value}{hh:Int}(h:Apart knd l)(W:∀ e∈l,knd.is k e.2=false)(O:knd.is k x=true):Apart knd (l++[(hh,x)]):=by
 refine List.pairwise_append.mpr ⟨h,List.pairwise_singleton _ _,fun e S b Y J F=>?_⟩
 rw[Hg.mp Y];show knd.is J x=false
 rw[KeyKind.is_eq_decide O J];refine decide_eq_false fun U=>?_
 subst U;rw[W e S]at F; cases F
structure rX (knd:KeyKind prog w K) (G:SetTable→Prop) (o:Obj) (es:Array (Int × Value)) (ep:Nat) (t:SetTable) (S:K→Bool) (n:Nat):Prop where
 ex:o.ExactSet
 dat:o.data = .set es ep t
 el:ElemsOf knd es.toList
 mem:∀ k,S k=true ↔ ∃ e∈es.toList,knd.is k e.2=true
 few:es.size<scanBound
 fit:t.fits es.size=true
 num:es.size=n
 good:G t
 apart:Apart knd es.toList
def E2(knd:KeyKind prog w K)(G:SetTable→Prop)(h:Heap)(a:Addr)(S:K→Bool)(n:Nat):Prop:=∃ o es ep t,h.get? a=some o∧rX knd G o es ep t S n
theorem stored{h:Heap}{a:Addr}{o:Obj}{es:Array (Int × Value)}{ep:Nat}{t:SetTable}{S:K→Bool}{n:Nat}{es':Array (Int × Value)}{t':SetTable}{S':K→Bool}{n':Nat}(O:h.get? a=some o)(T:rX knd G o es ep t S n)
  (J:∀ o',o'.ExactSet→o'.data = .set es' (ep+1) t'→rX knd G o' es' (ep+1) t' S' n'):∃ o',(h.update a (Obj.putSet es' t')).get? a=some o'∧rX knd G o' es' (ep+1) t' S' n':=by
 have F:=putSet_of es' t' T.dat;have hg:=mr (Obj.putSet es' t') O (by rw[F]; rfl)
 rw[F]at hg
 exact⟨_,hg,J _ T.ex rfl⟩
theorem qF(gr:∀ t es n,G t→G (relayAll t es n).2.1){g:Bool→Sem Unit}(hg:∀ (b:Bool) (s₁:Shared) (Q':Unit→Shared→Prop),Q' () s₁→wpAny (model prog w) A (g b) Q' E s₁)
  {a:Addr} {o:Obj} {es:Array (Int × Value)} {ep:Nat} {t:SetTable} {S:K→Bool} {n:Nat} (ho:s.heap.get? a=some o) (T:rX knd G o es ep t S n)
  {F:Array (Int × Value)} {t2:SetTable} {S':K→Bool} {n':Nat} (T1:∀ o',o'.ExactSet→o'.data = .set F (ep+1) t2→rX knd G o' F (ep+1) t2 S' n') {J:Bool} {R:Option Bool→Shared→Prop}
  (h:∀ h',Heap.SameBut a s.heap h'→E2 knd G h' a S' n'→R (some true) { s with heap:=h' }) :
  wpAny (model prog w) A (do
    storeSet a F t2
    if (!J&&t2.tooFull)=true then do
      g (relayAll t2 F (SetTable.grown F.size)).2.2
      storeSet a (relayAll t2 F (SetTable.grown F.size)).1 (relayAll t2 F (SetTable.grown F.size)).2.1
      pure (some true)
     else pure (some true)) R E s:=by
 obtain⟨o1,ab,O⟩:=stored ho T T1
 refine G8 (wpAny_storeSet_of ho T.dat ?_ (fits_of_scanBound O.few))
 have U:=gv s.heap a (Obj.putSet F t2);split
 ·have Z:=relayAll_perm t2 F (SetTable.grown F.size)
  have W:=relayAll_fits t2 F (SetTable.grown F.size);have Y:=gr t2 F (SetTable.grown F.size) O.good;generalize relayAll t2 F (SetTable.grown F.size)=Rl at Z W Y ⊢;obtain⟨ad,t3,al⟩:=Rl
  dsimp only at Z W Y ⊢
  have hsz:ad.size=F.size:=by rw[← vj,Z.length_eq,vj]
  obtain⟨o2,ag,U2⟩:=stored (es':=ad) (t':=t3) (S':=S') (n':=n') ab O fun o' ex da=>⟨ex,da,O.el.perm Z,fun k'=>(O.mem k').trans ⟨fun ⟨e,he,q⟩=>⟨e,Z.mem_iff.mpr he,q⟩,fun ⟨e,he,q⟩=>⟨e,Z.mem_iff.mp he,q⟩⟩,by rw[hsz]; exact O.few,W,by rw[hsz]; exact O.num,Y,O.apart.perm Z⟩
  refine G8 (hg _ _ _ ?_)
  refine G8 (wpAny_storeSet_of ab O.dat ?_ (fits_of_scanBound U2.few))
  exact Hc (h _ (U.trans (gv _ a _)) ⟨_,_,_,_,ag,U2⟩)
 ·exact Hc (h _ U ⟨_,_,_,_,ab,O⟩)
theorem Iy(gl:∀ t es h x,G t→G (layNew t es h x).2.1)(gr:∀ t es n,G t→G (relayAll t es n).2.1)(gp:∀ t:SetTable,G t→G { t with plain:=false })
  {a:Addr} {S:K→Bool} {n:Nat} {k:K} {x:Value} {Q:Bool→Shared→Prop} (hkey:knd.is k x=true) (hsc:x.scannable=true) (hS:E2 knd G s.heap a S n) (hroom:n+1<scanBound)
  (h:∀ h',Heap.SameBut a s.heap h'→E2 knd G h' a (fun Z=>S Z||decide (Z=k)) (if S k then n else n+1)→Q (!S k) { s with heap:=h' }) :
  wpAny (model prog w) A (setAddHashed a x (knd.hash k)) Q E s:=by
 obtain⟨o,es,ep,t,ho,T⟩:=hS
 have a6:es.size+1<scanBound:=by rw[T.num]; exact hroom
 unfold setAddHashed setAddHashedIn;refine wpAny_holding (G8 (wpAny_setState_of ho T.dat T.fit ?_))
 dsimp only
 rw[byScan_of hsc T.few T.el];simp only[↓reduceIte]
 unfold setAddByScan;refine G8 ?_
 refine G8 (wpAny_rule ?_)
 refine G8 (wpAny_setScan_of hkey ho T.dat T.fit T.el ?_)
 cases hr:List.findIdx? (fun e=>knd.is k e.2) es.toList with
 | some j=>
  dsimp only
  obtain⟨hj,a4,_⟩:=List.findIdx?_eq_some_iff_getElem.mp hr
  have Y:S k=true:=(T.mem k).mpr ⟨es.toList[j],v5 hj,a4⟩
  refine Hc (Hc ?_)
  have e:s={ s with heap:=s.heap }:=by cases s; rfl
  have q:=h s.heap (Heap.SameBut.refl a s.heap) ⟨o,es,ep,t,ho,T.ex,T.dat,T.el,fun Z=>by
   rw[zaN,decide_eq_true_eq,← T.mem Z];exact⟨fun hk=>hk.elim id (fun e=>e ▸ Y),.inl⟩,T.few,T.fit,by rw[Y]; exact T.num,T.good,T.apart⟩
  rw[Y]at q; rw[e]; exact q
 | none=>
  dsimp only
  have an:=List.findIdx?_eq_none_iff.mp hr
  have Y:S k=false:=by
   cases hk:S k with
   | false=>rfl
   | true=>obtain⟨e,he,hp⟩:=(T.mem k).mp hk; rw[an e he]at hp; cases hp
  have as:∀ (b:Bool) {s₁:Shared} {Q':Unit→Shared→Prop},Q' () s₁→wpAny (model prog w) A (match b with | true=>rule "set.scan.the-table-gave-way" | false=>pure ()) Q' E s₁:=fun b s₁ Q' hq=>by
   cases b <;> first | exact Hc hq | exact wpAny_rule hq
  have F:=layNew_perm t es (knd.hash k) x;have J:=layNew_fits t es (knd.hash k) x;have O:=gl t es (knd.hash k) x T.good;generalize layNew t es (knd.hash k) x=Ly at F J O ⊢;obtain⟨ab,t1,al,a5⟩:=Ly
  dsimp only at F J O ⊢
  rw[Array.toList_push]at F
  have ad:ab.size=n+1:=by rw[← vj,F.length_eq,zr,vj,T.num]; rfl
  have mk:∀ t2:SetTable,t2.fits ab.size=true→G t2→∀ o',o'.ExactSet→o'.data = .set ab (ep+1) t2→rX knd G o' ab (ep+1) t2 (fun Z=>S Z||decide (Z=k)) (n+1):=fun t2 a3 g2 o' ex da=>
   ⟨ex,da,(T.el.push hkey hsc).perm F,mem_push_iff hkey T.mem F,by rw[ad]; exact hroom,a3,ad,g2,(T.apart.push (fun e he=>by have:=an e he; simpa using this) hkey).perm F⟩
  refine G8 (as _ ?_)
  have ag:∀ h',Heap.SameBut a s.heap h'→E2 knd G h' a (fun Z=>S Z||decide (Z=k)) (n+1)→Q true { s with heap:=h' }:=by
   intro h' W U; have:=h h' W; rw[Y]at this; exact this U
  split
  ·refine G8 ?_
   rw[hashByValue_scannable 8 hsc];refine Hc ?_
   refine qF gr ?_ ho T (mk _ ?_ ?_) ?_
   ·intro b s₁ Q' hq; cases b <;> first | exact Hc hq | exact wpAny_rule hq
   ·split
    ·exact J
    ·exact SetTable.fits_plain_off J
   ·split
    ·exact O
    ·exact gp _ O
   ·intro h' W U; dsimp only; exact wpAny_pure (ag h' W U)
  ·refine G8 (Hc ?_)
   simp only[↓reduceIte]
   refine qF gr ?_ ho T (mk _ J O) ?_
   ·intro b s₁ Q' hq; cases b <;> first | exact Hc hq | exact wpAny_rule hq
   ·intro h' W U; dsimp only; exact wpAny_pure (ag h' W U)
end
section
variable{prog:Program}{w:World}{A:Around}{R:Result→Shared→Prop}{I:Addr}{fp wr:List Addr}{Gm:Array GenState→Array GenState→Prop}{n:Nat}{P:Nat→Value→Prop}{St:Nat→Shared→Prop}{L:Bool}
theorem lD{t:SetTable}(h:cx L t):cx L { t with plain:=false }:=⟨h.led,h.rise⟩
theorem E2.at'{K:Type}[DecidableEq K]{knd:KeyKind prog w K}{G:SetTable→Prop}{h h':Heap}{a:Addr}{S S':K→Bool}{m m':Nat}(x:E2 knd G h a S m)(e:∀ o,h.get? a=some o→h'.get? a=some o)(F:∀ k,S k=S' k)(O:m=m'):E2 knd G h' a S' m':=by
 obtain⟨o,es,ep,t,J,T⟩:=x
 have:S=S':=funext F
 subst this; subst O
 exact⟨o,es,ep,t,e o J,T⟩
end
section
variable{prog:Program}{w:World}{A:Around}{E:Value→Shared→Prop}{s:Shared}
noncomputable def bw(w:World):Bool:=!(w.params.followText "set-order")
theorem rh(a:Value){Q₁:Value→Shared→Prop}
  (h:Q₁ (.ref s.heap.objs.size) { s with heap:=s.heap.push { cls:=.type "set", dict:=none,data:=.set #[] 0 (.fresh 0 0 (bw w)) } }) :
  codeAny (model prog w) A (.call (.builtin "set.__new__") ⟨[.type "set", a],[]⟩) (wants Q₁ E) s:=by
 refine codeAny_of_tree ?_
 show wpAny _ A.in1 (do checkBuiltinCall "set.__new__" ⟨[.type "set", a],[]⟩; again (.builtin "set.__new__" ⟨[.type "set", a],[]⟩)) _ _ s
 refine G8 (wpAny_of_eq (F.newCall_set_1 a) (Hc ⟨plainId_quiet F.plain_set_new _,codeAny_builtin F.entry_set_new ?_⟩))
 rw[GU F.plain_set_new _];unfold Builtin.«set.__new__» Builtin.Frozenset.newClass
 have J:=sub_set_self;obtain⟨O,g,d,S,os⟩:=s
 dsimp only
 wp_walk
 refine wpAny_askSetting (Hc ?_)
 dsimp only
 simp only[newObj]
 refine G8 (wpAny_alloc (Hc ?_))
 exact Hc h
end
theorem iQ{α : Type}:∀ (l:List α) (i:Nat) (hi:i<l.length),(l[i]::l.eraseIdx i).Perm l
 | x::l,0,_=>.rfl
 | x::l,i+1,hi=>(List.Perm.swap x (l[i]'(by simpa using hi)) (l.eraseIdx i)).trans (List.Perm.cons x (iQ l i (by simpa using hi)))
theorem sT{α : Type}(next:Nat→Nat):∀ (F k:Nat) (left:List α) (out:Array α),F=left.length→(pickOrder.go next F k left out).toList.Perm (out.toList++left)
 | 0,k,left,out,h=>by
  have:left=[]:=zbi h.symm
  subst this;unfold pickOrder.go; simp
 | F+1,k,left,out,h=>by
  unfold pickOrder.go;have hi:next k % left.length<left.length:=GP _ (by omega)
  rw[zg hi]
  dsimp only
  refine(sT next F (k+1) _ _ (by rw[List.length_eraseIdx]; rw[Hf hi]; omega)).trans ?_
  rw[Array.toList_push,uV];refine List.Perm.append_left _ ?_
  exact iQ _ _ hi
theorem yw{α : Type}(next:Nat→Nat)(xs:Array α):(pickOrder next xs).toList.Perm xs.toList:=by
 unfold pickOrder;have:=sT next xs.size 0 xs.toList #[] (by simp)
 simpa using this
section
variable{M:Model}{A:Around}{E:Value→Shared→Prop}
theorem se{s:Shared}{n:Nat}{Q:Nat→Shared→Prop}(F:n≠0)(h:∀ i d',i<n→Q i { s with drawn:=d' }):wpAny M A (choose .order n) Q E s:=fun Γ p J=>by
 show Sem.wp M Γ (.choose .order n .pure) _ _ _ _
 rw[Sem.wp_choose];refine⟨F,?_⟩
 rw[Sem.wp_pure];exact h _ _ (GP _ (by omega))
theorem mO{α : Type}:∀ (n:Nat) (xs:List α) (s:Shared) (Q:List α→Shared→Prop),n=xs.length→(∀ ys d',ys.Perm xs→Q ys { s with drawn:=d' })→wpAny M A (drawOrder n xs) Q E s
 | 0,xs,s,Q,hn,h=>by
  have:xs=[]:=zbi hn.symm
  subst this;unfold drawOrder;exact Hc (by have:=h [] s.drawn .nil; cases s; exact this)
 | n+1,[],s,Q,hn,h=>by simp at hn
 | n+1,x::xs,s,Q,hn,h=>by
  unfold drawOrder;refine G8 (se (by simp) fun i d' hi=>?_)
  rw[zg hi]
  dsimp only
  refine G8 (mO n _ _ _ (by rw[List.length_eraseIdx,Hf hi]; omega) fun ys F J=>?_)
  refine Hc ?_
  exact h _ F ((List.Perm.cons _ J).trans (iQ _ _ hi))
end
theorem Aw:Slot "set_iterator" "__next__" "set_iterator.__next__" :=
 .of (owner := "set_iterator") (n := "__next__") (by rw[typeLookup_type,builtinLookup_eq_fast]; kernel_rfl) (by decide +kernel) (by decide +kernel) (by decide +kernel)
  (by first | exact .inl (by decide +kernel) | exact .inr (by decide +kernel)) (by rw[isSubtype_type]; kernel_rfl)
theorem eJ:entryFor table "set_iterator.__next__" = some Builtin.«set_iterator.__next__»:=entryFor_of_tree (by kernel_rfl)
theorem lV:entryFor table "set.__iter__" = some Builtin.«frozenset.__iter__»:=
 entryFor_alias (id' := "frozenset.__iter__") (by kernel_rfl) rfl (by decide +kernel) (by kernel_rfl)
theorem pU : Manifest.owners.lookup (String.ofList ['r', 'o', 't', 'a', 'r', 'e', 't', 'i', '_', 't', 'e', 's'].reverse) = some Manifest.sig_set_iterator := by kernel_rfl
theorem eY(a:Value):argsOk "set_iterator.__next__" ⟨[a],[]⟩:=by
 unfold argsOk; rw [signature?_of (id := "set_iterator.__next__") (n:=['_','_','t','x','e','n','_','_']) (o:=['r','o','t','a','r','e','t','i','_','t','e','s']) (by kernel_rfl) pU]; kernel_rfl
section
variable{prog:Program}{w:World}{A:Around}{E:Value→Shared→Prop}{s:Shared}
noncomputable def fK(w:World)(a:Addr)(ep:Nat)(es:Array (Int × Value)):List Value:=((if w.params.followText "set-order" then pickOrder (w.params.setOrder a ep) es else es).toList.map (·.2))
noncomputable def dg(w:World)(t:SetTable)(i:Nat):Nat:=if w.params.followText "set-order" then 0 else if i=0 then 0 else t.place.getD (i - 1) 0+1
theorem iy(a:Addr)(ep:Nat)(es:Array (Int × Value)):(fK w a ep es).Perm (es.toList.map (·.2)):=by
 unfold fK;split
 ·exact(yw _ _).map _
 ·exact .rfl
theorem nY{a:Addr}{o:Obj}{es:Array (Int × Value)}{ep:Nat}{t:SetTable}{i:Nat}{Q:Option (Value × Nat)→Shared→Prop}(W:s.heap.get? a=some o)(hd:o.data = .set es ep t)(hf:t.fits es.size=true)(hg:cx (bw w) t)(hi:i≤es.size)
  (Y:w.params.followText "set-order" = true∨(!t.plain&&decide (es.size>1))=false) (h:Q (((fK w a ep es)[i]?).map fun x=>(x,dg w t (i+1))) s):wpAny (model prog w) A (setNext a (dg w t i) i ep) Q E s:=by
 have Z:t.place.size=es.size:=by
  unfold SetTable.fits at hf;simp only[zaH,beq_iff_eq]at hf
  exact hf.1
 unfold setNext;refine G8 (wpAny_setState_of W hd hf ?_)
 refine G8 ?_
 unfold setsByText;refine G8 (wpAny_askSetting (Hc ?_))
 show wpAny _ _ (if w.params.followText "set-order" = true then _ else _) _ _ _
 unfold fK dg at h;unfold dg
 cases hb:w.params.followText "set-order" with
 | true=>
  rw[hb]at h
  simp only[if_true]at h ⊢
  rw[He (by simp)]
  refine G8 ?_
  unfold setWalk;refine G8 (wpAny_setState_of W hd hf ?_)
  refine G8 ?_
  unfold setsByText;refine G8 (wpAny_askSetting (Hc ?_))
  show wpAny _ _ (if w.params.followText "set-order" = true then _ else _) _ _ _
  rw[Hf hb];refine G8 (wpAny_askSetting (Hc ?_))
  refine Hc ?_
  rw[zy,Option.map_map,mD]at h
  exact h
 | false=>
  rw[hb]at h
  simp only[wA,if_false]at h ⊢
  have O:t.led=true:=by rw[hg.led]; unfold bw; rw[hb]; rfl
  refine wpAny_ite_split (fun U=>?_) (fun _=>?_)
  ·rcases Y with z | z
   ·rw[hb]at z; cases z
   ·exact absurd (z.symm.trans U) (by decide)
  refine G8 ?_
  show wpAny _ _ (if (!t.led && !es.isEmpty)=true then unsupported "set:maker-not-led" else pure ()) _ _ _
  rw[He (by rw[O]; simp)]
  refine Hc (Hc ?_)
  have S:SetTable.below t.place (if i=0 then 0 else t.place.getD (i - 1) 0+1)=i:=by
   by_cases h0:i=0
   ·rw[Hf h0,wQ hg.rise,h0]
   ·have F:i - 1<t.place.size:=by omega
    rw[He h0,show t.place.getD (i - 1) 0=t.place[i - 1] by simp[Array.getD,F],vm hg.rise F]
    omega
  rw[S];rw[zy,mD,He (by omega),Nat.add_sub_cancel]at h
  by_cases hlt:i<es.size
  ·have J:i<t.place.size:=by omega
   rw[wt hlt,wt J];rw[wt hlt,show t.place.getD i 0=t.place[i] by simp[Array.getD,J]]at h
   exact h
  ·rw[GZ (by omega)]
   rw[GZ (by omega)]at h
   exact h
end
section
variable{prog:Program}{w:World}{A:Around}{E:Value→Shared→Prop}{s:Shared}
def ER(h:Heap)(it:Addr)(first:Value)(i:Nat)(a:Addr)(n ep:Nat):Prop:=∃ o,h.get? it=some o∧o.cls = .type "set_iterator" ∧ o.data = .fields #[first,.int i 0,.ref a,.int n 0,.int ep 0]
theorem ER.typeIs{it a:Addr}{first:Value}{i n ep:Nat}(x:ER s.heap it first i a n ep):s.TypeIs (.ref it) "set_iterator" := let ⟨o,ho,hc,_⟩:=x; ⟨o,ho,hc⟩
theorem BU{it a:Addr}{o:Obj}{es:Array (Int × Value)}{ep:Nat}{t:SetTable}{i:Nat}{v:Value}{Q:Option Value→Shared→Prop}(S:ER s.heap it (.int (dg w t i) 0) i a es.size ep)(ho:s.heap.get? a=some o)(hd:o.data = .set es ep t)(hf:t.fits es.size=true)(hg:cx (bw w) t)
  (hn:w.params.followText "set-order" = true∨(!t.plain&&decide (es.size>1))=false) (hi:i<es.size) (hv:(fK w a ep es)[i]? = some v)
  (hQ:∀ h',ER h' it (.int (dg w t (i+1)) 0) (i+1) a es.size ep→Heap.SameBut it s.heap h'→Q (some v) { s with heap:=h' }):wpAny (model prog w) A (pyNext (.ref it)) Q E s:=by
 obtain⟨oi,W,Z,U⟩:=id S
 unfold pyNext;refine G8 (wpAny_attempt (wpAny_callSpecial?_slot (name:=Str.ofString "__next__") S.typeIs Aw (wpAny_call_entry Aw S.typeIs eJ ?_ (eY _))))
 unfold Builtin.«set_iterator.__next__»
 refine G8 (Hc ?_)
 refine G8 (wpAny_fieldsOf W U ?_)
 dsimp only
 refine G8 (wpAny_setEntries_of ho hd hf ?_)
 rw[He (by simp)]
 simp only[vO]
 refine G8 (nY ho hd hf hg (by omega) hn ?_)
 rw[hv];show wpAny _ _ (setField (.ref it) 0 (rawInt (dg w t (i+1):Nat)) >>= fun _=>setField (.ref it) 1 (rawInt ((i:Int)+1)) >>= fun _=>ret v) _ _ _
 refine G8 (wpAny_setField W U (by simp) ?_)
 have F:=GF U (fun xs=>xs.setIfInBounds 0 (rawInt (dg w t (i+1):Nat)))
 have O:=mr (Obj.mapFields (fun xs=>xs.setIfInBounds 0 (rawInt (dg w t (i+1):Nat)))) W (zay F)
 refine G8 (wpAny_setField O F (by simp) ?_)
 have J:=GF F (fun xs=>xs.setIfInBounds 1 (rawInt ((i:Int)+1)))
 have Y:=mr (Obj.mapFields (fun xs=>xs.setIfInBounds 1 (rawInt ((i:Int)+1)))) O (zay J)
 refine Hc ⟨_,rfl,Hc (hQ _ ⟨_,Y,?_,?_⟩ ((gv ..).trans (gv ..)))⟩
 ·rw[zaO,zaO]; exact Z
 ·rw[J]; simp[rawInt]
theorem Fg{it a:Addr}{o:Obj}{es:Array (Int × Value)}{ep:Nat}{t:SetTable}{Q:Option Value→Shared→Prop}(hh:A.handled=none)(F:ER s.heap it (.int (dg w t es.size) 0) es.size a es.size ep)(S:s.heap.get? a=some o)(hd:o.data = .set es ep t)(hf:t.fits es.size=true)(hg:cx (bw w) t)
  (Y:w.params.followText "set-order" = true∨(!t.plain&&decide (es.size>1))=false)
  (U:∀ h',Heap.ExtBut it s.heap h'→Q none { s with heap:=h' }):wpAny (model prog w) A (pyNext (.ref it)) Q E s:=by
 obtain⟨Z,J,W,O⟩:=id F
 have hv:(fK w a ep es)[es.size]? = none:=G7 (by rw[(iy (w:=w) a ep es).length_eq]; simp)
 unfold pyNext;refine G8 (wpAny_attempt (wpAny_callSpecial?_slot (name:=Str.ofString "__next__") F.typeIs Aw (wpAny_call_entry Aw F.typeIs eJ ?_ (eY _))))
 unfold Builtin.«set_iterator.__next__»
 refine G8 (Hc ?_)
 refine G8 (wpAny_fieldsOf J O ?_)
 dsimp only
 refine G8 (wpAny_setEntries_of S hd hf ?_)
 rw[He (by simp)]
 simp only[vO]
 refine G8 (nY S hd hf hg (zl _) Y ?_)
 rw[hv];show wpAny _ _ (setField (.ref it) 2 .none >>= fun _=>newExc (.type "StopIteration") [] >>= fun e=>raiseNew e) _ _ _
 refine G8 (wpAny_setField J O (by simp) ?_)
 refine G8 ?_
 simp only[newExc,newTuple]
 refine G8 (wpAny_newObj_type ?_ (by size_fits))
 refine G8 (m:=firstArgMember _ _) (wpAny_of_eq (a:=Value.none) (by first | rfl | (simp only[firstArgMember]; rfl)) ?_)
 refine wpAny_newObj_type ?_ (by size_fits)
 simp only[raiseNew]
 refine G8 (wpAny_handled ?_)
 rw[show A.in1.handled=none from hh];refine G8 (Hc (wpAny_throw ?_))
 refine G8 (wpAny_isInstance (T := "StopIteration") (b:=true) ⟨_,zV _ rfl,rfl⟩ isSubtype_stop ?_)
 exact Hc (U _ (((gv ..).extBut.push _).push _))
end
section
variable{prog:Program}{w:World}{A:Around}{E:Value→Shared→Prop}{s:Shared}
theorem wN{a:Addr}{o:Obj}{es:Array (Int × Value)}{ep:Nat}{t:SetTable}{Q:Bool→Shared→Prop}(F:s.heap.get? a=some o)(hd:o.data = .set es ep t)(hf:t.fits es.size=true)
  (h:Q (!(w.params.followText "set-order")&&(!t.plain&&decide (es.size>1))) s):wpAny (model prog w) A (setDrawn a) Q E s:=by
 unfold setDrawn;refine G8 (wpAny_setState_of F hd hf ?_)
 refine G8 ?_
 unfold setsByText;refine G8 (wpAny_askSetting (Hc ?_))
 exact Hc h
theorem BP{a:Addr}{o:Obj}{es:Array (Int × Value)}{ep:Nat}{t:SetTable}{Q:Value→Shared→Prop}(S:s.heap.get? a=some o)(hx:o.ExactSet)(hd:o.data = .set es ep t)(hf:t.fits es.size=true)(O:es.size<scanBound)
  (h1:(!(w.params.followText "set-order")&&(!t.plain&&decide (es.size>1)))=false→Q (.ref s.heap.objs.size) { s with heap:=s.heap.push { cls:=.type "set_iterator", data:=.fields #[.int 0 0,.int 0 0,.ref a,.int es.size 0,.int ep 0] } })
  (h2:∀ (ps:List Nat) d',ps.Perm (List.range es.size)→Q (.ref (s.heap.objs.size+1)) { s with heap:=(s.heap.push { cls:=.type "tuple", data:=.seq (ps.map fun i:Nat=>rawInt i).toArray }).push { cls:=.type "set_iterator", data:=.fields #[.ref s.heap.objs.size,.int 0 0,.ref a,.int es.size 0,.int ep 0] },drawn:=d' }) :
  wpAny (model prog w) A (pyIter (.ref a)) Q E s:=by
 have W:s.TypeIs (.ref a) "set" := ⟨o,S,hx.1⟩
 refine wpAny_pyIter_slot W F.slot_set_iter (wpAny_call_entry F.slot_set_iter W lV ?_ (F.args_set_iter_1 _))
 unfold Builtin.«frozenset.__iter__»
 refine G8 (Hc ?_)
 refine G8 ?_
 unfold Builtin.Frozenset.sizeOf;refine G8 (wpAny_setEntries_of S hd hf (Hc ?_))
 refine G8 (wN S hd hf ?_)
 dsimp only
 refine wpAny_ite_split (fun J=>?_) (fun J=>?_)
 ·refine G8 (mO _ _ _ _ (by simp) fun ps d' Y=>?_)
  have U:ps.length=es.size:=by rw[Y.length_eq]; simp
  refine G8 ?_
  unfold newTuple;have hz:=fits_of_scanBound O;refine wpAny_newObj_type ?_ (by show (List.map _ ps).toArray.size≤sizeLine; simp; omega)
  refine G8 ?_
  unfold setEpoch;refine G8 (wpAny_setState_of (zz _ S) hd hf (Hc ?_))
  refine G8 ?_
  unfold newFields;refine wpAny_newObj_type (Hc ⟨_,rfl, "set_iterator", _,⟨_,zV _ rfl,rfl⟩,Aw.lookup,?_⟩)
  rw[vY];exact h2 ps d' Y
 ·refine G8 (Hc ?_)
  refine G8 ?_
  unfold setEpoch;refine G8 (wpAny_setState_of S hd hf (Hc ?_))
  refine G8 ?_
  unfold newFields;refine wpAny_newObj_type (Hc ⟨_,rfl, "set_iterator", _,⟨_,zV _ rfl,rfl⟩,Aw.lookup,?_⟩)
  exact h1 (by simpa using J)
end
section
variable{prog:Program}{w:World}{A:Around}{E:Value→Shared→Prop}{s:Shared}
theorem Cq{it a tp:Addr}{o ot:Obj}{es:Array (Int × Value)}{ep ct:Nat}{t:SetTable}{i k:Nat}{ps:List Nat}{v:Value}{hh:Int}{Q:Option Value→Shared→Prop}(J:ER s.heap it (.ref tp) i a es.size ep)(ho:s.heap.get? a=some o)(hd:o.data = .set es ep t)(hf:t.fits es.size=true)
  (W:s.heap.get? tp=some ot) (Y:ot.data = .seq (ps.map fun i:Nat=>rawInt i).toArray ct) (hk:ps[i]? = some k) (hv:es[k]? = some (hh,v))
  (hQ:∀ h',ER h' it (.ref tp) (i+1) a es.size ep→Heap.SameBut it s.heap h'→Q (some v) { s with heap:=h' }):wpAny (model prog w) A (pyNext (.ref it)) Q E s:=by
 obtain⟨oi,S,Z,O⟩:=id J
 unfold pyNext;refine G8 (wpAny_attempt (wpAny_callSpecial?_slot (name:=Str.ofString "__next__") J.typeIs Aw (wpAny_call_entry Aw J.typeIs eJ ?_ (eY _))))
 unfold Builtin.«set_iterator.__next__»
 refine G8 (Hc ?_)
 refine G8 (wpAny_fieldsOf S O ?_)
 dsimp only
 refine G8 (wpAny_setEntries_of ho hd hf ?_)
 rw[He (by simp)]
 refine G8 (wpAny_seqItems W Y ?_)
 simp only[vO]
 have e1:(List.map (fun i:Nat=>rawInt (i:Int)) ps).toArray[i]? = some (.int (k:Int) 0):=by
  rw[List.getElem?_toArray,zy,hk]; rfl
 rw[e1]
 dsimp only
 refine G8 ?_
 unfold setNextDrawn;refine G8 (wpAny_setState_of ho hd hf ?_)
 dsimp only
 simp only[vO]
 rw[He (by simp)]
 rw[hv];refine Hc ?_
 refine G8 (wpAny_setField S O (by simp) ?_)
 have F:=GF O (fun xs=>xs.setIfInBounds 1 (rawInt ((i:Int)+1)))
 have U:=mr (Obj.mapFields (fun xs=>xs.setIfInBounds 1 (rawInt ((i:Int)+1)))) S (zay F)
 refine Hc ⟨_,rfl,Hc (hQ _ ⟨_,U,?_,?_⟩ (gv ..))⟩
 ·rw[zaO]; exact Z
 ·rw[F]; simp[rawInt]
theorem FJ{it a Z:Addr}{o ot:Obj}{es:Array (Int × Value)}{ep ct:Nat}{t:SetTable}{ps:List Nat}{Q:Option Value→Shared→Prop}(hh:A.handled=none)(J:ER s.heap it (.ref Z) es.size a es.size ep)(ho:s.heap.get? a=some o)(hd:o.data = .set es ep t)(hf:t.fits es.size=true)
  (W:s.heap.get? Z=some ot) (Y:ot.data = .seq (ps.map fun i:Nat=>rawInt i).toArray ct) (hp:ps.length=es.size)
  (hQ:∀ h',Heap.ExtBut it s.heap h'→Q none { s with heap:=h' }):wpAny (model prog w) A (pyNext (.ref it)) Q E s:=by
 obtain⟨oi,S,ab,O⟩:=id J
 unfold pyNext;refine G8 (wpAny_attempt (wpAny_callSpecial?_slot (name:=Str.ofString "__next__") J.typeIs Aw (wpAny_call_entry Aw J.typeIs eJ ?_ (eY _))))
 unfold Builtin.«set_iterator.__next__»
 refine G8 (Hc ?_)
 refine G8 (wpAny_fieldsOf S O ?_)
 dsimp only
 refine G8 (wpAny_setEntries_of ho hd hf ?_)
 rw[He (by simp)]
 refine G8 (wpAny_seqItems W Y ?_)
 simp only[vO]
 have e1:(List.map (fun i:Nat=>rawInt (i:Int)) ps).toArray[es.size]? = none:=by
  rw[List.getElem?_toArray,G7 (by simp; omega)]
 rw[e1]
 dsimp only
 refine G8 (wpAny_setField S O (by simp) ?_)
 have F:=GF O (fun xs=>xs.setIfInBounds 0 (rawInt 0))
 have U:=mr (Obj.mapFields (fun xs=>xs.setIfInBounds 0 (rawInt 0))) S (zay F)
 refine G8 (wpAny_setField U F (by simp) ?_)
 refine G8 ?_
 simp only[newExc,newTuple]
 refine G8 (wpAny_newObj_type ?_ (by size_fits))
 refine G8 (m:=firstArgMember _ _) (wpAny_of_eq (a:=Value.none) (by first | rfl | (simp only[firstArgMember]; rfl)) ?_)
 refine wpAny_newObj_type ?_ (by size_fits)
 simp only[raiseNew]
 refine G8 (wpAny_handled ?_)
 rw[show A.in1.handled=none from hh];refine G8 (Hc (wpAny_throw ?_))
 refine G8 (wpAny_isInstance (T := "StopIteration") (b:=true) ⟨_,zV _ rfl,rfl⟩ isSubtype_stop ?_)
 exact Hc (hQ _ ((((gv ..).trans (gv ..)).extBut.push _).push _))
end
theorem jz:Slot "set_iterator" "__iter__" "set_iterator.__iter__" :=
 .of (owner := "set_iterator") (n := "__iter__") (by rw[typeLookup_type,builtinLookup_eq_fast]; kernel_rfl) (by decide +kernel) (by decide +kernel) (by decide +kernel)
  (by first | exact .inl (by decide +kernel) | exact .inr (by decide +kernel)) (by rw[isSubtype_type]; kernel_rfl)
theorem oF:entryFor table "set_iterator.__iter__" = some Builtin.«dict_keyiterator.__iter__»:=
 entryFor_alias (id' := "dict_keyiterator.__iter__") (by kernel_rfl) rfl (by decide +kernel) (by kernel_rfl)
theorem qK(a:Value):argsOk "set_iterator.__iter__" ⟨[a],[]⟩:=by
 unfold argsOk; rw [signature?_of (id := "set_iterator.__iter__") (n:=['_','_','r','e','t','i','_','_']) (o:=['r','o','t','a','r','e','t','i','_','t','e','s']) (by kernel_rfl) pU]; kernel_rfl
section
variable{prog:Program}{w:World}{A:Around}{E:Value→Shared→Prop}{s:Shared}
theorem uC{it a:Addr}{first:Value}{i n ep:Nat}{Q:Value→Shared→Prop}(F:ER s.heap it first i a n ep)(h:Q (.ref it) s):wpAny (model prog w) A (pyIter (.ref it)) Q E s:=
 wpAny_pyIter_slot F.typeIs jz (wpAny_call_entry jz F.typeIs oF (G8 (Hc (Hc ⟨_,rfl, "set_iterator", _,F.typeIs,Aw.lookup,h⟩))) (qK _))
theorem ER.at'{h h':Heap}{it a:Addr}{first:Value}{i n ep:Nat}(x:ER h it first i a n ep)(e:∀ o,h.get? it=some o→h'.get? it=some o):ER h' it first i a n ep:=let ⟨o,ho,r⟩:=x; ⟨o,e _ ho,r⟩
theorem FV(hh:A.handled=none)(I a:Addr)(U:a≠I){o:Obj}{es:Array (Int × Value)}{ep:Nat}{t:SetTable}(hd:o.data = .set es ep t)(hf:t.fits es.size=true)(hg:cx (bw w) t)(Z:w.params.followText "set-order" = true∨(!t.plain&&decide (es.size>1))=false) :
  Walks prog w A I [I,a] [I] es.size (fun i v=>(fK w a ep es)[i]? = some v) (fun i h=>ER h I (.int (dg w t i) 0) i a es.size ep∧h.get? a=some o) where
 sub:=fun b F=>by simp at F; simp[F]
 frame:=fun _ _ _ st Y=>⟨st.1.at' fun o e=>Y I (by simp) o e,Y a (by simp) o st.2⟩
 item:=fun i s Q E hi st J=>by
  have hl:(fK w a ep es).length=es.size:=by rw[(iy (w:=w) a ep es).length_eq]; simp
  have hv:(fK w a ep es)[i]? = some (fK w a ep es)[i]:=zg (by omega)
  refine BU st.1 st.2 hd hf hg Z hi hv fun h' O S=>?_
  exact J _ h' s.toks hv ⟨O,S.extBut a o U st.2⟩ (fun b o F e=>S.extBut b o (fun h=>F (by simp[h])) e)
 done:=fun s Q E st J=>Fg hh st.1 st.2 hd hf hg Z fun h' W=>J h' s.toks fun b o F e=>W b o (fun h=>F (by simp[h])) e
 self:=fun _ _ _ _ st J=>uC st.1 J
theorem Ga(hh:A.handled=none)(I a S:Addr)(ad:a≠I)(ab:S≠I){o ot:Obj}{es:Array (Int × Value)}{ep ct:Nat}{t:SetTable}{ps:List Nat}(hd:o.data = .set es ep t)(hf:t.fits es.size=true)(Y:ot.data = .seq (ps.map fun i:Nat=>rawInt i).toArray ct)(hp:ps.Perm (List.range es.size)) :
  Walks prog w A I [I,a,S] [I] es.size (fun i v=>(ps.map fun k=>(es.getD k (0,.none)).2)[i]? = some v) (fun i h=>ER h I (.ref S) i a es.size ep∧h.get? a=some o∧h.get? S=some ot) where
 sub:=fun b U=>by simp at U; simp[U]
 frame:=fun _ _ _ st O=>⟨st.1.at' fun o e=>O I (by simp) o e,O a (by simp) o st.2.1,O S (by simp) ot st.2.2⟩
 item:=fun i s Q E hi st W=>by
  have hl:ps.length=es.size:=by rw[hp.length_eq]; simp
  have O:ps[i]? = some (ps[i]'(by omega)):=zg (by omega)
  have F:ps[i]'(by omega)<es.size:=Hm.mp (hp.mem_iff.mp (v5 _))
  have hv:(ps.map fun k=>(es.getD k (0,.none)).2)[i]? = some (es[ps[i]'(by omega)]'F).2:=by
   rw[zy,O];simp[Array.getD,F]
  refine Cq st.1 st.2.1 hd hf st.2.2 Y O (hh:=(es[ps[i]'(by omega)]'F).1) (v:=(es[ps[i]'(by omega)]'F).2) (wt F) fun h' Z J=>?_
  exact W _ h' s.toks hv ⟨Z,J.extBut a o ad st.2.1,J.extBut S ot ab st.2.2⟩ (fun b o U e=>J.extBut b o (fun h=>U (by simp[h])) e)
 done:=fun s Q E st W=>FJ hh st.1 st.2.1 hd hf st.2.2 Y (by rw[hp.length_eq]; simp) fun h' ag=>W h' s.toks fun b o U e=>ag b o (fun h=>U (by simp[h])) e
 self:=fun _ _ _ _ st W=>uC st.1 W
end
section
variable{prog:Program}{w:World}{A:Around}{E:Value→Shared→Prop}{s:Shared}
theorem qS{a:Addr}{Q:Bool→Shared→Prop}(O:s.TypeIs (.ref a) "set") (h:Q false s):wpAny (model prog w) A (Builtin.List.listLengthHint (.ref a)) Q E s:=by
 unfold Builtin.List.listLengthHint;refine G8 (wpAny_specialOf O F.slot_set_len.lookup ?_)
 generalize hid:("set.__len__" : String)=S
 wp_delta
 rw[show splitId S=some ("set", "__len__") from by subst hid; decide +kernel]
 subst hid;refine G8 (wpAny_isInstance (T := "set") (b:=true) O (by rw[isSubtype_type]; kernel_rfl) ?_)
 refine wpAny_ite_split (fun J=>absurd J (by decide)) (fun _=>?_)
 refine wpAny_ite_split (fun _=>?_) (fun J=>absurd (by decide +kernel) J)
 refine G8 (wpAny_typeOf O ?_)
 exact Hc h
theorem As{l:List Value}{acc:Array Value}(h:ItemsOf (fun i v=>l[i]? = some v) acc l.length):acc.toList=l:=by
 refine List.ext_getElem? fun i=>?_
 rw[mD]
 cases e:acc[i]? with
 | some v=>exact(h.2 i v e).symm
 | none=>
  have:acc.size≤i:=by simpa using e
  exact(G7 (by have:=h.1; omega)).symm
theorem sE{es:Array (Int × Value)}{ps:List Nat}(F:ps.Perm (List.range es.size)):(ps.map fun k=>(es.getD k (0,.none)).2).Perm (es.toList.map (·.2)):=by
 refine(F.map _).trans ?_
 refine List.Perm.of_eq ?_
 refine List.ext_getElem (by simp) fun i h1 h2=>?_
 have hi:i<es.size:=by simpa using h1
 simp[Array.getD,hi]
theorem vU{R:Result→Shared→Prop}{a:Addr}{o:Obj}{es:Array (Int × Value)}{ep:Nat}{t:SetTable}(hh:A.handled=none)(ho:s.heap.get? a=some o)(hx:o.ExactSet)(hd:o.data = .set es ep t)(hf:t.fits es.size=true)(ag:es.size<scanBound)(hg:cx (bw w) t)
  (S:Addr) (res:Value) (c₀ : Nat) (hS:s.heap.get? S=some { cls:=.type "list", data:=.seq #[] c₀ })
  (hR:∀ h' d' tk O c',(∀ b o,b≠S→s.heap.get? b=some o→h'.get? b=some o)→h'.get? S=some { cls:=.type "list", dict:=none,data:=.seq O c',slots:=#[] }→O.toList.Perm (es.toList.map (·.2))→R (.ok (.ret res)) { s with heap:=h',drawn:=d',toks:=tk }) :
  wpAny (model prog w) A.in1 (Builtin.List.listExtendWith (.ref S) (.ref a) res)
   (fun a9 s'=>match a9 with | .done f=>R (.ok f) s' | .again c'=>c'.quiet=true∧codeAny (model prog w) A c' R s') (fun e s'=>R (.error e) s') s:=by
 have hz:=fits_of_scanBound ag;have ad:a<s.heap.objs.size:=zA ho
 have Y:S<s.heap.objs.size:=zA hS
 have an:S≠a:=fun e=>by
  rw[e,ho]at hS
  cases hS
  cases hd
 have hT:s.TypeIs (.ref a) "set" := ⟨o,ho,hx.1⟩
 have e1:Builtin.List.listSameRef (.ref S) (.ref a)=false:=by simp[Builtin.List.listSameRef,an]
 have be:∀ (h2:Heap) (d2:Drawn) (c tk:Nat) (I:Addr) (fp:List Addr) (l:List Value) (St:Nat→Heap→Prop),l.length=es.size→l.Perm (es.toList.map (·.2))→Walks prog w A.in1 I fp [I] es.size (fun i v=>l[i]? = some v) St→S∉fp→s.heap.objs.size≤I→
   (∀ b o,b≠S→s.heap.get? b=some o→h2.get? b=some o)→h2.get? S=some { cls:=.type "list", data:=.seq #[] c }→St 0 h2→codeAny (model prog w) A (.builtin "list.extend.loop" ⟨[.ref S,.ref I,res],[]⟩) R { s with heap:=h2,drawn:=d2,toks:=tk }:=by
  intro h2 d2 c tk I fp l St hl hp W ab hI hk bg J
  refine codeAny_extend_loopS W.toS hz S ab res es.size 0 _ #[] c rfl (vL _) J bg (ItemsOf.nil _) fun s' O c' hm a8 a7=>?_
  rw[Moved.eq_with hm];refine hR s'.heap d2 s'.toks O c' (fun b o hb e=>hm.heap b o (fun U=>?_) (hk b o hb e)) a8 (by rw[As (by rw[hl]; exact a7)]; exact hp)
  rcases Hi.mp U with e' | U
  ·exact hb e'
  ·have:=zA e
   rw[Hg.mp U]at this
   exact absurd this (Nat.not_lt.mpr hI)
 unfold Builtin.List.listExtendWith;refine G8 (wpAny_typeOf hT ?_)
 rw[He (by rw[e1]; decide)]
 /- the list makes room, then the loop -/
 have Z:∀ (h2:Heap) (d2:Drawn) (I:Addr) (fp:List Addr) (l:List Value) (St:Nat→Heap→Prop),l.length=es.size→l.Perm (es.toList.map (·.2))→Walks prog w A.in1 I fp [I] es.size (fun i v=>l[i]? = some v) St→S∉fp→s.heap.objs.size≤I→
   (∀ b o,s.heap.get? b=some o→h2.get? b=some o)→St 0 h2→
   wpAny (model prog w) A.in1 (updateSeq S (·.push .none) >>= fun _=>updateSeq S (·.pop)) (fun _ s'=>codeAny (model prog w) A (.builtin "list.extend.loop" ⟨[.ref S,.ref I,res],[]⟩) R s') (fun e s'=>R (.error e) s') { s with heap:=h2,drawn:=d2 }:=by
  intro h2 d2 I fp l St hl hp W ab hI hk J
  have a5:=hk _ _ hS;refine G8 (wpAny_updateSeq a5 rfl ?_)
  have a6:=mr (Obj.mapSeq (·.push Value.none)) a5 rfl;refine wpAny_updateSeq (hz:=by seq_fits) a6 rfl ?_
  have bp:=mr (Obj.mapSeq (·.pop)) a6 rfl
  have a4:∀ b o,b≠S→h2.get? b=some o→((h2.update S (Obj.mapSeq (·.push Value.none))).update S (Obj.mapSeq (·.pop))).get? b=some o:=fun b o hb e=>
   (zaJ _ _ (ve hb)).trans ((zaJ _ _ (ve hb)).trans e)
  exact be _ d2 _ s.toks I fp l St hl hp W ab hI (fun b o hb e=>a4 b o hb (hk b o e)) bp (W.frame 0 _ _ J fun b hb o e=>a4 b o (fun z=>ab (z ▸ hb)) e)
 refine G8 (BP ho hx hd hf ag (fun a3=>?_) fun ps d' hp=>?_)
 ·have al:Shared.TypeIs { s with heap:=s.heap.push { cls:=.type "set_iterator", data:=.fields #[.int 0 0,.int 0 0,.ref a,.int es.size 0,.int ep 0] } } (.ref a) "set" := ⟨o,zz _ ho,hx.1⟩
  refine G8 (wpAny_holding (qS al ?_))
  have hn:w.params.followText "set-order" = true∨(!t.plain&&decide (es.size>1))=false:=by
   cases hb:w.params.followText "set-order" with
   | true=>exact .inl rfl
   | false=>rw[hb]at a3; exact .inr (by simpa using a3)
  have J:ER (s.heap.push { cls:=.type "set_iterator", data:=.fields #[.int 0 0,.int 0 0,.ref a,.int es.size 0,.int ep 0] }) s.heap.objs.size (.int (dg w t 0) 0) 0 a es.size ep:=by
   refine⟨_,zV _ rfl,rfl,?_⟩
   unfold dg;split <;> simp
  refine wpAny_ite_split (fun _=>?_) (fun as=>absurd (by decide +kernel) as)
  refine G8 (wpAny_rule ?_)
  refine G8 (wpAny_mono (Z _ s.drawn _ _ _ _ (by rw[(iy (w:=w) a ep es).length_eq]; simp) (iy a ep es) (FV (A:=A.in1) hh s.heap.objs.size a (zR ad) hd hf hg hn) (fun hm=>?_) (zl _) (fun b o e=>zz _ e) ⟨J,zz _ ho⟩) (fun _ s' hc=>Hc ⟨plainId_quiet F.plain_extend_loop _,hc⟩) (fun _ _ he=>he))
  rcases Hi.mp hm with z | z
  ·exact absurd z (zR Y)
  ·exact an (Hg.mp z)
 ·have al:Shared.TypeIs { s with heap:=(s.heap.push { cls:=.type "tuple", data:=.seq (ps.map fun i:Nat=>rawInt i).toArray }).push { cls:=.type "set_iterator", data:=.fields #[.ref s.heap.objs.size,.int 0 0,.ref a,.int es.size 0,.int ep 0] },drawn:=d' } (.ref a) "set" := ⟨o,zz _ (zz _ ho),hx.1⟩
  refine G8 (wpAny_holding (qS al ?_))
  refine wpAny_ite_split (fun _=>?_) (fun as=>absurd (by decide +kernel) as)
  refine G8 (wpAny_rule ?_)
  have J:ER ((s.heap.push { cls:=.type "tuple", data:=.seq (ps.map fun i:Nat=>rawInt i).toArray }).push { cls:=.type "set_iterator", data:=.fields #[.ref s.heap.objs.size,.int 0 0,.ref a,.int es.size 0,.int ep 0] }) (s.heap.objs.size+1) (.ref s.heap.objs.size) 0 a es.size ep:=by
   have:=zV (s.heap.push { cls:=.type "tuple", data:=.seq (ps.map fun i:Nat=>rawInt i).toArray }) (rfl:Obj.isFreed { cls:=.type "set_iterator", data:=.fields #[.ref s.heap.objs.size,.int 0 0,.ref a,.int es.size 0,.int ep 0] }=false)
   rw[vY]at this
   exact⟨_,this,rfl,rfl⟩
  refine G8 (wpAny_mono (Z _ d' _ _ _ _ (by rw[ze,hp.length_eq]; simp) (sE hp) (Ga (A:=A.in1) hh (s.heap.objs.size+1) a s.heap.objs.size (zR (lW ad)) (zR (zaw _)) hd hf rfl hp) (fun hm=>?_) (Nat.le_succ _) (fun b o e=>zz _ (zz _ e)) ⟨J,zz _ (zz _ ho),zz _ (zV _ rfl)⟩) (fun _ s' hc=>Hc ⟨plainId_quiet F.plain_extend_loop _,hc⟩) (fun _ _ he=>he))
  rcases Hi.mp hm with z | z
  ·exact absurd z (zR (lW Y))
  ·rcases Hi.mp z with z | z
   ·exact an z
   ·exact absurd (Hg.mp z) (zR Y)
theorem lr{a:Addr}{o:Obj}{es:Array (Int × Value)}{ep:Nat}{t:SetTable}{Q:List Value→Shared→Prop}(hh:A.handled=none)(ho:s.heap.get? a=some o)(hx:o.ExactSet)(hd:o.data = .set es ep t)(hf:t.fits es.size=true)(U:es.size<scanBound)(hg:cx (bw w) t)
  (hQ:∀ h' d' S acc,(∀ b o,s.heap.get? b=some o→h'.get? b=some o)→s.heap.objs.size<h'.objs.size→acc.Perm (es.toList.map (·.2))→Q acc { s with heap:=h',drawn:=d',toks:=S }):wpAny (model prog w) A (collect (.ref a)) Q E s:=by
 have ext:∀ R:Result→Shared→Prop,(∀ h' d' S J W,(∀ b o,s.heap.get? b=some o→h'.get? b=some o)→h'.get? s.heap.objs.size=some { cls:=.type "list", dict:=none,data:=.seq J W,slots:=#[] }→J.toList.Perm (es.toList.map (·.2))→R (.ok (.ret (.ref s.heap.objs.size))) { s with heap:=h',drawn:=d',toks:=S })→
   codeAny (model prog w) A (.builtin "proto.collect" ⟨[.ref a],[]⟩) R s:=fun R hR=>by
  refine codeAny_builtin F.entry_proto_collect ?_
  rw[GU F.plain_proto_collect _];show wpAny _ A.in1 (newList [] >>= fun l=>again (.builtin "list.__iadd__" ⟨[l,.ref a],[]⟩)) _ _ s
  refine G8 (wpAny_newObj_type ?_)
  refine Hc ⟨plainId_quiet F.plain_list_iadd _,codeAny_builtin F.entry_list_iadd ?_⟩
  rw[GU F.plain_list_iadd _];show wpAny _ A.in1 (Builtin.List.listExtendWith (.ref s.heap.objs.size) (.ref a) (.ref s.heap.objs.size)) _ _ _
  refine vU (R:=R) (s:={ s with heap:=s.heap.push { cls:=.type "list", data:=.seq ([]:List Value).toArray } }) hh (zz _ ho) hx hd hf U hg s.heap.objs.size _ 0 (zV _ rfl) fun h' d' S J W Y O Z=>?_
  exact hR h' d' S J W (fun b o e=>Y b o (zR (zA e)) (zz _ e)) O Z
 unfold collect;refine G8 (wpAny_runValue (ext _ fun h' d' S J W Y O Z=>?_))
 show wpAny _ A (load s.heap.objs.size >>= _) _ _ _
 refine G8 (wpAny_load O ?_)
 exact Hc (hQ h' d' S J.toList Y (zA O) Z)
end
end L2
namespace L2
open PySem PySem.Spec PyProof PyProof.Rows
section
variable{X:Cx}
theorem xI:bootBuiltins "max" = some (.builtin "max"):=by decide +kernel
end
inductive FD (w:World):List DictEntry→List (Str × V)→Prop
 | nil:FD w [] []
 | cons {x:Str} {t:Tok} {y:V} {v:Value} {es:List DictEntry} {kvs:List (Str × V)}:RelV y v→FD w es kvs→FD w (⟨PyData.keyHash w.params x,.str x t,v⟩::es) ((x,y)::kvs)
theorem FD.vs{P:Program}{w:World}{es:List DictEntry}{kvs:List (Str × V)}(h:FD w es kvs):∃ vs:List (Str × Value),KV kvs vs∧PySem.Pairs (PySem.strKind P w) es vs∧vs.map (·.1)=kvs.map (·.1)∧∀ e∈es,∃ k,(PySem.strKind P w).is k e.key=true∧e.hash=(PySem.strKind P w).hash k:=by
 induction h with
 | nil=>exact⟨[],.nil,.nil,rfl,fun _ h=>nomatch h⟩
 | @cons x t y v es kvs r _ ih=>
  obtain⟨vs,h1,h2,O,J⟩:=ih
  have hx:(PySem.strKind P w).is x (.str x t)=true:=by show Value.isStrOf x (.str x t)=true; simp[Value.isStrOf]
  refine⟨(x,v)::vs,.cons ⟨rfl,r⟩ h1,.cons hx rfl h2,by rw[zW,zW,O],fun e F=>?_⟩
  rcases Hi.mp F with rfl | F
  ·exact⟨x,hx,rfl⟩
  ·exact J e F
structure E8 (w:World) (K:W.Frag) (d:Addr) (kvs:List (Str × V)):Prop where
 low:(d == sysModules)=false
 nd:(kvs.map (·.1)).Nodup
 at':∃ (o:Obj) (es:List DictEntry) (ep:Nat),K.lookup d=some o∧o.ExactDict∧o.data = .dict es.toArray ep∧FD w es kvs
section
variable{X:Cx}{pins:List (Addr × Obj)}{σ : St}{H:Hp}{s:Shared}{d:Addr}{kvs:List (Str × V)}
theorem E8.dict(h:E8 X.w X.K d kvs)(I:Inv X pins σ H s):∃ vs:List (Str × Value),KV kvs vs∧s.heap.DictOf (PySem.strKind X.prog X.w) d vs∧∃ ob,s.heap.get? d=some ob∧ob.dict=none:=by
 obtain⟨o,es,ep,h1,h2,U,J⟩:=h.at'
 obtain⟨vs,O,W,F,S⟩:=J.vs (P:=X.prog)
 have e:=I.kIn d o h1;exact⟨vs,O,⟨o,es.toArray,ep,e,h2,U,fun x hx=>S x (by simpa using hx),by simpa using W,by rw[F]; exact h.nd⟩,o,e,h2.2.1⟩
theorem xo{P:Program}{w:World}{k:Str}{u:Value}(r:RelV (.str k) u):(PySem.strKind P w).is k u=true:=by
 obtain⟨t,rfl⟩:=r
 show Value.isStrOf k (.str k t)=true
 simp[Value.isStrOf]
end
section
variable{X:Cx}
noncomputable def JC(w:World)(K:W.Frag):R2:=fun x y H Q=>∃ d kvs k z,x = .ref d∧y = .str k∧E8 w K d kvs∧cf kvs k=some z∧Q z H
theorem JZ(w:World)(K:W.Frag)(O:X.w=w:=by rfl)(hK:X.K=K:=by rfl):Fq X (JC w K):=by
 subst O hK;intro value J pins s σ H x y v u Q I rx Y h hs
 obtain⟨d,kvs,k,z,rfl,rfl,m,l,q⟩:=h
 cases rx;obtain⟨vs,U,dd,_⟩:=m.dict I
 obtain⟨Z,O,S⟩:=EU.some_of (v:=z) (o:=valueAt vs k) (by rw[← l]; exact U.val k)
 have hl:typeLookup (.type "dict") "__getitem__" = pure (some (.builtin "dict.__getitem__")):=F.slot_dict_getitem.lookup
 exact subscriptTail_builtinR (x:=Z) dd.typeIs hl (wpAny_getItem_of (xo Y) dd.mapOf O ⟨rfl,z,H,I.tok _,S,q⟩) hs
noncomputable def FW(w:World)(K:W.Frag):V→List V→Hp→VK→Prop:=fun x xs H Q=>∃ d kvs k z,x = .ref d∧xs=[.str k,z]∧E8 w K d kvs∧Q ((cf kvs k).getD z) H
theorem B_(w:World)(K:W.Frag)(O:X.w=w:=by rfl)(hK:X.K=K:=by rfl):Fh X "dict.get" (FW w K):=by
 subst O hK;intro pins s σ H x vs v us Q I Z Y h
 obtain⟨d,kvs,k,z,rfl,rfl,m,q⟩:=h
 cases Z;obtain⟨u,r,rfl,U,S⟩:=kS Y
 obtain⟨vs,J,dd,_⟩:=m.dict I
 refine call_meetsIn F.slot_dict_get dd.typeIs F.entry_dict_get (F.args_dict_get_3 _ _ _) (meets_dict_get_default (PySem.strKind X.prog X.w) d (xo U) m.low r) ⟨_,dd.mapOf,_,H,I.tok _,?_,q⟩
 exact(J.val k).getD S
noncomputable def Dk(w:World)(K:W.Frag)(r:V→List V→Hp→VK→Prop)(to:TE)(t:TA):TE:=fun σ H Q=>to σ H fun x H1=>(∃ d kvs,x = .ref d∧E8 w K d kvs)∧t σ H1 fun xs H2=>r x xs H2 Q
theorem DG{o e:Expr}{es:List Expr}{to:TE}{t:TA}{name:Str}{apos cpos:Pos}{id:String}{r:V→List V→Hp→VK→Prop}(w:World)(K:W.Frag)(pa:PlainAttrs "dict") (slot:Slot "dict" name id) (J:typeOf (.builtin id)=pure (.type "method_descriptor")) (hm:Fh X id r) (ho:PE X o to) (ha:PA X (e::es) t)
  (F:attributeBase o name X.env (eval o X.env)=eval o X.env:=by rfl)
  (hfew:((backTo cpos (starEach (e::es) X.env)).all (fun x=>!x.1)&&(backToKw cpos (keywordEach [] X.env)).all (fun x=>x.1.isSome)&&decide ((e::es).length+([]:List Keyword).length+(if ([]:List Keyword).isEmpty then 0 else 1)<30))=true:=by rfl)
  (hline:(apos.endLine == cpos.line)=true:=by rfl) (hs:starEach (e::es) X.env=(false,eval e X.env)::starEach es X.env:=by rfl) (hplain:(backTo cpos (starEach es X.env)).any (·.1)=false:=by rfl) (hw:X.w=w:=by rfl) (hK:X.K=K:=by rfl) :
  PE X (.Call (.Attribute o name apos) (e::es) [] cpos) (Dk w K r to t):=by
 subst hw hK;intro pins s σ H Q I h
 refine wpAny_Call_method_late F hfew hline rfl (bu (ho pins s σ H _ I h) fun v s1 ⟨x,H1,U,O,ty,q1⟩=>?_)
 obtain⟨d,kvs,rfl,m⟩:=ty
 have e1:v = .ref d:=O
 subst e1;obtain⟨vs,Y,dd,ob,eo,en⟩:=m.dict U
 refine⟨"dict", id,pa,slot,J,dd.typeIs,fun a ea=>⟨ob,by cases ea; exact eo,en⟩,?_⟩
 have S:=ha cpos pins s1 σ H1 _ U q1;rw[hs]at S ⊢
 refine zbf (by show (false||(backTo cpos (starEach es X.env)).any (·.1))=false; rw[hplain] <;> rfl) (Calls.evalArgs_plain ?_)
 exact bu S fun us s2 ⟨vs,H2,I2,r2,Z⟩=>hm pins s2 σ H2 _ vs _ us Q I2 O r2 Z
end
theorem uG{w:World}{K:W.Frag}{r:V→List V→Hp→VK→Prop}{to:TE}{t:TA}{σ : St}{H:Hp}{Q:VK}:Dk w K r to t σ H Q=to σ H fun x H1=>(∃ d kvs,x = .ref d∧E8 w K d kvs)∧t σ H1 fun xs H2=>r x xs H2 Q:=rfl
section
variable{prog:Program}{w:World}{A:Around}{E:Value→Shared→Prop}{s:Shared}
def E7(i t:Addr)(zs:Array Value)(k:Nat)(h:Heap):Prop:=h.IsTupleIter i t k∧h.IsTuple t zs
theorem E7.ext{i t b:Addr}{zs:Array Value}{k:Nat}{h h':Heap}(x:E7 i t zs k h)(F:Heap.ExtBut b h h')(n1:i≠b)(J:t≠b):E7 i t zs k h':=⟨x.1.extBut F n1,x.2.extBut F J⟩
theorem kA{i t:Addr}{k:Nat}{zs:Array Value}{v:Value}{Q:Value→Shared→Prop}(st:E7 i t zs k s.heap)(U:t≠i)(hv:zs[k]? = some v)
  (q:∀ h',E7 i t zs (k+1) h'→Heap.SameBut i s.heap h'→Q v { s with heap:=h' }):wpAny (model prog w) A (Builtin.SmallTypes.nextOf (.ref i)) Q E s:=by
 obtain⟨hi,W⟩:=id st
 obtain⟨ob,O,e2,J⟩:=id hi
 obtain⟨ot,Z,_,m,Y⟩:=id W
 unfold Builtin.SmallTypes.nextOf;refine G8 (wpAny_callSpecial?_slot (name:=Str.ofString "__next__") hi.typeIs za2 (wpAny_call_entry za2 hi.typeIs F.entry_tuple_iterator_next ?_ (F.args_tuple_iterator_next_1 _)))
 show wpAny _ _ (field (.ref i) 0 >>= _) _ _ s
 refine G8 (wpAny_field O J (x:=.ref t) rfl ?_)
 show wpAny _ _ (if (Value.ref t == Value.none)=true then _ else _) _ _ s
 have S:¬ ((Value.ref t == Value.none)=true):=wj
 rw[He S];show wpAny _ _ (field (.ref i) 1 >>= _) _ _ s
 refine G8 (wpAny_field O J (x:=.int k 0) rfl ?_)
 show wpAny _ _ (seqItems? (.ref t) >>= _) _ _ s
 refine G8 (wpAny_seqItems Z Y ?_)
 simp only[vO,hv]
 refine G8 (wpAny_setField O J (by simp) (Hc ⟨v,rfl,Hc (q _ ⟨?_,?_⟩ (gv ..))⟩))
 ·exact⟨_,mr _ O (zay (GF J _)),(zaO ..).trans e2,by rw[GF J]; simp[rawInt]⟩
 ·exact W.extBut (gv ..).extBut U
theorem tW{i t:Addr}{k:Nat}{zs:Array Value}{Q:Value→Shared→Prop}(hh:A.handled=none)(st:E7 i t zs k s.heap)(hv:zs[k]? = none)
  (q:∀ h' e,Heap.ExtBut i s.heap h'→(∃ o,h'.get? e=some o∧o.cls = .type "StopIteration")→E (.ref e) { s with heap:=h' }):wpAny (model prog w) A (Builtin.SmallTypes.nextOf (.ref i)) Q E s:=by
 obtain⟨hi,Z⟩:=id st
 obtain⟨ob,S,e2,O⟩:=id hi
 obtain⟨ot,W,_,m,U⟩:=id Z
 unfold Builtin.SmallTypes.nextOf;refine G8 (wpAny_callSpecial?_slot (name:=Str.ofString "__next__") hi.typeIs za2 (wpAny_call_entry za2 hi.typeIs F.entry_tuple_iterator_next ?_ (F.args_tuple_iterator_next_1 _)))
 show wpAny _ _ (field (.ref i) 0 >>= _) _ _ s
 refine G8 (wpAny_field S O (x:=.ref t) rfl ?_)
 show wpAny _ _ (if (Value.ref t == Value.none)=true then _ else _) _ _ s
 have J:¬ ((Value.ref t == Value.none)=true):=wj
 rw[He J];show wpAny _ _ (field (.ref i) 1 >>= _) _ _ s
 refine G8 (wpAny_field S O (x:=.int k 0) rfl ?_)
 show wpAny _ _ (seqItems? (.ref t) >>= _) _ _ s
 refine G8 (wpAny_seqItems W U ?_)
 simp only[vO,hv]
 refine G8 (wpAny_rule (G8 (wpAny_setField S O (by simp) ?_)))
 show wpAny _ _ (newExc (.type "StopIteration") [] >>= fun z=>_) _ _ _
 refine G8 ?_
 simp only[newTuple,newExc]
 refine G8 (wpAny_newObj_type (hd:=by size_fits) ?_)
 refine G8 (m:=firstArgMember _ _) (wpAny_of_eq (a:=Value.none) (by first | (simp only[firstArgMember]; rfl) | rfl) ?_)
 refine wpAny_newObj_type (hd:=by size_fits) ?_
 simp only[raiseNew]
 refine G8 (wpAny_handled ?_)
 have Y:A.in1.handled=none:=hh
 first | rw[Y] | rw[hh]
 refine G8 (Hc (wpAny_throw (q _ _ (((gv ..).extBut.push _).push _) ⟨_,zV _ rfl,rfl⟩)))
variable{z TI TO i1 i2 t1 t2:Addr}{xs ys:Array Value}{k1 k2:Nat}{a b:Value}
theorem xV{x y:Value}{Q:Value→Shared→Prop}(D:ZipApart z TI TO i1 i2 t1 t2)(Z:IsZip s.heap z TI TO .none)(gI:IsPair s.heap TI (.ref i1) (.ref i2))(gO:IsPair s.heap TO a b)
  (g1:E7 i1 t1 xs k1 s.heap) (g2:E7 i2 t2 ys k2 s.heap) (hx:xs[k1]? = some x) (hy:ys[k2]? = some y)
  (q:∀ h',IsZip h' z TI TO (rawInt s.heap.objs.size)→IsPair h' TO x y→E7 i1 t1 xs (k1+1) h'→E7 i2 t2 ys (k2+1) h'→IsPair h' s.heap.objs.size x y→h'.objs.size=s.heap.objs.size+1→
   (∀ c o,c≠z→c≠TO→c≠i1→c≠i2→s.heap.get? c=some o→h'.get? c=some o)→Q (.ref s.heap.objs.size) { s with heap:=h' }) :
  wpAny (model prog w) A (Builtin.«zip.__next__» ⟨[.ref z],[]⟩) (fun ad s'=>∃ v,ad = .done (.ret v)∧Q v s') E s:=by
 show wpAny _ _ (field (.ref z) 2 >>= fun _=>_) _ _ _
 refine G8 (wpAny_field Z rfl (x:=.bool false) rfl ?_)
 show wpAny _ _ (field (.ref z) 3 >>= fun _=>_) _ _ _
 refine G8 (wpAny_field Z rfl (x:=.ref TI) rfl (G8 (wpAny_seqItems gI rfl ?_)))
 show wpAny _ _ (Builtin.SmallTypes.ownedTupleIsFree (.ref z) >>= fun _=>_) _ _ _
 refine G8 ?_
 unfold Builtin.SmallTypes.ownedTupleIsFree;refine G8 (wpAny_field Z rfl (x:=.none) rfl (Hc ?_))
 simp only[if_true]
 refine G8 (wpAny_rule (G8 (wpAny_field Z rfl (x:=.ref TO) rfl (G8 (wpAny_setField_rec Z (by simp) fun ha z1 W=>?_)))))
 replace z1:IsZip ha z TI TO .ellipsis:=z1
 refine G8 ?_
 simp only[zaP,List.zipIdx_cons,zaQ,List.forIn_cons]
 refine G8 (G8 (wpAny_onRaise ?_))
 show wpAny _ _ (Builtin.SmallTypes.nextOf (.ref i1) >>= fun _=>_) _ _ _
 refine G8 (kA (g1.ext W.extBut D.i1z D.l1z) D.l1i1 hx fun hb r1 O=>Hc ?_)
 have o2:IsPair hb TO a b:=O.extBut _ _ D.TOi1 (W.extBut _ _ D.TOz gO)
 refine G8 (wpAny_seqItems o2 rfl (G8 (wpAny_updateSeq_pair o2 fun hc o3 U=>G8 (wpAny_letGo (Hc ?_)))))
 replace o3:IsPair hc TO x b:=o3
 refine G8 (G8 (wpAny_onRaise ?_))
 show wpAny _ _ (Builtin.SmallTypes.nextOf (.ref i2) >>= fun _=>_) _ _ _
 refine G8 (kA (((g2.ext W.extBut D.i2z D.l2z).ext O.extBut D.i12.symm D.l2i1).ext U.extBut D.TOi2.symm D.l2TO) D.l2i2 hy fun hd r2 S=>Hc ?_)
 have o4:IsPair hd TO x b:=S.extBut _ _ D.TOi2 o3
 refine G8 (wpAny_seqItems o4 rfl (G8 (wpAny_updateSeq_pair o4 fun F o5 m5=>G8 (wpAny_letGo (Hc (Hc ?_))))))
 replace o5:IsPair F TO x y:=o5
 refine G8 (wpAny_seqItems o5 rfl (G8 (wpAny_newTuple ?_)))
 have hsz:F.objs.size=s.heap.objs.size:=by rw[m5.1,S.1,U.1,O.1,W.1]
 have z5:IsZip F z TI TO .ellipsis:=m5.extBut _ _ D.TOz.symm (S.extBut _ _ D.i2z.symm (U.extBut _ _ D.TOz.symm (O.extBut _ _ D.i1z.symm z1)))
 have kp:∀ c o,c≠z→c≠TO→c≠i1→c≠i2→s.heap.get? c=some o→F.get? c=some o:=fun c o J c2 c3 c4 e=>m5.extBut _ _ c2 (S.extBut _ _ c4 (U.extBut _ _ c2 (O.extBut _ _ c3 (W.extBut _ _ J e))))
 have ab:E7 i1 t1 xs (k1+1) F:=((r1.ext U.extBut D.TOi1.symm D.l1TO).ext S.extBut D.i12 D.l1i2).ext m5.extBut D.TOi1.symm D.l1TO
 have ag:E7 i2 t2 ys (k2+1) F:=r2.ext m5.extBut D.TOi2.symm D.l2TO
 have Y:z<F.objs.size:=zA z5
 show wpAny _ _ (Builtin.SmallTypes.ownedTupleHandOut (.ref z) (.ref F.objs.size) >>= fun _=>_) _ _ _
 refine G8 ?_
 unfold Builtin.SmallTypes.ownedTupleHandOut;have z6:IsZip (F.push { cls:=.type "tuple", data:=.seq #[x,y] }) z TI TO .ellipsis:=zz _ z5
 refine G8 (wpAny_setField_rec z6 (by simp) fun hf z7 m7=>?_)
 replace z7:IsZip hf z TI TO (rawInt F.objs.size):=z7
 refine wpAny_setField_rec z7 (by simp) fun hg z8 m8=>?_
 replace z8:IsZip hg z TI TO (rawInt F.objs.size):=z8
 have up:∀ c o,c≠z→F.get? c=some o→hg.get? c=some o:=fun c o J e=>m8.extBut _ _ J (m7.extBut _ _ J (zz _ e))
 have t8:IsPair hg F.objs.size x y:=m8.extBut _ _ (GI Y) (m7.extBut _ _ (GI Y) (zV _ rfl))
 have s8:hg.objs.size=F.objs.size+1:=by rw[m8.1,m7.1,vY]
 rw[hsz]at z8 t8 s8
 refine Hc ⟨_,rfl,?_⟩
 show Q (.ref F.objs.size) _
 rw[hsz];have ex:Heap.ExtBut z F hg:=fun c o J e=>up c o J e
 exact q hg z8 (up _ _ D.TOz o5) (ab.ext ex D.i1z D.l1z) (ag.ext ex D.i2z D.l2z) t8 s8 fun c o J c2 c3 c4 e=>up c o J (kp c o J c2 c3 c4 e)
theorem Av{Q:Fin→Shared→Prop}(hh:A.handled=none)(D:ZipApart z TI TO i1 i2 t1 t2)(W:IsZip s.heap z TI TO .none)(gI:IsPair s.heap TI (.ref i1) (.ref i2))(gO:IsPair s.heap TO a b)
  (g1:E7 i1 t1 xs k1 s.heap) (g2:E7 i2 t2 ys k2 s.heap) (Y:xs[k1]? = none∨ys[k2]? = none)
  (q:∀ h' e,(∀ c o,c≠z→c≠TO→c≠i1→c≠i2→s.heap.get? c=some o→h'.get? c=some o)→(∃ o,h'.get? e=some o∧o.cls = .type "StopIteration")→E (.ref e) { s with heap:=h' }) :
  wpAny (model prog w) A (Builtin.«zip.__next__» ⟨[.ref z],[]⟩) Q E s:=by
 show wpAny _ _ (field (.ref z) 2 >>= fun _=>_) _ _ _
 refine G8 (wpAny_field W rfl (x:=.bool false) rfl ?_)
 show wpAny _ _ (field (.ref z) 3 >>= fun _=>_) _ _ _
 refine G8 (wpAny_field W rfl (x:=.ref TI) rfl (G8 (wpAny_seqItems gI rfl ?_)))
 show wpAny _ _ (Builtin.SmallTypes.ownedTupleIsFree (.ref z) >>= fun _=>_) _ _ _
 refine G8 ?_
 unfold Builtin.SmallTypes.ownedTupleIsFree;refine G8 (wpAny_field W rfl (x:=.none) rfl (Hc ?_))
 simp only[if_true]
 refine G8 (wpAny_rule (G8 (wpAny_field W rfl (x:=.ref TO) rfl (G8 (wpAny_setField_rec W (by simp) fun ha Z O=>?_)))))
 replace Z:IsZip ha z TI TO .ellipsis:=Z
 refine G8 ?_
 simp only[zaP,List.zipIdx_cons,zaQ,List.forIn_cons]
 refine G8 (G8 (wpAny_onRaise ?_))
 show wpAny _ _ (Builtin.SmallTypes.nextOf (.ref i1) >>= fun _=>_) _ _ _
 have stop:∀ {h':Heap} {e:Addr},IsZip h' z TI TO .ellipsis→(∃ o,h'.get? e=some o∧o.cls = .type "StopIteration")→e≠z:=fun {h' e} hz ⟨o,ho,hc⟩ n=>by
  subst n; rw[hz]at ho; cases ho; simp at hc
 rcases hx:xs[k1]? with _ | x
 ·refine G8 (tW hh (g1.ext O.extBut D.i1z D.l1z) hx fun hb e F U=>?_)
  have z2:IsZip hb z TI TO .ellipsis:=F _ _ D.i1z.symm Z
  have nz:=stop z2 U;obtain⟨oe,p1,p2⟩:=U
  exact wpAny_setField_rec z2 (by simp) fun hc _ J=>q hc e (fun c o S _ c3 _ x=>J.extBut _ _ S (F _ _ c3 (O.extBut _ _ S x))) ⟨oe,J.extBut _ _ nz p1,p2⟩
 ·have hy:ys[k2]? = none:=by
   rcases Y with h | h
   ·rw[hx]at h; cases h
   ·exact h
  refine G8 (kA (g1.ext O.extBut D.i1z D.l1z) D.l1i1 hx fun hb r1 F=>Hc ?_)
  have o2:IsPair hb TO a b:=F.extBut _ _ D.TOi1 (O.extBut _ _ D.TOz gO)
  refine G8 (wpAny_seqItems o2 rfl (G8 (wpAny_updateSeq_pair o2 fun hc o3 J=>G8 (wpAny_letGo (Hc ?_)))))
  refine G8 (G8 (wpAny_onRaise ?_))
  show wpAny _ _ (Builtin.SmallTypes.nextOf (.ref i2) >>= fun _=>_) _ _ _
  refine G8 (tW hh (((g2.ext O.extBut D.i2z D.l2z).ext F.extBut D.i12.symm D.l2i1).ext J.extBut D.TOi2.symm D.l2TO) hy fun hd e m4 U=>?_)
  have z4:IsZip hd z TI TO .ellipsis:=m4 _ _ D.i2z.symm (J.extBut _ _ D.TOz.symm (F.extBut _ _ D.i1z.symm Z))
  have nz:=stop z4 U;obtain⟨oe,p1,p2⟩:=U
  exact wpAny_setField_rec z4 (by simp) fun hg _ m5=>q hg e (fun c o S c2 c3 c4 x=>m5.extBut _ _ S (m4 _ _ c4 (J.extBut _ _ c2 (F.extBut _ _ c3 (O.extBut _ _ S x))))) ⟨oe,m5.extBut _ _ nz p1,p2⟩
end
section
variable{prog:Program}{w:World}{A:Around}{E:Value→Shared→Prop}{s:Shared}{z TI TO i1 i2 t1 t2:Addr}{xs ys:Array Value}{k1 k2:Nat}{a b:Value}
theorem uP{x y:Value}{Q:Option Value→Shared→Prop}(D:ZipApart z TI TO i1 i2 t1 t2)(J:IsZip s.heap z TI TO .none)(W:IsPair s.heap TI (.ref i1) (.ref i2))(gO:IsPair s.heap TO a b)
  (g1:E7 i1 t1 xs k1 s.heap) (g2:E7 i2 t2 ys k2 s.heap) (hx:xs[k1]? = some x) (O:ys[k2]? = some y)
  (q:∀ h',IsZip h' z TI TO (rawInt s.heap.objs.size)→IsPair h' TO x y→E7 i1 t1 xs (k1+1) h'→E7 i2 t2 ys (k2+1) h'→IsPair h' s.heap.objs.size x y→h'.objs.size=s.heap.objs.size+1→
   (∀ c o,c≠z→c≠TO→c≠i1→c≠i2→s.heap.get? c=some o→h'.get? c=some o)→Q (some (.ref s.heap.objs.size)) { s with heap:=h' }):wpAny (model prog w) A (pyNext (.ref z)) Q E s:=by
 have ty:s.TypeIs (.ref z) "zip" := ⟨_,J,rfl⟩
 unfold pyNext
 exact G8 (wpAny_attempt (wpAny_callSpecial?_slot (name:=Str.ofString "__next__") ty za3 (wpAny_call_entry za3 ty F.entry_zip_next
  (xV D J W gO g1 g2 hx O fun h' a1 a2 S Z a5 Y U=>Hc (q h' a1 a2 S Z a5 Y U)) (F.args_zip_next_1 _))))
theorem yO{Q:Option Value→Shared→Prop}(hh:A.handled=none)(D:ZipApart z TI TO i1 i2 t1 t2)(O:IsZip s.heap z TI TO .none)(W:IsPair s.heap TI (.ref i1) (.ref i2))(gO:IsPair s.heap TO a b)
  (g1:E7 i1 t1 xs k1 s.heap) (Z:E7 i2 t2 ys k2 s.heap) (J:xs[k1]? = none∨ys[k2]? = none)
  (q:∀ h',(∀ c o,c≠z→c≠TO→c≠i1→c≠i2→s.heap.get? c=some o→h'.get? c=some o)→Q none { s with heap:=h' }):wpAny (model prog w) A (pyNext (.ref z)) Q E s:=by
 have ty:s.TypeIs (.ref z) "zip" := ⟨_,O,rfl⟩
 unfold pyNext
 refine G8 (wpAny_attempt (wpAny_callSpecial?_slot (name:=Str.ofString "__next__") ty za3 (wpAny_call_entry za3 ty F.entry_zip_next
  (Av hh D O W gO g1 Z J fun h' e kk U=>?_) (F.args_zip_next_1 _))))
 obtain⟨o,Y,S⟩:=U
 exact G8 (wpAny_isInstance (T := "StopIteration") (b:=true) ⟨o,Y,S⟩ isSubtype_stop (Hc (q _ kk)))
abbrev Bs (h:Heap) (t1:Addr):Heap:=h.push { cls:=.type "tuple_iterator", data:=.fields #[.ref t1,.int 0 0] }
abbrev Bd (h:Heap) (t1 t2:Addr):Heap:=(Bs h t1).push { cls:=.type "tuple_iterator", data:=.fields #[.ref t2,.int 0 0] }
abbrev Ba (h:Heap) (t1 t2:Addr):Heap:=(Bd h t1 t2).push { cls:=.type "tuple", data:=.seq #[.ref h.objs.size,.ref (Bs h t1).objs.size] }
abbrev Bo (h:Heap) (t1 t2:Addr):Heap:=(Ba h t1 t2).push { cls:=.type "tuple", data:=.seq #[.none,.none] }
abbrev mN (h:Heap) (t1 t2:Addr):Heap:=(Bo h t1 t2).push { cls:=.type "zip", data:=.fields #[.none,.bool false,.bool false,.ref (Bd h t1 t2).objs.size,.ref (Ba h t1 t2).objs.size] }
theorem vN(t1 t2:Addr)(xs ys:Array Value):Meets (Builtin.«zip.__new__» ⟨[.type "zip", .ref t1,.ref t2],[]⟩) (fun _ R s=>s.heap.IsTuple t1 xs∧s.heap.IsTuple t2 ys∧
   R (.ok (.ret (.ref (Bo s.heap t1 t2).objs.size))) { s with heap:=mN s.heap t1 t2 }):=
 .of_wp fun prog w A R s q=>by
  obtain⟨O,g,d,J,os⟩:=s
  obtain⟨Y,W,q⟩:=q
  have F:=sub_zip;have U:Heap.IsTuple (Shared.heap ⟨O,g,d,J,os⟩) t1 xs:=Y
  have S:Heap.IsTuple (Shared.heap ⟨O.push { cls:=.type "tuple_iterator", data:=.fields #[.ref t1,.int 0 0] },g,d,J,os⟩) t2 ys:=Heap.IsTuple.push W _
  wp_walk using wpAny_pyIter_tuple U,wpAny_pyIter_tuple S
  exact⟨_,rfl,q⟩
theorem yW{Q:Value→Shared→Prop}(e1:s.heap.IsTuple t1 xs)(e2:s.heap.IsTuple t2 ys)
  (q:∀ h',IsZip h' (s.heap.objs.size+4) (s.heap.objs.size+2) (s.heap.objs.size+3) .none→IsPair h' (s.heap.objs.size+2) (.ref s.heap.objs.size) (.ref (s.heap.objs.size+1))→
   IsPair h' (s.heap.objs.size+3) .none .none→E7 s.heap.objs.size t1 xs 0 h'→E7 (s.heap.objs.size+1) t2 ys 0 h'→
   (∀ c o,s.heap.get? c=some o→h'.get? c=some o)→Q (.ref (s.heap.objs.size+4)) { s with heap:=h' }):wpAny (model prog w) A (call (.type "zip") [.ref t1,.ref t2]) Q E s:=by
 refine callType_new F.called_zip (by decide) (F.typeCall_zip_2 _ _) (F.newCall_zip_2 _ _) (fun obj=>F.args_object_init_3 obj _ _) F.entry_zip_new (vN t1 t2 xs ys) ⟨e1,e2,?_⟩
 have O:(Bs s.heap t1).objs.size=s.heap.objs.size+1:=vY ..
 have U:(Bd s.heap t1 t2).objs.size=s.heap.objs.size+2:=by rw[vY,O]
 have J:(Ba s.heap t1 t2).objs.size=s.heap.objs.size+3:=by rw[vY,U]
 have Y:(Bo s.heap t1 t2).objs.size=s.heap.objs.size+4:=by rw[vY,J]
 have p:∀ {h:Heap} {o:Obj} {c:Addr} {u:Obj},h.get? c=some u→(h.push o).get? c=some u:=fun e=>zz _ e
 have kk:∀ c o,s.heap.get? c=some o→(mN s.heap t1 t2).get? c=some o:=fun c o e=>p (p (p (p (p e))))
 have S:(mN s.heap t1 t2).get? (Bo s.heap t1 t2).objs.size=some _:=zV _ rfl
 have Z:(mN s.heap t1 t2).get? (Ba s.heap t1 t2).objs.size=some _:=p (zV _ rfl)
 have W:(mN s.heap t1 t2).get? (Bd s.heap t1 t2).objs.size=some _:=p (p (zV _ rfl))
 have g2:(mN s.heap t1 t2).get? (Bs s.heap t1).objs.size=some _:=p (p (p (zV _ rfl)))
 have g1:(mN s.heap t1 t2).get? s.heap.objs.size=some _:=p (p (p (p (zV _ rfl))))
 show _∧_
 rw[U,J,Y]at S
 rw[O,U]at W
 rw[J]at Z
 rw[O]at g2
 rw[Y];have tt:∀ {t zs},s.heap.IsTuple t zs→(mN s.heap t1 t2).IsTuple t zs:=fun ⟨o,e,r⟩=>⟨o,kk _ _ e,r⟩
 exact⟨⟨_,S,rfl⟩,q _ S W Z ⟨⟨_,g1,rfl,rfl⟩,tt e1⟩ ⟨⟨_,g2,rfl,rfl⟩,tt e2⟩ kk⟩
end
noncomputable def Bh(K:W.Frag)(a b:Addr):It:=
  ⟨fun i H=>∃ xs ys x y,vr K H a xs∧vr K H b ys∧xs[i]? = some x∧ys[i]? = some y,
   fun i H v H'=>∃ t x y,H t=none∧v = .ref t∧H'=upd H t (.tup [x,y])∧(∀ xs,vr K H a xs→xs[i]? = some x)∧∀ ys,vr K H b ys→ys[i]? = some y,
   fun i H=>∃ xs ys,vr K H a xs∧vr K H b ys∧(xs.length≤i∨ys.length≤i)⟩
def UZ(z TI TO i1 i2 l1 l2:Addr)(i:Nat)(h:Heap):Prop:=
 IsZip h z TI TO .none∧IsPair h TI (.ref i1) (.ref i2)∧(∃ a b,IsPair h TO a b)∧h.IsTupleIter i1 l1 i∧h.IsTupleIter i2 l2 i
theorem vr.apart{X:Cx}{pins:List (Addr × Obj)}{σ : St}{H:Hp}{s:Shared}{a c:Addr}{xs:List V}(I:Inv X pins σ H s)(hf:gF X pins H c)(h:vr X.K H a xs):a≠c:=by
 rintro rfl
 rcases h with h | ⟨o,J,n,F,_⟩
 ·rcases h with e | ⟨o,e⟩ <;> (rw[hf.1]at e; cases e)
 ·have e:=I.ok.mod.kin a o F
  rcases hf.2.2.2.1 with z | z
  ·exact I.ok.noex a o e z
  ·exact absurd (vV (zA (I.ok.bs a o e).1) z) (GR _)
theorem ym{P:Program}{w:World}{K:W.Frag}{a9:List Expr}{k:Nat}{pos:Pos}{z TI TO i1 i2 l1 l2:Addr}(D:yy z TI TO i1 i2):kG P w K (.Tuple a9 k pos) (Bh K l1 l2) [z,TI,TO,i1,i2] z (UZ z TI TO i1 i2 l1 l2) where
 mem:=by simp
 obj:=fun i h st b J=>by
  obtain⟨U,s2,⟨_,_,s3⟩,⟨o4,Y,c4,d4⟩,⟨o5,Z,c5,d5⟩⟩:=st
  simp only[zK,ma,or_false]at J
  rcases J with rfl | rfl | rfl | rfl | rfl
  ·exact⟨_,U,fun v e=>by cases e⟩
  ·exact⟨_,s2,fun v e=>by cases e⟩
  ·exact⟨_,s3,fun v e=>by cases e⟩
  ·exact⟨_,Y,fun v e=>by rw[d4]at e; cases e⟩
  ·exact⟨_,Z,fun v e=>by rw[d5]at e; cases e⟩
 keep:=fun i h h' st kk=>by
  obtain⟨U,s2,⟨a,b,s3⟩,Y,Z⟩:=st
  exact⟨kk z (by simp) _ U,kk TI (by simp) _ s2,⟨a,b,kk TO (by simp) _ s3⟩,Y.at fun o e=>kk i1 (by simp) o e,Z.at fun o e=>kk i2 (by simp) o e⟩
 item:=by
  intro X hP hw hK hc i pins s σ H E I hf st hg
  subst hP hw hK;obtain⟨xs,ys,x,y,q1,q2,hx,hy⟩:=hg
  obtain⟨al,an,p1,_⟩:=I.tuple q1
  obtain⟨ab,ag,p2,_⟩:=I.tuple q2
  obtain⟨u1,b2,be⟩:=an.get hx
  obtain⟨u2,bg,b1⟩:=ag.get hy
  have n1:∀ c∈[z,TI,TO,i1,i2],l1≠c:=fun c F=>vr.apart I (hf c F) q1
  have S:∀ c∈[z,TI,TO,i1,i2],l2≠c:=fun c F=>vr.apart I (hf c F) q2
  have D':ZipApart z TI TO i1 i2 l1 l2:=⟨D.TIz,D.TOz,D.i1z,D.i2z,D.TITO,D.TIi1,D.TIi2,D.TOi1,D.TOi2,D.i12,n1 _ (by simp),n1 _ (by simp),n1 _ (by simp),n1 _ (by simp),S _ (by simp),S _ (by simp),S _ (by simp),S _ (by simp)⟩
  obtain⟨U,s2,⟨a,b,s3⟩,Y,Z⟩:=st
  have e1:s.heap.IsTuple l1 al.toArray:=p1
  have e2:s.heap.IsTuple l2 ab.toArray:=p2
  refine uP D' U s2 s3 ⟨Y,e1⟩ ⟨Z,e2⟩ (x:=u1) (y:=u2) (by simpa using b2) (by simpa using bg) fun h' a1 a2 a3 a4 a5 a6 kk=>?_
  refine⟨_,rfl,wpAny_letOwnedTupleGo_zip a1 fun a8 bt O=>?_⟩
  have lt:∀ {c o},s.heap.get? c=some o→s.heap.objs.size≠c:=fun e=>GI (zA e)
  have bp:s.heap.objs.size≠z:=lt U
  have ad:∀ b o,b∉[z,TI,TO,i1,i2]→s.heap.get? b=some o→a8.get? b=some o:=fun b o J e=>by
   simp only[zK,ma,or_false,not_or]at J
   exact O.extBut _ _ J.1 (kk b o J.1 J.2.2.1 J.2.2.2.1 J.2.2.2.2 e)
  have hsz:H s.heap.objs.size=none:=I.hok.fresh (zl _)
  have as:IsPair a8 s.heap.objs.size u1 u2:=O.extBut _ _ bp a5
  have b0:∀ c∈[z,TI,TO,i1,i2],c≠s.heap.objs.size:=fun c F=>by
   obtain⟨o4,e4,_⟩:=id Y
   obtain⟨o5,e5,_⟩:=id Z
   simp only[zK,ma,or_false]at F
   rcases F with rfl | rfl | rfl | rfl | rfl
   ·exact(lt U).symm
   ·exact(lt s2).symm
   ·exact(lt s3).symm
   ·exact(lt e4).symm
   ·exact(lt e5).symm
  refine⟨.ref s.heap.objs.size,upd H s.heap.objs.size (.tup [x,y]),I.turnedLaid (t':=s.toks) ad hf (zl _) ⟨aX (by show 2≤1000000; decide),[u1,u2],.cons be (.cons b1 .nil),⟨_,as,rfl,rfl,0,rfl⟩⟩,rfl,⟨_,x,y,hsz,rfl,rfl,fun b3 q'=>?_,fun b4 q'=>?_⟩,
   ⟨bt,O.extBut _ _ D.TIz (kk _ _ D.TIz D.TITO D.TIi1 D.TIi2 s2),⟨_,_,O.extBut _ _ D.TOz a2⟩,a3.1.extBut O.extBut D.i1z,a4.1.extBut O.extBut D.i2z⟩,fun c F=>?_⟩
  ·rw[I.tuple_inj q' q1]; exact hx
  ·rw[I.tuple_inj q' q2]; exact hy
  ·rw[au (b0 c F)]; exact(hf c F).1
 done:=by
  intro X hP hw hK hc i pins s σ H E I hf st hg
  subst hP hw hK;obtain⟨xs,ys,q1,q2,a7⟩:=hg
  obtain⟨al,an,p1,_⟩:=I.tuple q1
  obtain⟨ab,ag,p2,_⟩:=I.tuple q2
  have l1:=an.length;have l2:=ag.length;have n1:∀ c∈[z,TI,TO,i1,i2],_≠c:=fun c F=>vr.apart I (hf c F) q1
  have S:∀ c∈[z,TI,TO,i1,i2],_≠c:=fun c F=>vr.apart I (hf c F) q2
  have D':ZipApart z TI TO i1 i2 _ _:=⟨D.TIz,D.TOz,D.i1z,D.i2z,D.TITO,D.TIi1,D.TIi2,D.TOi1,D.TOi2,D.i12,n1 _ (by simp),n1 _ (by simp),n1 _ (by simp),n1 _ (by simp),S _ (by simp),S _ (by simp),S _ (by simp),S _ (by simp)⟩
  obtain⟨U,s2,⟨a,b,s3⟩,Y,Z⟩:=st
  have e1:s.heap.IsTuple _ al.toArray:=p1
  have e2:s.heap.IsTuple _ ab.toArray:=p2
  refine yO (I.ok.hd hc) D' U s2 s3 ⟨Y,e1⟩ ⟨Z,e2⟩ ?_ fun h' kk=>⟨rfl,I.turnedL (t':=s.toks) (fun b o J e=>?_) hf⟩
  ·rcases a7 with z | z
   ·exact .inl (by simp; omega)
   ·exact .inr (by simp; omega)
  ·simp only[zK,ma,or_false,not_or]at J
   exact kk b o J.1 J.2.2.1 J.2.2.2.1 J.2.2.2.2 e
 self:=fun A i s Q E st h=>wpAny_pyIter_zip st.1 h
noncomputable def Br(K:W.Frag)(ta:TA):TI:=fun σ H R=>ta σ H fun vs H1=>∃ a b:Addr,vs=[.ref a,.ref b]∧(∃ xs,vr K H1 a xs)∧(∃ ys,vr K H1 b ys)∧R (Bh K a b) H1
theorem qP(K:W.Frag)(ta:TA){σ : St}{H:Hp}{R:It→Hp→Prop}:Br K ta σ H R=ta σ H fun vs H1=>∃ a b:Addr,vs=[.ref a,.ref b]∧(∃ xs,vr K H1 a xs)∧(∃ ys,vr K H1 b ys)∧R (Bh K a b) H1:=rfl
theorem tw(K:W.Frag){X:Cx}{S:List Expr}{k:Nat}{O:Pos}{a b:Expr}{ta:TA}{p pos:Pos}(hg:Gl X "zip") (hm:X.mg "zip" = none) (ha:PA X [a,b] ta) (hs:starEach [a,b] X.env=[(false,eval a X.env),(false,eval b X.env)]:=by rfl) (hs2:starEach [b] X.env=[(false,eval b X.env)]:=by rfl) (hK:X.K=K:=by rfl) :
  PI X (.Tuple S k O) (.Call (.Name "zip" p) [a,b] [] pos) (Br K ta):=by
 subst hK;intro pins s σ H R I h
 refine Call_ (h8 I hg hm zF (zaW (bu (ha pos pins s σ H _ I h) fun us F ⟨vs,H1,U,Y,q1⟩=>?_) (by rw[hs,hs2]) (by rw[hs2]; rfl)))
 obtain⟨l1,l2,e,⟨xs,h1⟩,⟨ys,h2⟩,q⟩:=q1
 subst e;obtain⟨u1,u2,rfl,Y,r2⟩:=kS Y
 cases Y
 cases r2;obtain⟨ab,_,p1,_⟩:=U.tuple h1
 obtain⟨Z,_,p2,_⟩:=U.tuple h2
 refine yW (show F.heap.IsTuple l1 ab.toArray from p1) (show F.heap.IsTuple l2 Z.toArray from p2) fun h' a1 a2 a3 a4 a5 kk=>?_
 refine wpAny_pyIter_zip a1 ⟨_,[F.heap.objs.size+4,F.heap.objs.size+2,F.heap.objs.size+3,F.heap.objs.size,F.heap.objs.size+1],_,_,H1,rfl,U.kept (t':=F.toks) kk,
  ym (z:=F.heap.objs.size+4) (TI:=F.heap.objs.size+2) (TO:=F.heap.objs.size+3) (i1:=F.heap.objs.size) (i2:=F.heap.objs.size+1) (Lw _),⟨a1,a2,⟨_,_,a3⟩,a4.1,a5.1⟩,fun b hb=>?_,q⟩
 have J:F.heap.objs.size≤b:=by
  simp only[zK,ma,or_false]at hb
  rcases hb with rfl | rfl | rfl | rfl | rfl <;> first | exact zl _ | exact zaZ _ _
 exact U.fpOk J (U.hok.fresh J)
section
variable{prog:Program}{w:World}{A:Around}{E:Value→Shared→Prop}{s:Shared}
theorem oA{t S:Addr}{F:Array Value}{U Y:Value}{lo hi:Option Int}{Q:Value→Shared→Prop}(J:IsTup s.heap t F)(Z:s.heap.IsSliceOf S U Y .none)(pl:PySem.IsPart U lo)(pu:PySem.IsPart Y hi)
  (W:HT.sIx F.size 0 lo=0∧HT.sIx F.size F.size hi=F.size) (q:Q (.ref t) s):wpAny (model prog w) A (getItem (.ref t) (.ref S)) Q E s:=by
 obtain⟨os,g1,g2,g3⟩:=id Z
 have ty:s.TypeIs (.ref S) "slice" := ⟨os,g1,g2⟩
 unfold getItem
 try with_reducible refine wpAny_holding ?_
 first | refine G8 (Hc ?_) | skip
 refine G8 (wpAny_sequenceKey J.typeIs (by decide) (G8 (wpAny_callSpecial?_slot (name:=Str.ofString "__getitem__") J.typeIs zbk (wpAny_call_entry zbk J.typeIs entry_tuple_getitem ?_ (args_tuple_getitem _ _)))))
 show wpAny _ _ (Builtin.Tuple.tupleItemsOf (.ref t) >>= fun _=>_) _ _ s
 refine G8 (tupleItemsOf_ J (G8 (wpAny_typeOf ty ?_)))
 rw[Hf (by decide)]
 refine G8 (HT.sliceApplied_gen Z pl pu ?_)
 have O:((((HT.sIx F.size 0 lo:Nat):Int) == 0&&(1:Int) == 1&&(HT.sIx F.size F.size hi - HT.sIx F.size 0 lo) == F.size)=true):=by
  rw[W.1,W.2]; simp
 show wpAny _ _ (if (((HT.sIx F.size 0 lo:Nat):Int) == 0&&(1:Int) == 1&&(HT.sIx F.size F.size hi - HT.sIx F.size 0 lo) == F.size)=true then _ else _) _ _ s
 rw[Hf O];refine G8 (m:=Builtin.Tuple.tupleIsExact _) (G8 (wpAny_typeOf J.typeIs (Hc ?_)))
 have hb:(Value.type "tuple" == Value.type "tuple")=true:=by decide
 rw[hb,Hf rfl];exact G8 (wpAny_rule (Hc ⟨_,rfl,Hc q⟩))
end
section
variable{X:Cx}
noncomputable def BE(K:W.Frag):V→Option Int→Option Int→Hp→VK→Prop:=fun x lo hi H Q=>∃ a xs,x = .ref a∧vr K H a xs∧
 (HT.sIx xs.length 0 lo=0∧HT.sIx xs.length xs.length hi=xs.length→Q (.ref a) H)∧(¬ (HT.sIx xs.length 0 lo=0∧HT.sIx xs.length xs.length hi=xs.length)→∀ p,H p=none→Q (.ref p) (upd H p (.tup (de xs lo hi))))
theorem h_(K:W.Frag)(hK:X.K=K:=by rfl):Ey X (BE K):=by
 subst hK;intro pins s σ H x v vl vu lo hi sl Q I S Z Y U h
 obtain⟨a,xs,rfl,hx,q1,q2⟩:=h
 by_cases hw:HT.sIx xs.length 0 lo=0∧HT.sIx xs.length xs.length hi=xs.length
 ·have J:=S
  cases S;obtain⟨O,r,ht,hz⟩:=I.tuple hx
  have F:O.toArray.size=xs.length:=by rw[qf]; exact r.length.symm
  exact⟨"tuple", _,PyProof.Rows.slot_tuple_getitem.lookup,ht.typeIs,oA ht Z Y U (by rw[F]; exact hw) ⟨.ref a,H,I,J,q1 hw⟩⟩
 ·exact Fx pins s σ H _ v vl vu lo hi sl Q I S Z Y U ⟨a,xs,rfl,hx,hw,q2 hw⟩
theorem iB{K:W.Frag}{H:Hp}{Q:VK}{a:Addr}{lo hi:Option Int}{xs:List V}(h:vr K H a xs)(q:∀ p H',rm H H'→vr K H' p (de xs lo hi)→Q (.ref p) H'):BE K (.ref a) lo hi H Q:=by
 refine⟨a,xs,rfl,h,fun F=>?_,fun _ p J=>q p _ (ah J _) (vr.of af)⟩
 have e:de xs lo hi=xs:=by unfold de; rw[F.1,F.2]; simp
 exact q a H (fun _ _ e=>e) (by rw[e]; exact h)
theorem BW(xs:List V)(k:Nat):de xs none (some (k:Int))=xs.take k:=by
 unfold de;rw[HT.sIx_none,HT.sIx_nat,List.drop_zero,Nat.sub_zero];exact List.take_eq_take_min.symm
theorem ju(xs:List V)(k:Nat):de xs (some (k:Int)) none=xs.drop k:=by
 unfold de;rw[HT.sIx_none,HT.sIx_nat];rcases Nat.le_total k xs.length with h | h
 ·rw[Nat.min_eq_left h,mJ (by rw[GO]; omega)]
 ·rw[Nat.min_eq_right h,td,List.take_zero,List.drop_eq_nil_of_le h]
noncomputable def wU:List V→Hp→VK→Prop:=fun xs H Q=>(∃ i,xs=[.int i]∧i.natAbs.log2<1920∧Q (.str (toString i)) H)∨∃ y,xs=[.str y]∧Q (.str y) H
theorem yg:AL X (.type "str") wU:=by
 intro pins s σ H xs F Q I r h
 rcases h with h | ⟨y,rfl,q⟩
 ·exact pL pins s σ H xs F Q I r h
 ·obtain⟨u,rfl,t,rfl⟩:=cT r
  exact P.str_of_str ⟨.str y,H,I,⟨t,rfl⟩,q⟩
theorem mW{H:Hp}{Q:VK}(i:Int):wU [.int i] H Q=(i.natAbs.log2<1920∧Q (.str (toString i)) H):=
 propext ⟨fun h=>by rcases h with ⟨_,e,h⟩ | ⟨_,e,_⟩ <;> cases e; exact h,fun h=>.inl ⟨i,rfl,h⟩⟩
theorem nt{H:Hp}{Q:VK}(y:Str):wU [.str y] H Q=Q (.str y) H:=
 propext ⟨fun h=>by rcases h with ⟨_,e,h⟩ | ⟨_,e,h⟩ <;> cases e; exact h,fun h=>.inr ⟨y,rfl,h⟩⟩
theorem sU{x:Str}{d:Addr}{pos:Pos}(h:X.mg x=some (.ref d))(hg:Gl X x:=by first | exact vGg (by decide +kernel) | rfl)(hd:(x == ("__debug__" : Str))=false:=by decide):PE X (.Name x pos) (tC (.ref d)):=Cf hg h rfl hd
theorem fg:Fh X "list.extend" mq:=xh
theorem fk{H:Hp}{Q:VK}(l b:Addr):mq (.ref l) [.ref b] H Q=∃ xs zs,H l=some (.lst xs)∧H b=some (.lst zs)∧xs.length+zs.length≤sizeLine∧Q .non (upd H l (.lst (xs++zs))):=
 propext ⟨fun ⟨_,_,xs,zs,J,F,q⟩=>by cases J; cases F; exact⟨xs,zs,q⟩,fun ⟨xs,zs,q⟩=>⟨l,b,xs,zs,rfl,rfl,q⟩⟩
theorem ia(K:W.Frag){tg l:Expr}{tl:TE}(hl:PE X l tl)(F:X.K=K:=by rfl):PI X tg l (zX K tl):=F ▸ Dm hl
theorem ue(K:W.Frag)(tl:TE){σ : St}{H:Hp}{R:It→Hp→Prop}:zX K tl σ H R=tl σ H fun x H1=>∃ a,x = .ref a∧(∃ xs,vr K H1 a xs)∧R (ux K a) H1:=rfl
end
section
variable{K:W.Frag}{a b:Addr}{xs ys:List V}{g:TG}{te:TE}{nT:Nat}{σ : St}{D:Addr}{Q:VK}{H:Hp}
theorem pA{tb:TS}{D:dz}(F:Nat→St→Hp→Prop)(O:F 0 σ H)(hl:∀ i σ H,i≤xs.length→F i σ H→vr K H a xs)
  (U:∀ i x σ H,xs[i]? = some x→F i σ H→g x σ H fun S H2=>tb { D with nx:=F (i+1),ct:=F (i+1),bk:=D.nx } S H2) (hd:∀ σ H,F xs.length σ H→D.nx σ H):km (ux K a) g tb D σ H:=by
 refine mE xs.length F O (fun i σ H hi p=>⟨xs,xs[i],hl i σ H (wm hi) p,by simp[hi]⟩) (fun σ H p=>⟨xs,hl _ σ H (zl _) p,zl _⟩) (fun i σ H x H' hi p J=>?_) hd
 obtain⟨rfl,y⟩:=J
 exact U i x σ _ (y xs (hl i σ _ (wm hi) p)) p
theorem mV(F:Nat→List V→Hp→Prop)(S:F 0 [] H)(hl:∀ i ys H,i≤xs.length→F i ys H→vr K H a xs)
  (O:∀ i ys H x,xs[i]? = some x→i<xs.length→F i ys H→g x (σ++List.replicate nT none) H (iF xs.length i F D ys te))
  (hd:∀ ys H,F xs.length ys H→Q (.ref D) H):eO (ux K a) g kJ te nT σ D Q H:=by
 refine kI xs.length F S (fun i ys H hi p=>⟨xs,xs[i],hl i ys H (wm hi) p,by simp[hi]⟩) (fun ys H p=>⟨xs,hl _ ys H (zl _) p,zl _⟩) (fun i ys H x H' hi p J=>?_) hd
 obtain⟨rfl,y⟩:=J
 exact O i ys _ x (y xs (hl i ys _ (wm hi) p)) hi p
theorem nH{tb:TS}{D:dz}(F:Nat→St→Hp→Prop)(S:xs.length=ys.length)(U:F 0 σ H)(hl:∀ i σ H,i≤xs.length→F i σ H→vr K H a xs∧vr K H b ys)
  (Z:∀ i x y t σ H,xs[i]? = some x→ys[i]? = some y→F i σ H→H t=none→g (.ref t) σ (upd H t (.tup [x,y])) fun Y H2=>tb { D with nx:=F (i+1),ct:=F (i+1),bk:=D.nx } Y H2) (hd:∀ σ H,F xs.length σ H→D.nx σ H):km (Bh K a b) g tb D σ H:=by
 refine mE xs.length F U (fun i σ H hi p=>⟨xs,ys,xs[i],ys[i],(hl i σ H (wm hi) p).1,(hl i σ H (wm hi) p).2,by simp[hi],by simp[S ▸ hi]⟩) (fun σ H p=>⟨xs,ys,(hl _ σ H (zl _) p).1,(hl _ σ H (zl _) p).2,.inl (zl _)⟩) (fun i σ H v H' hi p O=>?_) hd
 obtain⟨t,x,y,ht,rfl,rfl,W,J⟩:=O
 exact Z i x y t σ H (W xs (hl i σ H (wm hi) p).1) (J ys (hl i σ H (wm hi) p).2) p ht
end
theorem vr.same{K:W.Frag}{H H':Hp}{a:Addr}{xs:List V}(h:vr K H a xs)(sm:rm H H'):vr K H' a xs:=by
 rcases h with (h | ⟨o,h⟩) | h
 ·exact .inl (.inl (sm _ _ h))
 ·exact .inl (.inr ⟨o,sm _ _ h⟩)
 ·exact .inr h
theorem ir{α : Type}{x:α}{xs:List α}:cJ (x::xs) 0=some x:=av (j:=0) rfl
theorem vr.updL{K:W.Frag}{H:Hp}{a l:Addr}{xs ys:List V}{o:HO}(h:vr K H a xs)(hl:H l=some (.lst ys)):vr K (upd H l o) a xs:=by
 rcases h with (h | ⟨o',h⟩) | h
 ·exact .inl (.inl (by rw[au (cF h hl (fun z=>nomatch z))]; exact h))
 ·exact .inl (.inr ⟨o',by rw[au (cF h hl (fun z=>nomatch z))]; exact h⟩)
 ·exact .inr h
theorem F1{P:Program}{w:World}{k:aG}{u:Value}(h:(cC P w).is k u=true):RelV (kV k) u:=by
 cases k with
 | inl i=>
  obtain⟨t,rfl⟩:=zav (show Value.isInt i u=true from h)
  exact⟨t,rfl⟩
 | inr x=>
  obtain⟨t,rfl⟩:=zaV (show Value.isStrOf x u=true from h)
  exact⟨t,rfl⟩
section
variable{X:Cx}
noncomputable def xl:List V→Hp→VK→Prop:=fun xs H Q=>∃ d kvs,xs=[.ref d]∧H d=some (.dK kvs)∧kvs.length≤60000∧∀ l,H l=none→Q (.ref l) (upd H l (.lst (kvs.map fun kv=>kV kv.1)))
theorem mS{H:Hp}{Q:VK}(d:Addr):xl [.ref d] H Q=∃ kvs,H d=some (.dK kvs)∧kvs.length≤60000∧∀ l,H l=none→Q (.ref l) (upd H l (.lst (kvs.map fun kv=>kV kv.1))):=
 propext ⟨fun ⟨_,kvs,e,q⟩=>by cases e; exact⟨kvs,q⟩,fun ⟨kvs,q⟩=>⟨d,kvs,rfl,q⟩⟩
theorem vP{m:Nat}(hr:Dx m X.A):AL X (.type "list") xl:=by
 intro pins s σ H xs us Q I r h
 obtain⟨d,kvs,rfl,ed,hn,q⟩:=h
 obtain⟨u,rfl,ru⟩:=cT r
 cases ru;obtain⟨_,hd,vs,O,dd⟩:=vv I.hok (.inl ed)
 obtain⟨ep,hm⟩:=dd.dictAt
 have hs:sizeLine=16777216:=sizeLine_eq
 have hl:kvs.length=vs.length:=G2 O
 refine W.kdl_call (W.kdl_dict (knd:=cC X.prog X.w) (kvs:=vs) (ep:=ep) hd) hr.hd hm (by omega) fun h' tk J c' hk hS F=>?_
 refine⟨.ref s.heap.objs.size,_,I.laid hk (zl _) (show Ax X.prog X.w _ h' _ (.lst (kvs.map fun kv=>kV kv.1)) from ⟨by simp; omega,J.toList,c',?_,by simpa using hS⟩),rfl,q _ (I.hok.fresh (zl _))⟩
 refine lJ _ _ (by simp[F.1,hl]) fun j x Z S e2=>?_
 obtain⟨k,y,U,Y⟩:=F.2 j Z (by rw[← mD]; exact e2)
 rw[zy]at S
 cases hkv:kvs[j]? with
 | none=>rw[hkv]at S; cases S
 | some kv=>
  rw[hkv]at S
  cases S;have:=(iK O hkv U).1
  show RelV (kV kv.1) Z
  rw[this];exact F1 Y
end
end L2
namespace L2
open PySem PySem.Spec PyProof.Rows PySem.SeqAt
structure Fl (K:W.Frag) (C:Addr) (f:Str):Prop where
 c:GY K C
 n:E5 K C f
structure Ff (K:W.Frag) (mg:Str→Option Value) (x:Str) (C:Addr) (qual:Str) (st:Stmt):Prop where
 ex:∃ f fd,GL K "__init__" qual st f fd∧Mk K C f∧mg x=some (.ref C)
structure rO (P:Program) (w:World) (K:W.Frag) (mg:Str→Option Value) (base:Heap) (k:Nat) (x:Str) (C:Addr) (ps:List Str) (sp:Sp):Prop where
 ex:∃ f fd,EK P w K mg base jB k f fd ps sp∧Binds K fd ps []∧Mk K C f∧mg x=some (.ref C)
section
variable{P:Program}{w:World}{K:W.Frag}{mg:Str→Option Value}{base:Heap}
theorem Ff.mkal{x:Str}{C:Addr}{J:Str}{st:Stmt}{N ps:List Str}{k:Nat}{sp:Sp}(D:Ff K mg x C J st)(S:aE N ps (rd st))
  (hb:∀ (kV Y pm:Value) (an:Option Addr) (O ct:Value) (Z:List Value),Z.length=ps.length→bindArgs (W.fnOf "__init__" J (DM st) (Dq st) (rd st) .none kV Y pm an O ct) ⟨Z,[]⟩=pure (ps.zip Z))
  (len:∀ vs H Q E,sp vs H Q E→vs.length=ps.length)
  (U:∀ (f:Addr) (O:Value) (A:Around) (outer:List Env) (s:Shared) (H:Hp) (vs:List V) (Q:VK) (E:XK),Dx k (A.deeper (envOfC J (rd st) s.heap.objs.size f O))→sp vs H Q E→
   ∃ t,Fi (i9 jB P w K mg base N J (rd st) f O A outer s H E).nox (Dq st) t∧t { nx:=fun _ H'=>Q .non H',rt:=Q } (start N vs) H):rO P w K mg base (k+1) x C ps sp:=by
 obtain⟨f,fd,F,m,g⟩:=D.ex
 exact⟨f,fd,F.ok S len fun O A outer s H vs Q E hr h=>U f O A outer s H vs Q E hr h,F.binds hb,m,g⟩
end
noncomputable def A_(C:Addr)(f:Str)(ta:TE):TE:=fun σ H Q=>ta σ H fun x H1=>∃ a,x = .ref a∧∃ dx fs v,H1 a=some (.ins C dx fs)∧fs.lookup f=some v∧Q v H1
noncomputable def Bl(C:Addr)(f:Str)(ta tv:TE):TS:=fun D σ H=>tv σ H fun y H1=>ta σ H1 fun x H2=>∃ a,x = .ref a∧∃ dx fs,H2 a=some (.ins C dx fs)∧fs.length<1000∧D.nx σ (upd H2 a (.ins C dx (bE f y fs)))
noncomputable def x3(C:Addr)(sp:Sp)(t:TA):TE:=fun σ H Q=>t σ H fun vs H1=>∀ x dx,H1 x=none→H1 dx=none→dx≠x→sp (.ref x::vs) (upd (upd H1 dx (.own x)) x (.ins C dx [])) (fun v H2=>v = .non∧Q (.ref x) H2) E0
section
variable{X:Cx}{o e value:Expr}{es:List Expr}{f m:Str}{pos pos' apos p:Pos}{ta tv:TE}{t:TA}{C:Addr}{x:Str}{ps:List Str}{sp:Sp}{j k:Nat}
theorem bB(g:Fl X.K C f)(J:PE X e ta)(W:attributeBase e f X.env (eval e X.env)=eval e X.env:=by rfl):PE X (.Attribute e f pos) (A_ C f ta):=by
 intro pins s σ H Q I h
 refine Ct W (bu (J pins s σ H _ I h) fun u Z ⟨x,H1,U,Y,a,ex,dx,fs,v,F,l,q⟩=>?_)
 subst ex;obtain rfl:u=Value.ref a:=Y
 exact v7 U F g.c g.n l fun u' s2 S O=>⟨v,H1,S,O,q⟩
theorem jN(g:Fl X.K C f)(J:PE X o ta)(hv:PE X value tv)(hs:swapsWith value (some (.Attribute o f pos')) pos.line X.env=pure false:=by rfl):PS X (.Assign [.Attribute o f pos'] value pos) (Bl C f ta tv):=by
 intro pins s σ H D I h
 refine plainObj_wpAny_Assign_Attribute (bu (hv pins s σ H _ I h) fun u Y ⟨y,H1,Z,U,q⟩=>bu (J pins Y σ H1 _ Z q) fun ov s2 ⟨x,H2,W,rx,a,ex,dx,fs,S,l,F⟩=>?_) hs
 subst ex;obtain rfl:ov=Value.ref a:=rx
 exact wa W S g.c g.n l U fun s3 O=>⟨σ,_,O,F⟩
theorem Gk(c:rO X.prog X.w X.K X.mg X.base j x C ps sp)(S:Dx k X.A)(O:PA X (e::es) t)(hle:j+1≤k:=by decide)(hg:Gl X x:=by first | exact vGg (by decide +kernel) | rfl)(hdb:(x == ("__debug__" : Str))=false:=by decide)
  (he:starEach (e::es) X.env=(false,eval e X.env)::starEach es X.env:=by rfl) (hpl:(backTo pos (starEach es X.env)).any (·.1)=false:=by rfl) :
  PE X (.Call (.Name x p) (e::es) [] pos) (x3 C sp t):=by
 obtain⟨f,fd,F,b,M,U⟩:=c.ex
 intro pins s σ H Q I h
 refine wpAny_Call_Name_kw (l5 I hg U ?_ hdb)
 refine W.callWith_K (h₀:=X.base) I.ok.mod.kin M.kp (bu (O pos pins s σ H _ I h) fun Z Y ⟨vs,H1,J,r,q⟩=>⟨J.kIn,?_⟩) he hpl
 exact Ad M F (S.mono hle) b .nil Bz J r (by simpa only[gY] using q)
end
section
variable{C:Addr}{f m:Str}{sp:Sp}{ta tv:TE}{t:TA}{σ : St}{H:Hp}{Q:VK}
theorem qI:A_ C f ta σ H Q=ta σ H fun x H1=>∃ a,x = .ref a∧∃ dx fs v,H1 a=some (.ins C dx fs)∧fs.lookup f=some v∧Q v H1:=rfl
theorem qA{D:dz}:Bl C f ta tv D σ H=tv σ H fun y H1=>ta σ H1 fun x H2=>∃ a,x = .ref a∧∃ dx fs,H2 a=some (.ins C dx fs)∧fs.length<1000∧D.nx σ (upd H2 a (.ins C dx (bE f y fs))):=rfl
theorem og:x3 C sp t σ H Q=t σ H fun vs H1=>∀ x dx,H1 x=none→H1 dx=none→dx≠x→sp (.ref x::vs) (upd (upd H1 dx (.own x)) x (.ins C dx [])) (fun v H2=>v = .non∧Q (.ref x) H2) E0:=rfl
end
theorem E6{f:Str}{v:V}{fs:List (Str × V)}:List.lookup f ((f,v)::fs)=some v:=by simp[List.lookup]
theorem BS{f g:Str}{v:V}{fs:List (Str × V)}(h:(f == g)=false):List.lookup f ((g,v)::fs)=List.lookup f fs:=by simp[List.lookup,h]
theorem Ei{f:Str}:List.lookup f ([]:List (Str × V))=none:=rfl
theorem yA{f g:Str}{v x:V}{r:List (Str × V)}(h:¬ g=f):bE f v ((g,x)::r)=(g,x)::bE f v r:=by simp[bE,h]
theorem zG{f:Str}{v:V}:bE f v []=[(f,v)]:=rfl
section
variable{X:Cx}
noncomputable def A4:List V→Hp→VK→Prop:=fun xs H Q=>∃ i j,xs=[.int i,.int j]∧Q (.int (if j>i then j else i)) H
theorem yX(F:X.calm=true:=by rfl):AL X (.builtin "max") A4:=xx F
theorem rQ{H:Hp}{Q:VK}(i j:Int):A4 [.int i,.int j] H Q=Q (.int (if j>i then j else i)) H:=propext ⟨fun ⟨_,_,e,q⟩=>by cases e; exact q,fun q=>⟨i,j,rfl,q⟩⟩
end
theorem BK{x y:Str}(h:x.cps.toList=y.cps.toList):x=y:=by
 cases x; cases y
 exact congrArg _ (Array.toList_inj.mp h)
theorem jJ(x y:Str):(x++y).cps.toList=x.cps.toList++y.cps.toList:=Array.toList_append
end L2
namespace L2
open PySem PySem.Spec PyProof.Rows
section
variable{X:Cx}{tg e:Expr}
theorem xy:Fh X "list.clear" xi:=zE
end
end L2
namespace L2
open PySem PySem.Spec PyProof.Rows PySem.SeqAt
noncomputable def iH(l:List Str)(x:Str):List Str:=if l.any (· == x)=true then l else l++[x]
noncomputable def fX(val:Nat→Str)(i:Nat):List Str:=((List.range i).map val).foldl iH []
theorem pF(val:Nat→Str):fX val 0=[]:=rfl
theorem iP(val:Nat→Str)(i:Nat):fX val (i+1)=iH (fX val i) (val i):=by
 unfold fX; rw[zaz,zP,za4]; rfl
theorem l_(val:Nat→Str):∀ i,(fX val i).length≤i
 | 0=>by rw[pF]; exact zl _
 | i+1=>by
  rw[iP]; unfold iH
  have ih:=l_ val i;split
  ·omega
  ·rw[zr,Gv]; omega
theorem mX(l:List Str)(v k:Str):(iH l v).any (· == k)=(l.any (· == k)||decide (k=v)):=by
 unfold iH
 by_cases h:l.any (· == v)=true
 ·rw[Hf h]
  by_cases e:k=v
  ·subst e; rw[h]; simp
  ·simp[e]
 ·rw[He h,List.any_append]
  by_cases e:k=v
  ·subst e; simp
  ·have F:(v == k)=false:=by simpa [beq_iff_eq] using (fun h':v=k=>e h'.symm)
   simp[F,e]
theorem xY(l:List Str)(v:Str):(iH l v).length=if l.any (· == v) then l.length else l.length+1:=by
 unfold iH; split <;> simp
theorem uF(val:Nat→Str):∀ (i:Nat) (k:Str),(fX val i).any (· == k)=((List.range i).map val).any (· == k)
 | 0,k=>rfl
 | i+1,k=>by
  rw[iP,mX,uF val i k,zaz,zP,List.any_append]
  congr 1
  by_cases e:k=val i
  ·simp[e]
  ·simp[e]; exact fun h=>e h.symm
theorem sS:∀ {vs:List Value} {F:List Str},StrsAre vs F→∀ (i:Nat) (v:Value),vs[i]? = some v→∃ t,v = .str (F.getD i "") t
 | _,_,.nil,i,v,h=>by simp at h
 | _,_,.cons n t hr,0,v,h=>by simp at h; exact⟨t,by rw[← h]; rfl⟩
 | _,_,.cons n t hr,i+1,v,h=>by
  simp only[G1]at h
  obtain⟨t',e⟩:=sS hr i v h
  exact⟨t',by rw[e]; rfl⟩
theorem lN(prog:Program)(w:World)(x:Str)(t:Tok):(strKind prog w).is x (.str x t)=true:=by
 show Value.isStrOf x (.str x t)=true
 simp[Value.isStrOf]
section
variable{prog:Program}{w:World}{A:Around}{R:Result→Shared→Prop}{I:Addr}{fp wr:List Addr}{Gm:Array GenState→Array GenState→Prop}{n:Nat}{P:Nat→Value→Prop}{St:Nat→Shared→Prop}{L:Bool}
theorem zS(W:WalksS prog w A.in1 I fp wr Gm n P St)(S:Addr)(a3:S∉fp)(val:Nat→Str)(ab:∀ i v,P i v→∃ t,v = .str (val i) t)(U:n+1<scanBound) :
  ∀ (k i:Nat) (s:Shared),n - i=k→i≤n→St i s→E2 (strKind prog w) (cx L) s.heap S (fun Y=>(fX val i).any (· == Y)) (fX val i).length→
   (∀ s',Moved (S::wr) Gm s s'→E2 (strKind prog w) (cx L) s'.heap S (fun Y=>(fX val n).any (· == Y)) (fX val n).length→R (.ok (.ret .none)) s')→
   codeAny (model prog w) A (.builtin "set.update.loop" ⟨[.ref S,.ref I],[]⟩) R s:=by
 have al:S∉wr:=fun h=>a3 (W.sub _ h)
 have F:∀ b∈wr,b∈S::wr:=fun b U=>zO _ U
 intro k
 induction k with
 | zero=>
  intro i s hk hi O hS hR
  have a7:i=n:=by omega
  subst a7;refine codeAny_builtin za5 ?_
  rw[GU zaA _];show wpAny _ A.in1 (pyNext (.ref I) >>= _) _ _ s
  refine G8 (W.done s _ _ O fun s' hm=>?_)
  show wpAny _ A.in1 (ret Value.none) _ _ s'
  exact Hc (hR s' (hm.mono F) (hS.at' (fun o e=>hm.heap S _ al e) (fun _=>rfl) rfl))
 | succ k ih=>
  intro i s hk hi O hS hR
  have ag:i<n:=by omega
  refine codeAny_builtin za5 ?_
  rw[GU zaA _];show wpAny _ A.in1 (pyNext (.ref I) >>= _) _ _ s
  refine G8 (W.item i s _ _ ag O fun v s' hP Z hm=>?_)
  obtain⟨t,rfl⟩:=ab i v hP
  have a4:=hS.at' (h':=s'.heap) (fun o e=>hm.heap S _ al e) (fun _=>rfl) rfl
  show wpAny _ A.in1 (holding [Value.str (val i) t] (setAdd S (.str (val i) t)) >>= _) _ _ s'
  refine G8 (wpAny_holding ?_)
  unfold setAdd;refine wpAny_holding ?_
  refine G8 ((strKind prog w).pyHash (k:=val i) (lN _ _ _ _) ?_)
  have J:(fX val i).length+1<scanBound:=by have:=l_ val i; omega
  refine Iy (G:=cx L) (knd:=strKind prog w) (s:={ s' with toks:=s'.toks+1 }) (fun t es h x g=>sv g es h x) (fun t es m g=>vz g es m) (fun t g=>lD g) (lN _ _ _ _) rfl a4 J fun h' ad a6=>?_
  have a5:=a6.at' (h':=h') (fun o e=>e) (S':=fun Y=>(fX val (i+1)).any (· == Y)) (m':=(fX val (i+1)).length) (fun Y=>by rw[iP,mX]) (by rw[iP,xY])
  refine Hc ⟨plainId_quiet zaA _,ih (i+1) _ (by omega) ag (W.frame _ s' _ _ Z (Nat.le_succ _) fun b U o e=>?_) a5 fun a8 an as=>?_⟩
  ·rw[ad.2 b (fun h:b=S=>a3 (by rw[← h]; exact U))]; exact e
  ·refine hR a8 (Moved.trans W.gtrans ((hm.mono F).then_heap (Nat.le_succ _) fun b o U e=>?_) an) as
   rw[ad.2 b (fun h:b=S=>U (by rw[h]; exact zI))]; exact e
end
section
variable{prog:Program}{w:World}{A:Around}{E:Value→Shared→Prop}{s:Shared}
theorem yG{l:Addr}{J:Array Value}{ns:List Str}{Q:Value→Shared→Prop}(hh:A.handled=none)(hl:s.heap.IsList l J)(hi:StrsAre J.toList ns)(hb:J.size+1<scanBound)
  (h:∀ (h':Heap) (tk:Nat),E2 (strKind prog w) (cx (bw w)) h' s.heap.objs.size (fun k'=>(fX (fun i=>ns.getD i "") J.size).any (· == k')) (fX (fun i=>ns.getD i "") J.size).length→
   (∀ b o,b<s.heap.objs.size→s.heap.get? b=some o→h'.get? b=some o)→Q (.ref s.heap.objs.size) { s with heap:=h',toks:=tk }) :
  wpAny (model prog w) A (call (.type "set") [.ref l]) Q E s:=by
 obtain⟨c,tl,b2⟩:=F.called_set.mro
 have a8:=F.called_set.made;have bt:=F.called_set.sub;refine wpAny_call (codeAny_of_tree ?_)
 show wpAny _ _ (callAny (.type "set") _) _ _ _
 refine Hc ⟨Code.quiet_builtin _ (by decide +kernel),codeAny_builtin F.entry_type_call ?_⟩
 rw[Around.under_plain (weight_type_call_type "set" [.ref l] []) rfl];have h1:=F.called_set.notType;have h2:=F.called_set.canCreate;have b4:=F.typeCall_set_1 (.ref l)
 repeat (any_goals (first | assumption | wp_step))
 refine codeAny_mono (rh (.ref l) (E:=E) (Q₁:=fun obj s₁=>obj = .ref s.heap.objs.size∧s₁={ s with heap:=s.heap.push { cls:=.type "set", dict:=none,data:=.set #[] 0 (.fresh 0 0 (bw w)) } }) ⟨rfl,rfl⟩) fun r s₁ hr=>?_
 cases r with
 | error e=>exact hr
 | ok fl=>
  cases fl with
  | ret obj=>
   obtain⟨rfl,rfl⟩:=hr
   have hS:(s.heap.push { cls:=.type "set", dict:=none,data:=.set #[] 0 (.fresh 0 0 (bw w)) }).get? s.heap.objs.size=some { cls:=.type "set", dict:=none,data:=.set #[] 0 (.fresh 0 0 (bw w)) }:=zV _ rfl
   have hT:Shared.TypeIs { s with heap:=s.heap.push { cls:=.type "set", dict:=none,data:=.set #[] 0 (.fresh 0 0 (bw w)) } } (.ref s.heap.objs.size) "set" := ⟨_,hS,rfl⟩
   have ca:=F.called_set.init.lookup;have cb:=F.called_set.init.bind (.ref s.heap.objs.size)
   repeat (any_goals (first | assumption | wp_step))
   refine codeAny_mono (codeAny_call_builtin (R:=wants (fun r s₂=>r = .none∧∃ h' tk,s₂={ s with heap:=h',toks:=tk }∧
     E2 (strKind prog w) (cx (bw w)) h' s.heap.objs.size (fun k'=>(fX (fun i=>ns.getD i "") J.size).any (· == k')) (fX (fun i=>ns.getD i "") J.size).length∧
     (∀ b o,b<s.heap.objs.size→s.heap.get? b=some o→h'.get? b=some o)) E) F.called_set.init.plain F.entry_set_init (check_set_init_1 hT ?_)) fun r₂ s₂ W=>?_
   ·obtain⟨ol,ad,as,nl,an⟩:=hl
    obtain⟨b1,U,a7,O⟩:=ol
    simp only at as an
    subst as; subst an
    have Z:(s.heap.push { cls:=.type "set", dict:=none,data:=.set #[] 0 (.fresh 0 0 (bw w)) }).get? l=some { cls:=.type "list", dict:=U,data:=.seq J nl,slots:=O }:=zz _ ad
    have b0:=F.sub_list_set;have bp:=F.sub_list_frozenset;have b3:(Value.type "list" == Value.type "dict")=false:=by decide
    have al:(s.heap.push { cls:=.type "set", dict:=none,data:=.set #[] 0 (.fresh 0 0 (bw w)) }).IsList l J:=⟨_,Z,rfl,nl,rfl⟩
    unfold Builtin.«set.__init__» noKeywords Builtin.Frozenset.updateFrom
    generalize hPI:pyIter=PI
    wp_walk
    subst hPI;refine wpAny_pyIter_list al ?_
    refine G8 (wpAny_runValue ?_)
    have ab:l<s.heap.objs.size:=zA ad
    have a4:A.in1.in1.in1.handled=none:=by simp[hh]
    have ag:l≠(s.heap.push { cls:=.type "set", dict:=none,data:=.set #[] 0 (.fresh 0 0 (bw w)) }).objs.size:=by
     rw[vY]; exact zR (lW ab)
    have bg:s.heap.objs.size∉[(s.heap.push { cls:=.type "set", dict:=none,data:=.set #[] 0 (.fresh 0 0 (bw w)) }).objs.size,l]:=by
     rw[vY]; simp only[zK,zaY,qm,or_false,not_or]
     exact⟨zR (zaw _),GI ab⟩
    have Y:∀ (i:Nat) (v:Value),J[i]? = some v→∃ t,v = .str ((fun i=>ns.getD i "") i) t:=fun i v hv=>sS hi i v (by rw[mD]; exact hv)
    refine zS (L:=bw w) ((Walks.list a4 _ l ag J).toS) s.heap.objs.size bg (fun i=>ns.getD i "") Y hb (J.size - 0) 0 _ (by omega) (vL _) ⟨⟨_,zV _ rfl,rfl,rfl⟩,(al.push _)⟩ ?hS0 ?hR
    case hS0=>
     refine⟨{ cls:=.type "set", dict:=none,data:=.set #[] 0 (.fresh 0 0 (bw w)) },#[],0,.fresh 0 0 (bw w),zz _ hS,?_⟩
     exact⟨⟨rfl,rfl,rfl⟩,rfl,fun e he=>by simp at he,fun k=>by simp[pF],by decide,rfl,rfl,⟨rfl,fun a b ha=>absurd ha (GN _)⟩,List.Pairwise.nil⟩
    case hR=>
     intro s' hm S
     obtain⟨h',g',d',a3,a6⟩:=s'
     have eg:g'=s.gens:=hm.gens
     have ed:d'=s.drawn:=hm.drawn
     have eo:a6=s.os:=hm.os
     subst eg; subst ed; subst eo
     show wpAny _ _ _ _ _ _
     refine Hc ?_
     show wpAny _ _ (ret Value.none) _ _ _
     refine Hc ⟨rfl,h',a3,rfl,S,fun b o hb e=>?_⟩
     have a5:b≠s.heap.objs.size:=zR hb
     have be:b≠(s.heap.push { cls:=.type "set", dict:=none,data:=.set #[] 0 (.fresh 0 0 (bw w)) }).objs.size:=by
      rw[vY]; exact zR (lW hb)
     exact hm.heap b o (by simp only[zK,zaY,qm,or_false,not_or]; exact⟨a5,be⟩) (zz _ (zz _ e))
   ·cases r₂ with
    | error e=>exact W
    | ok fl₂=>
     cases fl₂ with
     | ret r=>
      obtain⟨rfl,h',tk,rfl,S,a9⟩:=W
      repeat (any_goals (first | assumption | wp_step))
      exact h _ _ S a9
     | _=>exact W.elim
  | _=>exact hr.elim
end
noncomputable def Bi(K:W.Frag)(SO:Addr→List Str→HO):List V→Hp→VK→Prop:=fun xs H Q=>∃ p,∃ ns:List Str,xs=[.ref p]∧ud K H p (ns.map V.str)∧ns.length≤60∧∀ (l:Addr) (ds:List Str),H l=none→ds.Nodup→(∀ x,x∈ds ↔ x∈ns)→ds.length≤ns.length→Q (.ref l) (upd H l (SO l ds))
noncomputable def n9(SO:Addr→List Str→HO):List V→Hp→VK→Prop:=fun xs H Q=>∃ p,∃ ds:List Str,xs=[.ref p]∧H p=some (SO p ds)∧ds.length≤60∧∀ (l:Addr) (ts:List Str),H l=none→ts.Perm ds→sortedS ts=true→Q (.ref l) (upd H l (.lst (ts.map V.str)))
noncomputable def eX(e:Int × Value):Str:=match e.2 with
 | .str d _=>d
 | _ => ""
def Gr(w:World)(h:Heap)(a:Addr)(ds:List Str):Prop:=∃ o es ep t,h.get? a=some o∧o.ExactSet∧o.data = .set es ep t∧es.size<scanBound∧t.fits es.size=true∧cx (bw w) t∧(∀ e∈es.toList,∃ tk,e.2 = .str (eX e) tk)∧es.toList.map eX=ds
noncomputable def fM(w:World)(a:Addr)(ds:List Str):HO:=.ext fun h=>Gr w h a ds
theorem D_{prog:Program}{w:World}{h:Heap}{a:Addr}{S:Str→Bool}{n:Nat}(x:E2 (strKind prog w) (cx (bw w)) h a S n):∃ ds,Gr w h a ds∧ds.Nodup∧(∀ k,k∈ds ↔ S k=true)∧ds.length=n:=by
 obtain⟨o,es,ep,t,ho,T⟩:=x
 have U:∀ e∈es.toList,∃ W,e.2 = .str (eX e) W:=fun e J=>by
  obtain⟨⟨k,U,_⟩,_⟩:=T.el e J
  obtain⟨W,O⟩:=zaV U
  exact⟨W,by unfold eX; rw[O]⟩
 have F:∀ e∈es.toList,∀ k,(strKind prog w).is k e.2=true ↔ k=eX e:=fun e J k=>by
  obtain⟨W,O⟩:=U e J
  constructor
  ·intro z
   obtain⟨Z,e3⟩:=zaV z
   rw[e3]at O
   cases O; rfl
  ·rintro rfl; rw[O]; exact lN _ _ _ _
 refine⟨es.toList.map eX,⟨o,es,ep,t,ho,T.ex,T.dat,T.few,T.fit,T.good,U,rfl⟩,?_,fun k=>?_,by rw[ze,vj]; exact T.num⟩
 ·refine Ht.mpr (za6 (fun {x y} hx hy Y e=>?_) T.apart)
  have h1:=Y (eX x) ((F x hx _).mpr rfl);rw[(F y hy _).mpr e]at h1; cases h1
 ·rw[T.mem,zaB]
  constructor
  ·rintro⟨e,J,rfl⟩; exact⟨e,J,(F e J _).mpr rfl⟩
  ·rintro⟨e,J,z⟩; exact⟨e,J,((F e J _).mp z).symm⟩
section
variable{X:Cx}
theorem va{m:Nat}(hr:Dx m X.A){K:W.Frag}(hK:X.K=K):AL X (.type "set") (Bi K (fM X.w)):=by
 subst hK;intro pins s σ H xs us Q I r h
 obtain⟨p,ns,rfl,hq,ab,q⟩:=h
 obtain⟨u,rfl,ru⟩:=cT r
 cases ru;obtain⟨J,rv,pl,hz⟩:=I.list hq
 have Z:J.length=ns.length:=by rw[← rv.length,ze]
 refine yG (ns:=ns) hr.hd pl.isList (by simpa using jl rv) (by simp only[qf]; unfold scanBound; omega) fun h' tk hS hk=>?_
 obtain⟨ds,hg,O,F,Y⟩:=D_ hS
 obtain⟨o,es,ep,t,U,S⟩:=id hg
 refine⟨.ref s.heap.objs.size,_,I.laid (fun b o e=>hk b o (zA e) e) (zl _) (show Ax X.prog X.w _ h' _ (fM X.w s.heap.objs.size ds) from ⟨hg,⟨o,U⟩,fun h1 h2 g k=>?_⟩),rfl,q _ ds (I.hok.fresh (zl _)) O (fun x=>?_) ?_⟩
 ·obtain⟨o,es,ep,t,U,CS⟩:=g
  exact⟨o,es,ep,t,k o U,CS⟩
 ·rw[F,uF]
  simp only[qf,List.any_map,zbg,Hm]
  constructor
  ·rintro⟨i,hi,e⟩
   have e':ns.getD i "" = x:=by simpa using e
   rw[← e',vE,zg (by omega)]
   exact v5 _
  ·intro hx
   obtain⟨i,hi,e⟩:=Ho.mp hx
   exact⟨i,by omega,by simp[vE,zg hi,e]⟩
 ·rw[Y]
  have:=l_ (fun i=>ns.getD i "") J.toArray.size
  simp only[qf]at this ⊢
  omega
end
noncomputable def jK(v:Value):Str:=match v with
 | .str d _=>d
 | _ => ""
theorem uL:∀ (l:List Value),(∀ v∈l,∃ F,v = .str (jK v) F)→StrsAre l (l.map jK)
 | [],_=>.nil
 | v::l,h=>by
  obtain⟨F,e⟩:=h v zI
  have r:=uL l fun u J=>h u (zO _ J)
  rw[zW];generalize jK v=d at e ⊢;subst e;exact .cons d F r
section
variable{prog:Program}{w:World}{A:Around}{E:Value→Shared→Prop}{s:Shared}
theorem vR{a:Addr}{o:Obj}{es:Array (Int × Value)}{ep:Nat}{t:SetTable}{Q:Value→Shared→Prop}(hh:A.handled=none)(ho:s.heap.get? a=some o)(hx:o.ExactSet)(hd:o.data = .set es ep t)(hf:t.fits es.size=true)(ad:es.size<64)(hg:cx (bw w) t)
  (U:∀ e∈es.toList,∃ S,e.2 = .str (eX e) S)
  (hQ:∀ h' d' S q out c F,(∀ b o,s.heap.get? b=some o→h'.get? b=some o)→s.heap.objs.size≤q→h'.get? q=some (seqObj "list" out c)→StrsAre out.toList F→F.Perm (es.toList.map eX)→sortedS F=true→Q (.ref q) { s with heap:=h',drawn:=d',toks:=S }) :
  wpAny (model prog w) A (call (.builtin "sorted") [.ref a]) Q E s:=by
 refine Calls.call_function_entry kind_sorted plain_sorted entry_sorted (args_sorted1 _) ?_
 unfold Builtin.«sorted»
 refine G8 (m:=checkCount "sorted" 1 1 _) (Hc ?_)
 refine G8 (lr hh ho hx hd hf (by unfold scanBound; omega) hg fun h' d' S acc hk Y hp=>?_)
 have Z:acc.length=es.size:=by rw[hp.length_eq]; simp
 have W:StrsAre acc (acc.map jK):=uL acc fun v hv=>by
  obtain⟨e,he,rfl⟩:=Hk.mp (hp.mem_iff.mp hv)
  exact U e he
 have O:(acc.map jK).Perm (es.toList.map eX):=by
  have:=hp.map jK
  rw[yt]at this
  exact this
 refine G8 (wpAny_newList ?_ (by rw[Z,sizeLine_eq]; omega))
 have J:(h'.push (seqObj "list" acc.toArray 0)).get? h'.objs.size=some (seqObj "list" acc.toArray 0):=zV _ rfl
 show wpAny _ _ _ _ _ { s with heap:=h'.push (seqObj "list" acc.toArray 0),drawn:=d',toks:=S }
 refine G8 (wpAny_holding (wpAny_call_entry slot_list_sort ⟨_,J,rfl⟩ entry_list_sort (list_sort_treeK strKind_oneLt J W.keysOf (fun v₁ v₂ CS e=>keyKind_strs (by rw[← e]; exact W)) (by omega) fun ab b1 b2=>⟨_,rfl,?_⟩) (args_list_sort _)))
 obtain⟨F,a1,a2,a3⟩:=sorted_out_str W b1 b2
 generalize (arrOf ab).map (·.2)=out at a1 ⊢;obtain⟨c,hc⟩:=sortedHeap_at (out:=out) J
 refine Hc ⟨_,rfl,hQ _ d' S h'.objs.size out c F (fun b o e=>?_) (wm Y) hc a1 (a2.trans O) a3⟩
 have hb:=zA (hk b o e);rw[sortedHeap_old (zR hb) (by rw[vY]; exact lW hb)]
 exact zz _ (hk b o e)
end
section
variable{X:Cx}
theorem oC{m:Nat}(hr:Dx m X.A):AL X (.builtin "sorted") (n9 (fM X.w)):=by
 intro pins s σ H xs us Q I r h
 obtain⟨p,ds,rfl,e,U,q⟩:=h
 obtain⟨u,rfl,ru⟩:=cT r
 cases ru;obtain⟨o,es,ep,t,ho,hx,hd,Z,hf,hg,O,S⟩:=(show Ax X.prog X.w H s.heap p (fM X.w p ds) from I.hok p _ e).1
 have hz:es.size≤60:=by rw[← S,ze,vj]at U; exact U
 have hs:sizeLine=16777216:=sizeLine_eq
 refine vR hr.hd ho hx hd hf (by omega) hg O fun h' d' tk W out c J hk Y hc a1 a2 a3=>?_
 have hl:J.length≤60:=by rw[a2.length_eq,ze,vj]; exact hz
 have F:=I.laid (t':=tk) (a:=W) (o:=.lst (J.map V.str)) hk Y (show Ax X.prog X.w _ h' _ (.lst (J.map V.str)) from ⟨by rw[ze]; omega,out.toList,c,mQ a1,by simpa using hc⟩)
 refine⟨.ref W,_,?_,rfl,q _ J (I.hok.fresh Y) (by rw[← S]; exact a2) a3⟩
 exact⟨F.ok,F.os,F.bare,F.base,F.loc,F.cell,F.free,F.freeC,F.pin,F.hok,F.len⟩
theorem sj{m:Nat}(K:W.Frag)(w:World)(J:Dx m X.A)(F:X.K=K:=by rfl)(hw:X.w=w:=by rfl):AL X (.type "set") (Bi K (fM w)):=hw ▸ va J F
theorem lL{m:Nat}(w:World)(J:Dx m X.A)(F:X.w=w:=by rfl):AL X (.builtin "sorted") (n9 (fM w)):=F ▸ oC J
end
end L2
namespace L2
open PySem PySem.Spec PyProof.Rows PySem.SeqAt PySem.Builtin PySem.Builtin.Str PySem.StrLaws
noncomputable def pD:V→List V→Hp→VK→Prop:=fun x xs H Q=>∃ s y,x = .str s∧xs=[.str y]∧Q (.bl (decide (0+y.length≤s.length)&&subAt s y 0)) H
theorem j6{H:Hp}{Q:VK}(s y:Str):pD (.str s) [.str y] H Q=Q (.bl (decide (0+y.length≤s.length)&&subAt s y 0)) H:=
 propext ⟨fun ⟨_,_,J,F,q⟩=>by cases J; cases F; exact q,fun q=>⟨s,y,rfl,rfl,q⟩⟩
theorem oz{X:Cx}:Fh X "str.startswith" pD:=by
 intro pins s σ H x xs v S Q I J r h
 obtain⟨z,y,rfl,rfl,q⟩:=h
 obtain⟨t,rfl⟩:=J
 obtain⟨u,rfl,O⟩:=cT r
 obtain⟨u,rfl⟩:=O
 exact call_gives F.slot_str_startswith (typeIs_str _ _ _) F.entry_str_startswith (F.args_str_startswith_2 _ _) (gives_str_startswith z y t u) ⟨.bl _,H,I,rfl,q⟩
theorem fD{X:Cx}(K:W.Frag)(F:X.K=K:=by rfl):Ek X (binaryOp .Add) (vI K):=F ▸ B3
theorem pP{K:W.Frag}{H:Hp}{Q:VK}(a b:Addr):vI K (.ref a) (.ref b) H Q=∃ xs ys,vr K H a xs∧vr K H b ys∧xs≠[]∧xs.length+ys.length≤sizeLine∧(ys=[]→Q (.ref a) H)∧(ys≠[]→∀ p,H p=none→Q (.ref p) (upd H p (.tup (xs++ys)))):=
 propext ⟨fun ⟨_,_,xs,ys,J,F,q⟩=>by cases J; cases F; exact⟨xs,ys,q⟩,fun ⟨xs,ys,q⟩=>⟨a,b,xs,ys,rfl,rfl,q⟩⟩
end L2
namespace L2
open PySem PySem.Spec PyProof.Rows
abbrev jr:=List (Option Int)
noncomputable def MO(P:Program)(w:World):HeapKind P w (jr):=A3 (dQ P w) (show 0≤7 by decide)
noncomputable def Gg(P:Program)(w:World)(a:Addr)(xs:List (jr × Addr × Value)):HO:=
 .ext fun h=>∃ o es ep,h.get? a=some o∧o.ExactDict∧o.data = .dict es ep∧es.toList=xs.map (entryOfKey (MO P w))∧(xs.map (·.1)).Nodup
def Kq(H:Hp)(k:jr)(b:Addr):Prop:=H b=some (.tup (k.map iA))
def HZ(H:Hp)(p:jr × V)(q:jr × Addr × Value):Prop:=q.1=p.1∧Kq H p.1 q.2.1∧RelV p.2 q.2.2
def DO(P:Program)(w:World)(H:Hp)(a:Addr)(kvs:List (jr × V)):Prop:=
 ∃ xs,H a=some (Gg P w a xs)∧(a == sysModules)=false∧xs.length≤sizeLine∧Paired (HZ H) kvs xs
end L2
namespace L2
open PySem PySem.Spec PyProof PyProof.Rows
section
variable{K:W.Frag}{a b:Addr}{xs ys:List V}{g:TG}{te:TE}{nT:Nat}{σ : St}{D:Addr}{Q:VK}{H:Hp}
theorem uM{tc:TT}(F:Nat→List V→Hp→Prop)(O:F 0 [] H)(hl:∀ i zs H,i≤xs.length→F i zs H→ud K H a xs)
  (U:∀ i zs H x t,xs[i]? = some x→i<xs.length→F i zs H→H t=none→g (.ref t) (σ++List.replicate nT none) (upd H t (.tup [.int i,x])) (kR xs.length i F D zs tc te))
  (hd:∀ zs H,F xs.length zs H→Q (.ref D) H):eO (xW K a) g tc te nT σ D Q H:=by
 refine kE xs.length F O (fun i zs H hi p=>⟨xs,xs[i],hl i zs H (wm hi) p,by simp[hi]⟩) (fun zs H p=>⟨xs,hl _ zs H (zl _) p,zl _⟩) (fun i zs H v H' hi p J=>?_) hd
 obtain⟨t,x,W,rfl,rfl,S⟩:=J
 exact U i zs H x t (S xs (hl i zs H (wm hi) p)) hi p W
end
theorem Cg{α : Type}{xs:List α}{v:α}(h:xs[xs.length - 1]? = some v):cJ xs (-1)=some v:=by
 have hl:0<xs.length:=by
  refine GD fun F=>?_
  rw[G7 (by omega)]at h; cases h
 unfold cJ jv;rw[He (by decide),Hf (by omega)]
 show xs[(-1+(xs.length:Int)).toNat]? = some v
 rw[show (-1+(xs.length:Int)).toNat=xs.length - 1 by omega]; exact h
section
variable{prog:Program}{w:World}{A:Around}{E:Value→Shared→Prop}{s:Shared}
variable{z TI TO i1 i2 t1 t2:Addr}{xs ys:Array Value}{k1 k2:Nat}{a b:Value}
abbrev GE (h:Heap) (t1:Addr):Heap:=h.push { cls:=.type "list_iterator", data:=.fields #[.ref t1,.int 0 0] }
abbrev LQ (h:Heap) (t1 t2:Addr):Heap:=(GE h t1).push { cls:=.type "tuple_iterator", data:=.fields #[.ref t2,.int 0 0] }
end
section
variable{X:Cx}
noncomputable def x5:mh:=fun o i v H Q=>∃ a b kvs k,o = .ref a∧i = .ref b∧H a=some (.dT kvs)∧H b=some (.tup (k.map kV))∧kvs.length<sizeLine∧Q (upd H a (.dT (cy kvs k v)))
theorem wX{n:Nat}(J:Dx n X.A):Fv X x5:=by
 intro pins s σ H o i v Z Y u Q I F O W h
 obtain⟨a,b,kvs,k,rfl,rfl,e,U,hl,q⟩:=h
 cases F;exact mY (by have:=J.un; omega) I (Fm.t e U hl) O W fun s' S=>⟨_,S,q⟩
end
open PySem.SeqAt
end L2
namespace L2
open PySem PySem.Spec PyProof.Rows
abbrev ie:=Sum Str (List (Option Int))
noncomputable def uN(prog:Program)(w:World)(h:Heap):ie→Value→Prop
 | .inl u,v=>∃ t,v=Value.str u t
 | .inr l,v=>CV (dQ prog w) h l v
theorem FU(i j:Str):decide (i=j)=decide ((Sum.inl i:ie)=Sum.inl j):=by
 by_cases z:i=j
 ·subst z; simp
 ·have F:¬ ((Sum.inl i:ie)=Sum.inl j):=fun q=>z (Sum.inl.inj q)
  rw[decide_eq_false F,decide_eq_false z]
theorem FN(l F:List (Option Int)):decide (l=F)=decide ((Sum.inr l:ie)=Sum.inr F):=by
 by_cases z:l=F
 ·subst z; simp
 ·have J:¬ ((Sum.inr l:ie)=Sum.inr F):=fun q=>z (Sum.inr.inj q)
  rw[decide_eq_false J,decide_eq_false z]
theorem Gb(i:Str)(l:List (Option Int)):decide ((Sum.inl i:ie)=Sum.inr l)=false:=decide_eq_false (fun q=>nomatch q)
theorem F8(i:Str)(l:List (Option Int)):decide ((Sum.inr l:ie)=Sum.inl i)=false:=decide_eq_false (fun q=>nomatch q)
theorem Gh{prog:Program}{w:World}{A:Around}{E:Value→Shared→Prop}{s:Shared}{u v:Value}{Q:Bool→Shared→Prop}(O:A.units+1<cLine):∀ (x y:ie),uN prog w s.heap x u→uN prog w s.heap y v→Q (decide (x=y)) s→
  wpAny (model prog w) A (PySem.eqBool u v) Q E s
 | .inl i,.inl j,⟨t,e1⟩,⟨t',e2⟩,h=>by
  subst e1 e2;rw[← FU]at h
  exact wpAny_eqBool_str h
 | .inl i,.inr l,⟨t,e1⟩,hy,h=>by
  subst e1;obtain⟨b,F,rfl,J⟩:=CV.tup (K:=dQ prog w) hy
  rw[Gb]at h
  exact SeqAt.EqAt.str_tuple i t J (Nat.lt_of_succ_lt O) prog w E Q h
 | .inr l,.inl j,hx,⟨t,e1⟩,h=>by
  subst e1;obtain⟨b,F,rfl,J⟩:=CV.tup (K:=dQ prog w) hx
  rw[F8]at h
  exact SeqAt.EqAt.tuple_str j t J (Nat.lt_of_succ_lt O) prog w E Q h
 | .inr l,.inr l',hx,hy,h=>by
  rw[← FN]at h
  exact lQ (K:=dQ prog w) (tZ O) hx hy h
noncomputable def H_(prog:Program)(w:World):IK prog w ie where
 is:=uN prog w
 hash:=fun k=>match k with
  | .inl u=>hashStr w u
  | .inr l=>pR (dQ prog w) l
 draws:=fun k=>match k with
  | .inl _=>1
  | .inr l=>gZ (dQ prog w) l+1
 deep:=1
 inj:=fun {h v x y} a b=>by
  cases x with
  | inl i=>
   obtain⟨t,rfl⟩:=(show ∃ t,v=Value.str i t from a)
   cases y with
   | inl j=>obtain⟨t',e⟩:=(show ∃ t',Value.str i t=Value.str j t' from b); injection e with e1 _; rw[e1]
   | inr l=>obtain⟨a,_,e,_⟩:=CV.tup (show CV (dQ prog w) h l _ from b); cases e
  | inr l=>
   cases y with
   | inl j=>
    obtain⟨t,rfl⟩:=(show ∃ t,v=Value.str j t from b)
    obtain⟨a,_,e,_⟩:=CV.tup (show CV (dQ prog w) h l _ from a); cases e
   | inr l'=>rw[(tupK (dQ prog w)).inj (show CV (dQ prog w) h l v from a) (show CV (dQ prog w) h l' v from b)]
 keeps:=fun {h h' k v d o es ep} a ho hd hs=>by
  cases k with
  | inl i=>exact a
  | inr l=>exact(tupK (dQ prog w)).keeps (show CV (dQ prog w) h l v from a) ho hd hs
 pyHash:=fun {A E s k v Q} hu hk h=>by
  cases k with
  | inl i=>
   obtain⟨t,rfl⟩:=(show ∃ t,v=Value.str i t from hk)
   exact wpAny_pyHash_str h
  | inr l=>exact jA (K:=dQ prog w) (tZ hu) hk h
 eqBool:=fun {A E s x y u v Q} hu hx hy h=>Gh hu x y hx hy h
 quiet:=fun {A E s k v n Q} hk h=>by
  cases k with
  | inl i=>
   obtain⟨t,rfl⟩:=(show ∃ t,v=Value.str i t from hk)
   rw[eqIsQuiet_byValue _ rfl];exact Hc h
  | inr l=>exact iT (K:=dQ prog w) hk h
abbrev mj:=Str × List (Option Int)
noncomputable def sk(k:mj):List ie:=[.inl k.1,.inr k.2]
noncomputable def MS(P:Program)(w:World):HeapKind P w (List ie):=A3 (H_ P w) (show 1≤7 by decide)
noncomputable def Gp(P:Program)(w:World)(a:Addr)(xs:List (List ie × Addr × Value)):HO:=
 .ext fun h=>∃ o es ep,h.get? a=some o∧o.ExactDict∧o.data = .dict es ep∧es.toList=xs.map (entryOfKey (MS P w))∧(xs.map (·.1)).Nodup
def JV(H:Hp)(k:mj)(b:Addr):Prop:=∃ t,H b=some (.tup [.str k.1,.ref t])∧H t=some (.tup (k.2.map iA))
def Iw(H:Hp)(p:mj × V)(q:List ie × Addr × Value):Prop:=q.1=sk p.1∧JV H p.1 q.2.1∧RelV p.2 q.2.2
def DS(P:Program)(w:World)(H:Hp)(a:Addr)(kvs:List (mj × V)):Prop:=
 ∃ xs,H a=some (Gp P w a xs)∧(a == sysModules)=false∧xs.length≤sizeLine∧Paired (Iw H) kvs xs
section
variable{prog:Program}{w:World}{A:Around}{E:Value→Shared→Prop}{s:Shared}
theorem ng{it t:Addr}{F:Array Value}(U:t≠it):∀ (n i:Nat) (s:Shared) (Q:List Value→Shared→Prop),s.heap.IsListIter it t i→s.heap.IsList t F→i+n≤F.size→
  (∀ h',h'.IsListIter it t (i+n)→Heap.SameBut it s.heap h'→Q ((F.toList.drop i).take n) { s with heap:=h' })→wpAny (model prog w) A (draw (.ref it) n) Q E s
 | 0,i,s,Q,hit,_,_,hQ=>by
  show wpAny _ _ (pure []) Q E s
  exact Hc (by simpa using hQ s.heap hit (Heap.SameBut.refl ..))
 | n+1,i,s,Q,hit,ht,hle,hQ=>by
  have S:i<F.size:=by omega
  show wpAny _ _ (pyNext (.ref it) >>= _) Q E s
  refine G8 (wpAny_pyNext_list_item hit ht (x:=F[i]) (by simp[S]) fun h₁ J W=>?_)
  refine G8 (wpAny_holding (ng U n (i+1) _ _ J (ht.extBut W.extBut U) (by omega) fun Z O Y=>Hc ?_))
  have hd:F.toList.drop i=F[i]::F.toList.drop (i+1):=by simp[List.drop_eq_getElem_cons,S]
  have:=hQ Z (by rw[show i+(n+1)=i+1+n by omega]; exact O) (W.trans Y)
  rw[hd,GS]at this
  exact this
theorem kh{t:Addr}{J:Array Value}{Q:List Value→Shared→Prop}(hh:A.handled=none)(Y:s.heap.IsList t J)
  (hQ:∀ h',Heap.ExtBut s.heap.objs.size s.heap h'→Q J.toList { s with heap:=h' }):wpAny (model prog w) A (unpackItems (.ref t) J.size none) Q E s:=by
 obtain⟨o,ho,hc,hd⟩:=id Y
 have S:t≠s.heap.objs.size:=zR (zA ho)
 unfold unpackItems;refine G8 ?_
 ·unfold notIterableAtAll
  refine G8 (wpAny_specialOf (show s.TypeIs (.ref t) "list" from ⟨o,ho,hc⟩) F.slot_list_iter.lookup ?_)
  refine Hc ?_
  simp only[wA,if_false]
  refine G8 (wpAny_holding (wpAny_pyIter_list Y ?_))
  refine G8 (wpAny_holding (ng S J.size 0 _ _ ⟨_,zV _ rfl,rfl,rfl⟩ (Heap.IsList.push Y _) (by omega) fun h₁ O U=>?_))
  have W:List.take J.size (List.drop 0 J.toList)=J.toList:=by
   rw[List.drop_zero]; exact mJ (by simp)
  rw[W];rw[He (by simp)]
  have ab:h₁.IsList t J:=(Heap.IsList.push Y _).extBut U.extBut S
  refine G8 (wpAny_holding (wpAny_pyNext_list_end hh O ab (by simp) fun h₂ Z=>?_))
  simp only[Option.isSome_none,wA,if_false]
  refine Hc (hQ h₂ fun b o hb e=>Z b o hb (U.extBut b o hb (zz _ e)))
theorem jQ{env:Env}{J:List Expr}{x1}{pos:Pos}{t:Addr}{F:Array Value}{Q:Unit→Shared→Prop}(hh:A.handled=none)(U:s.heap.IsList t F)
  (S:(assignEach J env).length=F.size) (O:(assignEach J env).findIdx? (·.1)=none)
  (h:∀ h',Heap.ExtBut s.heap.objs.size s.heap h'→wpAny (model prog w) A (assignInOrder ((assignEach J env).map (·.2)) F.toList) Q E { s with heap:=h' }) :
  wpAny (model prog w) A (assign (.Tuple J x1 pos) env (.ref t)) Q E s:=by
 rw[assign_Tuple];refine G8 (wpAny_standAt ?_)
 unfold unpack;rw[S,O];exact G8 (wpAny_holding (kh hh U h))
end
section
variable{X:Cx}
noncomputable def Dr(K:W.Frag)(n:Nat)(t:fA):TG:=fun v σ H Q=>∃ a xs,v = .ref a∧ud K H a xs∧xs.length=n∧t xs σ H Q
theorem BM(K:W.Frag)(n:Nat)(t:fA)(v:V){σ : St}{H:Hp}{G:St→Hp→Prop}:Dr K n t v σ H G=∃ a xs,v = .ref a∧ud K H a xs∧xs.length=n∧t xs σ H G:=rfl
theorem CQ(K:W.Frag){es:List Expr}{k n:Nat}{t:fA}{pos:Pos}(h:GT X es t)(U:(assignEach es X.env).length=n:=by rfl)(hst:(assignEach es X.env).findIdx? (·.1)=none:=by rfl)(hK:X.K=K:=by rfl)(hc:X.calm=true:=by rfl):PG X (.Tuple es k pos) (Dr K n t):=by
 subst hK;intro pins s σ H v u Q I r F
 obtain⟨a,xs,e1,O,hl,F⟩:=F
 subst e1
 cases r;obtain⟨Y,J,S,hz⟩:=I.list O
 refine jQ (I.ok.hd hc) S.isList (by simp[U,← hl,J.length]) hst fun h' hx=>?_
 have Z:Inv X pins σ H { s with heap:=h' }:=I.kept (t':=s.toks) fun b o e=>hx b o (zR (zA e)) e
 exact h pins _ σ H xs _ Q Z (by simpa using J) F
end
noncomputable def bj(n s:Nat):Bool:=n.testBit s
theorem lM(n s:Nat):bj n s=decide (n / 2 ^ s % 2=1):=Nat.testBit_eq_decide_div_mod_eq
theorem Ck(n s:Nat):n &&& 2 ^ s=(if bj n s=true then 2 ^ s else 0):=by
 unfold bj;refine Nat.eq_of_testBit_eq fun i=>?_
 rw[Nat.testBit_and,za7]
 by_cases c:s=i
 ·subst c
  cases h:n.testBit s <;> simp
 ·rw[decide_eq_false c,Bool.and_false]
  split
  ·rw[za7,decide_eq_false c]
  ·rw[Nat.zero_testBit]
noncomputable def aT(n s:Nat):Nat:=if bj n s=true then n - 2 ^ s else n
noncomputable def mL(n s:Nat):Nat:=if bj n s=true then n else n+2 ^ s
theorem fZ{n s:Nat}(h:bj n s=true):2 ^ s≤n:=Nat.ge_two_pow_of_testBit h
theorem Dl(n s:Nat):n ||| 2 ^ s=mL n s:=by
 unfold mL
 by_cases c:bj n s=true
 ·rw[Hf c]
  refine Nat.eq_of_testBit_eq fun i=>?_
  rw[Nat.testBit_or,za7]
  by_cases d:s=i
  ·subst d
   have:n.testBit s=true:=c
   rw[this]; rfl
  ·rw[decide_eq_false d,zaI]
 ·rw[He c]
  have J:n / 2 ^ s % 2=0:=by
   rw[lM,decide_eq_true_eq]at c; omega
  have O:n % 2 ^ (s+1)=n % 2 ^ s:=by rw[Nat.mod_pow_succ,J]; omega
  have F:n % 2 ^ (s+1)<2 ^ s:=by rw[O]; exact GP _ (Nat.two_pow_pos s)
  have e:=Nat.div_add_mod n (2 ^ (s+1));generalize n % 2 ^ (s+1)=b at F e;generalize n / 2 ^ (s+1)=a at e;have p2:2 ^ (s+1)=2 ^ s+2 ^ s:=by rw[Nat.pow_succ]; omega
  have h1:=Nat.two_pow_add_eq_or_of_lt (i:=s+1) (b:=b) (by omega) a
  have h2:=Nat.two_pow_add_eq_or_of_lt (i:=s+1) (b:=b+2 ^ s) (by omega) a
  rw[← e,h1,Nat.or_assoc,Nat.or_two_pow_eq_add_of_lt F,← h2]; omega
theorem wk(x:Int):Builtin.bitNot (Builtin.bitNot x)=x:=by unfold Builtin.bitNot; omega
theorem Cr(n:Nat):decide (0≤Builtin.bitNot (n:Int))=false:=decide_eq_false (by unfold Builtin.bitNot; omega)
theorem su(n s:Nat):Builtin.bitAnd (n:Int) (Builtin.bitNot ((2 ^ s:Nat):Int))=(aT n s:Int):=by
 unfold Builtin.bitAnd;rw[Cr,decide_eq_true (Int.natCast_nonneg n)];show (n:Int) - (((n:Int).toNat &&& (Builtin.bitNot (Builtin.bitNot ((2 ^ s:Nat):Int))).toNat:Nat):Int)=_
 rw[wk,vO,vO,Ck];unfold aT;split
 ·rename_i h
  have:=fZ h
  omega
 ·simp
theorem DF(n s:Nat):Builtin.bitAnd ((n:Int) / 2 ^ s) 1=if bj n s=true then 1 else 0:=by
 rw[PyProof.Rows.bitAnd_m1,lM];have e:(n:Int) / 2 ^ s % 2=((n / 2 ^ s % 2:Nat):Int):=by push_cast; rfl
 rw[e];split
 ·rename_i h; rw[of_decide_eq_true h]; rfl
 ·rename_i h
  rw[decide_eq_true_eq]at h
  have:n / 2 ^ s % 2=0:=by omega
  rw[this]; rfl
end L2
namespace L2
open PySem PySem.Spec PyProof PyProof.Rows
def Fd(h:Heap)(d:Addr)(es:Array DictEntry)(ep:Nat):Prop:=∃ o,h.get? d=some o∧o.ExactDict∧o.data = .dict es ep
section
variable{prog:Program}{w:World}{A:Around}{E:Value→Shared→Prop}{s:Shared}{d:Addr}{es:Array DictEntry}{ep:Nat}
theorem Fd.ty(x:Fd s.heap d es ep):s.TypeIs (.ref d) "dict" := let ⟨o,eo,ex,_⟩:=x; ⟨o,eo,ex.1⟩
theorem Fd.by{h h':Heap}(x:Fd h d es ep)(k:∀ o,h.get? d=some o→h'.get? d=some o):Fd h' d es ep:=let ⟨o,eo,r⟩:=x; ⟨o,k o eo,r⟩
theorem z9{Q:Value→Shared→Prop}(nd:(d == sysModules)=false)(x:Fd s.heap d es ep)
  (q:Q (.ref s.heap.objs.size) { s with heap:=s.heap.push { cls:=.type "dict_keyiterator", data:=.fields #[.ref d,.int 0 0,.int es.size 0,.int ep 0] } }):wpAny (model prog w) A (pyIter (.ref d)) Q E s:=by
 obtain⟨o,J,ex,O⟩:=id x
 have ty:=x.ty;refine wpAny_pyIter_slot ty F.slot_dict_iter (wpAny_call_entry F.slot_dict_iter ty F.entry_dict_iter ?_ (F.args_dict_iter_1 _))
 unfold Builtin.«dict.__iter__» Builtin.Dict.dictSlotNone
 refine G8 (G8 (wpAny_notOrdered_dict ty ?_))
 show wpAny _ _ (pure (Value.ref d)) _ _ s
 refine Hc ?_
 show wpAny _ _ (Builtin.Dict.showsAll d >>= _) _ _ s
 unfold Builtin.Dict.showsAll;rw[He (by rw[nd]; decide)]
 refine G8 (Hc (G8 (wpAny_dictEntries J O (G8 (wpAny_dictEpoch J O ?_)))))
 refine G8 (wpAny_newObj_type (Hc ⟨_,rfl, "dict_keyiterator", _,⟨_,zV _ rfl,rfl⟩,F.slot_dict_keyiterator_next.lookup,?_⟩))
 simpa [rawInt] using q
theorem zT{it:Addr}{i:Nat}{Q:Option Value→Shared→Prop}(Y:s.heap.IsKeyIter it d i es.size ep)(x:Fd s.heap d es ep)(hi:i<es.size)
  (q:∀ h',h'.IsKeyIter it d (i+1) es.size ep→Heap.SameBut it s.heap h'→Q (some es[i].key) { s with heap:=h' }):wpAny (model prog w) A (pyNext (.ref it)) Q E s:=by
 obtain⟨u,O,uc,J⟩:=id Y
 obtain⟨o,W,ex,U⟩:=id x
 have ty:=Y.typeIs;unfold pyNext;refine G8 (wpAny_attempt (wpAny_callSpecial?_slot (name:=Str.ofString "__next__") ty za8 (wpAny_call_entry za8 ty F.entry_dict_keyiterator_next ?_ (F.args_dict_keyiterator_next_1 _))))
 refine G8 (Hc (G8 (G8 ?_)))
 refine G8 (wpAny_typeNameOfWhole_keyiter ty (Hc (G8 (wpAny_fieldsOf O J ?_))))
 have Z:Builtin.Dict_items.ownsTuple "dict_keyiterator" = false:=by decide
 simp only[Z,wA,if_false]
 show wpAny _ _ (if (Value.ref d == Value.none)=true then _ else _) _ _ s
 rw[He (show ¬ (Value.ref d == Value.none)=true from fun z=>wj z)]
 refine G8 (Hc (G8 (wpAny_dictEntries W U ?_)))
 rw[He (by simp)]
 refine G8 (Hc (G8 (wpAny_dictEpoch W U ?_)))
 rw[He (by simp)]
 refine Hc ?_
 simp only[show ¬ ((i:Int)<0) by omega,if_false,vO,wt hi]
 refine G8 (G8 (wpAny_typeNameOfWhole_keyiter ty (Hc (G8 (wpAny_isOneOf_keyiter ty ?_)))))
 show wpAny _ _ (setField (.ref it) 1 (rawInt ((i:Int)+1)) >>= _) _ _ s
 refine G8 (wpAny_setField O J (by simp) ?_)
 have S:(s.heap.update it (Obj.mapFields (·.setIfInBounds 1 (rawInt ((i:Int)+1))))).IsKeyIter it d (i+1) es.size ep:=
  ⟨_,mr _ O (zay (GF J _)),(zaO ..).trans uc,by rw[GF J]; simp[rawInt]⟩
 generalize hz:s.heap.update it (Obj.mapFields (·.setIfInBounds 1 (rawInt ((i:Int)+1))))=h2 at S ⊢;refine G8 (wpAny_holding (G8 (wpAny_isOneOf_keyiter (s:={ s with heap:=h2 }) S.typeIs ?_)))
 show wpAny _ _ (pure es[i].key) _ _ _
 exact Hc (Hc ⟨_,rfl,Hc (q h2 S (hz ▸ gv ..))⟩)
theorem BY{it:Addr}{i:Nat}{Q:Option Value→Shared→Prop}(hh:A.handled=none)(U:s.heap.IsKeyIter it d i es.size ep)(x:Fd s.heap d es ep)(hi:es.size≤i)
  (q:∀ h',Heap.ExtBut it s.heap h'→Q none { s with heap:=h' }):wpAny (model prog w) A (pyNext (.ref it)) Q E s:=by
 obtain⟨u,O,Z,W⟩:=id U
 obtain⟨o,S,ex,J⟩:=id x
 have ty:=U.typeIs;unfold pyNext;refine G8 (wpAny_attempt (wpAny_callSpecial?_slot (name:=Str.ofString "__next__") ty za8 (wpAny_call_entry za8 ty F.entry_dict_keyiterator_next ?_ (F.args_dict_keyiterator_next_1 _))))
 refine G8 (Hc (G8 (G8 ?_)))
 refine G8 (wpAny_typeNameOfWhole_keyiter ty (Hc (G8 (wpAny_fieldsOf O W ?_))))
 have Y:Builtin.Dict_items.ownsTuple "dict_keyiterator" = false:=by decide
 simp only[Y,wA,if_false]
 show wpAny _ _ (if (Value.ref d == Value.none)=true then _ else _) _ _ s
 rw[He (show ¬ (Value.ref d == Value.none)=true from fun z=>wj z)]
 refine G8 (Hc (G8 (wpAny_dictEntries S J ?_)))
 rw[He (by simp)]
 refine G8 (Hc (G8 (wpAny_dictEpoch S J ?_)))
 rw[He (by simp)]
 refine Hc ?_
 simp only[show ¬ ((i:Int)<0) by omega,if_false,vO,GZ hi]
 refine G8 (G8 (wpAny_typeNameOfWhole_keyiter ty (Hc ?_)))
 show wpAny _ _ (setField (.ref it) 0 .none >>= _) _ _ s
 refine G8 (wpAny_setField O W (by simp) ?_)
 show wpAny _ _ (newExc (.type "StopIteration") [] >>= _) _ _ _
 simp only[newExc,newTuple]
 refine G8 (G8 (wpAny_newObj_type (G8 (m:=firstArgMember _ _) (wpAny_of_eq (a:=Value.none) (by first | rfl | (simp only[firstArgMember]; rfl)) ?_)) (by size_fits)))
 refine wpAny_newObj_type ?_ (by size_fits)
 simp only[raiseNew]
 refine G8 (wpAny_handled ?_)
 rw[show A.in1.handled=none from hh];refine G8 (Hc (wpAny_throw ?_))
 refine G8 (wpAny_isInstance (b:=true) (T := "StopIteration") ⟨_,zV _ rfl,rfl⟩ isSubtype_stop ?_)
 exact Hc (q _ (((gv ..).extBut.push _).push _))
theorem yD(hh:A.handled=none)(I:Addr)(ne:d≠I):Walks prog w A I [I,d] [I] es.size (fun i v=>∃ e,es[i]? = some e∧v=e.key) (fun i h=>h.IsKeyIter I d i es.size ep∧Fd h d es ep) where
 sub:=fun b F=>by simp at F; simp[F]
 frame:=fun i h h' st k=>⟨let ⟨o,e,r⟩:=st.1; ⟨o,k I (by simp) o e,r⟩,st.2.by fun o e=>k d (by simp) o e⟩
 item:=fun i s Q E hi st q=>zT st.1 st.2 hi fun h' O J=>q _ h' s.toks ⟨_,wt hi,rfl⟩ ⟨O,st.2.by fun o e=>J.extBut d o ne e⟩ fun b o F e=>J.extBut b o (fun z=>F (by simp[z])) e
 done:=fun s Q E st q=>BY hh st.1 st.2 (zl _) fun h' S=>q h' s.toks fun b o F e=>S b o (fun z=>F (by simp[z])) e
 self:=fun i s Q E st q=>wpAny_pyIter_keyiter st.1 q
theorem CA(nd:(d == sysModules)=false):W.KdlSrc prog w "dict" d d es.size (fun i v=>∃ e,es[i]? = some e∧v=e.key) (fun h=>Fd h d es ep) where
 type:=fun _ x=>x.ty
 there:=fun _ x=>let ⟨_,e,_⟩:=x; ⟨zA e,zA e⟩
 keep:=fun _ _ x k=>x.by fun o e=>k d (.inl rfl) o e
 notList:=by decide
 notTuple:=by decide
 hint:=fun _ _ _ _ x q=>W.kdl_hint_dict x.ty q
 iter:=fun _ s hh x=>⟨_,_,fun _ _ q=>z9 nd x q,yD hh _ (let ⟨_,e,_⟩:=x; zR (zA e)),⟨_,zV _ rfl,rfl,rfl⟩,x.by fun o e=>zz _ e⟩
end
section
variable{X:Cx}
noncomputable def xR:List V→Hp→VK→Prop:=fun xs H Q=>∃ d,∃ kvs:List (List aG × V),xs=[.ref d]∧H d=some (.dT kvs)∧kvs.length≤60000∧∀ (l:Addr) (bs:List Addr),H l=none→Paired (fun (p:List aG × V) b=>H b=some (.tup (p.1.map kV))) kvs bs→Q (.ref l) (upd H l (.lst (bs.map V.ref)))
theorem Cz{H:Hp}{kvs:List (List aG × V)}{ys:List (List aG × Addr × Value)}(h:Paired (fun (p:List aG × V) (q:List aG × Addr × Value)=>p.1=q.1∧H q.2.1=some (.tup (p.1.map kV))∧RelV p.2 q.2.2) kvs ys):Paired (fun (p:List aG × V) b=>H b=some (.tup (p.1.map kV))) kvs (ys.map (·.2.1)):=by
 induction h with
 | nil=>exact .nil
 | cons a b ih=>exact .cons a.2.1 ih
theorem v4{m:Nat}(hr:Dx m X.A):AL X (.type "list") xR:=by
 intro pins s σ H xs us Q I r h
 obtain⟨d,kvs,rfl,ed,hn,q⟩:=h
 obtain⟨u,rfl,Z⟩:=cT r
 cases Z;obtain⟨_,nd,ys,O,o,es,ep,eo,ex,od,Y,_⟩:=(show Ax X.prog X.w H s.heap d (.dT kvs) from I.hok d _ ed)
 have hs:sizeLine=16777216:=sizeLine_eq
 have hl:kvs.length=ys.length:=G2 O
 have hz:es.size=ys.length:=by rw[← vj,Y,ze]
 refine W.kdl_call (CA (es:=es) (ep:=ep) nd) hr.hd ⟨o,eo,ex,od⟩ (by omega) fun h' tk J c' hk hS F=>?_
 have hb:=Cz O;refine⟨.ref s.heap.objs.size,_,I.laid hk (zl _) (show Ax X.prog X.w _ h' _ (.lst ((ys.map (·.2.1)).map V.ref)) from ⟨by simp; omega,J.toList,c',?_,by simpa using hS⟩),rfl,q _ _ (I.hok.fresh (zl _)) hb⟩
 refine lJ _ _ (by simp[F.1,hz]) fun j x w' S e2=>?_
 obtain⟨e,U,z2⟩:=F.2 j w' (by rw[← mD]; exact e2)
 rw[← mD,Y,zy]at U
 rw[yt,zy]at S
 cases hy:ys[j]? with
 | none=>rw[hy]at S; cases S
 | some y=>
  rw[hy]at S U
  cases S
  cases U;rw[z2];exact rfl
theorem xL{H:Hp}{Q:VK}(d:Addr):xR [.ref d] H Q=∃ kvs:List (List aG × V),H d=some (.dT kvs)∧kvs.length≤60000∧∀ (l:Addr) (bs:List Addr),H l=none→Paired (fun (p:List aG × V) b=>H b=some (.tup (p.1.map kV))) kvs bs→Q (.ref l) (upd H l (.lst (bs.map V.ref))):=
 propext ⟨fun ⟨_,kvs,e,q⟩=>by cases e; exact⟨kvs,q⟩,fun ⟨kvs,q⟩=>⟨d,kvs,rfl,q⟩⟩
end
end L2
namespace L2
open PySem
noncomputable def gM(M i:Nat):Nat:=(i * 5+1) % M
noncomputable def ke(M:Nat):Nat→Nat→Nat
 | 0,i=>i
 | t+1,i=>ke M t (gM M i)
theorem jG(M:Nat):∀ (a b i:Nat),ke M (a+b) i=ke M b (ke M a i)
 | 0,b,i=>by rw[kC]; rfl
 | a+1,b,i=>by rw[show a+1+b=(a+b)+1 by omega]; exact jG M a b (gM M i)
noncomputable def zo(M:Nat):Nat→Nat→List Nat
 | 0,_=>[]
 | n+1,i=>i::zo M n (gM M i)
theorem tO(M:Nat):∀ (n i e:Nat),e∈zo M n i→∃ t,t<n∧ke M t i=e
 | 0,i,e,h=>by cases h
 | n+1,i,e,h=>by
  rcases Hi.mp h with rfl | h
  ·exact⟨0,by omega,rfl⟩
  ·obtain⟨t,F,q⟩:=tO M n (gM M i) e h
   exact⟨t+1,by omega,q⟩
theorem uf{M:Nat}(W:M∈[8,16,32,64,128,256]){i e:Nat}(hi:i<M)(O:e<M):∃ t,t<M∧ke M t i=e:=by
 have h1:∀ M∈[8,16,32,64,128,256],ke M M 0=0∧(List.range M).all (fun e=>(zo M M 0).contains e)=true:=by decide +kernel
 obtain⟨Y,J⟩:=h1 M W
 rw[zaM]at J
 have F:∀ e,e<M→∃ t,t<M∧ke M t 0=e:=fun e O=>tO M M 0 e (by have:=J e (Hm.mpr O); simpa using this)
 obtain⟨a,Z,S⟩:=F i hi
 obtain⟨b,hb,U⟩:=F e O
 rcases vA b a with z | z
 ·refine⟨b+M - a,by omega,?_⟩
  rw[← S,← jG,show a+(b+M - a)=M+b by omega,jG,Y,U]
 ·refine⟨b - a,by omega,?_⟩
  rw[← S,← jG,show a+(b - a)=b by omega,U]
noncomputable def gG(mask:Nat):Nat→Nat→Nat→Nat
 | 0,i,p=>i
 | t+1,i,p=>gG mask t ((i * 5+1+p / 32) % (mask+1)) (p / 32)
theorem kL(mask:Nat):∀ (t i:Nat),gG mask t i 0=ke (mask+1) t i
 | 0,i=>rfl
 | t+1,i=>by
  show gG mask t ((i * 5+1+0 / 32) % (mask+1)) (0 / 32)=ke (mask+1) t (gM (mask+1) i)
  rw[Nat.zero_div,Nat.add_zero];exact kL mask t _
theorem my(mask:Nat):∀ (a b i p:Nat),gG mask (a+b) i p=gG mask b (gG mask a i p) (p / 32 ^ a)
 | 0,b,i,p=>by rw[kC,Nat.pow_zero,Nat.div_one]; rfl
 | a+1,b,i,p=>by
  rw[show a+1+b=(a+b)+1 by omega]
  show gG mask (a+b) _ (p / 32)=gG mask b (gG mask a _ (p / 32)) _
  rw[my mask a b,Nat.div_div_eq_div_mul,Nat.pow_succ,Nat.mul_comm (32 ^ a) 32]
theorem qZ(mask:Nat):∀ (t i p:Nat),i≤mask→gG mask t i p≤mask
 | 0,i,p,h=>h
 | t+1,i,p,h=>qZ mask t _ _ (by have:=GP (i * 5+1+p / 32) (show 0<mask+1 by omega); omega)
theorem lG(mask i:Nat):i≤SetTable.runEnd mask i:=by unfold SetTable.runEnd; split <;> omega
theorem nu{mask:Nat}{owner:Array (Option Nat)}:∀ (f i p:Nat),SetTable.layClean.free mask owner f i p=none→∀ t,t<f→(owner.getD (gG mask t i p) (some 0)).isNone=false
 | 0,i,p,h,t,ht=>by omega
 | f+1,i,p,h,t,ht=>by
  unfold SetTable.layClean.free at h;split at h
  ·cases h
  ·rename_i hf
   rw[List.find?_eq_none]at hf
   cases t with
   | zero=>
    have t:=hf 0 (Hm.mpr (by have:=lG mask i; omega))
    rw[Nat.add_zero]at t
    exact Hu.mpr t
   | succ t=>exact nu f _ _ h t (by omega)
theorem oo{mask:Nat}{owner:Array (Option Nat)}{j:Nat}:∀ (f i p:Nat),SetTable.layClean.free mask owner f i p=some j→(owner.getD j (some 0)).isNone=true
 | 0,i,p,h=>by unfold SetTable.layClean.free at h; cases h
 | f+1,i,p,h=>by
  unfold SetTable.layClean.free at h;split at h
  ·rename_i k hf
   cases h;exact @List.find?_some _ (fun k=>(owner.getD (i+k) (some 0)).isNone) _ _ hf
  ·exact oo f _ _ h
theorem tF(h:Int):SetTable.bits h<2 ^ 64:=by
 unfold SetTable.bits;omega
theorem uK{mask:Nat}(O:mask+1∈[8,16,32,64,128,256]){owner:Array (Option Nat)}{e:Nat}(U:e≤mask)(S:(owner.getD e (some 0)).isNone=true)(h:Int) :
  ∃ j,SetTable.layClean.free mask owner (SetTable.turns mask) (SetTable.bits h % (mask+1)) (SetTable.bits h)=some j∧(owner.getD j (some 0)).isNone=true:=by
 cases q:SetTable.layClean.free mask owner (SetTable.turns mask) (SetTable.bits h % (mask+1)) (SetTable.bits h) with
 | some j=>exact⟨j,rfl,oo _ _ _ q⟩
 | none=>
  exfalso
  have F:=nu _ _ _ q;have hi:SetTable.bits h % (mask+1)≤mask:=by have:=GP (SetTable.bits h) (show 0<mask+1 by omega); omega
  obtain⟨t,W,J⟩:=uf O (i:=gG mask 13 (SetTable.bits h % (mask+1)) (SetTable.bits h)) (e:=e) (by have:=qZ mask 13 _ (SetTable.bits h) hi; omega) (by omega)
  have z:=F (13+t) (by unfold SetTable.turns; omega)
  have hz:SetTable.bits h / 32 ^ 13=0:=Nat.div_eq_of_lt (vV (tF h) (by decide))
  rw[my,hz,kL,J,S]at z
  cases z
theorem xT{α : Type}(f g:Nat→Option α)(j:Nat)(k:α)(hf:f j=none)(hg:g j=some k)(F:∀ i,i≠j→g i=f i):∀ (l:List Nat),l.Nodup→(j∈l→(l.filterMap g).Perm (k::l.filterMap f))∧(j∉l→l.filterMap g=l.filterMap f)
 | [],_=>⟨fun h=>(nomatch h),fun _=>rfl⟩
 | a::l,nd=>by
  rw[f6]at nd
  have ih:=xT f g j k hf hg F l nd.2
  by_cases e:a=j
  ·subst e
   refine⟨fun _=>?_,fun h=>absurd zI h⟩
   rw[G4 hg,zaR hf,ih.2 nd.1]
  ·refine⟨fun h=>?_,fun h=>?_⟩
   ·have hl:j∈l:=by
     rcases Hi.mp h with z | z
     ·exact absurd z.symm e
     ·exact z
    have:=ih.1 hl
    cases q:f a with
    | none=>rw[zaR (by rw[F a e]; exact q),zaR q]; exact this
    | some x=>
     rw[G4 (by rw[F a e]; exact q),G4 q]
     exact(this.cons x).trans (List.Perm.swap _ _ _)
   ·have hl:j∉l:=fun z=>h (zO _ z)
    cases q:f a with
    | none=>rw[zaR (by rw[F a e]; exact q),zaR q,ih.2 hl]
    | some x=>rw[G4 (by rw[F a e]; exact q),G4 q,ih.2 hl]
structure mU (mask:Nat) (owner:Array (Option Nat)) (k:Nat):Prop where
 sz:owner.size=mask+1
 pm:((List.range (mask+1)).filterMap (fun j=>owner.getD j none)).Perm (List.range k)
theorem oT{mask:Nat}{owner:Array (Option Nat)}{k j:Nat}(h:mU mask owner k)(J:(owner.getD j (some 0)).isNone=true):mU mask (owner.setIfInBounds j (some k)) (k+1):=by
 have F:j<owner.size:=by
  rcases vA j owner.size with z | z
  ·exact z
  ·rw[y6,GZ z]at J; cases J
 have O:owner.getD j none=none:=by
  rw[y6,wt F]at J ⊢
  simpa using J
 refine⟨by rw[Array.size_setIfInBounds]; exact h.sz,?_⟩
 have:=(xT (fun i=>owner.getD i none) (fun i=>(owner.setIfInBounds j (some k)).getD i none) j k O (by simp[y6,za9,F]) (fun i hi=>by simp[y6,za9,ve hi]) (List.range (mask+1)) List.nodup_range).1 (Hm.mpr (by have:=h.sz; omega))
 refine this.trans ((h.pm.cons k).trans ?_)
 rw[zaz];exact(List.perm_append_comm (l₁:=[k]) (l₂:=List.range k))
theorem qD{mask:Nat}{owner:Array (Option Nat)}{k:Nat}(h:mU mask owner k)(Y:k≤mask):∃ e,e≤mask∧(owner.getD e (some 0)).isNone=true:=by
 refine GD fun W=>?_
 have F:∀ e∈List.range (mask+1),(owner.getD e none).isSome=true:=fun e J=>by
  have S:=Hm.mp J;have O:e<owner.size:=by rw[h.sz]; exact S
  cases q:(owner.getD e (some 0)).isNone with
  | true=>exact absurd ⟨e,by omega,q⟩ W
  | false=>
   rw[y6,wt O]at q ⊢
   cases z:owner[e] with
   | none=>rw[z]at q; cases q
   | some x=>simp[z]
 have hl:((List.range (mask+1)).filterMap (fun j=>owner.getD j none)).length=mask+1:=by
  have gen:∀ (l:List Nat),(∀ e∈l,(owner.getD e none).isSome=true)→(l.filterMap (fun j=>owner.getD j none)).length=l.length:=by
   intro l
   induction l with
   | nil=>intro _; rfl
   | cons a l ih=>
    intro U
    obtain⟨x,hx⟩:=Hs.mp (U a zI)
    rw[G4 (f:=fun j=>owner.getD j none) hx,zx,zx,ih fun e J=>U e (zO _ J)]
  rw[gen _ F,G6]
 have:=h.pm.length_eq
 rw[hl,G6]at this
 omega
theorem rP{mask:Nat}(J:mask+1∈[8,16,32,64,128,256]):∀ (F:List Int) (owner:Array (Option Nat)) (k:Nat),mU mask owner k→k+F.length≤mask+1→
  ∃ owner',F.foldl (fun (acc:Option (Array (Option Nat) × Nat)) h=>do
   let (owner,k) ← acc
   let j ← SetTable.layClean.free mask owner (SetTable.turns mask) (SetTable.bits h % (mask+1)) (SetTable.bits h)
   pure (owner.setIfInBounds j (some k),k+1)) (some (owner,k))=some (owner',k+F.length)∧mU mask owner' (k+F.length)
 | [],owner,k,h,_=>⟨owner,rfl,h⟩
 | x::F,owner,k,h,hl=>by
  rw[zx]at hl
  obtain⟨e,S,W⟩:=qD h (by omega)
  obtain⟨j,Y,O⟩:=uK J S W x
  obtain⟨o',U,h'⟩:=rP J F _ (k+1) (oT h O) (by omega)
  refine⟨o',?_,by rw[zx,show k+(F.length+1)=k+1+F.length by omega]; exact h'⟩
  rw[List.foldl_cons,zx,show k+(F.length+1)=k+1+F.length by omega,← U]
  congr 1
  show (some (owner,k)).bind _=_
  rw[Option.bind_some];show (SetTable.layClean.free mask owner (SetTable.turns mask) (SetTable.bits x % (mask+1)) (SetTable.bits x)).bind _=_
  rw[Y]; rfl
theorem tR(mask:Nat):mU mask (Array.replicate (mask+1) none) 0:=by
 refine⟨by simp,?_⟩
 have:(List.range (mask+1)).filterMap (fun j=>(Array.replicate (mask+1) (none:Option Nat)).getD j none)=[]:=by
  rw[List.filterMap_eq_nil_iff];intro j _
  rw[y6,Array.getElem?_replicate];split <;> rfl
 rw[this];exact List.Perm.refl _
theorem CF{mask:Nat}(O:mask+1∈[8,16,32,64,128,256])(f m:Nat)(led plain:Bool)(F:Array Int)(hl:F.size≤mask) :
  ∃ t order,SetTable.laid mask f m led plain F=some (t,order)∧order.toList.Perm (List.range F.size)∧t.mask=mask∧t.place.size=F.size∧t.dummies = #[]∧t.led=led:=by
 obtain⟨owner,e,h⟩:=rP O F.toList _ 0 (tR mask) (by simp; omega)
 rw[kC]at e h
 have J:SetTable.layClean mask F=some owner:=by
  unfold SetTable.layClean;rw[← Array.foldl_toList];rw[e]; rfl
 unfold SetTable.laid;rw[J];refine⟨_,_,rfl,?_,rfl,?_,rfl,rfl⟩
 ·show (((List.range (mask+1)).filterMap fun j=>(owner.getD j none).map (j,·)).map (·.2)).toArray.toList.Perm _
  rw[List.map_filterMap]
  have:(fun j=>Option.map (fun x:Nat × Nat=>x.2) ((owner.getD j none).map (j,·)))=fun j=>owner.getD j none:=by
   funext j
   cases owner.getD j none <;> rfl
  rw[this]
  simpa using h.pm
 ·show (((List.range (mask+1)).filterMap fun j=>(owner.getD j none).map (j,·)).map (·.1)).toArray.size=_
  have h2:=h.pm.length_eq
  have S:((List.range (mask+1)).filterMap fun j=>(owner.getD j none).map (j,·)).length=((List.range (mask+1)).filterMap fun j=>owner.getD j none).length:=by
   have:((List.range (mask+1)).filterMap fun j=>owner.getD j none)=((List.range (mask+1)).filterMap fun j=>(owner.getD j none).map (j,·)).map (·.2):=by
    rw[List.map_filterMap]
    congr 1
    funext j
    cases owner.getD j none <;> rfl
   rw[this,ze]
  simp only[qf,ze]
  rw[S,h2,G6]; simp
theorem AA:∀ n,n≤240→SetTable.sizeAbove n - 1+1∈[8,16,32,64,128,256]∧n≤SetTable.sizeAbove n - 1:=by decide +kernel
end L2
namespace L2
open PySem PySem.Spec PyProof.Rows PySem.SeqAt
section
variable{prog:Program}{w:World}{K:Type}[DecidableEq K]{knd:KeyKind prog w K}{A:Around}{E:Value→Shared→Prop}{s:Shared}{L:Bool}
theorem Eh{es:Array (Int × Value)}{F:Array Nat}(J:F.toList.Perm (List.range es.size)):(F.filterMap (es[·]?)).toList.Perm es.toList:=by
 rw[Array.toList_filterMap];exact(J.filterMap _).trans (by rw[filterMap_getElem?_range])
theorem vF{mask f m:Nat}{led plain:Bool}{O:Array Int}{t:SetTable}{F:Array Nat}(e:SetTable.laid mask f m led plain O=some (t,F)):dw t.place:=by
 unfold SetTable.laid at e
 cases ho:SetTable.layClean mask O with
 | none=>rw[ho]at e; cases e
 | some owner=>
  rw[ho]at e
  cases e;refine f_ ?_
  refine Ht.mpr ?_
  refine List.Pairwise.filterMap _ ?_ List.pairwise_lt_range
  intro a b J x hx y S
  obtain⟨k,_,rfl⟩:=Hr.mp hx
  obtain⟨U,_,rfl⟩:=Hr.mp S
  exact J
theorem tX{t:SetTable}{n:Nat}(h1:t.place.size=n)(h2:t.dummies = #[])(F:n≤t.mask):t.fits n=true:=by
 unfold SetTable.fits SetTable.fill;rw[h1,h2];simp
 omega
end
end L2
namespace L2
open PySem
noncomputable def Fy(mask:Nat)(p:SetTable.Probe):SetTable.Probe:=
 if p.more>0 then { p with j:=p.j+1,more:=p.more - 1 } else
 { p with j:=(p.i * 5+1+p.perturb / 32) % (mask+1),more:=SetTable.runEnd mask ((p.i * 5+1+p.perturb / 32) % (mask+1)) - (p.i * 5+1+p.perturb / 32) % (mask+1),i:=(p.i * 5+1+p.perturb / 32) % (mask+1),perturb:=p.perturb / 32 }
noncomputable def cm(mask:Nat):Nat→SetTable.Probe→SetTable.Probe
 | 0,p=>p
 | k+1,p=>cm mask k (Fy mask p)
theorem gk(mask:Nat):∀ (a b:Nat) (p:SetTable.Probe),cm mask (a+b) p=cm mask b (cm mask a p)
 | 0,b,p=>by rw[kC]; rfl
 | a+1,b,p=>by rw[show a+1+b=(a+b)+1 by omega]; exact gk mask a b _
noncomputable def jX(mask i q:Nat):SetTable.Probe:={ j:=i,more:=SetTable.runEnd mask i - i,i:=i,perturb:=q,dummy:=none }
theorem mG(mask:Nat):∀ (m:Nat) (p:SetTable.Probe),m≤p.more→cm mask m p={ p with j:=p.j+m,more:=p.more - m }
 | 0,p,_=>rfl
 | m+1,p,h=>by
  show cm mask m (Fy mask p)=_
  have e:Fy mask p={ p with j:=p.j+1,more:=p.more - 1 }:=by unfold Fy; rw[Hf (by omega)]
  rw[e,mG mask m _ (by show m≤p.more - 1; omega)]
  show ({ p with j:=p.j+1+m,more:=p.more - 1 - m }:SetTable.Probe)=_
  rw[show p.j+1+m=p.j+(m+1) by omega,show p.more - 1 - m=p.more - (m+1) by omega]
theorem kn(mask i q:Nat):cm mask (SetTable.runEnd mask i - i+1) (jX mask i q)=jX mask ((i * 5+1+q / 32) % (mask+1)) (q / 32):=by
 rw[gk,mG mask (SetTable.runEnd mask i - i) (jX mask i q) (zl _)];show Fy mask _=_
 unfold Fy jX;rw[He (by show ¬ (SetTable.runEnd mask i - i - (SetTable.runEnd mask i - i)>0); omega)]
theorem CY(mask i:Nat):SetTable.runEnd mask i - i+1≤10:=by unfold SetTable.runEnd; split <;> omega
theorem mR(mask:Nat):∀ (t i q:Nat),∃ n,n≤10 * t∧cm mask n (jX mask i q)=jX mask (gG mask t i q) (q / 32 ^ t)
 | 0,i,q=>⟨0,by omega,by rw[Nat.pow_zero,Nat.div_one]; rfl⟩
 | t+1,i,q=>by
  obtain⟨n,F,e⟩:=mR mask t ((i * 5+1+q / 32) % (mask+1)) (q / 32)
  refine⟨SetTable.runEnd mask i - i+1+n,by have:=CY mask i; omega,?_⟩
  rw[gk,kn,e,Nat.div_div_eq_div_mul,Nat.pow_succ,Nat.mul_comm (32 ^ t) 32]
  rfl
noncomputable def pj(mask:Nat)(h:Int)(k:Nat):Nat:=(cm mask k (jX mask (SetTable.bits h % (mask+1)) (SetTable.bits h))).j
theorem zd{mask:Nat}(J:mask+1∈[8,16,32,64,128,256]){e:Nat}(S:e≤mask)(h:Int):∃ k,k<10 * SetTable.turns mask∧pj mask h k=e:=by
 have hi:SetTable.bits h % (mask+1)≤mask:=by have:=GP (SetTable.bits h) (show 0<mask+1 by omega); omega
 obtain⟨t,W,F⟩:=uf J (i:=gG mask 13 (SetTable.bits h % (mask+1)) (SetTable.bits h)) (e:=e) (by have:=qZ mask 13 _ (SetTable.bits h) hi; omega) (by omega)
 have hz:SetTable.bits h / 32 ^ 13=0:=Nat.div_eq_of_lt (vV (tF h) (by decide))
 obtain⟨n,U,O⟩:=mR mask (13+t) (SetTable.bits h % (mask+1)) (SetTable.bits h)
 refine⟨n,by unfold SetTable.turns; omega,?_⟩
 unfold pj;rw[O];show gG mask (13+t) _ _=e
 rw[my,hz,kL,F]
theorem m_{mask:Nat}{owner:Array (Option Nat)}{j:Nat}:∀ (f i q:Nat),SetTable.layClean.free mask owner f i q=some j→
  ∃ k,(cm mask k (jX mask i q)).j=j∧∀ F,F<k→(owner.getD (cm mask F (jX mask i q)).j (some 0)).isNone=false
 | 0,i,q,h=>by unfold SetTable.layClean.free at h; cases h
 | f+1,i,q,h=>by
  unfold SetTable.layClean.free at h
  have J:∀ m,m≤SetTable.runEnd mask i - i→(cm mask m (jX mask i q)).j=i+m:=fun m Y=>by
   rw[mG mask m _ Y]; rfl
  split at h
  ·rename_i k hf
   cases h;obtain⟨O,l2,el,hn⟩:=List.find?_eq_some_iff_append.mp hf |>.2
   have hk:k<SetTable.runEnd mask i+1 - i:=Hm.mp (List.mem_of_find?_eq_some hf)
   refine⟨k,J k (by omega),fun F U=>?_⟩
   rw[J F (by omega)]
   have Y:F∈O:=by
    have q1:(O++k::l2)[F]? = some F:=by rw[← el]; exact List.getElem?_range (by omega)
    have Z:(O++k::l2)[O.length]? = some k:=by rw[vw (zl _),td]; rfl
    have hl:O.length=k:=by
     have W:O.length<SetTable.runEnd mask i+1 - i:=by
      have:=congrArg List.length el; rw[G6,zr,zx]at this; omega
     rw[← el,List.getElem?_range W]at Z; exact Option.some.inj Z
    rw[vX (by omega)]at q1
    exact vx q1
   have:=hn F Y
   simpa using this
  ·rename_i hf
   obtain⟨k,e,S⟩:=m_ f _ _ h
   rw[List.find?_eq_none]at hf
   refine⟨SetTable.runEnd mask i - i+1+k,by rw[gk,kn]; exact e,fun F U=>?_⟩
   rcases vA F (SetTable.runEnd mask i - i+1) with z | z
   ·rw[J F (by omega)]
    have:=hf F (Hm.mpr (by have:=lG mask i; omega))
    exact Hu.mpr this
   ·obtain⟨d,rfl⟩ : ∃ d,F=SetTable.runEnd mask i - i+1+d:=⟨F - (SetTable.runEnd mask i - i+1),by omega⟩
    rw[gk,kn];exact S d (by omega)
theorem tL(j:Nat):SetTable.has #[] j=false:=by
 unfold SetTable.has; rw[GZ (vL _)]; rfl
theorem mI{t:SetTable}(J:dw t.place){i j:Nat}(hi:i<t.place.size)(e:t.place[i]=j):t.slot j = .live i:=by
 obtain⟨h1,h2,S⟩:=eh J j
 have O:SetTable.below t.place j=i:=by
  rcases Nat.lt_trichotomy (SetTable.below t.place j) i with z | z | z
  ·have F:SetTable.below t.place j<t.place.size:=by omega
   have a:=S _ F (zl _);have b:=J _ _ F hi z;omega
  ·exact z
  ·have a:=h2 i hi z
   omega
 unfold SetTable.slot
 dsimp only
 rw[O,wt hi,e];simp
theorem CO{t:SetTable}(hd:t.dummies = #[]){j:Nat}(e:∀ i (hi:i<t.place.size),t.place[i]≠j):t.slot j = .empty:=by
 unfold SetTable.slot
 dsimp only
 rw[hd,tL]
 have:(t.place[SetTable.below t.place j]? == some j)=false:=by
  rcases vA (SetTable.below t.place j) t.place.size with z | z
  ·rw[wt z]
   have:=e _ z
   simpa using this
  ·rw[GZ z]; rfl
 rw[this]
 rfl
theorem yS{t:SetTable}{j i:Nat}(e:t.slot j = .live i):∃ hi:i<t.place.size,t.place[i]=j:=by
 unfold SetTable.slot at e
 dsimp only at e
 split at e
 ·rename_i q
  injection e with e; subst e
  rcases vA (SetTable.below t.place j) t.place.size with z | z
  ·refine⟨z,?_⟩
   rw[wt z]at q
   simpa using q
  ·rw[GZ z]at q; cases q
 ·split at e <;> cases e
def cE(t:SetTable)(j:Nat):Prop:=∃ (i:Nat) (hi:i<t.place.size),t.place[i]=j
theorem B9{t:SetTable}(F:dw t.place)(hd:t.dummies = #[]){j:Nat}:t.slot j = .empty ↔ ¬ cE t j:=by
 constructor
 ·rintro e ⟨i,hi,q⟩
  rw[mI F hi q]at e; cases e
 ·intro h
  exact CO hd fun i hi q=>h ⟨i,hi,q⟩
structure ES (t:SetTable) (hs:List Int):Prop where
 rise:dw t.place
 size:t.place.size=hs.length
 nod:t.dummies = #[]
 pow:t.mask+1∈[8,16,32,64,128,256]
 inb:∀ i (hi:i<t.place.size),t.place[i]≤t.mask
 reach:∀ i (hi:i<t.place.size),∃ k,pj t.mask (hs.getD i 0) k=t.place[i]∧∀ k',k'<k→cE t (pj t.mask (hs.getD i 0) k')
theorem ES.fresh(f m:Nat)(led:Bool):ES (SetTable.fresh f m led) []:=
 ⟨fun a b F _ _=>absurd F (GN _),rfl,rfl,(by decide:8∈[8,16,32,64,128,256]),fun i hi=>absurd hi (GN _),fun i hi=>absurd hi (GN _)⟩
theorem lc:∀ {l m:List Nat},l.Nodup→(∀ x∈l,x∈m)→l.length≤m.length
 | [],m,_,_=>vL _
 | a::l,m,nd,h=>by
  rw[f6]at nd
  have h1:a∈m:=h a zI
  have:=lc (m:=m.erase a) nd.2 fun x hx=>(List.mem_erase_of_ne (by rintro rfl; exact nd.1 hx)).mpr (h x (zO _ hx))
  rw[List.length_erase_of_mem h1]at this
  have:=List.length_pos_of_mem h1
  rw[zx]; omega
theorem ES.room{t:SetTable}{O:List Int}(T:ES t O)(h:t.place.size≤t.mask):∃ e,e≤t.mask∧¬ cE t e:=by
 refine GD fun S=>?_
 have F:∀ e,e≤t.mask→e∈t.place.toList:=fun e J=>by
  rcases Classical.em (cE t e) with ⟨i,hi,q⟩ | z
  ·rw[← q]; exact Array.getElem_mem_toList hi
  ·exact absurd ⟨e,J,z⟩ S
 have:=lc (List.nodup_range (n:=t.mask+1)) (fun e J=>F e (by have:=Hm.mp J; omega))
 rw[G6,vj]at this
 omega
theorem ES.free{t:SetTable}{Z:List Int}(T:ES t Z)(h:t.place.size≤t.mask)(hh:Int):∃ k,k<10 * SetTable.turns t.mask∧¬ cE t (pj t.mask hh k)∧∀ F,F<k→cE t (pj t.mask hh F):=by
 obtain⟨e,S,U⟩:=T.room h
 obtain⟨k,O,q⟩:=zd T.pow S hh
 have gen:∀ n,¬ cE t (pj t.mask hh n)→∃ k,k≤n∧¬ cE t (pj t.mask hh k)∧∀ F,F<k→cE t (pj t.mask hh F):=by
  intro n
  induction n using Nat.strongRecOn with
  | _ n ih=>
   intro hz
   rcases Classical.em (∃ m,m<n∧¬ cE t (pj t.mask hh m)) with ⟨m,W,q⟩ | z
   ·obtain⟨k,O,r⟩:=ih m W q; exact⟨k,by omega,r⟩
   ·exact⟨n,zl _,hz,fun F J=>GD fun q=>z ⟨F,J,q⟩⟩
 obtain⟨Y,h0,h1,h2⟩:=gen k (by rw[q]; exact U)
 exact⟨Y,by omega,h1,h2⟩
theorem Bq{t:SetTable}(S:dw t.place)(hd:t.dummies = #[])(hashAt:Nat→Int)(h:Int){P:SetTable.Probe}(hP:∀ k,(cm t.mask k P).dummy=none){E:Nat}(Z:¬ cE t (cm t.mask E P).j)(hb:∀ k,k<E→cE t (cm t.mask k P).j) :
  ∀ (F k:Nat),k≤E→E - k<F→
  (SetTable.probe.go t hashAt h F (cm t.mask k P)=some (.empty (cm t.mask E P).j none)∧∀ J,k≤J→J<E→∀ i,t.slot (cm t.mask J P).j = .live i→hashAt i≠h)∨
  ∃ k1 i,k≤k1∧k1<E∧t.slot (cm t.mask k1 P).j = .live i∧hashAt i=h∧SetTable.probe.go t hashAt h F (cm t.mask k P)=some (.candidate (cm t.mask k1 P).j i (cm t.mask (k1+1) P))∧
   ∀ J,k≤J→J<k1→∀ i,t.slot (cm t.mask J P).j = .live i→hashAt i≠h
 | 0,k,_,hf=>by omega
 | F+1,k,hk,hf=>by
  have W:t.advance (cm t.mask k P)=cm t.mask (k+1) P:=by
   rw[gk]; rfl
  rcases vA k E with z | z
  ·obtain⟨i,hi,q⟩:=hb k z
   have O:=mI S hi q;unfold SetTable.probe.go;rw[O]
   dsimp only
   by_cases hq:hashAt i=h
   ·rw[Hf (by rw[hq]; exact beq_self_eq_true _)]
    exact .inr ⟨k,i,zl _,z,O,hq,by rw[W],fun J h1 h2=>by omega⟩
   ·rw[He (by simpa using hq),W]
    have Y:∀ U,t.slot (cm t.mask k P).j = .live U→hashAt U≠h:=fun U e=>by
     rw[O]at e; injection e with e; rw[← e]; exact hq
    rcases Bq S hd hashAt h hP Z hb F (k+1) z (by omega) with ⟨e,r⟩ | ⟨k1,i1,a1,a2,a3,a4,a5,a6⟩
    ·refine .inl ⟨e,fun J h1 h2=>?_⟩
     rcases zaC h1 with y | y
     ·rw[← y]; exact Y
     ·exact r J y h2
    ·refine .inr ⟨k1,i1,by omega,a2,a3,a4,a5,fun J h1 h2=>?_⟩
     rcases zaC h1 with y | y
     ·rw[← y]; exact Y
     ·exact a6 J y h2
  ·have:k=E:=by omega
   subst this;have O:=(B9 S hd).mpr Z;refine .inl ⟨?_,fun J h1 h2=>by omega⟩
   unfold SetTable.probe.go;rw[O]
   dsimp only
   rw[hP k]
theorem nc(mask:Nat):∀ (k:Nat) (p:SetTable.Probe),(cm mask k p).dummy=p.dummy
 | 0,p=>rfl
 | k+1,p=>by
  show (cm mask k (Fy mask p)).dummy=_
  rw[nc mask k];unfold Fy; split <;> rfl
theorem ES.met{t:SetTable}{O:List Int}(T:ES t O){h:Int}{E:Nat}(J:¬ cE t (pj t.mask h E)){i:Nat}(hi:i<t.place.size)(e:O.getD i 0=h):∃ k,k<E∧t.slot (pj t.mask h k) = .live i:=by
 obtain⟨k,q,F⟩:=T.reach i hi
 rw[e]at q F
 rcases vA k E with z | z
 ·exact⟨k,z,by rw[q]; exact mI T.rise hi rfl⟩
 ·exfalso
  rcases zaC z with y | y
  ·exact J ⟨i,hi,by rw[y]; exact q.symm⟩
  ·exact J (F E y)
theorem sL{mask i:Nat}(h:i≤mask):SetTable.runEnd mask i≤mask:=by unfold SetTable.runEnd; split <;> omega
theorem xg(mask:Nat):∀ (k:Nat) (p:SetTable.Probe),p.j+p.more≤mask→(cm mask k p).j≤mask
 | 0,p,h=>by show p.j≤mask; omega
 | k+1,p,h=>by
  show (cm mask k (Fy mask p)).j≤mask
  refine xg mask k _ ?_
  unfold Fy;split
  ·show p.j+1+(p.more - 1)≤mask; omega
  ·have hi:(p.i * 5+1+p.perturb / 32) % (mask+1)≤mask:=by have:=GP (p.i * 5+1+p.perturb / 32) (show 0<mask+1 by omega); omega
   show (p.i * 5+1+p.perturb / 32) % (mask+1)+(SetTable.runEnd mask ((p.i * 5+1+p.perturb / 32) % (mask+1)) - (p.i * 5+1+p.perturb / 32) % (mask+1))≤mask
   have:=sL hi; have:=lG mask ((p.i * 5+1+p.perturb / 32) % (mask+1)); omega
theorem oM(mask:Nat)(h:Int)(k:Nat):pj mask h k≤mask:=by
 refine xg mask k _ ?_
 have hi:SetTable.bits h % (mask+1)≤mask:=by have:=GP (SetTable.bits h) (show 0<mask+1 by omega); omega
 show SetTable.bits h % (mask+1)+(SetTable.runEnd mask (SetTable.bits h % (mask+1)) - SetTable.bits h % (mask+1))≤mask
 have:=sL hi; have:=lG mask (SetTable.bits h % (mask+1)); omega
theorem pV{α : Type}(xs:Array α)(p:Nat)(x:α)(F:p≤xs.size):(SetTable.insertAt xs p x).toList=xs.toList.take p++x::xs.toList.drop p:=by
 unfold SetTable.insertAt;rw[Array.toList_append,Array.toList_push,Array.toList_extract,Array.toList_extract];simp[List.extract]
 rw[mJ (by simp)]
theorem za(l:List Int)(p:Nat)(x:Int)(F:p≤l.length)(k:Nat):(l.take p++x::l.drop p).getD k 0=if k<p then l.getD k 0 else if k=p then x else l.getD (k - 1) 0:=by
 rw[vE,vE,vE];have hl:(l.take p).length=p:=by rw[vW]; omega
 split
 ·rename_i h
  rw[vX (by omega),List.getElem?_take_of_lt h]
 ·rename_i h
  rw[vw (by omega),hl]
  split
  ·rename_i e; rw[e,td]; rfl
  ·rw[show k - p=(k - 1 - p)+1 by omega,G1,List.getElem?_drop,show p+(k - 1 - p)=k - 1 by omega]
theorem ES.put{t:SetTable}{W:List Int}(T:ES t W){h:Int}{E:Nat}(hE:¬ cE t (pj t.mask h E))(hb:∀ k,k<E→cE t (pj t.mask h k)) :
  ES (t.put (pj t.mask h E)).1 (W.take (t.put (pj t.mask h E)).2++h::W.drop (t.put (pj t.mask h E)).2)∧(t.put (pj t.mask h E)).2≤W.length∧(t.put (pj t.mask h E)).1.mask=t.mask∧(t.put (pj t.mask h E)).1.led=t.led∧(t.put (pj t.mask h E)).1.place.size=t.place.size+1:=by
 generalize hj:pj t.mask h E=j at hE ⊢;obtain⟨Z,b2,b3⟩:=eh T.rise j
 have hp:(t.put j).2=SetTable.below t.place j:=rfl
 have F:(t.put j).1.place=SetTable.insertAt t.place (SetTable.below t.place j) j:=rfl
 have ab:(t.put j).1.dummies = #[]:=by
  show (if SetTable.has t.dummies j then _ else t.dummies) = #[]
  rw[T.nod,tL]; rfl
 have hsz:(SetTable.insertAt t.place (SetTable.below t.place j) j).size=t.place.size+1:=by
  rw[← vj,pV _ _ _ Z,zr,zx,vW,GO,vj]; omega
 have O:∀ k (Y:k<(t.put j).1.place.size),(t.put j).1.place[k]=if h:k<SetTable.below t.place j then t.place[k]'(by omega) else if k=SetTable.below t.place j then j else t.place.getD (k - 1) 0:=fun k Y=>jk Z Y
 have mono:∀ j',cE t j'→cE (t.put j).1 j':=by
  rintro j' ⟨i,hi,q⟩
  rcases vA i (SetTable.below t.place j) with z | z
  ·refine⟨i,by rw[F,hsz]; omega,?_⟩
   rw[O i,dif_pos z]; exact q
  ·refine⟨i+1,by rw[F,hsz]; omega,?_⟩
   rw[O (i+1),dif_neg (by omega),He (by omega),Nat.add_sub_cancel,y6,wt hi]
   exact q
 refine⟨⟨?_,?_,ab,T.pow,fun i hi=>?_,fun i hi=>?_⟩,by rw[hp,← T.size]; exact Z,rfl,rfl,by rw[F,hsz]⟩
 ·rw[F]; exact jg T.rise fun k Y q=>hE ⟨k,Y,q⟩
 ·rw[F,hsz,hp,zr,zx,vW,GO,← T.size]; omega
 ·show (t.put j).1.place[i]≤t.mask
  rw[O i hi];split
  ·exact T.inb _ _
  ·split
   ·rw[← hj]; exact oM _ _ _
   ·have S:i - 1<t.place.size:=by rw[F,hsz]at hi; omega
    rw[y6,wt S]; exact T.inb _ _
 ·rw[hp,za W _ h (by rw[← T.size]; exact Z)]
  show ∃ k,pj t.mask _ k=(t.put j).1.place[i]∧∀ U,U<k→cE (t.put j).1 (pj t.mask _ U)
  rw[O i hi]
  by_cases z:i<SetTable.below t.place j
  ·rw[dif_pos z,Hf z]
   obtain⟨k,q,r⟩:=T.reach i (by omega)
   exact⟨k,q,fun U J=>mono _ (r U J)⟩
  ·rw[dif_neg z,He z]
   by_cases y:i=SetTable.below t.place j
   ·rw[Hf y,Hf y]
    exact⟨E,hj,fun U J=>mono _ (hb U J)⟩
   ·rw[He y,He y]
    have S:i - 1<t.place.size:=by rw[F,hsz]at hi; omega
    obtain⟨k,q,r⟩:=T.reach (i - 1) S
    refine⟨k,?_,fun U J=>mono _ (r U J)⟩
    rw[y6,wt S]; exact q
def wH(mask:Nat)(owner:Array (Option Nat))(f:Nat→Int):Prop:=
 ∀ j m,owner.getD j none=some m→∃ n,pj mask (f m) n=j∧∀ n',n'<n→(owner.getD (pj mask (f m) n') none).isSome=true
theorem LR{mask:Nat}{owner:Array (Option Nat)}(J:owner.size=mask+1){j:Nat}(F:j≤mask):(owner.getD j (some 0)).isNone = !(owner.getD j none).isSome:=by
 rw[y6,y6,wt (show j<owner.size by omega)]
 show (owner[j]).isNone = !(owner[j]).isSome
 cases owner[j] <;> rfl
theorem xS{mask:Nat}{owner:Array (Option Nat)}{f:Nat→Int}{k j n:Nat}(W:owner.size=mask+1)(J:wH mask owner f)(Y:(owner.getD j (some 0)).isNone=true)
  (e:pj mask (f k) n=j) (O:∀ n',n'<n→(owner.getD (pj mask (f k) n') (some 0)).isNone=false):wH mask (owner.setIfInBounds j (some k)) f:=by
 have U:j≤mask:=by rw[← e]; exact oM _ _ _
 have mono:∀ i,(owner.getD i none).isSome=true→((owner.setIfInBounds j (some k)).getD i none).isSome=true:=fun i hi=>by
  rw[y6,za9];split
  ·split
   ·rfl
   ·omega
  ·rw[← y6]; exact hi
 intro i m hi
 rw[y6,za9]at hi
 by_cases q:j=i
 ·rw[Hf q,Hf (by omega)]at hi
  have S:k=m:=by injection hi
  subst S;refine⟨n,by rw[e,q],fun n' F=>mono _ ?_⟩
  have:=O n' F
  rw[LR W (oM _ _ _)]at this
  cases z:(owner.getD (pj mask (f k) n') none).isSome with
  | true=>rfl
  | false=>rw[z]at this; cases this
 ·rw[He q,← y6]at hi
  obtain⟨a,b,c⟩:=J i m hi
  exact⟨a,b,fun n' F=>mono _ (c n' F)⟩
theorem n_{mask:Nat}(S:mask+1∈[8,16,32,64,128,256])(f:Nat→Int):∀ (F:List Int) (owner:Array (Option Nat)) (k:Nat),mU mask owner k→wH mask owner f→(∀ i (hi:i<F.length),F[i]=f (k+i))→k+F.length≤mask+1→
  ∃ owner',F.foldl (fun (acc:Option (Array (Option Nat) × Nat)) h=>do
   let (owner,k) ← acc
   let j ← SetTable.layClean.free mask owner (SetTable.turns mask) (SetTable.bits h % (mask+1)) (SetTable.bits h)
   pure (owner.setIfInBounds j (some k),k+1)) (some (owner,k))=some (owner',k+F.length)∧mU mask owner' (k+F.length)∧wH mask owner' f
 | [],owner,k,h,hP,_,_=>⟨owner,rfl,h,hP⟩
 | x::F,owner,k,h,hP,hf,hl=>by
  rw[zx]at hl
  obtain⟨e,W,hn⟩:=qD h (by omega)
  obtain⟨j,U,O⟩:=uK S W hn x
  obtain⟨n,en,Z⟩:=m_ _ _ _ U
  have hx:x=f k:=hf 0 (by rw[zx]; omega)
  obtain⟨o',Y,h',J⟩:=n_ S f F _ (k+1) (oT h O) (xS (n:=n) h.sz hP O (by rw[← hx]; exact en) (by rw[← hx]; exact Z)) (fun i hi=>by have:=hf (i+1) (by rw[zx]; omega); rw[show k+1+i=k+(i+1) by omega]; exact this) (by omega)
  refine⟨o',?_,by rw[zx,show k+(F.length+1)=k+1+F.length by omega]; exact h',J⟩
  rw[List.foldl_cons,zx,show k+(F.length+1)=k+1+F.length by omega,← Y]
  congr 1
  show (some (owner,k)).bind _=_
  rw[Option.bind_some];show (SetTable.layClean.free mask owner (SetTable.turns mask) (SetTable.bits x % (mask+1)) (SetTable.bits x)).bind _=_
  rw[U]; rfl
theorem F5{mask:Nat}(hM:mask+1∈[8,16,32,64,128,256])(f m:Nat)(led plain:Bool)(O:Array Int)(hl:O.size≤mask){t:SetTable}{J:Array Nat}(el:SetTable.laid mask f m led plain O=some (t,J)) :
  ES t (J.toList.map fun k=>O.getD k 0):=by
 obtain⟨owner,e,h,hP⟩:=n_ hM (fun k=>O.getD k 0) O.toList _ 0 (tR mask) (fun j m U=>by
  rw[y6,Array.getElem?_replicate]at U; split at U <;> cases U) (fun i hi=>by
  have F:i<O.size:=by simpa using hi
  show _=O.getD (0+i) 0
  rw[kC,y6,wt F,Array.getElem_toList]; rfl) (by simp; omega)
 rw[kC]at e h
 have ec:SetTable.layClean mask O=some owner:=by
  unfold SetTable.layClean;rw[← Array.foldl_toList,e]; rfl
 have hr:=vF el;unfold SetTable.laid at el;rw[ec]at el
 have S:some (({ mask:=mask,place:=(((List.range (mask+1)).filterMap fun j=>(owner.getD j none).map (j,·)).map (·.1)).toArray,dummies:=#[],finger:=f,led:=led,moves:=m,plain:=plain }:SetTable),(((List.range (mask+1)).filterMap fun j=>(owner.getD j none).map (j,·)).map (·.2)).toArray)=some (t,J):=el
 generalize hL:((List.range (mask+1)).filterMap fun j=>(owner.getD j none).map (j,·))=L at S
 have ee:=Option.some.inj S
 injection ee with e1 e2
 subst e1; subst e2
 have mem:∀ j m,(j,m)∈L ↔ j≤mask∧owner.getD j none=some m:=fun j m=>by
  rw[← hL,Hw]
  constructor
  ·rintro⟨a,ha,q⟩
   obtain⟨b,q1,W⟩:=Hr.mp q
   injection W with q3 Z
   subst q3; subst Z
   exact⟨by have:=Hm.mp ha; omega,q1⟩
  ·rintro⟨ha,q⟩
   exact⟨j,Hm.mpr (by omega),by rw[q]; rfl⟩
 have at_:∀ i (hi:i<L.length),((L.map (·.1)).toArray)[i]'(by simpa using hi)=L[i].1:=fun i hi=>by simp
 have tk:∀ j,j≤mask→(owner.getD j none).isSome=true→cE { mask:=mask,place:=(L.map (·.1)).toArray,dummies:=#[],finger:=f,led:=led,moves:=m,plain:=plain } j:=fun j U O=>by
  obtain⟨m,hm⟩:=Hs.mp O
  obtain⟨i,hi,q⟩:=Ho.mp ((mem j m).mpr ⟨U,hm⟩)
  exact⟨i,by simpa using hi,by rw[at_ i hi,q]⟩
 refine⟨hr,by simp,rfl,hM,fun i hi=>?_,fun i hi=>?_⟩
 ·have F:i<L.length:=by simpa using hi
  show ((L.map (·.1)).toArray)[i]≤mask
  rw[at_ i F];exact((mem L[i].1 L[i].2).mp (v5 F)).1
 ·have F:i<L.length:=by simpa using hi
  show ∃ k,pj mask (((L.map (·.2)).toArray.toList.map fun k=>O.getD k 0).getD i 0) k=((L.map (·.1)).toArray)[i]∧_
  have e3:((L.map (·.2)).toArray.toList.map fun k=>O.getD k 0).getD i 0=O.getD L[i].2 0:=by
   rw[vE,zy,zy,zg F]; rfl
  obtain⟨q1,W⟩:=(mem L[i].1 L[i].2).mp (v5 F)
  obtain⟨n,q3,Z⟩:=hP _ _ W
  rw[e3,at_ i F];exact⟨n,q3,fun k' Y=>tk _ (oM _ _ _) (Z k' Y)⟩
end L2
namespace L2
open PySem PySem.Spec PyProof.Rows PySem.SeqAt
section
variable{prog:Program}{w:World}{K:Type}[DecidableEq K]{knd:KeyKind prog w K}{A:Around}{E:Value→Shared→Prop}{s:Shared}{P:Addr→Prop}
theorem pX(n:Nat){v:Value}(h:carriedByValue v=true):ofAClassStatement n v=pure false:=by
 cases v <;> first | (cases h; done) | (cases n <;> rfl)
theorem hU{ks:List K}{a:Addr}{Q:Bool→Shared→Prop}(U:IsTupleKey knd s.heap ks a)(h:Q false s):wpAny (model prog w) A (ofAClassStatement 8 (.ref a)) Q E s:=by
 have W:=U.typeIs;obtain⟨o,S,n,Y,_,hd,hi⟩:=U
 unfold ofAClassStatement;refine G8 (wpAny_typeOf W ?_)
 dsimp only
 refine G8 ?_
 refine Hc ?_
 simp only[u0,wA,if_false]
 refine G8 (wpAny_seqItems Y hd ?_)
 dsimp only
 refine G8 ?_
 rw[← za0];refine wpAny_forIn_list _ (fun CS r s'=>r.1=none∧s'=s∧∀ v∈CS,carriedByValue v=true) _ ?_ ?_ _ _ ⟨rfl,rfl,hi.byValue⟩
 ·rintro v CS r s' ⟨J,rfl,F⟩
  rw[pX _ (F v zI)];refine G8 (Hc ?_)
  simp only[wA,if_false]
  exact Hc ⟨rfl,rfl,fun u O=>F u (zO _ O)⟩
 ·rintro⟨Z,r2⟩ s' ⟨J,rfl,_⟩
  simp only at J
  subst J;exact Hc h
theorem qQ{ks:List K}{a:Addr}{Q:Bool→Shared→Prop}(Y:IsTupleKey knd s.heap ks a)(W:∀ k v,knd.is k v=true→v.scannable=true)(h:∀ b,Q b s):wpAny (model prog w) A (hashByValue 8 (.ref a)) Q E s:=by
 have hT:=Y.typeIs;obtain⟨o,J,n,Z,_,hd,hi⟩:=Y
 unfold hashByValue;refine G8 (wpAny_specialOf hT F.slot_tuple_hash.lookup ?_)
 dsimp only
 refine G8 (wpAny_seqItems Z hd ?_)
 refine G8 ?_
 show wpAny _ _ (forIn J _ _) _ _ s
 rw[← za0]
 have O:∀ v∈J.toList,v.scannable=true:=by
  intro v hv
  clear Z hd;generalize J.toList=l at hi hv
  induction hi with
  | nil=>cases hv
  | cons q _ ih=>
   rcases Hi.mp hv with rfl | z
   ·exact W _ _ q
   ·exact ih z
 refine wpAny_forIn_list _ (fun CS r s'=>r.1=none∧s'=s∧∀ v∈CS,v.scannable=true) _ ?_ ?_ _ _ ⟨rfl,rfl,O⟩
 ·rintro v CS r s' ⟨S,rfl,O⟩
  rw[hashByValue_scannable _ (O v zI)];refine G8 (Hc ?_)
  cases plainKind v with
  | true=>
   simp only[u0,wA,if_false]
   exact Hc ⟨rfl,rfl,fun u U=>O u (zO _ U)⟩
  | false=>
   simp only[Bool.not_false,if_true]
   exact Hc (Hc (h false))
 ·rintro⟨r1,r2⟩ s' ⟨S,rfl,_⟩
  simp only at S
  subst S;exact Hc (h true)
theorem vk{ks:List K}{p:Addr}{Q:Bool→Shared→Prop}(W:IsTupleKey knd s.heap ks p):∀ (st:List Value),(∀ v∈st,∃ k q,v = .ref q∧IsTupleKey knd s.heap k q)→Q false s→wpAny (model prog w) A (searchCouldBeSeen (.ref p) st) Q E s:=by
 intro st S h
 unfold searchCouldBeSeen;refine G8 ?_
 refine wpAny_forIn_list _ (fun CS r s'=>r.1=none∧s'=s∧∀ v∈CS,∃ k q,v = .ref q∧IsTupleKey knd s.heap k q) _ ?_ ?_ _ _ ⟨rfl,rfl,S⟩
 ·rintro v CS r s' ⟨O,rfl,J⟩
  obtain⟨k,q,rfl,Y⟩:=J v zI
  have F:∀ v∈CS,∃ k q,v = .ref q∧IsTupleKey knd s'.heap k q:=fun u U=>J u (zO _ U)
  dsimp only
  split
  ·exact Hc ⟨rfl,rfl,F⟩
  ·refine G8 (wpAny_eqIsQuiet_tuple W ?_)
   simp only[u0,wA,if_false]
   refine G8 (wpAny_eqIsQuiet_tuple Y ?_)
   simp only[u0,wA,if_false]
   refine G8 (hU W ?_)
   simp only[wA,if_false]
   refine G8 (hU Y ?_)
   simp only[wA,if_false]
   exact Hc ⟨rfl,rfl,F⟩
 ·rintro⟨Z,r2⟩ s' ⟨O,rfl,_⟩
  simp only at O
  subst O;exact Hc h
structure Fe (knd:KeyKind prog w K) (P:Addr→Prop) (L:Bool) (h:Heap) (o:Obj) (es:Array (Int × Value)) (ep:Nat) (t:SetTable) (S:List K→Bool) (n:Nat):Prop where
 ex:o.ExactSet
 dat:o.data = .set es ep t
 el:∀ e∈es.toList,∃ k p,e=(tupleKeyHash knd k,.ref p)∧IsTupleKey knd h k p
 mem:∀ k,S k=true ↔ ∃ e∈es.toList,∃ p,e.2 = .ref p∧IsTupleKey knd h k p
 apart:es.toList.Pairwise fun e e'=>∀ p q k,e.2 = .ref p→e'.2 = .ref q→IsTupleKey knd h k p→¬ IsTupleKey knd h k q
 num:es.size=n
 room:n * 5<t.mask * 3
 tab:ES t (es.toList.map (·.1))
 led:t.led=L
 inq:∀ e∈es.toList,∀ q,e.2 = .ref q→P q
theorem Fe.psz{L:Bool}{h:Heap}{o:Obj}{es:Array (Int × Value)}{ep:Nat}{t:SetTable}{S:List K→Bool}{n:Nat}(T:Fe knd P L h o es ep t S n):t.place.size=es.size:=by rw[T.tab.size,ze,vj]
theorem Fe.m7{L:Bool}{h:Heap}{o:Obj}{es:Array (Int × Value)}{ep:Nat}{t:SetTable}{S:List K→Bool}{n:Nat}(T:Fe knd P L h o es ep t S n):7≤t.mask∧t.mask≤255∧t.mask % 2=1:=by
 have:=T.tab.pow
 simp only[zK,qm,or_false]at this
 omega
theorem Fe.fit{L:Bool}{h:Heap}{o:Obj}{es:Array (Int × Value)}{ep:Nat}{t:SetTable}{S:List K→Bool}{n:Nat}(T:Fe knd P L h o es ep t S n):t.fits es.size=true:=
 tX T.psz T.tab.nod (by have:=T.room; have:=T.num; omega)
theorem uw{L:Bool}{a p:Addr}{o:Obj}{es:Array (Int × Value)}{ep:Nat}{t:SetTable}{S:List K→Bool}{n:Nat}{k:List K}{Q:SetFound→Shared→Prop}(ho:s.heap.get? a=some o)(T:Fe knd P L s.heap o es ep t S n)(hx:IsTupleKey knd s.heap k p)(hu:A.units<cLine)
  {F:Nat} (hF:¬ cE t (pj t.mask (tupleKeyHash knd k) F)) (hb:∀ j,j<F→cE t (pj t.mask (tupleKeyHash knd k) j)) (a7:F<10 * SetTable.turns t.mask)
  (as:S k=true→Q (.there none) s) (a3:S k=false→Q (.free (pj t.mask (tupleKeyHash knd k) F) false) s) :
  ∀ (J c:Nat) (O:Option SetTable.Probe),O.getD (t.probeStart (tupleKeyHash knd k))=cm t.mask c (t.probeStart (tupleKeyHash knd k))→c≤F→F - c<J→
   (∀ c',c'<c→∀ i,t.slot (pj t.mask (tupleKeyHash knd k) c') = .live i→∀ e,es.toList[i]? = some e→∀ q,e.2 = .ref q→¬ IsTupleKey knd s.heap k q)→
   wpAny (model prog w) A (setSearchFrom a (.ref p) (tupleKeyHash knd k) true J O) Q E s
 | 0,c,O,_,_,hf,_=>by omega
 | J+1,c,O,hst,hc,hf,hno=>by
  unfold setSearchFrom;refine G8 (wpAny_setState_of ho T.dat T.fit ?_)
  dsimp only
  have hg:t.gaveWay=false:=by unfold SetTable.gaveWay; rw[T.m7.2.2]; rfl
  rw[hg];simp only[wA,if_false]
  have hh:∀ i,((es[i]?.map (·.1)).getD 0)=(es.toList.map (·.1)).getD i 0:=fun i=>by
   rw[vE,zy,mD]
  have G:=Bq (h:=tupleKeyHash knd k) T.tab.rise T.tab.nod (fun i=>(es[i]?.map (·.1)).getD 0) (P:=t.probeStart (tupleKeyHash knd k)) (fun k=>by rw[nc]; rfl) hF hb (10 * SetTable.turns t.mask) c hc (by omega)
  rw[hst];rcases G with ⟨e,hn⟩ | ⟨k1,i,h1,h2,sl,hi,e,hn⟩
  ·have e':t.probe (fun i=>(es[i]?.map (·.1)).getD 0) (tupleKeyHash knd k) (cm t.mask c (t.probeStart (tupleKeyHash knd k)))=some (.empty (pj t.mask (tupleKeyHash knd k) F) none):=e
   generalize hp:SetTable.probe t _ (tupleKeyHash knd k) (cm t.mask c (t.probeStart (tupleKeyHash knd k)))=r
   obtain rfl:=hp.symm.trans e'
   dsimp only
   refine Hc (a3 ?_)
   cases z:S k with
   | false=>rfl
   | true=>
    exfalso
    obtain⟨e0,he,q,q1,q2⟩:=(T.mem k).mp z
    obtain⟨i,hi,qi⟩:=Ho.mp he
    obtain⟨k0,q0,w1,w2⟩:=T.el e0 he
    have a5:k0=k:=by
     rw[w1]at q1; injection q1 with q1; subst q1; exact w2.inj q2
    subst a5;have a8:i<t.place.size:=by rw[T.psz]; simpa using hi
    have a4:(es.toList.map (·.1)).getD i 0=tupleKeyHash knd k0:=by
     rw[vE,zy,zg hi,qi,w1]; rfl
    obtain⟨k',y1,y2⟩:=T.tab.met hF a8 a4
    rcases vA k' c with x | x
    ·exact hno k' x i y2 e0 (by rw[zg hi,qi]) q q1 q2
    ·exact hn k' x y1 i y2 (by show ((es[i]?.map (·.1)).getD 0)=_; rw[hh,a4])
  ·have e':t.probe (fun i=>(es[i]?.map (·.1)).getD 0) (tupleKeyHash knd k) (cm t.mask c (t.probeStart (tupleKeyHash knd k)))=some (.candidate (pj t.mask (tupleKeyHash knd k) k1) i (cm t.mask (k1+1) (t.probeStart (tupleKeyHash knd k)))):=e
   generalize hp:SetTable.probe t _ (tupleKeyHash knd k) (cm t.mask c (t.probeStart (tupleKeyHash knd k)))=r
   obtain rfl:=hp.symm.trans e'
   dsimp only
   obtain⟨al,bg⟩:=yS sl
   have U:i<es.toList.length:=by rw[T.psz]at al; simpa using al
   obtain⟨k0,q0,w1,w2⟩:=T.el es.toList[i] (v5 U)
   have an:es[i]? = some (tupleKeyHash knd k0,.ref q0):=by rw[← mD,zg U,w1]
   have ag:wpAny (model prog w) A (match es[i]? with
     | some (fst,y)=>do
      let equal ← holding [y] (eqBool y (Value.ref p))
      let __x ← setState a
      if (true&&equal)=true then pure (SetFound.there none)
       else
        match __x.2.snd.sameMemory t.moves t.mask with
        | some same=>
         match if same=true then __x.2.snd.slot (pj t.mask (tupleKeyHash knd k) k1) else SetTable.Slot.empty with
         | SetTable.Slot.live W=>
          match __x.fst[W]? with
          | some (fst,y')=>do
           let __do_lift ← isSame y' y
           let still ← pure (if __do_lift=true then some W else none)
           match still with
            | none=>do
             rule "set.search.anew"
             setSearchFrom a (Value.ref p) (tupleKeyHash knd k) true J none
            | some W=>
             if equal=true then pure (SetFound.there (some W))
             else setSearchFrom a (Value.ref p) (tupleKeyHash knd k) true J (some (cm t.mask (k1+1) (t.probeStart (tupleKeyHash knd k))))
          | none=>do
           let still ← pure none
           match still with
            | none=>do
             rule "set.search.anew"
             setSearchFrom a (Value.ref p) (tupleKeyHash knd k) true J none
            | some W=>
             if equal=true then pure (SetFound.there (some W))
             else setSearchFrom a (Value.ref p) (tupleKeyHash knd k) true J (some (cm t.mask (k1+1) (t.probeStart (tupleKeyHash knd k))))
         | x=>do
          let still ← pure none
          match still with
           | none=>do
            rule "set.search.anew"
            setSearchFrom a (Value.ref p) (tupleKeyHash knd k) true J none
           | some W=>
            if equal=true then pure (SetFound.there (some W))
            else setSearchFrom a (Value.ref p) (tupleKeyHash knd k) true J (some (cm t.mask (k1+1) (t.probeStart (tupleKeyHash knd k))))
        | x=>unsupported "set.changed-during-lookup:is-the-new-block-at-the-old-address"
     | x=>unsupported "internal:set-entry") Q E s:=by
    rw[an]
    dsimp only
    refine G8 (wpAny_holding (wpAny_eqBool_tuple hu w2 hx ?_))
    refine G8 (wpAny_setState_of ho T.dat T.fit ?_)
    by_cases hk:k0=k
    ·subst hk
     rw[Hf (by simp)]
     exact Hc (as ((T.mem k0).mpr ⟨_,v5 U,q0,by rw[w1],w2⟩))
    ·rw[He (by simp[hk])]
     dsimp only
     have a9:t.sameMemory t.moves t.mask=some true:=by unfold SetTable.sameMemory; rw[Hf (by simp)]
     have ad:t.slot (pj t.mask (tupleKeyHash knd k) k1) = .live i:=sl
     rw[a9]
     dsimp only
     rw[Hf rfl,ad]
     dsimp only
     rw[an]
     dsimp only
     refine G8 (wpAny_isSame_ref_self ?_)
     refine G8 (Hc ?_)
     simp only[if_true]
     rw[He (by simp[hk])]
     refine uw ho T hx hu hF hb a7 as a3 J (k1+1) _ rfl (by omega) (by omega) fun c' be W si e0 Y q Z ab=>?_
     rcases vA c' c with x | x
     ·exact hno c' x W si e0 Y q Z ab
     ·rcases zaC (show c'≤k1 by omega) with y | y
      ·subst y
       rw[ad]at si; injection si with si; subst si
       rw[zg U,w1]at Y
       obtain rfl:=Option.some.inj Y
       injection Z with Z
       subst Z;exact hk (w2.inj ab)
      ·have a6:=vx Y
       obtain⟨k2,q2,v1,v2⟩:=T.el e0 a6
       have:k2=k:=by
        rw[v1]at Z; injection Z with Z; subst Z; exact v2.inj ab
       subst this;refine hn c' x y W si ?_
       show ((es[W]?.map (·.1)).getD 0)=_
       rw[← mD,Y,v1]; rfl
   split
   ·refine G8 (vk hx _ (fun v hv=>?_) ?_)
    ·obtain⟨e1,h3,rfl⟩:=Hk.mp hv
     obtain⟨k2,q2,v1,v2⟩:=T.el e1 (by
      have:=Array.mem_toList_iff.mp h3
      exact Array.mem_toList_iff.mpr (Array.mem_filter.mp this).1)
     exact⟨k2,q2,by rw[v1],v2⟩
    ·simp only[wA,if_false]
     exact ag
   ·exact ag
end
section
variable{prog:Program}{w:World}{K:Type}[DecidableEq K]{knd:KeyKind prog w K}{A:Around}{E:Value→Shared→Prop}{s:Shared}{L:Bool}{P:Addr→Prop}
structure FE (knd:KeyKind prog w K) (P:Addr→Prop) (h:Heap) (l:List (Int × Value)) (S:List K→Bool):Prop where
 el:∀ e∈l,∃ k p,e=(tupleKeyHash knd k,.ref p)∧IsTupleKey knd h k p
 mem:∀ k,S k=true ↔ ∃ e∈l,∃ p,e.2 = .ref p∧IsTupleKey knd h k p
 apart:l.Pairwise fun e e'=>∀ p q k,e.2 = .ref p→e'.2 = .ref q→IsTupleKey knd h k p→¬ IsTupleKey knd h k q
 inq:∀ e∈l,∀ q,e.2 = .ref q→P q
theorem Fe.els{h:Heap}{o:Obj}{es:Array (Int × Value)}{ep:Nat}{t:SetTable}{S:List K→Bool}{n:Nat}(T:Fe knd P L h o es ep t S n):FE knd P h es.toList S:=⟨T.el,T.mem,T.apart,T.inq⟩
theorem FE.perm{h:Heap}{l J:List (Int × Value)}{S:List K→Bool}(T:FE knd P h l S)(p:J.Perm l):FE knd P h J S:=
 ⟨fun e F=>T.el e (p.mem_iff.mp F),fun k=>(T.mem k).trans ⟨fun ⟨e,F,q⟩=>⟨e,p.mem_iff.mpr F,q⟩,fun ⟨e,F,q⟩=>⟨e,p.mem_iff.mp F,q⟩⟩,
  (List.Perm.pairwise_iff (fun {x y} r a b k h1 h2 U O=>r b a k h2 h1 O U) p).mpr T.apart,fun e F=>T.inq e (p.mem_iff.mp F)⟩
theorem FE.mv{h h':Heap}{l:List (Int × Value)}{S:List K→Bool}(T:FE knd P h l S)(Z:∀ e∈l,∀ q k,e.2 = .ref q→IsTupleKey knd h k q→IsTupleKey knd h' k q):FE knd P h' l S:=by
 have J:∀ e∈l,∀ q k,e.2 = .ref q→IsTupleKey knd h' k q→IsTupleKey knd h k q:=fun e F q k e2 hq=>by
  obtain⟨k0,p0,U,W⟩:=T.el e F
  have:p0=q:=by rw[U]at e2; injection e2
  subst this;have:=(Z e F p0 k0 e2 W).inj hq
  subst this; exact W
 refine⟨fun e F=>?_,fun k=>(T.mem k).trans ⟨?_,?_⟩,?_,T.inq⟩
 ·obtain⟨k,p,U,W⟩:=T.el e F
  exact⟨k,p,U,Z e F p k (by rw[U]) W⟩
 ·rintro⟨e,F,p,O,Y⟩; exact⟨e,F,p,O,Z e F p k O Y⟩
 ·rintro⟨e,F,p,O,Y⟩; exact⟨e,F,p,O,J e F p k O Y⟩
 ·exact za6 (fun {x y} hx hy r a b k h1 h2 h3 h4=>r a b k h1 h2 (J x hx a k h1 h3) (J y hy b k h2 h4)) T.apart
theorem FE.cons{h:Heap}{l:List (Int × Value)}{S:List K→Bool}{k:List K}{p:Addr}(T:FE knd P h l S)(hS:S k=false)(J:IsTupleKey knd h k p)(hP:P p):FE knd P h ((tupleKeyHash knd k,.ref p)::l) (fun O=>S O||decide (O=k)):=by
 refine⟨fun e F=>?_,fun O=>?_,List.pairwise_cons.mpr ⟨fun e F a b k2 h1 h2 h3 Z=>?_,T.apart⟩,fun e F q W=>?_⟩
 ·rcases Hi.mp F with rfl | z
  ·exact⟨k,p,rfl,J⟩
  ·exact T.el e z
 ·rw[zaN,decide_eq_true_eq,T.mem O]
  constructor
  ·rintro(⟨e,F,q⟩ | rfl)
   ·exact⟨e,zO _ F,q⟩
   ·exact⟨_,zI,p,rfl,J⟩
  ·rintro⟨e,F,q,U,Y⟩
   rcases Hi.mp F with rfl | z
   ·injection U with U; subst U; exact .inr (Y.inj J)
   ·exact .inl ⟨e,z,q,U,Y⟩
 ·injection h1 with h1; subst h1
  have:=h3.inj J
  subst this;have:=(T.mem k2).mpr ⟨e,F,b,h2,Z⟩
  rw[hS]at this; cases this
 ·rcases Hi.mp F with rfl | z
  ·injection W with W; subst W; exact hP
  ·exact T.inq e z q W
def EZ(knd:KeyKind prog w K)(P:Addr→Prop)(L:Bool)(h:Heap)(a:Addr)(S:List K→Bool)(n:Nat):Prop:=∃ o es ep t,h.get? a=some o∧Fe knd P L h o es ep t S n
theorem iw{h h':Heap}{a q:Addr}{k:List K}{o:Obj}{es:Array (Int × Value)}{ep:Nat}{t:SetTable}(S:h.get? a=some o)(hd:o.data = .set es ep t)(Z:Heap.SameBut a h h')(Y:IsTupleKey knd h k q):IsTupleKey knd h' k q:=by
 obtain⟨U,F,n,h1,h2,O,W⟩:=Y
 have J:q≠a:=by
  rintro rfl
  rw[h1]at S; obtain rfl:=Option.some.inj S
  rw[O]at hd; cases hd
 exact⟨U,F,n,by rw[Z.2 q J]; exact h1,h2,O,W⟩
theorem xJ(es:Array (Int × Value)):∀ (l:List Nat),(∀ i∈l,i<es.size)→(l.filterMap (es[·]?)).map (·.1)=l.map fun k=>(es.map (·.1)).getD k 0
 | [],_=>rfl
 | i::l,h=>by
  have hi:=h i zI;rw[G4 (wt hi),zW,zW,xJ es l fun j F=>h j (zO _ F)]
  congr 1
  rw[y6,Array.getElem?_map,wt hi]; rfl
theorem uy{h:Heap}{a:Addr}{o:Obj}{es:Array (Int × Value)}{ep:Nat}{t:SetTable}{S':List K→Bool}{n':Nat}{es':Array (Int × Value)}{t':SetTable}(O:h.get? a=some o)(ex:o.ExactSet)(hd:o.data = .set es ep t)
  (els:FE knd P h es'.toList S') (num:es'.size=n') (room:n' * 5<t'.mask * 3) (tab:ES t' (es'.toList.map (·.1))) (led:t'.led=L) :
  EZ knd P L (h.update a (Obj.putSet es' t')) a S' n':=by
 have J:=putSet_of es' t' hd;have hg:=mr (Obj.putSet es' t') O (by rw[J]; rfl)
 rw[J]at hg
 have F:=els.mv (h':=h.update a (Obj.putSet es' t')) fun e U q k F S=>iw O hd (gv h a _) S
 exact⟨_,es',ep+1,t',hg,ex,rfl,F.el,F.mem,F.apart,num,room,tab,led,F.inq⟩
theorem Dy{a:Addr}{o:Obj}{es:Array (Int × Value)}{ep:Nat}{t:SetTable}{S:List K→Bool}{n F:Nat}{Q:Unit→Shared→Prop}(ho:s.heap.get? a=some o)(ex:o.ExactSet)(hd:o.data = .set es ep t)(hf:t.fits es.size=true)(els:FE knd P s.heap es.toList S)(num:es.size=n)(led:t.led=L)
  (hw:F≤240) (hn:n≤F) (al:n * 5<F * 3)
  (h:∀ h',Heap.SameBut a s.heap h'→EZ knd P L h' a S n→Q () { s with heap:=h' }):wpAny (model prog w) A (setRelay a F) Q E s:=by
 obtain⟨Z,hm⟩:=AA F hw
 unfold setRelay;refine G8 (wpAny_setState_of ho hd hf ?_)
 dsimp only
 have ad:¬ SetTable.sizeAbove F>sizeLine:=by
  have:SetTable.sizeAbove F - 1+1≤256:=by
   simp only[zK,qm,or_false]at Z
   omega
  have hs:sizeLine=16777216:=sizeLine_eq
  omega
 rw[He ad];have hle:(es.map (·.1)).size≤SetTable.sizeAbove F - 1:=by rw[Array.size_map,num]; omega
 obtain⟨t',J,e,hp,O,ab,ag,W⟩:=CF Z t.finger (t.movedTo (SetTable.sizeAbove F - 1)) t.led t.plain (es.map (·.1)) hle
 have Y:=F5 Z _ _ _ _ _ hle e;rw[Array.size_map]at hp ab
 have hr:t.relaid (es.map (·.1)) F=some (t',J):=e
 rw[hr];have U:=Eh hp;have hsz:(J.filterMap (es[·]?)).size=es.size:=by rw[← vj,U.length_eq,vj]
 refine G8 ?_
 show wpAny _ _ (if ((J.filterMap (es[·]?)).size != es.size)=true then _ else pure (J.filterMap (es[·]?),t')) _ _ _
 rw[He (by rw[hsz]; simp)]
 refine Hc ?_
 dsimp only
 refine wpAny_storeSet_of ho hd ?_ (by rw[hsz,num]; have hs:sizeLine=16777216:=sizeLine_eq; omega)
 refine h _ (gv ..) (uy ho ex hd (els.perm U) (by rw[hsz,num]) (by rw[O]; omega) ?_ (W.trans led))
 have:(J.filterMap (es[·]?)).toList.map (·.1)=J.toList.map fun k=>(es.map (·.1)).getD k 0:=by
  rw[Array.toList_filterMap];exact xJ es _ fun i hi=>Hm.mp (hp.mem_iff.mp hi)
 rw[this];exact Y
theorem G9{a p:Addr}{S:List K→Bool}{n:Nat}{k:List K}{Q:Bool→Shared→Prop}(hk:IsTupleKey knd s.heap k p)(a8:∀ k v,knd.is k v=true→v.scannable=true)(hu:A.units<cLine)(hS:EZ knd P L s.heap a S n)(a6:n+1≤60)(hP:P p)
  (h:∀ h',Heap.SameBut a s.heap h'→EZ knd P L h' a (fun k'=>S k'||decide (k'=k)) (if S k then n else n+1)→Q (!S k) { s with heap:=h' }) :
  wpAny (model prog w) A (setAddHashed a (.ref p) (tupleKeyHash knd k)) Q E s:=by
 obtain⟨o,es,ep,t,Z,T⟩:=hS
 obtain⟨m1,m2,m3⟩:=T.m7
 have hr:=T.room;have an:t.place.size=n:=by rw[T.psz,T.num]
 obtain⟨F,f1,f2,f3⟩:=T.tab.free (by omega) (tupleKeyHash knd k)
 unfold setAddHashed setAddHashedIn;refine wpAny_holding (G8 (wpAny_setState_of Z T.dat T.fit ?_))
 dsimp only
 have a7:byScan (.ref p) es=false:=rfl
 rw[a7];simp only[wA,if_false]
 refine G8 ?_
 unfold setSearch;refine uw Z T hk hu f2 f3 f1 (fun Y=>?_) (fun Y=>?_) 100000 0 none rfl (vL _) (by have:SetTable.turns t.mask=t.mask+15:=rfl; omega) (fun c' a5=>absurd a5 (GN _))
 ·dsimp only
  refine Hc ?_
  have e:s={ s with heap:=s.heap }:=by cases s; rfl
  have q:=h s.heap (Heap.SameBut.refl a s.heap) ⟨o,es,ep,t,Z,T.ex,T.dat,T.el,fun k'=>by
   rw[zaN,decide_eq_true_eq,← T.mem k'];exact⟨fun hk=>hk.elim id (fun e=>e ▸ Y),.inl⟩,T.apart,by rw[Y]; exact T.num,by rw[Y]; exact T.room,T.tab,T.led,T.inq⟩
  rw[Y]at q; rw[e]; exact q
 ·dsimp only
  refine G8 (wpAny_setState_of Z T.dat T.fit ?_)
  dsimp only
  obtain⟨W,P2,P3,P4,P5⟩:=T.tab.put f2 f3
  generalize hput:t.put (pj t.mask (tupleKeyHash knd k) F)=tp at W P2 P3 P4 P5 ⊢;obtain⟨t1,O⟩:=tp
  dsimp only at W P2 P3 P4 P5 ⊢
  have a4:O≤es.size:=by rw[ze,vj]at P2; exact P2
  have ag:(SetTable.insertAt es O (tupleKeyHash knd k,Value.ref p)).toList=es.toList.take O++(tupleKeyHash knd k,Value.ref p)::es.toList.drop O:=pV es O _ a4
  have J:(SetTable.insertAt es O (tupleKeyHash knd k,Value.ref p)).size=n+1:=by
   rw[← vj,ag,zr,zx,vW,GO,vj,T.num]; have:=T.num; omega
  have be:(SetTable.insertAt es O (tupleKeyHash knd k,Value.ref p)).toList.Perm ((tupleKeyHash knd k,Value.ref p)::es.toList):=by
   rw[ag];refine List.perm_middle.trans ?_
   rw[List.take_append_drop]
  have els:=(T.els.cons Y hk hP).perm be
  have as:∀ b:Bool,ES { t1 with plain:=b } ((SetTable.insertAt es O (tupleKeyHash knd k,Value.ref p)).toList.map (·.1)):=fun b=>by
   rw[ag,zP,zW,List.map_take,List.map_drop];exact⟨W.rise,W.size,W.nod,W.pow,W.inb,W.reach⟩
  have ad:∀ t2:SetTable,(∃ b,t2={ t1 with plain:=b })→wpAny (model prog w) A (do
    storeSet a (SetTable.insertAt es O (tupleKeyHash knd k,Value.ref p)) t2
    if (!false&&t2.tooFull)=true then do
      setRelay a (SetTable.grown (es.size+1))
      pure true
     else pure true) Q E s:=by
   rintro t2 ⟨b,rfl⟩
   have bg:(SetTable.insertAt es O (tupleKeyHash knd k,Value.ref p)).size≤sizeLine:=by rw[J]; have Y:sizeLine=16777216:=sizeLine_eq; omega
   refine G8 (wpAny_storeSet_of Z T.dat ?_ bg)
   have hp:=putSet_of (SetTable.insertAt es O (tupleKeyHash knd k,Value.ref p)) { t1 with plain:=b } T.dat;have hg:=mr (Obj.putSet (SetTable.insertAt es O (tupleKeyHash knd k,Value.ref p)) { t1 with plain:=b }) Z (by rw[hp]; rfl)
   rw[hp]at hg
   have U:=gv s.heap a (Obj.putSet (SetTable.insertAt es O (tupleKeyHash knd k,Value.ref p)) { t1 with plain:=b })
   have ab:∀ h',Heap.SameBut a s.heap h'→EZ knd P L h' a (fun k'=>S k'||decide (k'=k)) (n+1)→Q true { s with heap:=h' }:=by
    intro h' U a3; have:=h h' U; rw[Y]at this; exact this a3
   have al:({ t1 with plain:=b }:SetTable).fill=n+1:=by
    show t1.place.size+t1.dummies.size=n+1
    rw[P5,W.nod,an]; rfl
   split
   ·refine G8 ?_
    have a9:SetTable.grown (es.size+1)=4 * (n+1):=by unfold SetTable.grown; rw[T.num,He (by omega)]; omega
    rw[a9];refine Dy (L:=L) (s:={ s with heap:=s.heap.update a (Obj.putSet (SetTable.insertAt es O (tupleKeyHash knd k,Value.ref p)) { t1 with plain:=b }) }) (n:=n+1) hg T.ex rfl (tX (by show t1.place.size=_; rw[P5,an,J]) W.nod (by show _≤t1.mask; rw[J,P3]; omega)) (els.mv fun e he q k e2 hk=>iw Z T.dat U hk) J (P4.trans T.led) (by omega) (by omega) (by omega) fun h' sb x=>?_
    exact Hc (ab h' (U.trans sb) x)
   ·rename_i hnf
    refine Hc (ab _ U (uy Z T.ex T.dat els J ?_ (as b) (P4.trans T.led)))
    have hz:¬ (({ t1 with plain:=b }:SetTable).fill * 5≥t1.mask * 3):=by
     intro z
     apply hnf
     show (true&&decide (({ t1 with plain:=b }:SetTable).fill * 5≥t1.mask * 3))=true
     simpa using z
    rw[al]at hz
    show (n+1) * 5<t1.mask * 3
    omega
  split
  ·refine G8 (qQ hk a8 fun b=>?_)
   cases b with
   | true=>exact ad _ ⟨t1.plain,rfl⟩
   | false=>exact ad _ ⟨false,rfl⟩
  ·refine G8 (Hc ?_)
   exact ad _ ⟨t1.plain,rfl⟩
end
theorem wb(k:Int)(v:Value)(h:Value.isInt k v=true):v.scannable=true:=by obtain⟨t,rfl⟩:=zav h; rfl
theorem eP{prog:Program}{w:World}{h h':Heap}{k:List Int}{q:Addr}(x:IsTupleKey (intKind prog w) h k q)(e:∀ o,h.get? q=some o→h'.get? q=some o):IsTupleKey (intKind prog w) h' k q:=by
 obtain⟨o,F,n,J,r⟩:=x
 exact⟨o,F,n,e o J,r⟩
theorem EZ.mv{prog:Program}{w:World}{P:Addr→Prop}{L:Bool}{h h':Heap}{a:Addr}{S S':List Int→Bool}{n:Nat}(x:EZ (intKind prog w) P L h a S n)(J:∀ o,h.get? a=some o→h'.get? a=some o)(O:∀ q o,P q→h.get? q=some o→h'.get? q=some o)(Y:∀ k,S' k=S k):EZ (intKind prog w) P L h' a S' n:=by
 obtain⟨o,es,ep,t,F,T⟩:=x
 have e:=T.els.mv (h':=h') fun e U q k Z W=>eP W fun o F=>O q o (T.inq e U q Z) F
 have:S'=S:=funext Y
 subst this;exact⟨o,es,ep,t,J o F,T.ex,T.dat,e.el,e.mem,e.apart,T.num,T.room,T.tab,T.led,e.inq⟩
noncomputable def fj(κ : Addr→List Int)(val:Nat→Addr)(i:Nat):List (List Int):=(List.range i).map fun j=>κ (val j)
theorem ww(κ : Addr→List Int)(val:Nat→Addr)(i:Nat):fj κ val (i+1)=fj κ val i++[κ (val i)]:=by
 unfold fj; rw[zaz,zP]; rfl
section
variable{prog:Program}{w:World}{A:Around}{R:Result→Shared→Prop}{I:Addr}{fp wr:List Addr}{Gm:Array GenState→Array GenState→Prop}{n:Nat}{P:Nat→Value→Prop}{St:Nat→Shared→Prop}{L:Bool}{D:Addr→Prop}
theorem zn(W:WalksS prog w A.in1 I fp wr Gm n P St)(S:Addr)(a8:S∉fp)(κ : Addr→List Int)(val:Nat→Addr)(an:∀ i v,P i v→v = .ref (val i)∧D (val i))(hD:∀ q,D q→q∉S::wr)(hn:n≤60)(hu:A.in1.units<cLine) :
  ∀ (k i:Nat) (s:Shared),n - i=k→i≤n→St i s→(∀ q,D q→IsTupleKey (intKind prog w) s.heap (κ q) q)→(∃ m,m≤i∧EZ (intKind prog w) D L s.heap S (fun O=>(fj κ val i).contains O) m)→
   (∀ s' m,Moved (S::wr) Gm s s'→m≤n→EZ (intKind prog w) D L s'.heap S (fun O=>(fj κ val n).contains O) m→R (.ok (.ret .none)) s')→
   codeAny (model prog w) A (.builtin "set.update.loop" ⟨[.ref S,.ref I],[]⟩) R s:=by
 have a3:S∉wr:=fun h=>a8 (W.sub _ h)
 have J:∀ b∈wr,b∈S::wr:=fun b hb=>zO _ hb
 have Y:∀ q,D q→q∉wr:=fun q F z=>hD q F (J q z)
 intro k
 induction k with
 | zero=>
  intro i s hk hi ag hT hS hR
  have b0:i=n:=by omega
  subst b0;obtain⟨m,a5,hS⟩:=hS
  refine codeAny_builtin za5 ?_
  rw[GU zaA _];show wpAny _ A.in1 (pyNext (.ref I) >>= _) _ _ s
  refine G8 (W.done s _ _ ag fun s' U=>?_)
  show wpAny _ A.in1 (ret Value.none) _ _ s'
  exact Hc (hR s' m (U.mono J) a5 (hS.mv (fun o e=>U.heap S _ a3 e) (fun q o F e=>U.heap q o (Y q F) e) (fun _=>rfl)))
 | succ k ih=>
  intro i s hk hi ag hT hS hR
  obtain⟨m,a5,hS⟩:=hS
  have as:i<n:=by omega
  refine codeAny_builtin za5 ?_
  rw[GU zaA _];show wpAny _ A.in1 (pyNext (.ref I) >>= _) _ _ s
  refine G8 (W.item i s _ _ as ag fun v s' hP al U=>?_)
  obtain⟨rfl,ab⟩:=an i v hP
  have a9:=hS.mv (h':=s'.heap) (S':=fun O=>(fj κ val i).contains O) (fun o e=>U.heap S _ a3 e) (fun q o F e=>U.heap q o (Y q F) e) (fun _=>rfl)
  have ad:∀ q,D q→IsTupleKey (intKind prog w) s'.heap (κ q) q:=fun q F=>eP (hT q F) fun o e=>U.heap q o (Y q F) e
  show wpAny _ A.in1 (holding [Value.ref (val i)] (setAdd S (.ref (val i))) >>= _) _ _ s'
  refine G8 (wpAny_holding ?_)
  unfold setAdd;refine wpAny_holding ?_
  refine G8 (wpAny_pyHash_tuple hu (ad _ ab) ?_)
  refine G9 (s:={ s' with toks:=s'.toks+((κ (val i)).length+1) }) (ad _ ab) (fun k v h=>wb k v h) hu a9 (by omega) ab fun h' Z bt=>?_
  have be:∀ q,D q→q≠S:=fun q F z=>hD q F (by rw[z]; exact zI)
  have bp:∃ m',m'≤i+1∧EZ (intKind prog w) D L h' S (fun O=>(fj κ val (i+1)).contains O) m':=by
   refine⟨_,?_,bt.mv (h':=h') (fun o e=>e) (fun q o _ e=>e) (fun O=>?_)⟩
   ·split <;> omega
   ·rw[ww,List.contains_eq_any_beq,List.contains_eq_any_beq,List.any_append]
    congr 1
    show ((O == κ (val i))||false)=_
    rw[zaI]
    by_cases e:O=κ (val i)
    ·simp[e]
    ·simp[e]
  refine Hc ⟨plainId_quiet zaA _,ih (i+1) _ (by omega) as (W.frame _ s' _ _ al (zaZ _ _) fun b hb o e=>?_) (fun q F=>eP (ad q F) fun o e=>?_) bp fun b1 bg a6 a4 a7=>?_⟩
  ·rw[Z.2 b (fun h:b=S=>a8 (by rw[← h]; exact hb))]; exact e
  ·show h'.get? q=some o
   rw[Z.2 q (be q F)]; exact e
  ·refine hR b1 bg (Moved.trans W.gtrans ((U.mono J).then_heap (zaZ _ _) fun b o hb e=>?_) a6) a4 a7
   rw[Z.2 b (fun h:b=S=>hb (by rw[h]; exact zI))]; exact e
end
section
variable{prog:Program}{w:World}{A:Around}{E:Value→Shared→Prop}{s:Shared}
theorem xU{l:Addr}{J:Array Value}{val:Nat→Addr}{κ : Addr→List Int}{D:Addr→Prop}{Q:Value→Shared→Prop}(hh:A.handled=none)(hu:A.units+20<cLine)(hl:s.heap.IsList l J)(hv:∀ i v,J[i]? = some v→v = .ref (val i)∧D (val i))(Z:∀ q,D q→IsTupleKey (intKind prog w) s.heap (κ q) q)(a5:J.size≤60)
  (h:∀ (h':Heap) (tk:Nat),(∃ m,m≤J.size∧EZ (intKind prog w) D (bw w) h' s.heap.objs.size (fun k'=>(fj κ val J.size).contains k') m)→
   (∀ b o,b<s.heap.objs.size→s.heap.get? b=some o→h'.get? b=some o)→Q (.ref s.heap.objs.size) { s with heap:=h',toks:=tk }) :
  wpAny (model prog w) A (call (.type "set") [.ref l]) Q E s:=by
 obtain⟨c,tl,cb⟩:=F.called_set.mro
 have bp:=F.called_set.made;have b3:=F.called_set.sub;refine wpAny_call (codeAny_of_tree ?_)
 show wpAny _ _ (callAny (.type "set") _) _ _ _
 refine Hc ⟨Code.quiet_builtin _ (by decide +kernel),codeAny_builtin F.entry_type_call ?_⟩
 rw[Around.under_plain (weight_type_call_type "set" [.ref l] []) rfl];have h1:=F.called_set.notType;have h2:=F.called_set.canCreate;have cd:=F.typeCall_set_1 (.ref l)
 repeat (any_goals (first | assumption | wp_step))
 refine codeAny_mono (rh (.ref l) (E:=E) (Q₁:=fun obj s₁=>obj = .ref s.heap.objs.size∧s₁={ s with heap:=s.heap.push { cls:=.type "set", dict:=none,data:=.set #[] 0 (.fresh 0 0 (bw w)) } }) ⟨rfl,rfl⟩) fun r s₁ hr=>?_
 cases r with
 | error e=>exact hr
 | ok fl=>
  cases fl with
  | ret obj=>
   obtain⟨rfl,rfl⟩:=hr
   have hS:(s.heap.push { cls:=.type "set", dict:=none,data:=.set #[] 0 (.fresh 0 0 (bw w)) }).get? s.heap.objs.size=some { cls:=.type "set", dict:=none,data:=.set #[] 0 (.fresh 0 0 (bw w)) }:=zV _ rfl
   have hT:Shared.TypeIs { s with heap:=s.heap.push { cls:=.type "set", dict:=none,data:=.set #[] 0 (.fresh 0 0 (bw w)) } } (.ref s.heap.objs.size) "set" := ⟨_,hS,rfl⟩
   have cl:=F.called_set.init.lookup;have cq:=F.called_set.init.bind (.ref s.heap.objs.size)
   repeat (any_goals (first | assumption | wp_step))
   refine codeAny_mono (codeAny_call_builtin (R:=wants (fun r s₂=>r = .none∧∃ h' tk,s₂={ s with heap:=h',toks:=tk }∧
     (∃ m,m≤J.size∧EZ (intKind prog w) D (bw w) h' s.heap.objs.size (fun k'=>(fj κ val J.size).contains k') m)∧
     (∀ b o,b<s.heap.objs.size→s.heap.get? b=some o→h'.get? b=some o)) E) F.called_set.init.plain F.entry_set_init (check_set_init_1 hT ?_)) fun r₂ s₂ W=>?_
   ·obtain⟨ol,ad,a3,nl,an⟩:=hl
    obtain⟨b4,U,bg,O⟩:=ol
    simp only at a3 an
    subst a3; subst an
    have Y:(s.heap.push { cls:=.type "set", dict:=none,data:=.set #[] 0 (.fresh 0 0 (bw w)) }).get? l=some { cls:=.type "list", dict:=U,data:=.seq J nl,slots:=O }:=zz _ ad
    have ca:=F.sub_list_set;have b2:=F.sub_list_frozenset;have cc:(Value.type "list" == Value.type "dict")=false:=by decide
    have al:(s.heap.push { cls:=.type "set", dict:=none,data:=.set #[] 0 (.fresh 0 0 (bw w)) }).IsList l J:=⟨_,Y,rfl,nl,rfl⟩
    unfold Builtin.«set.__init__» noKeywords Builtin.Frozenset.updateFrom
    generalize hPI:pyIter=PI
    wp_walk
    subst hPI;refine wpAny_pyIter_list al ?_
    refine G8 (wpAny_runValue ?_)
    have ab:l<s.heap.objs.size:=zA ad
    have a6:A.in1.in1.in1.handled=none:=by simp[hh]
    have ag:l≠(s.heap.push { cls:=.type "set", dict:=none,data:=.set #[] 0 (.fresh 0 0 (bw w)) }).objs.size:=by
     rw[vY]; exact zR (lW ab)
    have b1:s.heap.objs.size∉[(s.heap.push { cls:=.type "set", dict:=none,data:=.set #[] 0 (.fresh 0 0 (bw w)) }).objs.size,l]:=by
     rw[vY]; simp only[zK,zaY,qm,or_false,not_or]
     exact⟨zR (zaw _),GI ab⟩
    have a9:∀ q,D q→q<s.heap.objs.size:=fun q hq=>by obtain⟨o,_,_,ho,_⟩   := Z q hq; exact zA ho
    refine zn (L:=bw w) (D:=D) ((Walks.list a6 _ l ag J).toS) s.heap.objs.size b1 κ val hv (fun q hq z=>?hD) a5 ?hu (J.size - 0) 0 _ (by omega) (vL _) ⟨⟨_,zV _ rfl,rfl,rfl⟩,(al.push _)⟩ (fun q hq=>eP (Z q hq) fun o e=>zz _ (zz _ e)) ?hS0 ?hR
    case hD=>
     have as:=a9 q hq;rcases Hi.mp z with z | z
     ·exact absurd z (zR as)
     ·have z1:=Hg.mp z
      rw[vY]at z1
      exact absurd z1 (zR (lW as))
    case hu=>show A.units+1+1+1<cLine; omega
    case hS0=>
     refine⟨0,zl _,{ cls:=.type "set", dict:=none,data:=.set #[] 0 (.fresh 0 0 (bw w)) },#[],0,.fresh 0 0 (bw w),zz _ hS,?_⟩
     exact⟨⟨rfl,rfl,rfl⟩,rfl,fun e he=>by simp at he,fun k=>by simp[fj],List.Pairwise.nil,rfl,by show 0 * 5<7 * 3; omega,ES.fresh 0 0 _,rfl,fun e he=>by simp at he⟩
    case hR=>
     intro s' mm hm a8 S
     obtain⟨h',g',d',a4,be⟩:=s'
     have eg:g'=s.gens:=hm.gens
     have ed:d'=s.drawn:=hm.drawn
     have eo:be=s.os:=hm.os
     subst eg; subst ed; subst eo
     show wpAny _ _ _ _ _ _
     refine Hc ?_
     show wpAny _ _ (ret Value.none) _ _ _
     refine Hc ⟨rfl,h',a4,rfl,⟨mm,a8,S⟩,fun b o hb e=>?_⟩
     have a7:b≠s.heap.objs.size:=zR hb
     have b0:b≠(s.heap.push { cls:=.type "set", dict:=none,data:=.set #[] 0 (.fresh 0 0 (bw w)) }).objs.size:=by
      rw[vY]; exact zR (lW hb)
     exact hm.heap b o (by simp only[zK,zaY,qm,or_false,not_or]; exact⟨a7,b0⟩) (zz _ (zz _ e))
   ·cases r₂ with
    | error e=>exact W
    | ok fl₂=>
     cases fl₂ with
     | ret r=>
      obtain⟨rfl,h',tk,rfl,S,bt⟩:=W
      repeat (any_goals (first | assumption | wp_step))
      exact h _ _ S bt
     | _=>exact W.elim
  | _=>exact hr.elim
end
noncomputable def g_(e:Int × Value):Addr:=match e.2 with
 | .ref p=>p
 | _=>0
def GM(w:World)(h:Heap)(a:Addr)(qs:List Addr):Prop:=∃ o es ep t,h.get? a=some o∧o.ExactSet∧o.data = .set es ep t∧es.size<scanBound∧t.fits es.size=true∧cx (bw w) t∧es.toList.map (·.2)=qs.map Value.ref
noncomputable def gf(w:World)(a:Addr)(qs:List Addr):HO:=.ext fun h=>GM w h a qs
theorem EV{prog:Program}{w:World}{h:Heap}{a:Addr}{S:List Int→Bool}{n:Nat}{D:Addr→Prop}{κ : Addr→List Int}(x:EZ (intKind prog w) D (bw w) h a S n)(hn:n≤60)(O:∀ q,D q→IsTupleKey (intKind prog w) h (κ q) q) :
  ∃ qs,GM w h a qs∧(∀ q∈qs,D q)∧(qs.map κ).Nodup∧(∀ k,k∈qs.map κ ↔ S k=true)∧qs.length=n:=by
 obtain⟨o,es,ep,t,ho,T⟩:=x
 have J:∀ e∈es.toList,e.2 = .ref (g_ e)∧D (g_ e):=fun e F=>by
  obtain⟨k,p,W,w2⟩:=T.el e F
  have:g_ e=p:=by unfold g_; rw[W]
  rw[this];have Z:e.2 = .ref p:=by rw[W]
  exact⟨Z,T.inq e F p Z⟩
 refine⟨es.toList.map g_,⟨o,es,ep,t,ho,T.ex,T.dat,by rw[T.num]; unfold scanBound; omega,T.fit,⟨T.led,T.tab.rise⟩,?_⟩,fun q hq=>?_,?_,fun k=>?_,by rw[ze,vj]; exact T.num⟩
 ·rw[yt]
  exact zba fun e F=>(J e F).1
 ·obtain⟨e,F,rfl⟩:=Hk.mp hq
  exact(J e F).2
 ·rw[yt]
  refine Ht.mpr (za6 (fun {x y} hx Y U e=>?_) T.apart)
  have e':κ (g_ x)=κ (g_ y):=e
  have h1:=O _ (J y Y).2;rw[← e']at h1
  exact U _ _ (κ (g_ x)) (J x hx).1 (J y Y).1 (O _ (J x hx).2) h1
 ·rw[T.mem,yt,zaB]
  constructor
  ·rintro⟨e,F,rfl⟩
   exact⟨e,F,_,(J e F).1,O _ (J e F).2⟩
  ·rintro⟨e,F,p,q1,q2⟩
   refine⟨e,F,?_⟩
   have hp:g_ e=p:=by have:=(J e F).1; rw[q1]at this; injection this with this; exact this.symm
   show κ (g_ e)=k
   have:=O _ (J e F).2
   rw[hp]at this ⊢
   exact this.inj q2
theorem oX(prog:Program)(w:World):∀ {vs:List Value} {ns:List Int},IntsAre vs ns→ItemsAre (intKind prog w) ns vs
 | _,_,.nil=>.nil
 | _,_,.cons n t h=>.cons (by show Value.isInt n (.int n t)=true; simp[Value.isInt]) (oX prog w h)
noncomputable def vt(K:W.Frag)(SO:Addr→List Addr→HO):List V→Hp→VK→Prop:=fun xs H Q=>∃ (p:Addr) (qs:List Addr) (κ : Addr→List Int),xs=[.ref p]∧ud K H p (qs.map V.ref)∧(∀ q∈qs,vr K H q ((κ q).map V.int))∧qs.length≤60∧
 ∀ (l:Addr) (qs':List Addr),H l=none→(∀ q∈qs',q∈qs)→(qs'.map κ).Nodup→(∀ k,k∈qs'.map κ ↔ k∈qs.map κ)→qs'.length≤qs.length→Q (.ref l) (upd H l (SO l qs'))
section
variable{X:Cx}
theorem Inv.tupK{pins:List (Addr × Obj)}{s:Shared}{σ : St}{H:Hp}(I:Inv X pins σ H s){q:Addr}{ns:List Int}(h:vr X.K H q (ns.map V.int)):IsTupleKey (intKind X.prog X.w) s.heap ns q:=by
 obtain⟨F,J,⟨o,e,c,n,d⟩,hz⟩:=I.tuple h
 exact⟨o,F.toArray,n,e,c,d,oX _ _ (by simpa using wR J)⟩
theorem v8{m:Nat}(hr:Dx m X.A){K:W.Frag}(hK:X.K=K):AL X (.type "set") (vt K (gf X.w)):=by
 subst hK;intro pins s σ H xs us Q I r h
 obtain⟨p,J,κ,rfl,U,hT,al,q⟩:=h
 obtain⟨u,rfl,ru⟩:=cT r
 cases ru;obtain⟨S,rv,pl,hz⟩:=I.list U
 have ag:S.length=J.length:=by rw[← rv.length,ze]
 have hv:∀ i v,S.toArray[i]? = some v→v = .ref (J.getD i 0)∧J.getD i 0∈J:=fun i v hv=>by
  obtain⟨x,hx,rx⟩:=rv.of (i:=i) (u:=v) (by simpa using hv)
  rw[zy]at hx
  obtain⟨q0,F,rfl⟩:=Hr.mp hx
  have:J.getD i 0=q0:=by rw[vE,F]; rfl
  rw[this]
  cases rx;exact⟨rfl,vx F⟩
 refine xU (D:=fun q=>q∈J) (κ:=κ) (val:=fun i=>J.getD i 0) hr.hd (by have:=hr.un; omega) pl.isList hv (fun q U=>I.tupK (hT q U)) (by simp only[qf]; omega) fun h' tk hS hk=>?_
 obtain⟨mm,Z,hS⟩:=hS
 simp only[qf]at Z
 obtain⟨ds,hg,ad,Y,O,an⟩:=EV (κ:=κ) hS (by omega) fun q U=>eP (I.tupK (hT q U)) fun o e=>hk q o (zA e) e
 obtain⟨o,es,ep,t,ho,ab⟩:=id hg
 refine⟨.ref s.heap.objs.size,_,I.laid (fun b o e=>hk b o (zA e) e) (zl _) (show Ax X.prog X.w _ h' _ (gf X.w s.heap.objs.size ds) from ⟨hg,⟨o,ho⟩,fun h1 h2 g k=>?_⟩),rfl,q _ ds (I.hok.fresh (zl _)) ad Y (fun x=>?_) (by omega)⟩
 ·obtain⟨o,es,ep,t,ho,CS⟩:=g
  exact⟨o,es,ep,t,k o ho,CS⟩
 ·rw[O]
  simp only[qf]
  unfold fj;simp only[List.contains_iff_mem,zaB,Hm]
  constructor
  ·rintro⟨i,hi,rfl⟩
   refine⟨J.getD i 0,?_,rfl⟩
   rw[vE,zg (by omega)]
   exact v5 _
  ·rintro⟨q0,F,rfl⟩
   obtain⟨i,hi,e⟩:=Ho.mp F
   exact⟨i,by omega,by rw[vE,zg hi,e]; rfl⟩
theorem kZ{m:Nat}(K:W.Frag)(w:World)(J:Dx m X.A)(F:X.K=K:=by rfl)(hw:X.w=w:=by rfl):AL X (.type "set") (vt K (gf w)):=hw ▸ v8 J F
end
noncomputable def cD:List Int→List Int→Bool
 | [],[]=>false
 | [],_::_=>true
 | _::_,[]=>false
 | a::x,b::y=>if a=b then cD x y else decide (a<b)
theorem gj:∀ x,cD x x=false
 | []=>rfl
 | a::x=>by unfold cD; rw[Hf rfl]; exact gj x
theorem eW:∀ x y z,cD x y=true→cD y z=true→cD x z=true
 | [],[],z,h,_=>by cases h
 | [],_::_,[],_,h=>by cases h
 | [],_::_,_::_,_,_=>rfl
 | _::_,[],z,h,_=>by cases h
 | _::_,_::_,[],_,h=>by cases h
 | a::x,b::y,c::z,h1,h2=>by
  unfold cD at h1 h2 ⊢
  split at h1
  ·rename_i e; subst e
   split at h2
   ·rename_i e; subst e
    rw[Hf rfl]; exact eW x y z h1 h2
   ·rename_i e; rw[He e]; exact h2
  ·rename_i e
   have F:a<b:=of_decide_eq_true h1
   split at h2
   ·rename_i e2; subst e2; rw[He e]; exact h1
   ·have J:b<c:=of_decide_eq_true h2
    rw[He (by omega)]; exact decide_eq_true (by omega)
theorem nv:∀ x y,cD x y=false→cD y x=false→x=y
 | [],[],_,_=>rfl
 | [],_::_,h,_=>by cases h
 | _::_,[],_,h=>by cases h
 | a::x,b::y,h1,h2=>by
  unfold cD at h1 h2
  by_cases e:a=b
  ·subst e
   rw[Hf rfl]at h1 h2
   rw[nv x y h1 h2]
  ·rw[He e]at h1; rw[He (ve e)]at h2
   have:=of_decide_eq_false h1; have:=of_decide_eq_false h2; omega
section
variable{prog:Program}{w:World}{A:Around}{E:Value→Shared→Prop}{s:Shared}
theorem oy(b:Bool)(x y:Value):keyLt' (tuples' b) x y=(do
  let xs ← Builtin.List.listItems x
  let ys ← Builtin.List.listItems y
  for ((p,q),i) in (xs.toList.zip ys.toList).zipIdx do
   if !(← eqBool p q) then return ← oneLt' (b&&i == 0) p q
  return decide (xs.size<ys.size)):=rfl
theorem rcLt_int{a b:Int}{t u:Tok}{Q:Value→Shared→Prop}(h:Q (.bool (decide (a<b))) s):wpAny (model prog w) A (richCompare .Lt (.int a t) (.int b u)) Q E s:=by
 exact HT.rcLt_int A s a t b u prog w E Q h
theorem v6{c:Bool}{a b:Int}{t u:Tok}{Q:Bool→Shared→Prop}(h:Q (decide (a<b)) s):wpAny (model prog w) A (oneLt' c (.int a t) (.int b u)) Q E s:=by
 cases c with
 | true=>exact oneLt_int h
 | false=>
  rw[oneLt'_eq];simp only[wA,if_false]
  exact G8 (rcLt_int (wpAny_truthy_bool h))
theorem nW{b:Bool}:∀ {x y:List Int} {J vs:List Value} (i1:ItemsAre (intKind prog w) x J) (i2:ItemsAre (intKind prog w) y vs) (k:Nat),
  wpAny (model prog w) A (forIn ((J.zip vs).zipIdx k) ((none,()):Option Bool × Unit) fun x (O:Option Bool × Unit)=>
      match x with
      | ((p,q),i)=>do
       let __do_lift ← eqBool p q
       if (!__do_lift)=true then do
         let __do_lift ← oneLt' (b&&i == 0) p q
         pure (ForInStep.done (some __do_lift,()))
        else pure (ForInStep.yield (none,()))) (fun r s'=>s'=s∧(r.1=some (cD x y)∨(r.1=none∧cD x y=decide (x.length<y.length)))) E s
 | _,_,_,_,.nil,.nil,k=>by
  rw[List.zip_nil_left,zaP,zaQ];exact Hc ⟨rfl,.inr ⟨rfl,rfl⟩⟩
 | _,_,_,_,.nil,.cons _ _,k=>by
  rw[List.zip_nil_left,zaP,zaQ];exact Hc ⟨rfl,.inr ⟨rfl,rfl⟩⟩
 | _,_,_,_,.cons _ _,.nil,k=>by
  rw[List.zip_nil_right,zaP,zaQ];exact Hc ⟨rfl,.inr ⟨rfl,rfl⟩⟩
 | _,_,_,_,.cons (k:=m) (ks:=x) h1 i1,.cons (k:=n) (ks:=y) h2 i2,k=>by
  obtain⟨t,rfl⟩:=zav h1
  obtain⟨u,rfl⟩:=zav h2
  rw[za1,List.zipIdx_cons,List.forIn_cons];refine G8 ?_
  dsimp only
  refine G8 (wpAny_eqBool_int ?_)
  unfold cD
  by_cases e:m=n
  ·subst e
   rw[Hf rfl,He (by simp)]
   refine Hc ?_
   refine wpAny_mono (nW (b:=b) i1 i2 (k+1)) (fun r s' F=>?_) fun _ _ e=>e
   obtain⟨rfl,F | ⟨F,e⟩⟩:=F
   ·exact⟨rfl,.inl F⟩
   ·refine⟨rfl,.inr ⟨F,?_⟩⟩
    rw[e,zx,zx];exact decide_eq_decide.mpr (by omega)
  ·rw[He e,Hf (by simpa using e)]
   refine G8 (v6 ?_)
   refine Hc ?_
   exact Hc ⟨rfl,.inl rfl⟩
theorem vD{b:Bool}{x y:List Int}{p q:Addr}{Q:Bool→Shared→Prop}(hx:IsTupleKey (intKind prog w) s.heap x p)(W:IsTupleKey (intKind prog w) s.heap y q)(h:Q (cD x y) s) :
  wpAny (model prog w) A (keyLt' (tuples' b) (.ref p) (.ref q)) Q E s:=by
 obtain⟨o1,xs,n1,O,Y,J,i1⟩:=hx
 obtain⟨Z,ys,n2,S,c2,U,i2⟩:=W
 rw[oy];refine G8 (listItems_at O J ?_)
 refine G8 (listItems_at S U ?_)
 have hsz:decide (xs.size<ys.size)=decide (x.length<y.length):=by
  rw[i1.length,i2.length,vj,vj]
 rw[hsz];clear O S J U hsz;generalize xs.toList=us at i1 ⊢;generalize ys.toList=vs at i2 ⊢;refine G8 (wpAny_mono (nW (b:=b) i1 i2 0) (fun r s' F=>?_) fun _ _ e=>e)
 obtain⟨rfl,F | ⟨F,e⟩⟩:=F
 ·dsimp only; rw[F]; exact wpAny_pure h
 ·dsimp only; rw[F,← e]; exact wpAny_pure h
end
section
variable{prog:Program}{w:World}{A:Around}{E:Value→Shared→Prop}{s:Shared}{rk:Keyed→List Int}{kd:SortKind}{a0:Array Keyed}
noncomputable def ce(rk:Keyed→List Int)(xs:Array Keyed)(i:Nat):List Int:=(xs[i]?.map rk).getD []
theorem ij(rk:Keyed→List Int){xs:Array Keyed}{i:Nat}{p:Keyed}(h:xs[i]? = some p):ce rk xs i=rk p:=by unfold ce; rw[h]; rfl
def fB(rk:Keyed→List Int)(xs:Array Keyed)(k:Nat):Prop:=∀ i j,i<j→j<k→cD (ce rk xs i) (ce rk xs j)=true
def Bn(rk:Keyed→List Int)(xs:Array Keyed)(k:Nat):Prop:=∀ i j,i<j→j<k→cD (ce rk xs j) (ce rk xs i)=true
structure E3 (rk:Keyed→List Int) (kd:SortKind) (a0:Array Keyed) (st:SortSt):Prop where
 perm:(arrOf st).Perm a0
 kind:kindOf st=kd
 fail:failedOf st=none
 pend:pendingOf st = #[]
 dist:(a0.toList.map rk).Nodup
def jn(prog:Program)(w:World)(s:Shared)(rk:Keyed→List Int)(kd:SortKind)(a0:Array Keyed):Prop:=
 ∀ (A:Around) (E:Value→Shared→Prop) (x y:Keyed) (Q:Bool→Shared→Prop),x∈a0.toList→y∈a0.toList→Q (cD (rk x) (rk y)) s→wpAny (model prog w) A (keyLt' kd x.1 y.1) Q E s
theorem E3.size{st:SortSt}(h:E3 rk kd a0 st):(arrOf st).size=a0.size:=h.perm.size_eq
theorem E3.set{st:SortSt}(h:E3 rk kd a0 st){xs:Array Keyed}(F:xs.Perm (arrOf st)):E3 rk kd a0 (setArr st xs):=⟨F.trans h.perm,h.kind,h.fail,h.pend,h.dist⟩
theorem E3.ne{st:SortSt}(h:E3 rk kd a0 st){i j:Nat}(hi:i<a0.size)(U:j<a0.size)(F:i≠j):ce rk (arrOf st) i≠ce rk (arrOf st) j:=by
 have J:((arrOf st).toList.map rk).Nodup:=((Hv.mp h.perm).map rk).nodup_iff.mpr h.dist
 have hsz:=h.size;have S:(arrOf st)[i]? = some ((arrOf st)[i]'(by omega)):=wt _
 have O:(arrOf st)[j]? = some ((arrOf st)[j]'(by omega)):=wt _
 rw[ij rk S,ij rk O];intro e
 exact F ((List.getElem_inj (i:=i) (j:=j) (h₀:=by rw[ze,vj]; omega) (h₁:=by rw[ze,vj]; omega) J).mp (by simpa using e))
theorem E3.or{st:SortSt}(h:E3 rk kd a0 st){i j:Nat}(hi:i<a0.size)(J:j<a0.size)(F:i≠j)(hl:cD (ce rk (arrOf st) i) (ce rk (arrOf st) j)=false):cD (ce rk (arrOf st) j) (ce rk (arrOf st) i)=true:=by
 cases z:cD (ce rk (arrOf st) j) (ce rk (arrOf st) i) with
 | true=>rfl
 | false=>exact absurd (nv _ _ hl z) (h.ne hi J F)
theorem yz(W:jn prog w s rk kd a0){st:SortSt}(h:E3 rk kd a0 st){i j:Nat}{Q:Option Bool→SortSt→Prop}(hi:i<a0.size)(Y:j<a0.size)(O:Q (some (cD (ce rk (arrOf st) i) (ce rk (arrOf st) j))) st):wpS (model prog w) A E s (ltAt' i j) Q st:=by
 have hsz:=h.size;have U:(arrOf st)[i]? = some ((arrOf st)[i]'(by omega)):=wt _
 have S:(arrOf st)[j]? = some ((arrOf st)[j]'(by omega)):=wt _
 rw[ij rk U,ij rk S]at O
 have F:∀ k (J:k<(arrOf st).size),(arrOf st)[k]∈a0.toList:=fun k J=>(Hv.mp h.perm).mem_iff.mp (Array.getElem_mem_toList J)
 rw[ltAt'_eq];refine wpS_bind (wpS_get ?_)
 dsimp only
 rw[elem'_eq,elem'_eq,U,S];refine wpS_bind (wpS_pure (wpS_bind (wpS_pure ?_)))
 rw[lt'_eq];refine wpS_bind (wpS_get ?_)
 rw[h.kind];refine wpS_bind (wpS_lift (wpAny_attempt (W _ _ _ _ _ (F i _) (F j _) ⟨rfl,?_⟩)))
 exact wpS_pure O
theorem nV{xs:Array Keyed}{F d:Nat}(J:F<xs.size)(hd:d≤F)(k:Nat):ce rk (bubble xs F d) k=if k=F - d then ce rk xs F else if F - d<k∧k≤F then ce rk xs (k - 1) else ce rk xs k:=by
 unfold ce;rw[getElem?_bubble J d hd k];split
 ·rfl
 ·split <;> rfl
theorem nN{xs:Array Keyed}{j:Nat}(F:j≤xs.size)(k:Nat):ce rk (mirror xs 0 j ((j - 0) / 2)) k=if k<j then ce rk xs (j - 1 - k) else ce rk xs k:=by
 unfold ce;rw[getElem?_mirror_all F k];simp only[vL,true_and,kC]
 split <;> rfl
theorem C5(hC:jn prog w s rk kd a0){st:SortSt}(h:E3 rk kd a0 st){a F:Nat}{Q:AscSt→SortSt→Prop}(hn:F≤a0.size)(h1:1≤a)(Z:a≤F)(hr:fB rk (arrOf st) a)
  (Y:∀ n,a≤n→n≤F→fB rk (arrOf st) n→(n=F∨cD (ce rk (arrOf st) n) (ce rk (arrOf st) (n - 1))=true)→Q (none,n) st):wpS (model prog w) A E s (ascLoop a F) Q st:=by
 unfold ascLoop;refine wpS_forRange (I:=fun i c J=>J=st∧c=(none,i)∧fB rk (arrOf st) i) ?_ ?_ ⟨rfl,rfl,hr⟩
 ·rintro i c J S ab ⟨rfl,rfl,hi⟩
  dsimp only
  refine wpS_bind (yz hC h (by omega) (by omega) ?_)
  dsimp only
  cases z:cD (ce rk (arrOf J) i) (ce rk (arrOf J) (i - 1)) with
  | true=>
   rw[Hf rfl];exact wpS_pure (Y i S (by omega) hi (.inr z))
  | false=>
   rw[He (by simp)]
   refine wpS_pure ⟨rfl,rfl,fun x y U hy=>?_⟩
   have O:=h.or (i:=i) (j:=i - 1) (by omega) (by omega) (by omega) z
   rcases vA y i with q | q
   ·exact hi x y U q
   ·have:y=i:=by omega
    subst this;rcases vA x (y - 1) with W | W
    ·exact eW _ _ _ (hi x (y - 1) W (by omega)) O
    ·rw[show x=y - 1 by omega]; exact O
 ·rintro c J ⟨rfl,rfl,hi⟩
  rw[show max a F=F by omega]at hi ⊢
  exact Y F Z (zl _) hi (.inl rfl)
theorem FP(W:jn prog w s rk kd a0){st:SortSt}(h:E3 rk kd a0 st){a F:Nat}{Q:DescSt→SortSt→Prop}(hn:F≤a0.size)(h1:1≤a)(Z:a≤F)(hr:Bn rk (arrOf st) a)
  (Y:∀ n,a≤n→n≤F→Bn rk (arrOf st) n→Q (none,n,0) st):wpS (model prog w) A E s (descLoop a F) Q st:=by
 unfold descLoop;refine wpS_forRange (I:=fun i c J=>J=st∧c=(none,i,0)∧Bn rk (arrOf st) i) ?_ ?_ ⟨rfl,rfl,hr⟩
 ·rintro i c J O ab ⟨rfl,rfl,hi⟩
  dsimp only
  refine wpS_bind (yz W h (by omega) (by omega) ?_)
  dsimp only
  cases z:cD (ce rk (arrOf J) i) (ce rk (arrOf J) (i - 1)) with
  | true=>
   rw[Hf rfl,He (by omega)]
   refine wpS_pure ⟨rfl,rfl,fun x y S hy=>?_⟩
   rcases vA y i with q | q
   ·exact hi x y S q
   ·have:y=i:=by omega
    subst this;rcases vA x (y - 1) with U | U
    ·exact eW _ _ _ z (hi x (y - 1) U (by omega))
    ·rw[show x=y - 1 by omega]; exact z
  | false=>
   rw[He (by simp)]
   refine wpS_bind (yz W h (by omega) (by omega) ?_)
   dsimp only
   rw[h.or (i:=i) (j:=i - 1) (by omega) (by omega) (by omega) z,Hf rfl]
   exact wpS_pure (Y i O (by omega) hi)
 ·rintro c J ⟨rfl,rfl,hi⟩
  rw[show max a F=F by omega]at hi ⊢
  exact Y F Z (zl _) hi
theorem Gn(Z:jn prog w s rk kd a0){st:SortSt}(h:E3 rk kd a0 st){n F:Nat}{Q:Option Nat→SortSt→Prop}(hn:F≤a0.size)(h1:1≤n)(U:n≤F)(Y:Bn rk (arrOf st) n)
  (hq:∀ m st',E3 rk kd a0 st'→1≤m→m≤F→fB rk (arrOf st') m→Q (some m) st'):wpS (model prog w) A E s (tail3 n F) Q st:=by
 unfold tail3;rw[reverseSlice'_eq];refine wpS_bind (wpS_modify ?_)
 have hs:=h.size;have h2:=h.set (mirror_perm (arrOf st) 0 n ((n - 0) / 2))
 have J:fB rk (arrOf (setArr st (mirror (arrOf st) 0 n ((n - 0) / 2)))) n:=fun i j ad W=>by
  show cD (ce rk (mirror (arrOf st) 0 n ((n - 0) / 2)) i) (ce rk (mirror (arrOf st) 0 n ((n - 0) / 2)) j)=true
  rw[nN (by omega),nN (by omega),Hf (by omega),Hf W]
  exact Y _ _ (by omega) (by omega)
 refine wpS_bind (C5 Z h2 hn h1 U J fun m ab O S _=>?_)
 dsimp only
 exact wpS_pure (hq m _ h2 (by omega) O S)
theorem DP(U:jn prog w s rk kd a0){st:SortSt}(h:E3 rk kd a0 st){F:Nat}{Q:Option Nat→SortSt→Prop}(hn:F≤a0.size)(h1:1≤F)
  (hq:∀ m st',E3 rk kd a0 st'→1≤m→m≤F→fB rk (arrOf st') m→Q (some m) st'):wpS (model prog w) A E s (countRun' 0 F) Q st:=by
 rw[countRun0_eq];refine wpS_bind (C5 U h hn (zl _) h1 (fun i j ad hj=>by omega) fun m S O J Z=>?_)
 dsimp only
 by_cases e:m=F
 ·rw[Hf (by simpa using e)]
  exact wpS_pure (hq m st h S O J)
 ·rw[He (by simpa using e)]
  rcases vA 1 m with z | z
  ·rw[Hf z]
   refine wpS_bind (yz U h (by omega) (by omega) ?_)
   dsimp only
   rw[J 0 (m - 1) (by omega) (by omega),Hf rfl]
   exact wpS_pure (hq m st h S O J)
  ·rw[He (by omega)]
   have hm:m=1:=by omega
   subst hm;have Y:=Z.resolve_left e;unfold descPart;refine wpS_bind (wpS_lift (wpAny_rule ⟨rfl,?_⟩))
   refine wpS_bind (FP U h hn (by omega) (by omega) (fun i j ad hj=>?_) fun n ag ab W=>?_)
   ·rw[show i=0 by omega,show j=1 by omega]; exact Y
   ·dsimp only
    rw[He (by omega)]
    exact Gn U h hn (by omega) ab W hq
theorem G_(hC:jn prog w s rk kd a0){st:SortSt}(h:E3 rk kd a0 st){n ok:Nat}{Q:Bool→SortSt→Prop}(hn:n≤a0.size)(hok:ok≤n)(h1:1≤ok)(hr:fB rk (arrOf st) ok)
  (hq:∀ F,E3 rk kd a0 F→fB rk (arrOf F) n→Q true F):wpS (model prog w) A E s (binarySort' 0 n ok) Q st:=by
 rw[binarySort'_eq];simp only[kC]
 rw[show max ok 1=ok by omega]
 refine wpS_bind (wpS_mono (wpS_forRange (I:=fun k c F=>c=(none,())∧E3 rk kd a0 F∧fB rk (arrOf F) k) (Q:=fun c F=>c=(none,())∧E3 rk kd a0 F∧fB rk (arrOf F) n) ?step ?fin ⟨rfl,h,hr⟩) ?post)
 case fin=>
  rintro c F ⟨hc,S,O⟩
  rw[show max ok n=n by omega]at O
  exact⟨hc,S,O⟩
 case post=>
  rintro c F ⟨rfl,S,O⟩
  exact wpS_pure (hq F S O)
 case step=>
  rintro k c F ab ad ⟨rfl,S,O⟩
  have hsz:=S.size
  refine wpS_bind (wpS_mono (wpS_forRange (I:=fun x c J=>J=F∧∃ l r,c=(none,l,r)∧l≤r∧r≤k∧r - l≤k - x∧(∀ i,i<l→cD (ce rk (arrOf F) i) (ce rk (arrOf F) k)=true)∧(∀ i,r≤i→i<k→cD (ce rk (arrOf F) k) (ce rk (arrOf F) i)=true))
   (Q:=fun c J=>J=F∧∃ l r,c=(none,l,r)∧l≤k∧(∀ i,i<l→cD (ce rk (arrOf F) i) (ce rk (arrOf F) k)=true)∧(∀ i,l≤i→i<k→cD (ce rk (arrOf F) k) (ce rk (arrOf F) i)=true)) ?istep ?ifin ⟨rfl,0,k,rfl,by omega,by omega,by omega,fun i hi=>by omega,fun i h1 h2=>by omega⟩) ?ipost)
  case ifin=>
   rintro c J ⟨rfl,l,r,rfl,q1,q2,Y,W,U⟩
   refine⟨rfl,l,r,rfl,by omega,W,fun i h1 h2=>U i ?_ h2⟩
   have:max 0 k=k:=by omega
   rw[this]at Y; omega
  case istep=>
   rintro x c J _ hx ⟨rfl,l,r,rfl,q1,q2,Y,W,U⟩
   dsimp only
   by_cases z:l≥r
   ·rw[Hf z]
    exact wpS_pure ⟨rfl,l,r,rfl,by omega,W,fun i h1 h2=>U i (by omega) h2⟩
   ·rw[He z]
    refine wpS_bind (yz hC S (by omega) (by omega) ?_)
    dsimp only
    cases y:cD (ce rk (arrOf J) k) (ce rk (arrOf J) ((l+r) / 2)) with
    | true=>
     rw[Hf rfl];refine wpS_pure ⟨rfl,l,(l+r) / 2,rfl,by omega,by omega,by omega,W,fun i h1 h2=>?_⟩
     rcases zaC h1 with e | e
     ·rw[← e]; exact y
     ·exact eW _ _ _ y (O _ _ e h2)
    | false=>
     rw[He (by simp)]
     have y2:=S.or (i:=k) (j:=(l+r) / 2) (by omega) (by omega) (by omega) y
     refine wpS_pure ⟨rfl,(l+r) / 2+1,r,rfl,by omega,by omega,by omega,fun i h1=>?_,U⟩
     rcases zaC (show i≤(l+r) / 2 by omega) with e | e
     ·rw[e]; exact y2
     ·exact eW _ _ _ (O _ _ e (by omega)) y2
  case ipost=>
   rintro c J ⟨rfl,l,r,rfl,q1,q2,Y⟩
   dsimp only
   rw[moveDown'_eq];refine wpS_bind (wpS_modify ?_)
   refine wpS_pure ⟨rfl,S.set (bubble_perm _ _ _),fun i j Z hj=>?_⟩
   show cD (ce rk (bubble (arrOf J) k (k - l)) i) (ce rk (bubble (arrOf J) k (k - l)) j)=true
   rw[nV (by omega) (by omega),nV (by omega) (by omega),show k - (k - l)=l by omega]
   by_cases i1:i=l
   ·rw[Hf i1,He (by omega),Hf (by omega)]
    exact Y _ (by omega) (by omega)
   ·rw[He i1]
    by_cases j1:j=l
    ·rw[Hf j1,He (by omega)]
     exact q2 _ (by omega)
    ·rw[He j1]
     by_cases i2:l<i∧i≤k
     ·rw[Hf i2,Hf (by omega)]
      exact O _ _ (by omega) (by omega)
     ·rw[He i2]
      by_cases j2:l<j∧j≤k
      ·rw[Hf j2]
       exact O _ _ (by omega) (by omega)
      ·rw[He j2]
       exact O _ _ Z (by omega)
theorem FQ(hC:jn prog w s rk kd a0){st:SortSt}(h:E3 rk kd a0 st)(h2:2≤a0.size)(a3:a0.size<64){Q:Unit→SortSt→Prop}
  (hq:∀ F,(arrOf F).Perm a0→failedOf F=none→fB rk (arrOf F) a0.size→Q () F):wpS (model prog w) A E s sortRuns' Q st:=by
 rw[sortRuns'_eq];refine wpS_bind (wpS_get ?_)
 dsimp only
 have an:minRun' a0.size a0.size 0=a0.size:=by
  have:∀ f,minRun' (f+1) a0.size 0=a0.size:=fun f=>by rw[minRun'_succ,Hf a3]; rfl
  have e:=this (a0.size - 1);rw[show a0.size - 1+1=a0.size by omega]at e
  exact e
 simp only[h.size,an]
 have dn:∀ F,E3 rk kd a0 F→fB rk (arrOf F) a0.size→∀ J,J=setPending F ((pendingOf F).push (0,a0.size,0))→(arrOf J).Perm a0∧failedOf J=none∧(pendingOf J).size=1∧fB rk (arrOf J) a0.size:=by
  rintro F W Y J rfl
  exact⟨W.perm,W.fail,by show ((pendingOf F).push _).size=1; rw[W.pend]; rfl,Y⟩
 refine wpS_bind (wpS_mono (wpS_forRange
  (I:=fun x c F=>(x=0∧c=(none,0)∧E3 rk kd a0 F)∨(1≤x∧c=(none,a0.size)∧(arrOf F).Perm a0∧failedOf F=none∧(pendingOf F).size=1∧fB rk (arrOf F) a0.size))
  (Q:=fun c F=>c=(none,a0.size)∧(arrOf F).Perm a0∧failedOf F=none∧(pendingOf F).size=1∧fB rk (arrOf F) a0.size) ?step ?fin (.inl ⟨rfl,rfl,h⟩)) ?post)
 case fin=>
  rintro c F (⟨hx,_⟩ | ⟨_,Y⟩)
  ·omega
  ·exact Y
 case step=>
  rintro x c F _ hx (⟨rfl,rfl,W⟩ | ⟨a4,rfl,Y⟩)
  ·dsimp only
   rw[He (by omega)]
   simp only[Nat.sub_zero,Nat.min_self,kC]
   refine wpS_bind (DP hC W (zl _) (by omega) fun m ab S al ag U=>?_)
   dsimp only
   by_cases hlt:m<a0.size
   ·rw[Hf hlt]
    refine wpS_bind (wpS_lift (wpAny_rule ⟨rfl,?_⟩))
    refine wpS_bind (G_ hC S (zl _) ag al U fun Z ad as=>?_)
    simp only[u0,wA,if_false]
    refine wpS_bind (wpS_get ?_)
    have O:(pendingOf Z).back? = none:=by rw[ad.pend]; rfl
    rw[O]
    dsimp only
    exact wpS_bind (wpS_modify (wpS_pure (.inr ⟨by omega,rfl,dn Z ad as _ rfl⟩)))
   ·rw[He hlt]
    have hm:m=a0.size:=by omega
    subst hm;refine wpS_bind (wpS_get ?_)
    have O:(pendingOf ab).back? = none:=by rw[S.pend]; rfl
    rw[O]
    dsimp only
    exact wpS_bind (wpS_modify (wpS_pure (.inr ⟨by omega,rfl,dn ab S U _ rfl⟩)))
  ·dsimp only
   rw[Hf (zl _)];exact wpS_pure ⟨rfl,Y⟩
 case post=>
  rintro c F ⟨rfl,d1,d2,d3,d4⟩
  dsimp only
  refine wpS_bind (wpS_mono (wpS_forRange (I:=fun _ c J=>J=F∧c=(none,())) (Q:=fun c J=>J=F∧c=(none,())) ?_ (fun _ _ z=>z) ⟨rfl,rfl⟩) ?_)
  ·rintro x c J _ _ ⟨rfl,rfl⟩
   refine wpS_bind (wpS_get ?_)
   rw[Hf (by omega)]
   exact wpS_pure ⟨rfl,rfl⟩
  ·rintro c J ⟨rfl,rfl⟩
   exact wpS_pure (hq _ d1 d2 d4)
end
section
variable{prog:Program}{w:World}{A:Around}{E:Value→Shared→Prop}{s:Shared}
theorem wO{α β : Type}(f:α→Sem β)(g:α→β):∀ (l:List α),(∀ a∈l,∀ Q:β→Shared→Prop,Q (g a) s→wpAny (model prog w) A (f a) Q E s)→∀ Q:List β→Shared→Prop,Q (l.map g) s→wpAny (model prog w) A (l.mapM f) Q E s
 | [],_,Q,h=>by rw[List.mapM_nil]; exact Hc h
 | a::l,hf,Q,h=>by
  rw[List.mapM_cons];refine G8 (hf a zI _ ?_)
  refine G8 (wO f g l (fun b F=>hf b (zO _ F)) _ ?_)
  exact Hc h
theorem sf(v:Value):firstOfTuple' v=(do
  if (← typeOf v) != .type "tuple" then return none
  return (← Builtin.List.listItems v)[0]?):=rfl
theorem FO{O:List Addr}{κ : Addr→List Int}{Q:SortKind→Shared→Prop}(hT:∀ q∈O,IsTupleKey (intKind prog w) s.heap (κ q) q∧κ q≠[])(h:∀ b,Q (tuples' b) s):wpAny (model prog w) A (keyKind' (O.map Value.ref).toArray) Q E s:=by
 have F:∀ v∈O.map Value.ref,∃ n t,∀ Q:Option Value→Shared→Prop,Q (some (.int n t)) s→wpAny (model prog w) A (firstOfTuple' v) Q E s:=by
  intro v hv
  obtain⟨q,hq,rfl⟩:=Hk.mp hv
  obtain⟨hk,S⟩:=hT q hq
  have Z:=hk.typeIs;obtain⟨o,J,n,ho,hc,hd,hi⟩:=hk
  have:∃ n t,J[0]? = some (.int n t):=by
   rw[← mD]
   revert hi S
   generalize κ q=ks
   generalize J.toList=l
   intro S hi
   cases hi with
   | nil=>exact absurd rfl S
   | cons h1 _=>obtain⟨t,rfl⟩:=zav h1; exact⟨_,t,rfl⟩
  obtain⟨m,t,e⟩:=this
  refine⟨m,t,fun Q h=>?_⟩
  rw[sf];refine G8 (wpAny_typeOf Z ?_)
  simp only[bne_self_eq_false,wA,if_false]
  refine G8 (listItems_at ho hd ?_)
  rw[e];exact Hc h
 classical
 let g:Value→Option Value:=fun v=>if hv:v∈O.map Value.ref then some (.int (Classical.choose (F v hv)) (Classical.choose (zbb (F v hv)))) else none
 have hg:∀ v∈O.map Value.ref,∀ Q:Option Value→Shared→Prop,Q (g v) s→wpAny (model prog w) A (firstOfTuple' v) Q E s:=fun v hv Q h=>by
  refine zbb (zbb (F v hv)) Q ?_
  have:g v=some (.int (Classical.choose (F v hv)) (Classical.choose (zbb (F v hv)))):=dif_pos hv
  rw[← this]; exact h
 have U:∀ v∈O.map Value.ref,∃ n t,g v=some (.int n t):=fun v hv=>⟨_,_,dif_pos hv⟩
 generalize g=g at hg U;rw[keyKind'_eq,List.mapM_toArray];refine G8 ?_
 rw[map_eq_pure_bind];refine G8 (wO _ g _ hg _ (Hc ?_))
 have W:((O.map Value.ref).map g).toArray.all (·.isSome)=true:=by
  rw[List.all_toArray,zaM];intro x hx
  obtain⟨v,hv,rfl⟩:=Hk.mp hx
  obtain⟨n,t,e⟩:=U v hv
  rw[e]; rfl
 rw[Hf W];refine G8 (wpAny_rule ?_)
 rw[oneTypeOnly'_eq];have Y:((O.map Value.ref).map g).toArray.filterMap id=(((O.map Value.ref).map g).filterMap id).toArray:=by simp
 rw[Y,List.mapM_toArray];refine G8 ?_
 refine G8 ?_
 rw[map_eq_pure_bind];refine G8 (wO _ (fun _=>Value.type "int") _ (fun v hv Q h=>?_) _ (Hc ?_))
 ·obtain⟨x,hx,e⟩:=Hw.mp hv
  obtain⟨u,hu,rfl⟩:=Hk.mp hx
  obtain⟨n,t,e2⟩:=U u hu
  rw[e2]at e
  obtain rfl:=Option.some.inj e
  exact wpAny_typeOf (typeIs_int s n t) h
 ·split
  ·exact Hc (Hc (h _))
  ·exact Hc (Hc (h _))
noncomputable def dq(p:Keyed):Addr:=match p.2 with
 | .ref q=>q
 | _=>0
theorem jD{F:List Addr}{p:Keyed}(h:p∈(pairsOf (F.map Value.ref)).toList):dq p∈F∧p=(.ref (dq p),.ref (dq p)):=by
 rw[pairsOf_toList,List.zip_map,zaB]at h
 obtain⟨⟨a,b⟩,J,rfl⟩:=h
 have e:a=b:=by
  have:∀ (l:List Addr),(a,b)∈l.zip l→a=b:=by
   intro l
   induction l with
   | nil=>intro h; cases h
   | cons x l ih=>
    intro h
    rw[za1]at h
    rcases Hi.mp h with z | z
    ·injection z with z1 z2; rw[z1,z2]
    ·exact ih z
  exact this F J
 subst e;exact⟨(List.of_mem_zip J).1,rfl⟩
theorem ny(F:List Addr):(pairsOf (F.map Value.ref)).toList.map dq=F:=by
 rw[pairsOf_toList]
 induction F with
 | nil=>rfl
 | cons q F ih=>rw[zW,za1,zW,ih]; rfl
theorem Gc{S:List Addr}{κ : Addr→List Int}{xs:Array Keyed}(W:xs.Perm (pairsOf (S.map Value.ref)))(Z:fB (fun p=>κ (dq p)) xs (pairsOf (S.map Value.ref)).size) :
  ∃ qs':List Addr,qs'.Perm S∧qs'.Pairwise (fun x y=>cD (κ x) (κ y)=true)∧xs.map (·.2)=(qs'.map Value.ref).toArray:=by
 have hl:=Hv.mp W;refine⟨xs.toList.map dq,?_,?_,?_⟩
 ·have:=hl.map dq
  rw[ny]at this; exact this
 ·rw[Ht,List.pairwise_iff_getElem]
  intro i j hi Y U
  have O:i<xs.size:=by simpa using hi
  have F:j<xs.size:=by simpa using Y
  have:=Z i j U (by rw[← W.size_eq]; exact F)
  rw[ij (fun p=>κ (dq p)) (wt O),ij (fun p=>κ (dq p)) (wt F)]at this
  simpa using this
 ·apply Array.toList_inj.mp
  rw[Array.toList_map];show xs.toList.map (·.2)=(xs.toList.map dq).map Value.ref
  rw[yt];refine zba fun p J=>?_
  have:=(jD (hl.mem_iff.mp J)).2
  show p.2=Value.ref (dq p)
  exact congrArg Prod.snd this
theorem F_{a:Addr}{F:List Addr}{κ : Addr→List Int}{n:Nat}{P:Fin→Shared→Prop}(Z:s.heap.get? a=some (seqObj "list" (F.map Value.ref).toArray n)) (hT:∀ q∈F,IsTupleKey (intKind prog w) s.heap (κ q) q∧κ q≠[]) (ad:(F.map κ).Nodup) (a4:F.length<64)
  (h:∀ O:List Addr,O.Perm F→O.Pairwise (fun x y=>cD (κ x) (κ y)=true)→P (.done (.ret .none)) { s with heap:=sortedHeap s.heap a (F.map Value.ref) (O.map Value.ref).toArray }) :
  wpAny (model prog w) A (Builtin.«list.sort» ⟨[.ref a],[]⟩) P E s:=by
 rw[list_sort_plain];have ha:a<s.heap.objs.size:=zA Z
 refine G8 (listItems_at Z rfl (G8 (listUpdate_at Z rfl ?_)))
 have ab:=get?_update_seq Z (fun _=>#[])
 refine G8 (seqEpoch_at ab rfl (G8 (wpAny_newTuple (G8 (wpAny_newList (wpAny_holding ?_))))))
 have keep:∀ q o,q≠a→s.heap.get? q=some o→(((s.heap.update a (Obj.mapSeq fun _=>#[])).push (seqObj "tuple" (F.map Value.ref).toArray 0)).push (seqObj "list" #[] 0)).get? q=some o:=fun q o hq e=>
  zz _ (zz _ (by rw[zaJ _ _ (ve hq)]; exact e))
 have S:=zz (seqObj "list" #[] 0) (zz (seqObj "tuple" (F.map Value.ref).toArray 0) ab)
 have W:∀ q∈F,IsTupleKey (intKind prog w) (((s.heap.update a (Obj.mapSeq fun _=>#[])).push (seqObj "tuple" (F.map Value.ref).toArray 0)).push (seqObj "list" #[] 0)) (κ q) q∧κ q≠[]:=fun q hq=>by
  obtain⟨hk,ag⟩:=hT q hq
  refine⟨eP hk fun o e=>keep q o (fun z=>?_) e,ag⟩
  obtain⟨o1,_,_,g1,c1,_⟩:=hk
  rw[z,Z]at g1
  obtain rfl:=Option.some.inj g1
  have U:("list" : String) = "tuple" := by injection c1
  exact absurd U (by decide)
 show wpAny (model prog w) A _ P E { s with heap:=((s.heap.update a (Obj.mapSeq fun _=>#[])).push (seqObj "tuple" (F.map Value.ref).toArray 0)).push (seqObj "list" #[] 0) }
 have Y:∀ J:SortSt,(arrOf J).Perm (pairsOf (F.map Value.ref))→fB (fun p=>κ (dq p)) (arrOf J) (pairsOf (F.map Value.ref)).size→P (.done (.ret .none)) { s with heap:=sortedHeap s.heap a (F.map Value.ref) ((arrOf J).map (·.2)) }:=fun J hp hr=>by
  obtain⟨O,q1,q2,q3⟩:=Gc hp hr
  rw[q3]; exact h O q1 q2
 have an:(pairsOf (F.map Value.ref)).size=F.length:=by rw[pairsOf_size,ze]
 have as:sizeLine=16777216:=sizeLine_eq
 dsimp only
 by_cases U:(F.map Value.ref).toArray.size<2
 ·have c3:F.length<2:=by simpa using U
  rw[Hf U,Hf U];refine G8 (Hc ?_)
  rw[StateT.run_pure];refine G8 (Hc ?_)
  dsimp only
  refine G8 (seqEpoch_at S rfl (G8 (listUpdate_at S rfl ?_ (hsz2:=by rw[Array.size_map]; show (pairsOf (F.map Value.ref)).size≤_; omega))))
  simp only[bne_self_eq_false,wA,if_false]
  exact Hc (Y (SortSt.mk' general' (pairsOf (F.map Value.ref)) #[] 7 none) (Array.Perm.refl _) fun i j al hj=>by omega)
 ·have c3:¬ F.length<2:=by simpa using U
  rw[He U,He U];refine G8 (FO (s:={ s with heap:=((s.heap.update a (Obj.mapSeq fun _=>#[])).push (seqObj "tuple" (F.map Value.ref).toArray 0)).push (seqObj "list" #[] 0) }) W fun b=>?_)
  have hC:jn prog w { s with heap:=((s.heap.update a (Obj.mapSeq fun _=>#[])).push (seqObj "tuple" (F.map Value.ref).toArray 0)).push (seqObj "list" #[] 0) } (fun p=>κ (dq p)) (tuples' b) (pairsOf (F.map Value.ref)):=fun A E x y Q hx hy hq=>by
   obtain⟨x1,x2⟩:=jD hx
   obtain⟨y1,y2⟩:=jD hy
   have e1:x.1 = .ref (dq x):=congrArg Prod.fst x2
   have e2:y.1 = .ref (dq y):=congrArg Prod.fst y2
   rw[e1,e2];exact vD (W _ x1).1 (W _ y1).1 hq
  have hd:((pairsOf (F.map Value.ref)).toList.map fun p=>κ (dq p)).Nodup:=by
   have:((pairsOf (F.map Value.ref)).toList.map fun p=>κ (dq p))=((pairsOf (F.map Value.ref)).toList.map dq).map κ:=by rw[yt]; rfl
   rw[this,ny]; exact ad
  refine G8 (wpAny_mono (FQ (Q:=fun _ J=>(arrOf J).Perm (pairsOf (F.map Value.ref))∧failedOf J=none∧fB (fun p=>κ (dq p)) (arrOf J) (pairsOf (F.map Value.ref)).size) hC (st:=SortSt.mk' (tuples' b) ((F.map Value.ref).toArray.zip (F.map Value.ref).toArray) #[] 7 none) ⟨Array.Perm.refl _,rfl,rfl,rfl,hd⟩ (by omega) (by omega) fun J a1 a2 a3=>⟨a1,a2,a3⟩) ?_ fun _ _ e=>e)
  rintro⟨⟨⟩,J⟩ s' ⟨rfl,a1,a2,a3⟩
  dsimp only
  refine G8 (seqEpoch_at S rfl (G8 (listUpdate_at S rfl ?_ (hsz2:=by rw[Array.size_map,a1.size_eq]; omega))))
  rw[a2];simp only[bne_self_eq_false,wA,if_false]
  exact Hc (Y J a1 a3)
theorem u_{a:Addr}{o:Obj}{es:Array (Int × Value)}{ep:Nat}{t:SetTable}{J:List Addr}{κ : Addr→List Int}{Q:Value→Shared→Prop}(hh:A.handled=none)(ho:s.heap.get? a=some o)(hx:o.ExactSet)(hd:o.data = .set es ep t)(hf:t.fits es.size=true)(al:es.size<64)(hg:cx (bw w) t)
  (U:es.toList.map (·.2)=J.map Value.ref) (hT:∀ q∈J,IsTupleKey (intKind prog w) s.heap (κ q) q∧κ q≠[]) (Z:(J.map κ).Nodup)
  (hQ:∀ h' d' Y q c (F:List Addr),(∀ b o,s.heap.get? b=some o→h'.get? b=some o)→s.heap.objs.size≤q→h'.get? q=some (seqObj "list" (F.map Value.ref).toArray c)→F.Perm J→F.Pairwise (fun x y=>cD (κ x) (κ y)=true)→Q (.ref q) { s with heap:=h',drawn:=d',toks:=Y }) :
  wpAny (model prog w) A (call (.builtin "sorted") [.ref a]) Q E s:=by
 have an:J.length=es.size:=by have:=congrArg List.length U; simpa using this.symm
 refine Calls.call_function_entry kind_sorted plain_sorted entry_sorted (args_sorted1 _) ?_
 unfold Builtin.«sorted»
 refine G8 (m:=checkCount "sorted" 1 1 _) (Hc ?_)
 refine G8 (lr hh ho hx hd hf (by unfold scanBound; omega) hg fun h' d' Y acc hk ab hp=>?_)
 rw[U]at hp
 have W:∃ rs:List Addr,rs.Perm J∧acc=rs.map Value.ref:=by
  have hv:∀ v∈acc,∃ q,v=Value.ref q:=fun v hv=>by
   obtain⟨q,_,rfl⟩:=Hk.mp (hp.mem_iff.mp hv); exact⟨q,rfl⟩
  let f:Value→Addr:=fun v=>match v with | .ref q=>q | _=>0
  refine⟨acc.map f,?_,?_⟩
  ·have:=hp.map f
   rw[yt]at this
   have e:(J.map (f ∘ Value.ref))=J:=by rw[show (f ∘ Value.ref)=id from rfl,List.map_id]
   rw[e]at this; exact this
  ·rw[yt]
   have:acc.map (Value.ref ∘ f)=acc.map id:=zba fun v ad=>by obtain⟨q,rfl⟩:=hv v ad; rfl
   rw[this,List.map_id]
 obtain⟨rs,O,rfl⟩:=W
 have ag:rs.length=J.length:=O.length_eq
 refine G8 (wpAny_newList ?_ (by rw[ze,sizeLine_eq]; omega))
 have S:(h'.push (seqObj "list" (rs.map Value.ref).toArray 0)).get? h'.objs.size=some (seqObj "list" (rs.map Value.ref).toArray 0):=zV _ rfl
 show wpAny _ _ _ _ _ { s with heap:=h'.push (seqObj "list" (rs.map Value.ref).toArray 0),drawn:=d',toks:=Y }
 refine G8 (wpAny_holding (wpAny_call_entry slot_list_sort ⟨_,S,rfl⟩ entry_list_sort (F_ (κ:=κ) S (fun q hq=>?_) ((O.map κ).nodup_iff.mpr Z) (by omega) fun F b1 b2=>⟨_,rfl,?_⟩) (args_list_sort _)))
 ·obtain⟨k1,k2⟩:=hT q (O.mem_iff.mp hq)
  exact⟨eP k1 fun o e=>zz _ (hk q o e),k2⟩
 ·obtain⟨c,hc⟩:=sortedHeap_at (out:=(F.map Value.ref).toArray) S
  refine Hc ⟨_,rfl,hQ _ d' Y h'.objs.size c F (fun b o e=>?_) (wm ab) hc (b1.trans O) b2⟩
  have hb:=zA (hk b o e);rw[sortedHeap_old (zR hb) (by rw[vY]; exact lW hb)]
  exact zz _ (hk b o e)
end
noncomputable def jt(K:W.Frag)(SO:Addr→List Addr→HO):List V→Hp→VK→Prop:=fun xs H Q=>∃ (p:Addr) (qs:List Addr) (κ : Addr→List Int),xs=[.ref p]∧H p=some (SO p qs)∧qs.length≤60∧(∀ q∈qs,vr K H q ((κ q).map V.int)∧κ q≠[])∧(qs.map κ).Nodup∧
 ∀ (l:Addr) (qs':List Addr),H l=none→qs'.Perm qs→qs'.Pairwise (fun x y=>cD (κ x) (κ y)=true)→Q (.ref l) (upd H l (.lst (qs'.map V.ref)))
theorem n6:∀ (F:List Addr),yl (F.map V.ref) (F.map Value.ref)
 | []=>.nil
 | q::F=>.cons rfl (n6 F)
section
variable{X:Cx}
theorem oB{m:Nat}(hr:Dx m X.A){K:W.Frag}(hK:X.K=K):AL X (.builtin "sorted") (jt K (gf X.w)):=by
 subst hK;intro pins s σ H xs us Q I r h
 obtain⟨p,Z,κ,rfl,e,Y,hT,U,q⟩:=h
 obtain⟨u,rfl,ru⟩:=cT r
 cases ru;obtain⟨o,es,ep,t,ho,hx,hd,ab,hf,hg,O⟩:=(show Ax X.prog X.w H s.heap p (gf X.w p Z) from I.hok p _ e).1
 have hz:es.size=Z.length:=by have:=congrArg List.length O; simpa using this
 have hs:sizeLine=16777216:=sizeLine_eq
 refine u_ hr.hd ho hx hd hf (by omega) hg O (fun q S=>⟨I.tupK (hT q S).1,(hT q S).2⟩) U fun h' d' tk qa c F hk S hc a1 a2=>?_
 have hl:F.length≤60:=by rw[a1.length_eq]; exact Y
 have J:=I.laid (t':=tk) (a:=qa) (o:=.lst (F.map V.ref)) hk S (show Ax X.prog X.w _ h' _ (.lst (F.map V.ref)) from ⟨by rw[ze]; omega,F.map Value.ref,c,n6 F,by simpa using hc⟩)
 refine⟨.ref qa,_,?_,rfl,q _ F (I.hok.fresh S) a1 a2⟩
 exact⟨J.ok,J.os,J.bare,J.base,J.loc,J.cell,J.free,J.freeC,J.pin,J.hok,J.len⟩
theorem ig{m:Nat}(K:W.Frag)(w:World)(J:Dx m X.A)(F:X.K=K:=by rfl)(hw:X.w=w:=by rfl):AL X (.builtin "sorted") (jt K (gf w)):=hw ▸ oB J F
theorem sg:Fh X "list.reverse" pc:=wv
end
end L2
section
open PySem PySem.Spec PyProof.Rows L2
seal L2.PE L2.PT L2.PW L2.PA L2.PS L2.Fi L2.PG L2.GT L2.Fv L2.PI L2.FC L2.Ek L2.UnR L2.AL L2.Fq L2.Fh L2.Ey L2.PO L2.PPs
local macro_rules | `(tactic| walk_at "r")=>`(tactic| try simp only [sJ,kT,j_,qv,tS,tK,pE,sV,o0,ub,qW,tM,uD,sY,By,yx,xQ,qy,BC,uv,w_,ut,rK,rT,xG,yC,qH,uH,tN,sG,pO,xc,uz,qI,qA,og,j6,pP,rQ,yQ,qw,lu,rC,ug,qO,pY,sW,q9,pM,pS,uE,kM,yU,Bj,nI,m9,ja,nZ,nS,tI,pN,qM,lf,nE,ur,Bx,ul,tE,k8,q8,qx,oY,rG,j8,j9,nR,oj,qz,rV,qh,kO,o8,uq,uG,mW,nt,fk,ue,mS,qP,ra,pZ,qB,tu,uA,sQ,L2.start,List.map_cons,List.map_nil,List.length_cons,List.length_nil,List.replicate,List.cons_append,List.nil_append,List.append_nil,List.getElem?_cons_zero,List.getElem?_cons_succ,List.set_cons_zero,List.set_cons_succ,Nat.reduceAdd,Nat.reduceSub,Option.some.injEq,exists_eq_left',exists_eq_left,V.int.injEq,V.ref.injEq,V.str.injEq,V.bl.injEq,wV,uI,and_true,true_and,decide_eq_true_eq,Bool.not_true,Bool.not_false,if_true,Bool.false_eq_true,if_false,ite_true,ite_false])
local macro_rules | `(tactic| walk_at "n")=>`(tactic| ((first | rw [l7] | (dsimp only; rw [l7])); walk_at "r"))
local macro_rules | `(tactic| walk_at "lk")=>`(tactic| repeat (first | exact E6 | exact Ei | rw [BS (by decide +kernel)]))
local macro_rules | `(tactic| walk_at "pf")=>`(tactic| repeat (first | rw [putF_hit] | rw [zG] | rw [yA (by decide +kernel)]))
namespace K53
open PySem L2
abbrev cO:Stmt:=top 1
theorem EY:aE ["rule", "room", "text", "words"] ["rule", "room", "text"] (rd cO):=Es
abbrev Gs (s : Stmt) (n : Str) : Prop:=(rd s).names.lookup n=some .globalImplicit
theorem oIn {a b : Prop} (h : a) : a ∨ b:=.inl h
abbrev aMm(s:Stmt)(n:Str):Prop:=am (rd s) n
abbrev ic:Stmt:=top 3
theorem A1:aE ["slot", "held"] ["slot", "held"] (rd ic):=Es
abbrev fU:Stmt:=top 4
theorem wx:aE ["slot", "held"] ["slot", "held"] (rd fU):=Es
abbrev aQ:Stmt:=top 5
theorem AS:aE ["rule", "slot", "tokens", "new", "room", "begun", "token", "held"] ["rule", "slot", "tokens"] (rd aQ):=Es
abbrev aL:Stmt:=top 6
theorem EG:aE ["one", "other", "tokens", "unlike"] ["one", "other", "tokens"] (rd aL):=Es
theorem Mg:(rd aL).names.lookup ("unlike" : Str)=some .local:=by decide +kernel
abbrev bO:Stmt:=top 7
theorem DY:aE ["code", "rule", "at", "tokens", "row", "begun"] ["code", "rule", "at", "tokens"] (rd bO):=Es
abbrev dY:Stmt:=top 11
theorem ox:aE ["kind"] ["kind"] (rd dY):=Es
abbrev eU:Stmt:=top 12
theorem vp:aE ["step"] ["step"] (rd eU):=Es
abbrev dG:Stmt:=top 13
theorem qN:aE ["step"] ["step"] (rd dG):=Es
abbrev bJ:Stmt:=top 14
theorem Dt:aE ["program", "steps", "step", "block"] ["program"] (rd bJ):=Es
abbrev bV:Stmt:=top 15
theorem Eg:aE ["steps", "names", "step", "part", "kind"] ["steps"] (rd bV):=Es
theorem L_:Gs bV "zip":=by decide +kernel
abbrev bn:Stmt:=top 16
theorem DT:aE ["program", "lines", "step", "block", "closer"] ["program"] (rd bn):=Es
theorem Mi:Gs bn "zip":=by decide +kernel
abbrev d_:Stmt:=top 17
theorem sx:aE ["program"] ["program"] (rd d_):=Es
abbrev aR:Stmt:=inClass (top 19) 0
theorem gC:aE ["self", "head", "lines", "blocks"] ["self", "head", "lines", "blocks"] (rd aR):=Es
abbrev cV:Stmt:=top 20
theorem mn:aE ["steps", "line"] ["steps", "line"] (rd cV):=Es
abbrev aP:Stmt:=top 21
theorem C6:aE ["step", "line", "lines", "blocks", "block", "steps"] ["step", "line"] (rd aP):=Es
abbrev bF:Stmt:=top 22
theorem DB:aE ["steps", "line", "numbered", "step"] ["steps", "line"] (rd bF):=Es
abbrev bR:Stmt:=top 24
theorem oq:aE ["program"] ["program"] (rd bR):=Es
theorem K1:Gs bR "enumerate":=by decide +kernel
abbrev b_:Stmt:=top 25
theorem EB:aE ["program", "slots", "slot", "holder"] ["program"] (rd b_):=Es
theorem LN:Gs b_ "enumerate":=by decide +kernel
abbrev bL:Stmt:=top 26
theorem ET:aE ["step", "slots", "line"] ["step", "slots"] (rd bL):=Es
theorem Ji:aMm bL "slots" := Or.inr (Or.inl (by decide +kernel))
abbrev aS:Stmt:=top 27
theorem AU:aE ["step", "at", "slots", "turned", "line", "back", "giver", "taker", "lent", "ahead", "within"] ["step", "at", "slots", "turned"] (rd aS):=Es
abbrev bG:Stmt:=top 28
theorem Ee:aE ["step", "at", "slots", "turned", "more", "jump", "rest", "behind", "test"] ["step", "at", "slots", "turned"] (rd bG):=Es
abbrev bZ:Stmt:=top 29
theorem EF:aE ["step", "at", "slots", "within", "behind"] ["step", "at", "slots"] (rd bZ):=Es
abbrev bv:Stmt:=top 30
theorem Ef:aE ["step", "at", "slots", "turned", "first", "loop", "behind"] ["step", "at", "slots", "turned"] (rd bv):=Es
abbrev bP:Stmt:=top 31
theorem Em:aE ["steps", "at", "slots", "turned", "rows", "step", "place"] ["steps", "at", "slots", "turned"] (rd bP):=Es
abbrev bQ:Stmt:=top 32
theorem EJ:aE ["program", "turned", "steps"] ["program", "turned"] (rd bQ):=Es
abbrev fR:Stmt:=top 33
theorem wB:aE ["program"] ["program"] (rd fR):=Es
abbrev dB:Stmt:=top 34
theorem md:aE ["program"] ["program"] (rd dB):=Es
abbrev c_:Stmt:=top 36
theorem rF:aE ["_law_found"] ["_law_found"] (rd c_):=Es
abbrev cW:Stmt:=top 37
theorem lK:aE ["_law_script", "_law_k"] ["_law_script", "_law_k"] (rd cW):=Es
abbrev aO:Stmt:=top 38
theorem AB:aE ["_law_cell", "_law_many", "_law_letters", "_law_size", "_law_at", "_law_rest", "_law_base", "_law_k", "_law_words_here"] ["_law_cell", "_law_many"] (rd aO):=Es
theorem ID:aD (rd aO) "_law_letters" := Or.inr (by decide +kernel)
theorem IG:aD (rd aO) "_law_at" := Or.inr (by decide +kernel)
theorem HU:aMm aO "_law_base" := Or.inr (Or.inl (by decide +kernel))
theorem IV:aD (rd aO) "_law_base" := Or.inr (by decide +kernel)
theorem D8:aD (rd aO) "_law_k" := Or.inr (by decide +kernel)
theorem AW:Gs aO "range":=by decide +kernel
abbrev bN:Stmt:=top 39
theorem C7:aE ["_law_cell", "_law_names", "_law_words_here", "_law_x", "_law_y", "_law_word", "_law_bound", "_law_some"] ["_law_cell", "_law_names", "_law_words_here"] (rd bN):=Es
abbrev fW:Stmt:=top 40
theorem vM:aE ["_law_pile", "_law_step_here"] ["_law_pile", "_law_step_here"] (rd fW):=Es
abbrev b9:Stmt:=top 41
theorem DZ:aE ["_law_pile", "_law_head", "_law_first", "_law_second", "_law_side"] ["_law_pile"] (rd b9):=Es
abbrev aU:Stmt:=top 42
theorem DH:aE ["_law_cells", "_law_names", "_law_words_here", "_law_lends", "_law_deep", "_law_pile", "_law_cell", "_law_step_here"] ["_law_cells", "_law_names", "_law_words_here", "_law_lends", "_law_deep"] (rd aU):=Es
abbrev aM:Stmt:=top 43
theorem Aj:aE ["_law_cells", "_law_sides", "_law_words_here", "_law_most", "_law_texts", "_law_k", "_law_bits", "_law_many", "_law_share", "_law_rooms", "_law_rest", "_law_room", "_law_text", "_law_digit"] ["_law_cells", "_law_sides", "_law_words_here", "_law_most"] (rd aM):=Es
theorem Dc:Gs aM "range":=by decide +kernel
abbrev cH:Stmt:=top 44
theorem D3:aE ["_law_code_here", "_law_most", "_law_row"] ["_law_code_here"] (rd cH):=Es
abbrev fT:Stmt:=top 45
theorem uY:aE ["_law_held", "_law_slot"] ["_law_held", "_law_slot"] (rd fT):=Es
abbrev bU:Stmt:=top 46
theorem Ec:aE ["_law_row", "_law_held", "_law_rest"] ["_law_row", "_law_held"] (rd bU):=Es
abbrev ef:Stmt:=top 47
theorem sy:aE ["_law_rule_here", "_law_room", "_law_text"] ["_law_rule_here", "_law_room", "_law_text"] (rd ef):=Es
abbrev bm:Stmt:=top 48
theorem DV:aE ["_law_script", "_law_start", "_law_lends", "_law_deep", "_law_first", "_law_second", "_law_names", "_law_words_here", "_law_program_here"] ["_law_script", "_law_start", "_law_lends", "_law_deep"] (rd bm):=Es
abbrev bS:Stmt:=top 49
theorem De:aE ["_law_cell", "_law_slots_here", "_law_rest", "_law_one", "_law_other", "_law_slot"] ["_law_cell", "_law_slots_here"] (rd bS):=Es
theorem J2:Gs bS "range":=by decide +kernel
abbrev a_:Stmt:=top 50
theorem AZ:aE ["_law_cell", "_law_rule_here", "_law_slots_here", "_law_number", "_law_found", "_law_k", "_law_pair_here", "_law_room"] ["_law_cell", "_law_rule_here", "_law_slots_here"] (rd a_):=Es
theorem Kn:Gs a_ "range":=by decide +kernel
abbrev bH:Stmt:=top 51
theorem DN:aE ["_law_rule_here", "_law_row", "_law_tokens_here", "_law_found", "_law_room", "_law_token", "_law_old"] ["_law_rule_here", "_law_row", "_law_tokens_here"] (rd bH):=Es
abbrev aN:Stmt:=top 52
theorem D6:aE ["_law_code_here", "_law_rule_here", "_law_at", "_law_tokens_here", "_law_handed", "_law_due_here", "_law_found", "_law_token"] ["_law_code_here", "_law_rule_here", "_law_at", "_law_tokens_here"] (rd aN):=Es
abbrev aZ:Stmt:=top 53
theorem En:aE ["_law_script", "_law_second", "_law_words_here", "_law_cells", "_law_sides", "_law_rule_here", "_law_code_here", "_law_kept", "_law_slots_here", "_law_at", "_law_cell"] ["_law_script"] (rd aZ):=Es
theorem pH:aMm aZ "_law_script" := Or.inr (Or.inl (by decide +kernel))
theorem Ld:(rd aZ).names.lookup ("_law_cells" : Str)=some .local:=by decide +kernel
theorem EN:Gs aZ "range":=by decide +kernel
noncomputable def bf(k:Str):List Str:=if k = "lend" then ["back"] else if k = "if" then ["else", "fi"] else if k = "while" then ["done"] else []
noncomputable def jC:V→Str→Prop
 | .str y,x=>x=y
 | .int i,x=>i.natAbs.log2<1920∧x=Str.ofString (toString i)
 | _,_=>False
noncomputable def bX:List (List Str)→List Str→List Str
 | i::is,c::cs=>(i++[c])++bX is cs
 | _,_=>[]
structure Dz (LA:Addr→List Str→Prop) (H:Hp) (a:Addr) (kind:Str) (hs:List V) (ws:List Str) (bs:List Addr) (ins:List (List Str)):Prop where
 at':H a=some (.tup (.str kind::hs++bs.map V.ref))
 parts:Paired jC hs ws
 size:((kind::ws).map (·.length)).sum+(kind::ws).length≤10000
 bl:bs.length=(bf kind).length
 inn:Paired LA bs ins
def ly(LA:Addr→List Str→Prop)(H:Hp)(a:Addr)(ls:List Str):Prop:=∃ kind hs ws bs ins,Dz LA H a kind hs ws bs ins∧ls=Txt.join " " (kind::ws)::bX ins (bf kind)
noncomputable def D5:Nat→Hp→Addr→List Str→Prop
 | 0=>fun _ _ _=>False
 | d+1=>fun H p L=>∃ (as:List Addr) (Ls:List (List Str)),H p=some (.lst (as.map V.ref))∧Paired (ly (D5 d H) H) as Ls∧L=Ls.flatten
theorem D5.mono:∀ (d:Nat) {H H':Hp} {p:Addr} {L:List Str},D5 d H p L→rm H H'→D5 d H' p L
 | 0,_,_,_,_,h,_=>h.elim
 | d+1,H,H',p,L,⟨as,Ls,h1,h2,h3⟩,sm=>by
  refine⟨as,Ls,sm _ _ h1,Paired.imp' (fun a S z=>?_) h2,h3⟩
  obtain⟨kind,J,ws,bs,ins,F,O⟩:=z
  exact⟨kind,J,ws,bs,ins,⟨sm _ _ F.at',F.parts,F.size,F.bl,Paired.imp' (fun b i y=>D5.mono d y sm) F.inn⟩,O⟩
theorem b8{α β : Type}{R:α→β→Prop}:∀ {xs:List α} {ys:List β} {i:Nat} {x:α},Paired R xs ys→xs[i]? = some x→∃ y,ys[i]? = some y∧R x y
 | _,_,_,_,.nil,e=>by simp at e
 | _,_,0,_,.cons (b:=b) h _,e=>⟨b,rfl,by have:=Option.some.inj e; subst this; exact h⟩
 | _,_,i+1,_,.cons _ t,e=>by
  rw[G1]at e
  obtain⟨y,h1,h2⟩:=b8 t e
  exact⟨y,by rw[G1]; exact h1,h2⟩
theorem aI{α β : Type}{R:α→β→Prop}:∀ {xs:List α} {ys:List β},Paired R xs ys→xs.length=ys.length
 | _,_,.nil=>rfl
 | _,_,.cons _ t=>by rw[zx,zx,aI t]
theorem j7:∀ {ins:List (List Str)} {cs:List Str} {j:Nat} {i:List Str} {c:Str},ins[j]? = some i→cs[j]? = some c→bX (ins.take (j+1)) (cs.take (j+1))=bX (ins.take j) (cs.take j)++(i++[c])
 | [],_,_,_,_,h,_=>by simp at h
 | _::_,[],_,_,_,_,h=>by simp at h
 | a::ins,b::cs,0,i,c,h,h'=>by
  have J:a=i:=by simpa using h
  have F:b=c:=by simpa using h'
  subst J F;show (a++[b])++bX [] []=bX [] []++(a++[b])
  simp[bX]
 | a::ins,b::cs,j+1,i,c,h,h'=>by
  have ih:=j7 (ins:=ins) (cs:=cs) (j:=j) (i:=i) (c:=c) (by simpa using h) (by simpa using h')
  show (a++[b])++bX (ins.take (j+1)) (cs.take (j+1))=((a++[b])++bX (ins.take j) (cs.take j))++(i++[c])
  rw[ih,uV (a++[b])]
theorem lb:∀ {ins:List (List Str)} {cs:List Str} (j:Nat),(bX (ins.take j) (cs.take j)).length≤(bX ins cs).length
 | [],_,j=>by simp[bX]
 | _::_,[],j=>by cases j <;> simp[bX]
 | a::ins,b::cs,0=>by simp[bX]
 | a::ins,b::cs,j+1=>by
  have ih:=lb (ins:=ins) (cs:=cs) j;show ((a++[b])++bX (ins.take j) (cs.take j)).length≤((a++[b])++bX ins cs).length
  simp only[zr]; omega
theorem mK{α : Type}:∀ (F:List (List α)) (i:Nat),(F.take i).flatten.length≤F.flatten.length
 | [],i=>by simp
 | a::F,0=>by simp
 | a::F,i+1=>by
  have ih:=mK F i;rw[GS,List.flatten_cons,List.flatten_cons,zr,zr]; omega
theorem xk{α : Type}{F:List (List α)}{i:Nat}{l:List α}(h:F[i]? = some l):(F.take (i+1)).flatten=(F.take i).flatten++l:=by
 rw[pG,h,List.flatten_append]; simp
noncomputable def js(K:W.Frag):Sp:=fun vs H Q _=>∃ k:Str,vs=[.str k]∧∀ (p:Addr) (H':Hp),rm H H'→vr K H' p ((bf k).map V.str)→Q (.ref p) H'
noncomputable def jy(K:W.Frag):Sp:=fun vs H Q _=>∃ (a:Addr) (k:Str) (xs:List V),vs=[.ref a]∧vr K H a (.str k::xs)∧(bf k).length≤xs.length+1∧
 ∀ (p:Addr) (H':Hp),rm H H'→vr K H' p ((V.str k::xs).take (xs.length+1 - (bf k).length))→Q (.ref p) H'
noncomputable def gK(K:W.Frag):Sp:=fun vs H Q _=>∃ (a:Addr) (k:Str) (xs:List V),vs=[.ref a]∧vr K H a (.str k::xs)∧(bf k).length≤xs.length+1∧
 ∀ (p:Addr) (H':Hp),rm H H'→vr K H' p ((V.str k::xs).drop (xs.length+1 - (bf k).length))→Q (.ref p) H'
noncomputable def uh(d:Nat):Sp:=fun vs H Q _=>∃ (p:Addr) (L:List Str),vs=[.ref p]∧D5 d H p L∧L.length≤10000∧∀ (q:Addr) (H':Hp),rm H H'→H q=none→H' q=some (.lst (L.map V.str))→Q (.ref q) H'
section
variable{P:Program}{w:World}{K:W.Frag}{mg:Str→Option Value}{base:Heap}
theorem u9(D:Ab K mg "closers_of" dY) {d a0 a1 a2:Addr} (J:mg "CLOSERS" = some (.ref d)) (m:E8 w K d [("lend", .ref a0),("if", .ref a1),("while", .ref a2)])
  (S:∀ H:Hp,vr K H a0 [.str "back"]) (U:∀ H:Hp,vr K H a1 [.str "else", .str "fi"]) (O:∀ H:Hp,vr K H a2 [.str "done"]):aH P w K mg base 1 "closers_of" ["kind"] (js K):=by
 refine D.cal ox (fun _ _ _ _ _ _ W hl=>match W,hl with | [_],_=>rfl) (fun vs H Q E h=>by obtain⟨k,rfl,_⟩:=h; rfl) (fun f Z A outer s H vs Q E hr h=>?_)
 obtain⟨k,rfl,q⟩:=h
 refine⟨_,(aj (aJ (DG w K F.plainAttrs_dict F.slot_dict_get F.type_dict_get (B_ w K) (sU J) (aa (pv 0) (aa (aK ac) ac))))),?_⟩
 walk_at "r";refine⟨⟨d,_,rfl,m⟩,by decide,fun p Y=>?_⟩
 refine⟨d,_,k,.ref p,rfl,rfl,m,?_⟩
 have sm:=ah Y (.tup []);unfold bf at q
 by_cases h0:k = "lend"
 ·subst h0; exact q _ _ sm (S _)
 rw[He h0]at q
 by_cases h1:k = "if"
 ·subst h1; exact q _ _ sm (U _)
 rw[He h1]at q
 by_cases h2:k = "while"
 ·subst h2; exact q _ _ sm (O _)
 rw[He h2]at q
 have e:cf [(("lend" : Str),V.ref a0),("if", .ref a1),("while", .ref a2)] k=none:=by simp[cf,ve h0,ve h1,ve h2]
 rw[e];exact q _ _ sm (vr.of af)
theorem Cu(D:Ab K mg "head_of" eU) (J:mg "len" = none) (F:aH P w K mg base 1 "closers_of" ["kind"] (js K)):aH P w K mg base 2 "head_of" ["step"] (jy K):=by
 refine D.cal vp (fun _ _ _ _ _ _ Y hl=>match Y,hl with | [_],_=>rfl) (fun vs H Q E h=>by obtain⟨a,k,xs,rfl,_⟩:=h; rfl) (fun f ab A outer s H vs Q E W h=>?_)
 obtain⟨a,k,xs,rfl,S,hl,q⟩:=h
 refine⟨_,(aj (aJ (dW (h_ K) (pv 0) fC (er (ak ji (bi (aV K) J bK (aa (pv 0) ac)) (bi (aV K) J bK (aa (ay F W (aa (ao (aw K) (pv 0) ae (fun _ _=>rfl)) ac)) ac))))))),?_⟩
 walk_at "r";refine⟨_,.inr S,?_⟩
 refine⟨_,_,.inr S,ir,?_⟩
 refine⟨k,rfl,fun p H1 O Z=>?_⟩
 walk_at "r";refine⟨_,.inr Z,?_⟩
 walk_at "r"
 have e:((xs.length+1:Nat):Int) - ((((bf k).map V.str).length:Nat):Int)=((xs.length+1 - (bf k).length:Nat):Int):=by
  rw[ze]; omega
 rw[e];refine iB (S.same O) fun p2 H2 U h2=>q p2 H2 (O.trans U) ?_
 rw[BW]at h2
 exact h2
theorem wZ(D:Ab K mg "blocks_of" dG) (J:mg "len" = none) (F:aH P w K mg base 2 "head_of" ["step"] (jy K)):aH P w K mg base 3 "blocks_of" ["step"] (gK K):=by
 refine D.cal qN (fun _ _ _ _ _ _ Y hl=>match Y,hl with | [_],_=>rfl) (fun vs H Q E h=>by obtain⟨a,k,xs,rfl,_⟩:=h; rfl) (fun f ab A outer s H vs Q E W h=>?_)
 obtain⟨a,k,xs,rfl,U,hl,q⟩:=h
 refine⟨_,(aj (aJ (dW (h_ K) (pv 0) (er (bi (aV K) J bK (aa (ay F W (aa (pv 0) ac)) ac))) fC))),?_⟩
 walk_at "r";refine⟨a,k,xs,rfl,U,hl,fun p H1 O Z=>?_⟩
 walk_at "r";refine⟨_,.inr Z,?_⟩
 have e:(((V.str k::xs).take (xs.length+1 - (bf k).length)).length:Int)=((xs.length+1 - (bf k).length:Nat):Int):=by
  rw[vW,zx]; omega
 rw[e];refine iB (U.same O) fun p2 H2 S h2=>q p2 H2 (O.trans S) ?_
 rw[ju]at h2
 exact h2
theorem pz(D:Ab K mg "lines_of" bn) (a6:mg "str" = none) (al:mg "zip" = none) (J:aH P w K mg base 1 "closers_of" ["kind"] (js K)) (S:aH P w K mg base 2 "head_of" ["step"] (jy K)) (O:aH P w K mg base 3 "blocks_of" ["step"] (gK K)) :
  ∀ d:Nat,aH P w K mg base (d+4) "lines_of" ["program"] (uh d)
 | 0=>D.cal (k:=3) DT (fun _ _ _ _ _ _ us hl=>by obtain⟨_,rfl⟩:=zu1 us hl;rfl) (fun vs H Q E h=>by obtain⟨p,L,rfl,_⟩:=h; rfl) (fun f dV A outer s H vs Q E hr h=>by obtain⟨p,L,rfl,z,_⟩:=h; exact z.elim)
 | d+1=>by
  have U:=pz D a6 al J S O d;refine D.cal (k:=d+4) DT (fun _ _ _ _ _ _ us hl=>by obtain⟨_,rfl⟩:=zu1 us hl;rfl) (fun vs H Q E h=>by obtain⟨p,L,rfl,_⟩:=h; rfl) (fun f dV A outer s H vs Q E hr h=>?_)
  obtain⟨p,L,rfl,⟨as,Ls,h1,h2,rfl⟩,hL,q⟩:=h
  have d6:=aI h2
  refine⟨_,(ai (ar 1 DT.nd (aY ac))
   (ai (b6 wG rfl (ci K (pv 0)) (ba 2 DT.nd) (ai (bc (bA K qL vQ vT bo (pv 1) (aa (bA K zbj F.slot_str_join F.type_str_join (rH K) ax (aa (fI (El.to (fsc:=(rd bn)) (N:=["program", "lines", "step", "block", "closer"]) (N0:=["program", "lines", "step", "block", "closer"]) (T:=["part"]) ⟨by decide +kernel,by decide +kernel,by decide +kernel,by decide +kernel,by decide +kernel,by decide +kernel,by decide +kernel⟩ rfl rfl) rfl (ia K (ay S hr (aa (pv 2) ac) (hle:=by omega))) (fun _ _ _ _=>(ba 5 (show (["program", "lines", "step", "block", "closer", "part"]:List Str).Nodup from by decide +kernel) (hx:=(hJ (rd bn) (by decide +kernel))) (hf:=jW (rd bn) (by decide +kernel)))) (df (show (["program", "lines", "step", "block", "closer"]:List Str).length≤5 from by decide)) (fun _ _ _ _=>gE) (fun _ _ _ _=>(cM yg a6 D4 (aa (pv 5 (hv:=(cQ (rd bn) (by decide +kernel)))) ac) (hg:=(n5 (rd bn) (by decide +kernel)))))) ac)) ac)))
   (aj (b6 wG rfl (tw K Mi al (aa (ay O hr (aa (pv 2) ac) (hle:=by omega)) (aa (ay J hr (aa (ao (aw K) (pv 2) ae (fun _ _=>rfl)) ac) (hle:=by omega)) ac))) (jP K (n:=2) (cL (ba 3 DT.nd) (cL (ba 4 DT.nd) ib))) (ai (bc (bA K qL zaS zaT fg (pv 1) (aa (ay U hr (aa (pv 3) ac) (hle:=by omega)) ac)))
   (aj (bc (bA K qL vQ vT bo (pv 1) (aa (pv 4) ac)))))))))
   (aj (aJ (pv 1))))),?_⟩
  walk_at "r";refine⟨by decide,fun Z an=>?_⟩
  generalize hH1:upd H Z _=H1
  have cd:=gm hH1 an;have e1:=jM hH1;walk_at "n";refine⟨⟨_,ud.of (cd _ _ h1)⟩,?_⟩
  refine cw (xs:=as.map V.ref) (fun i σ H'=>∃ o2 o3 o4:Option V,σ=[some (.ref p),some (.ref Z),o2,o3,o4]∧rm H H'∧H' Z=some (.lst ((Ls.take i).flatten.map V.str)))
   ⟨none,none,none,rfl,cd,e1⟩ (fun i σ H' _ h=>by obtain⟨_,_,_,_,sm,_⟩:=h; exact ud.of (sm _ _ h1)) ?_ ?_
  ·rintro i v σ H' hv ⟨o2,o3,o4,rfl,sm,hl⟩
   have hi:i<as.length:=by have:=(Hd.mp hv).1; simpa using this
   rw[zy,zg hi]at hv
   cases hv;obtain⟨ls,du,kind,W,ws,bs,ins,st,rfl⟩:=b8 h2 (zg hi)
   have ag:=xk du;have ca:=mK Ls (i+1);rw[ag]at ca ⊢
   generalize (Ls.take i).flatten=pre at hl ca ag ⊢;rw[zr,zx]at ca
   have d5:vr K H' as[i] (.str kind::(W++bs.map V.ref)):=vr.of (sm _ _ st.at')
   have c0:(bf kind).length≤(W++bs.map V.ref).length+1:=by rw[zr,ze,st.bl]; omega
   have bt:(W++bs.map V.ref).length+1 - (bf kind).length=W.length+1:=by rw[zr,ze,st.bl]; omega
   have d2:=aI st.parts;have hsz:=st.size;walk_at "r";refine⟨⟨_,ud.of hl⟩,as[i],kind,W++bs.map V.ref,rfl,d5,c0,fun hp H2 dl a7=>?_⟩
   rw[bt]at a7
   have dt:(V.str kind::(W++bs.map V.ref)).take (W.length+1)=V.str kind::W:=by rw[GS,List.take_left']; rfl
   rw[dt]at a7
   walk_at "r";refine⟨⟨_,a7⟩,fun C hC=>?_⟩
   refine mV (xs:=V.str kind::W) (fun j ys H3=>rm H2 H3∧H3 C=some (.lst ys)∧ys=((kind::ws).take j).map V.str) ⟨ah hC _,af,rfl⟩ (fun j ys H3 _ h=>a7.same h.1) ?_ ?_
   ·rintro j ys H3 x hx hj ⟨cb,b4,rfl⟩
    obtain⟨y,hy,a3⟩:=b8 (R:=jC) (.cons (show jC (.str kind) kind from rfl) st.parts) hx
    have d1:j<(kind::ws).length:=(Hd.mp hy).1
    have c4:gi (V.str kind::W).length j (fun j ys H3=>rm H2 H3∧H3 C=some (.lst ys)∧ys=((kind::ws).take j).map V.str) C (((kind::ws).take j).map V.str) (.str y) H3:=by
     refine kY hj (by rw[ze,vW]; omega) (aX (by simp only[zx]at hsz d1 ⊢; omega)) b4 ⟨cb.upd hC _,af,?_⟩
     rw[pG,hy,zP]; rfl
    match x,a3 with
    | .str z,a3=>
     have e:y=z:=a3
     subst e;walk_at "r";exact c4
    | .int z,a3=>
     obtain⟨g1,rfl⟩:=a3
     walk_at "r";exact⟨g1,c4⟩
   rintro ys H3 ⟨cb,b4,rfl⟩
   have c2:H3 C=some (.lst ((kind::ws).map V.str)):=by
    rw[b4,zx,d2,mJ (by simp)]
   have c5:=dl.trans cb;have dn:(Str.ofString " ").length=1:=by decide
   walk_at "r";refine⟨kind::ws,ud.of c2,by rw[dn]; omega,?_⟩
   refine⟨_,c5 _ _ hl,by rw[ze]; exact b5 (by omega),?_⟩
   generalize hH4:upd H3 Z _=H4
   have cB:rm H H4:=fun b o e=>by
    have nb:b≠Z:=fun z=>by subst z; rw[an]at e; cases e
    rw[← hH4,au nb]; exact c5 _ _ (sm _ _ e)
   have e4:H4 Z=some (.lst ((pre++[Txt.join " " (kind::ws)]).map V.str)):=by rw[← hH4,af,zP]; rfl
   have b2:vr K H4 as[i] (.str kind::(W++bs.map V.ref)):=vr.of (cB _ _ st.at')
   walk_at "n";refine⟨as[i],kind,W++bs.map V.ref,rfl,b2,c0,fun bp H5 cl be=>?_⟩
   rw[bt]at be
   have da:(V.str kind::(W++bs.map V.ref)).drop (W.length+1)=bs.map V.ref:=by rw[List.drop_succ_cons,List.drop_left']; rfl
   rw[da]at be
   walk_at "r";refine⟨_,_,.inr (b2.same cl),ir,kind,rfl,fun cp H6 b3 cA=>?_⟩
   walk_at "r";refine⟨⟨_,be.same b3⟩,⟨_,cA⟩,?_⟩
   have b1:=cl.trans b3;have d8:=aI st.inn;have dc:=st.bl
   refine nH (xs:=bs.map V.ref) (ys:=(bf kind).map V.str) (fun j σ H'=>∃ o3 o4:Option V,σ=[some (.ref p),some (.ref Z),some (.ref as[i]),o3,o4]∧rm H H'∧vr K H' bp (bs.map V.ref)∧vr K H' cp ((bf kind).map V.str)∧
     H' Z=some (.lst ((pre++([Txt.join " " (kind::ws)]++bX (ins.take j) ((bf kind).take j))).map V.str)))
    (by rw[ze,ze]; exact dc) ⟨o3,o4,rfl,cB.trans b1,be.same b3,cA,by rw[b1 _ _ e4]; simp[bX]⟩ (fun j σ H' _ h=>by obtain⟨_,_,_,_,z1,z2,_⟩:=h; exact⟨z1,z2⟩) ?_ ?_
   ·rintro j x y t σ H7 hx hy ⟨o3,o4,rfl,bg,dm,dP,a8⟩ ht
    have hj:j<bs.length:=by have:=(Hd.mp hx).1; simpa using this
    have c1:j<(bf kind).length:=by omega
    rw[zy,zg hj]at hx
    cases hx;rw[zy,zg c1]at hy
    cases hy;obtain⟨il,cv,d3⟩:=b8 st.inn (zg hj)
    have cc:=j7 cv (zg c1);have a5:=lb (ins:=ins) (cs:=bf kind) (j+1);rw[cc]at a5 ⊢
    rw[zr,zr]at a5
    generalize bX (ins.take j) ((bf kind).take j)=Y at a8 cc a5 ⊢;have ab:=ah ht (.tup [V.ref bs[j],.str (bf kind)[j]]);have c3:upd H7 t (.tup [V.ref bs[j],.str (bf kind)[j]]) t=some (.tup [V.ref bs[j],.str (bf kind)[j]]):=af
    generalize upd H7 t (.tup [V.ref bs[j],.str (bf kind)[j]])=H8 at ab c3 ⊢;have a9:=ab _ _ a8;walk_at "r";refine⟨t,_,rfl,vr.of c3,rfl,?_⟩
    walk_at "r";refine⟨⟨_,ud.of a9⟩,bs[j],il,rfl,D5.mono d d3 (bg.trans ab),by omega,fun r H9 ad d9 d4=>?_⟩
    walk_at "r";refine⟨_,_,ad _ _ a9,d4,aX (by simp only[ze,zr,zx,qR]; omega),?_⟩
    have c9:=((dm.same ab).same ad).updL (ad _ _ a9) (o:=.lst ((pre++([Txt.join " " (kind::ws)]++Y)).map V.str++il.map V.str));have cq:=((dP.same ab).same ad).updL (ad _ _ a9) (o:=.lst ((pre++([Txt.join " " (kind::ws)]++Y)).map V.str++il.map V.str));have b0:rm H (upd H9 Z (.lst ((pre++([Txt.join " " (kind::ws)]++Y)).map V.str++il.map V.str))):=((bg.trans ab).trans ad).upd an _
    have a4:upd H9 Z (.lst ((pre++([Txt.join " " (kind::ws)]++Y)).map V.str++il.map V.str)) Z=some (.lst ((pre++([Txt.join " " (kind::ws)]++Y)).map V.str++il.map V.str)):=af
    generalize upd H9 Z (.lst ((pre++([Txt.join " " (kind::ws)]++Y)).map V.str++il.map V.str))=d7 at c9 cq b0 a4 ⊢;walk_at "n";refine⟨⟨_,ud.of a4⟩,_,a4,b5 (by simp only[ze,zr,zx,qR]; omega),?_⟩
    refine⟨_,_,rfl,b0.upd an _,c9.updL a4,cq.updL a4,?_⟩
    rw[af];simp only[zP,zW,rW,uV,pT,List.nil_append]
   ·rintro σ H7 ⟨o3,o4,rfl,bg,_,_,a8⟩
    refine⟨_,_,_,rfl,bg,?_⟩
    rw[a8,ze,mJ (by omega),mJ (by omega)]; rfl
  ·rintro σ H' ⟨o2,o3,o4,rfl,sm,hl⟩
   walk_at "n";rw[ze,mJ (by omega)]at hl
   exact q Z H' sm an hl
end
abbrev EC:Str := "abcdefghijklmnopqrstuvwxyz"
noncomputable def oP(K:W.Frag):Sp:=fun vs H Q _=>∃ (a:Addr) (ns:List Int),vs=[.ref a]∧ud K H a (ns.map V.int)∧ns.length≤63∧∀ H',Q (.bl true) H'
noncomputable def oU(K:W.Frag):Sp:=fun vs H Q _=>∃ (a:Addr) (ns:List Int) (k:Int),vs=[.ref a,.int k]∧ud K H a (ns.map V.int)∧0≤k∧Q (.int (ns.getD k.toNat 0)) H
theorem pK:∀ (cs:List Nat) (acc:Array Nat),((cs.map fun c=>(⟨#[c]⟩ : Str)).foldl (fun acc p=>acc++(Str.ofString "").cps++p.cps) acc).toList=acc.toList++cs
 | [],acc=>by simp
 | c::cs,acc=>by
  rw[zW,List.foldl_cons,pK cs];have e:(Str.ofString "").cps = #[]:=by decide +kernel
  rw[e]; simp
theorem qp(cs:List Nat):(Txt.join "" (cs.map fun c=>(⟨#[c]⟩ : Str))).cps.toList=cs:=by
 cases cs with
 | nil=>rfl
 | cons c cs=>
  show (((c::cs).map fun c=>(⟨#[c]⟩ : Str)).drop 1 |>.foldl (fun acc p=>acc++(Str.ofString "").cps++p.cps) (((c::cs).map fun c=>(⟨#[c]⟩ : Str)).headD Str.empty).cps).toList=c::cs
  rw[zW,List.drop_one,List.tail_cons,pK]; rfl
theorem zt(cs:List Nat):(Txt.join "" (cs.map fun c=>(⟨#[c]⟩ : Str))).length=cs.length:=by
 have e:=congrArg List.length (qp cs)
 simpa [Str.length] using e
theorem iM(b:Nat):∀ (F:List Str),(∀ s∈F,s.length≤b)→(F.map (·.length)).sum≤F.length * b
 | [],_=>by simp
 | s::F,h=>by
  have h1:=iM b F fun x hx=>h x (zO _ hx)
  have h2:=h s zI;rw[zW,lX,zx,Nat.succ_mul];omega
theorem xA(z:Int):∃ c,EC.length≤sizeLine∧cJ EC.cps.toList (z % 26)=some c∧c∈EC.cps.toList:=by
 have hz:(z % 26).toNat<EC.cps.toList.length:=by
  show (z % 26).toNat<26
  omega
 refine⟨EC.cps.toList[(z % 26).toNat],by decide,?_,v5 hz⟩
 have q:=av (zg hz)
 rwa [show (((z % 26).toNat:Nat):Int)=z % 26 by omega]at q
section
variable{P:Program}{w:World}{K:W.Frag}{mg:Str→Option Value}{base:Heap}
theorem B2(D:Ab K mg "_law_cell_at" cW) (F:mg "len" = none):aH P w K mg base 1 "_law_cell_at" ["_law_script", "_law_k"] (oU K):=by
 refine D.cal lK (fun _ _ _ _ _ _ S hl=>match S,hl with | [_,_],_=>rfl) (fun vs H Q E h=>by obtain⟨a,ns,k,rfl,_⟩:=h; rfl) (fun f U A outer s H vs Q E W h=>?_)
 obtain⟨a,ns,k,rfl,J,O,q⟩:=h
 refine⟨_,(ai (bC (aB EL (pv 1) (bi (aV K) F bK (aa (pv 0) ac)) (aF _)) (aj (aJ (ao (aw K) (pv 0) (pv 1) (fun _ _=>rfl)))) bz)
   (aj (aJ ae))),?_⟩
 try simp only[l7,sJ,kT,j_,qv,tS,tK,pE,sV,o0,ub,qW,tM,uD,sY,By,yx,xQ,qy,BC,uv,w_,ut,rK,rT,xG,yC,qH,uH,tN,sG,pO,xc,uz,qI,qA,og,j6,pP,rQ,yQ,qw,lu,rC,ug,qO,pY,sW,q9,pM,pS,uE,kM,yU,Bj,nI,m9,ja,nZ,nS,tI,pN,qM,lf,nE,ur,Bx,ul,tE,k8,q8,qx,oY,rG,j8,j9,nR,oj,qz,rV,qh,kO,o8,uq,uG,mW,nt,fk,ue,mS,qP,ra,pZ,qB,tu,uA,sQ,L2.start,zW,rW,zx,qR,List.replicate,pT,List.nil_append,gY,List.getElem?_cons_zero,G1,List.set_cons_zero,List.set_cons_succ,Nat.reduceAdd,Nat.reduceSub,Option.some.injEq,exists_eq_left',exists_eq_left,V.int.injEq,V.ref.injEq,V.str.injEq,V.bl.injEq,wV,uI,and_true,true_and,decide_eq_true_eq,u0,Bool.not_false,if_true,wA,if_false,ite_true,ite_false]
 refine⟨_,.inl J,bd (fun c=>?_) (fun c=>?_)⟩
 ·rw[ze]at c
  refine⟨_,.int (ns.getD k.toNat 0),.inl J,je O ?_,q⟩
  rw[vE,zg (by omega)]; rfl
 ·rw[ze]at c
  have e:ns.getD k.toNat 0=0:=by
   rw[vE,G7 (by omega)]; rfl
  rw[e]at q; exact q
end
noncomputable def cN:List Str:=["open", "copy", "drop", "tie", "do"]
structure gD (ws:List Str):Prop where
 two:2≤ws.length
 three:ws.length≤3
 kind:ws.headD "" ∈ cN
 len:∀ x∈ws,x.length≤20
def Gj(H:Hp)(a:Addr)(ws:List Str):Prop:=H a=some (.tup (ws.map V.str))∧gD ws
noncomputable def iC{α : Type}(xs:List α)(lo hi:Option Int):List α:=(xs.drop (HT.sIx xs.length 0 lo)).take (HT.sIx xs.length xs.length hi - HT.sIx xs.length 0 lo)
theorem Co{α : Type}(f:α→V)(xs:List α)(lo hi:Option Int):de (xs.map f) lo hi=(iC xs lo hi).map f:=by
 unfold de iC;rw[ze,List.map_take,List.map_drop]
theorem yn(x:List Str):∀ v∈x.map V.str,bM v=true:=by
 intro v hv
 obtain⟨o,_,rfl⟩:=Hk.mp hv
 rfl
theorem wo{H:Hp}{a:Addr}{ws:List Str}{S:Addr→List Str→Prop}(h:Gj H a ws):ly S H a [Txt.join " " ws]:=by
 obtain⟨h1,two,three,kd,len⟩:=h
 cases ws with
 | nil=>simp at two
 | cons k ws=>
  have F:k∈cN:=kd
  have J:bf k=[]:=by
   simp only[cN,zK,ma,or_false]at F
   rcases F with rfl | rfl | rfl | rfl | rfl <;> decide
  have O:∀ ws:List Str,Paired jC (ws.map V.str) ws:=fun ws=>by
   induction ws with
   | nil=>exact .nil
   | cons x ws ih=>exact .cons (show jC (.str x) x from rfl) ih
  refine⟨k,ws.map V.str,ws,[],[],⟨by rw[rW,gY]; exact h1,O ws,?_,by rw[J]; rfl,.nil⟩,by rw[J]; rfl⟩
  have:=iM 20 (k::ws) len
  simp only[zx]at this two three ⊢
  omega
theorem fO{α β : Type}{R:α→β→Prop}{x:α}{y:β}(F:R x y):∀ {xs:List α} {ys:List β},Paired R xs ys→Paired R (xs++[x]) (ys++[y])
 | _,_,.nil=>.cons F .nil
 | _,_,.cons h t=>.cons h (fO F t)
set_option genSizeOf false in
inductive ap where
 | plain (ws:List Str)
 | lend (x y:Str) (b:List ap)
 | ite (n:Int) (b c:List ap)
 | whl (n:Int) (b:List ap)
noncomputable def jw(n:Int):Str:=Str.ofString (toString n)
noncomputable def c6(f:List ap→List Str):ap→List Str
 | .plain ws=>[Txt.join " " ws]
 | .lend x y b=>Txt.join " " ["lend", x,y]::(f b++[("back" : Str)])
 | .ite n b c=>Txt.join " " ["if", jw n]::(f b++[("else" : Str)]++(f c++[("fi" : Str)]))
 | .whl n b=>Txt.join " " ["while", jw n]::(f b++[("done" : Str)])
noncomputable def dI:Nat→List ap→List Str
 | 0,_=>[]
 | d+1,T=>T.flatMap (c6 (dI d))
noncomputable def k7(f:List ap→Prop):ap→Prop
 | .plain ws=>gD ws
 | .lend x y b=>x.length≤20∧y.length≤20∧f b
 | .ite n b c=>n.natAbs.log2<1920∧f b∧f c
 | .whl n b=>n.natAbs.log2<1920∧f b
noncomputable def dk:Nat→List ap→Prop
 | 0,_=>False
 | d+1,T=>∀ s∈T,k7 (dk d) s
noncomputable def DJ(PA:Addr→List ap→Prop)(H:Hp)(a:Addr):ap→Prop
 | .plain ws=>H a=some (.tup (ws.map V.str))
 | .lend x y b=>∃ q,H a=some (.tup [.str "lend", .str x,.str y,.ref q])∧PA q b
 | .ite n b c=>∃ q r,H a=some (.tup [.str "if", .int n,.ref q,.ref r])∧PA q b∧PA r c
 | .whl n b=>∃ q,H a=some (.tup [.str "while", .int n,.ref q])∧PA q b
noncomputable def AM(S:Addr→Prop):Nat→Hp→Addr→List ap→Prop
 | 0=>fun _ _ _=>False
 | d+1=>fun H p T=>S p∧∃ as:List Addr,H p=some (.lst (as.map V.ref))∧Paired (DJ (AM S d H) H) as T
theorem DJ.imp{PA F:Addr→List ap→Prop}{H H':Hp}{a:Addr}(O:∀ b xs,H b=some (.tup xs)→H' b=some (.tup xs))(J:∀ q b,PA q b→F q b):∀ {s:ap},DJ PA H a s→DJ F H' a s
 | .plain _,h=>O _ _ h
 | .lend _ _ _,⟨q,h,z⟩=>⟨q,O _ _ h,J _ _ z⟩
 | .ite _ _ _,⟨q,r,h,z,y⟩=>⟨q,r,O _ _ h,J _ _ z,J _ _ y⟩
 | .whl _ _,⟨q,h,z⟩=>⟨q,O _ _ h,J _ _ z⟩
theorem AM.imp{S S':Addr→Prop}{H H':Hp}(J:∀ b xs,H b=some (.tup xs)→H' b=some (.tup xs))(hl:∀ b xs,S b→H b=some (.lst xs)→H' b=some (.lst xs))(F:∀ b,S b→S' b) :
  ∀ (d:Nat) {p:Addr} {T:List ap},AM S d H p T→AM S' d H' p T
 | 0,_,_,h=>h.elim
 | d+1,p,T,⟨h0,as,h1,h2⟩=>⟨F _ h0,as,hl _ _ h0 h1,Paired.imp' (fun a s z=>z.imp J fun q b y=>AM.imp J hl F d y) h2⟩
theorem AM.mono{S:Addr→Prop}{H H':Hp}{d:Nat}{p:Addr}{T:List ap}(h:AM S d H p T)(sm:rm H H'):AM S d H' p T:=h.imp (fun b xs e=>sm _ _ e) (fun b xs _ e=>sm _ _ e) (fun _ z=>z) d
theorem sR{n:Int}(h:n.natAbs.log2<1920):(jw n).length≤1921:=by
 have e:=int_text_length_le (k:=1920) (by decide) h
 unfold jw;rw[PySem.ofString_length]; exact e
theorem wn{PA:Addr→List ap→Prop}{J:Addr→List Str→Prop}{H:Hp}{a:Addr}{f:List ap→List Str}{g:List ap→Prop}(F:∀ q b,PA q b→g b→J q (f b)):∀ {s:ap},DJ PA H a s→k7 g s→ly J H a (c6 f s)
 | .plain ws,h,ok=>wo ⟨h,ok⟩
 | .lend x y b,⟨q,h,z⟩,⟨o1,o2,o3⟩=>by
  refine⟨"lend", [.str x,.str y],[x,y],[q],[f b],⟨h,.cons rfl (.cons rfl .nil),?_,by show 1=(bf "lend").length; decide,.cons (F _ _ z o3) .nil⟩,by show _=_::bX [f b] ["back"]; simp[c6,bX]⟩
  have:(Str.ofString "lend").length=4:=by decide
  simp only[zW,rW,lX,List.sum_nil,zx,qR,this]; omega
 | .ite n b c,⟨q,r,h,z,y⟩,⟨o1,o2,o3⟩=>by
  refine⟨"if", [.int n],[jw n],[q,r],[f b,f c],⟨h,.cons ⟨o1,rfl⟩ .nil,?_,by show 2=(bf "if").length; decide,.cons (F _ _ z o2) (.cons (F _ _ y o3) .nil)⟩,?_⟩
  ·have:(Str.ofString "if").length=2:=by decide
   have:=sR o1
   simp only[zW,rW,lX,List.sum_nil,zx,qR]; omega
  ·show _=_::bX [f b,f c] ["else", "fi"]
   simp[c6,bX]
 | .whl n b,⟨q,h,z⟩,⟨o1,o2⟩=>by
  refine⟨"while", [.int n],[jw n],[q],[f b],⟨h,.cons ⟨o1,rfl⟩ .nil,?_,by show 1=(bf "while").length; decide,.cons (F _ _ z o2) .nil⟩,by show _=_::bX [f b] ["done"]; simp[c6,bX]⟩
  have:(Str.ofString "while").length=5:=by decide
  have:=sR o1
  simp only[zW,rW,lX,List.sum_nil,zx,qR]; omega
theorem j4{PA:Addr→List ap→Prop}{J:Addr→List Str→Prop}{H:Hp}{f:List ap→List Str}{g:List ap→Prop}(O:∀ q b,PA q b→g b→J q (f b)) :
  ∀ {F:List Addr} {T:List ap},Paired (DJ PA H) F T→(∀ s∈T,k7 g s)→Paired (ly J H) F (T.map (c6 f))
 | _,_,.nil,_=>.nil
 | _,_,.cons h t,ok=>.cons (wn O h (ok _ zI)) (j4 O t fun s S=>ok s (zO _ S))
theorem lm{S:Addr→Prop}{H:Hp}:∀ (d:Nat) {p:Addr} {T:List ap},AM S d H p T→dk d T→D5 d H p (dI d T)
 | 0,_,_,h,_=>h.elim
 | d+1,p,T,⟨_,as,h1,h2⟩,ok=>⟨as,T.map (c6 (dI d)),h1,j4 (fun q b z o=>lm d z o) h2 ok,List.flatMap_def⟩
noncomputable def bx(f:List ap→Nat):ap→Nat
 | .plain _=>1
 | .lend _ _ b=>f b+2
 | .ite _ b c=>f b+f c+3
 | .whl _ b=>f b+2
noncomputable def aq:Nat→List ap→Nat
 | 0,_=>0
 | d+1,T=>(T.map (bx (aq d))).sum
noncomputable def eD(f:ap→Nat):Nat→List ap→List (Nat × ap)
 | _,[]=>[]
 | l,s::T=>(l,s)::eD f (l+f s) T
theorem jE(f:ap→Nat)(s:ap):∀ (l:Nat) (T:List ap),eD f l (T++[s])=eD f l T++[(l+(T.map f).sum,s)]
 | l,[]=>by simp[eD]
 | l,t::T=>by
  show (l,t)::eD f (l+f t) (T++[s])=(l,t)::eD f (l+f t) T++[(l+(f t+(T.map f).sum),s)]
  rw[jE f s (l+f t) T,GH]; rfl
theorem fF(f:ap→Nat):∀ (l:Nat) (T:List ap),(eD f l T).length=T.length
 | _,[]=>rfl
 | l,s::T=>by show (eD f (l+f s) T).length+1=T.length+1; rw[fF f _ T]
theorem tH(f:ap→Nat):∀ (l:Nat) (T:List ap) (i:Nat) (s:ap),T[i]? = some s→(eD f l T)[i]? = some (l+((T.take i).map f).sum,s)
 | _,[],_,_,h=>by simp at h
 | l,t::T,0,s,h=>by
  have e:t=s:=by simpa using h
  subst e; simp[eD]
 | l,t::T,i+1,s,h=>by
  have h':T[i]? = some s:=by simpa using h
  have ih:=tH f (l+f t) T i s h';show (eD f (l+f t) T)[i]? = _
  rw[ih,GS,zW,lX,GH]
noncomputable def kindOf:ap→Str
 | .plain ws=>ws.headD ""
 | .lend _ _ _ => "lend"
 | .ite _ _ _ => "if"
 | .whl _ _ => "while"
noncomputable def di:ap→List V
 | .plain ws=>(ws.drop 1).map V.str
 | .lend x y _=>[.str x,.str y]
 | .ite n _ _=>[.int n]
 | .whl n _=>[.int n]
noncomputable def cr(f:List ap→Nat)(l:Nat):ap→List (Nat × List ap)
 | .plain _=>[]
 | .lend _ _ b=>[(l+1,b)]
 | .ite _ b c=>[(l+1,b),(l+1+f b+1,c)]
 | .whl _ b=>[(l+1,b)]
noncomputable def cu(f:List ap→Nat)(l:Nat)(s:ap):List Nat:=l::(cr f l s).map fun z=>z.1+f z.2
theorem Ay{f:List ap→Nat}{l:Nat}:∀ {s:ap} {j:Nat} {z:Nat × List ap},(cr f l s)[j]? = some z→∃ y,(cu f l s)[j]? = some y∧z.1=y+1
 | .plain _,j,z,h=>by simp[cr]at h
 | .lend _ _ b,0,z,h=>by cases h; exact⟨l,rfl,rfl⟩
 | .lend _ _ b,j+1,z,h=>by simp[cr]at h
 | .ite _ b c,0,z,h=>by cases h; exact⟨l,rfl,rfl⟩
 | .ite _ b c,1,z,h=>by cases h; exact⟨l+1+f b,rfl,rfl⟩
 | .ite _ b c,j+2,z,h=>by simp[cr]at h
 | .whl _ b,0,z,h=>by cases h; exact⟨l,rfl,rfl⟩
 | .whl _ b,j+1,z,h=>by simp[cr]at h
theorem lj{f:List ap→Nat}{l:Nat}:∀ {s:ap},(cu f l s).getLast? = some (l+bx f s - 1)∧1≤bx f s
 | .plain _=>by simp[cu,cr,bx]
 | .lend _ _ b=>by simp[cu,cr,bx]; omega
 | .ite _ b c=>by simp[cu,cr,bx]; omega
 | .whl _ b=>by simp[cu,cr,bx]; omega
noncomputable def hV:Option Nat→V
 | none=>.non
 | some n=>.int n
set_option genInjectivity false in
set_option genSizeOf false in
structure RS where
 taken:Nat
 last:Int
 opened:Nat
 held:List (aG × V)
 log:List (List V)
noncomputable def v3(st:RS)(k:aG):Option Nat:=match cf st.held k with
 | some (.int n)=>some n.toNat
 | _=>none
noncomputable def oQ(k:aG)(h:Option Nat)(st:RS):RS:={ st with held:=cy st.held k (hV h) }
noncomputable def uZ(l:Nat)(h:Option Nat)(w:Str)(st:RS):RS:=match h with
 | none=>st
 | some n=>{ st with log:=st.log++[[.int l,.int n,.str w,.int st.last]] }
noncomputable def F7(l:Nat)(k:aG)(st:RS):RS:=oQ k (some st.opened) (uZ l (some st.opened) "open" { st with opened:=st.opened+1 })
noncomputable def zp(l:Nat)(a b:Option Nat)(st:RS):RS:=match a,b with
 | some n,some m=>if n=m then st else { st with log:=st.log++[[.int l,.int n,.int m]] }
 | _,_=>st
noncomputable def x8(l:Nat)(ws:List Str)(st:RS):RS:=match ws with
 | [k,x]=>if k = "open" then F7 l (.inr x) st else oQ (.inr x) none st
 | [k,x,y]=>if k = "do" then uZ l (v3 st (.inr y)) x st else if k = "copy" then oQ (.inr x) (v3 st (.inr y)) st else zp l (v3 st (.inr x)) (v3 st (.inr y)) st
 | _=>st
inductive fu:List Str→Prop
 | op (x:Str):fu ["open", x]
 | dr (x:Str):fu ["drop", x]
 | dd (u x:Str):fu ["do", u,x]
 | cp (x y:Str):fu ["copy", x,y]
 | ti (x y:Str):fu ["tie", x,y]
def GoodR(st:RS):Prop:=∀ k v,cf st.held k=some v→∃ h,v=hV h
theorem GoodR.hold{st:RS}(g:GoodR st)(k:aG)(h:Option Nat):GoodR (oQ k h st):=fun j v e=>by
 have F:(if j=k then some (hV h) else cf st.held j)=some v:=by rw[← kH]; exact e
 by_cases hj:j=k
 ·rw[Hf hj]at F; exact⟨h,(Option.some.inj F).symm⟩
 ·rw[He hj]at F; exact g j v F
theorem lv(l:Nat)(h:Option Nat)(w:Str)(st:RS):(uZ l h w st).held=st.held:=by cases h <;> rfl
theorem yM(l:Nat)(a b:Option Nat)(st:RS):(zp l a b st).held=st.held:=by
 unfold zp; split
 ·split <;> rfl
 ·rfl
theorem GoodR.of{st F:RS}(g:GoodR st)(e:F.held=st.held):GoodR F:=fun k v h=>g k v (by rw[← e]; exact h)
theorem lD{st:RS}(g:GoodR st)(l:Nat)(ws:List Str):GoodR (x8 l ws st):=by
 unfold x8; split
 ·split
  ·exact GoodR.hold (GoodR.of g (by rw[lv])) _ _
  ·exact g.hold _ _
 ·split
  ·exact g.of (lv _ _ _ _)
  ·split
   ·exact g.hold _ _
   ·exact g.of (yM _ _ _ _)
 ·exact g
noncomputable def nF(k:Str)(pp lp bp:Addr):List (Str × V):=[("kind", .str k),("parts", .ref pp),("lines", .ref lp),("blocks", .ref bp)]
theorem eV(k:Str)(F O J:Addr):(nF k F O J).lookup ("kind" : Str)=some (.str k):=by unfold nF; walk_at "lk"
theorem dN(k:Str)(F O J:Addr):(nF k F O J).lookup ("parts" : Str)=some (.ref F):=by unfold nF; walk_at "lk"
theorem dv(k:Str)(J F O:Addr):(nF k J F O).lookup ("lines" : Str)=some (.ref F):=by unfold nF; walk_at "lk"
theorem fQ(k:Str)(J O F:Addr):(nF k J O F).lookup ("blocks" : Str)=some (.ref F):=by unfold nF; walk_at "lk"
noncomputable def eK(ns:List Nat):List V:=ns.map fun (n:Nat)=>V.int (n:Int)
def A7(K:W.Frag)(C:Addr)(f:List ap→Nat)(S:Addr→Prop)(PA:Addr→Nat→List ap→Prop)(H:Hp)(a:Addr)(l:Nat)(s:ap):Prop:=
 ∃ (dx pp lp bp:Addr) (bs:List Addr),H a=some (.ins C dx (nF (kindOf s) pp lp bp))∧vr K H pp (di s)∧S lp∧H lp=some (.lst (eK (cu f l s)))∧S bp∧H bp=some (.lst (bs.map V.ref))∧Paired (fun q (z:Nat × List ap)=>PA q z.1 z.2) bs (cr f l s)
noncomputable def Ap(K:W.Frag)(C:Addr)(S:Addr→Prop):Nat→Hp→Addr→Nat→List ap→Prop
 | 0=>fun _ _ _ _=>False
 | d+1=>fun H p l T=>S p∧∃ as:List Addr,H p=some (.lst (as.map V.ref))∧Paired (fun a (z:Nat × ap)=>A7 K C (aq d) S (Ap K C S d H) H a z.1 z.2) as (eD (bx (aq d)) l T)
structure Dw (S:Addr→Prop) (H H':Hp):Prop where
 t:∀ b xs,H b=some (.tup xs)→H' b=some (.tup xs)
 z:∀ b o u,H b=some (.frz o u)→H' b=some (.frz o u)
 i:∀ b C dx fs,H b=some (.ins C dx fs)→H' b=some (.ins C dx fs)
 l:∀ b xs,S b→H b=some (.lst xs)→H' b=some (.lst xs)
theorem Dw.of{S:Addr→Prop}{H H':Hp}(sm:rm H H'):Dw S H H':=⟨fun b xs h=>sm _ _ h,fun b o u h=>sm _ _ h,fun b C dx fs h=>sm _ _ h,fun b xs _ h=>sm _ _ h⟩
theorem Dw.upd{S:Addr→Prop}{H:Hp}{p:Addr}{xs:List V}{o:HO}(h:H p=some (.lst xs))(J:¬ S p):Dw S H (upd H p o):=
  ⟨fun b xs e=>by rw[au (cF e h (fun z=>nomatch z))]; exact e,fun b o u e=>by rw[au (cF e h (fun z=>nomatch z))]; exact e,fun b C dx fs e=>by rw[au (cF e h (fun z=>nomatch z))]; exact e,
   fun b xs F e=>by rw[au (show b≠p from fun z=>J (z ▸ F))]; exact e⟩
theorem vr.stays{K:W.Frag}{S:Addr→Prop}{H H':Hp}{a:Addr}{xs:List V}(h:vr K H a xs)(st:Dw S H H'):vr K H' a xs:=by
 rcases h with (h | ⟨o,h⟩) | h
 ·exact .inl (.inl (st.t _ _ h))
 ·exact .inl (.inr ⟨o,st.z _ _ _ h⟩)
 ·exact .inr h
theorem vr.updI{K:W.Frag}{H:Hp}{a x C dx:Addr}{xs:List V}{fs:List (Str × V)}{o:HO}(h:vr K H a xs)(hx:H x=some (.ins C dx fs)):vr K (upd H x o) a xs:=by
 rcases h with (h | ⟨o',h⟩) | h
 ·exact .inl (.inl (by rw[au (cF h hx (fun z=>nomatch z))]; exact h))
 ·exact .inl (.inr ⟨o',by rw[au (cF h hx (fun z=>nomatch z))]; exact h⟩)
 ·exact .inr h
theorem A7.imp{K:W.Frag}{C:Addr}{f:List ap→Nat}{S S':Addr→Prop}{PA F:Addr→Nat→List ap→Prop}{H H':Hp}{a:Addr}{l:Nat}{s:ap}(h:A7 K C f S PA H a l s)(st:Dw S H H')(U:∀ b,S b→S' b)(hp:∀ q l b,PA q l b→F q l b):A7 K C f S' F H' a l s:=by
 obtain⟨dx,pp,lp,bp,bs,h1,h2,O,Y,J,Z,h7⟩:=h
 exact⟨dx,pp,lp,bp,bs,st.i _ _ _ _ h1,vr.stays h2 st,U _ O,st.l _ _ O Y,U _ J,st.l _ _ J Z,Paired.imp' (fun q z y=>hp _ _ _ y) h7⟩
theorem Ap.imp{K:W.Frag}{C:Addr}{S S':Addr→Prop}{H H':Hp}(st:Dw S H H')(F:∀ b,S b→S' b):∀ (d:Nat) {p:Addr} {l:Nat} {T:List ap},Ap K C S d H p l T→Ap K C S' d H' p l T
 | 0,_,_,_,h=>h.elim
 | d+1,p,l,T,⟨h0,as,h1,h2⟩=>⟨F _ h0,as,st.l _ _ h0 h1,Paired.imp' (fun a z y=>y.imp st F fun q l b J=>Ap.imp st F d J) h2⟩
theorem Ap.mono{K:W.Frag}{C:Addr}{S:Addr→Prop}{H H':Hp}{d:Nat}{p:Addr}{l:Nat}{T:List ap}(h:Ap K C S d H p l T)(sm:rm H H'):Ap K C S d H' p l T:=h.imp (Dw.of sm) (fun _ z=>z) d
theorem A7.mono{K:W.Frag}{C:Addr}{S:Addr→Prop}{H H':Hp}{d:Nat}{a:Addr}{l:Nat}{s:ap}(h:A7 K C (aq d) S (Ap K C S d H) H a l s)(sm:rm H H'):A7 K C (aq d) S (Ap K C S d H') H' a l s:=
 h.imp (Dw.of sm) (fun _ z=>z) fun q l b y=>y.mono sm
theorem s_{α : Type}{xs:List α}{x:α}(h:xs.getLast? = some x):cJ xs (-1)=some x:=by
 rcases List.eq_nil_or_concat xs with rfl | ⟨ys,y,rfl⟩
 ·simp at h
 ·have e:y=x:=by simpa using h
  subst e
  have e:jv (ys++[y]).length (-1)=some ys.length:=by
   unfold jv;simp only[zr,zx,qR]
   split <;> simp_all <;> omega
  unfold cJ;rw[List.concat_eq_append,e];simp
theorem ix{ns:List Nat}{n:Nat}(h:ns.getLast? = some n):cJ (eK ns) (-1)=some (.int n):=s_ (by unfold eK; rw[List.getLast?_map,h]; rfl)
theorem dO{ns:List Nat}{i n:Nat}(h:ns[i]? = some n):cJ (eK ns) i=some (.int n):=av (by unfold eK; rw[zy,h]; rfl)
theorem t0(d:Nat):∀ T:List ap,T.length≤aq (d+1) T
 | []=>vL _
 | s::T=>by
  have:=t0 d T
  have h1:=(lj (f:=aq d) (l:=0) (s:=s)).2;show T.length+1≤bx (aq d) s+aq (d+1) T
  omega
theorem me{d:Nat}:∀ {T:List ap} {s:ap},s∈T→bx (aq d) s≤aq (d+1) T
 | [],_,h=>by cases h
 | t::T,s,h=>by
  show bx (aq d) s≤bx (aq d) t+aq (d+1) T
  rcases Hi.mp h with rfl | h
  ·omega
  ·have:=me (d:=d) h; omega
theorem qT{d i:Nat}{T:List ap}:aq (d+1) (T.take i)≤aq (d+1) T:=by
 have e:aq (d+1) T=aq (d+1) (T.take i)+aq (d+1) (T.drop i):=by
  show (T.map _).sum=((T.take i).map _).sum+((T.drop i).map _).sum
  rw[← List.sum_append,← zP,List.take_append_drop]
 omega
theorem Cs{f:List ap→Nat}{l:Nat}:∀ {s:ap} {z:Nat × List ap},z∈cr f l s→f z.2≤bx f s
 | .plain _,z,h=>by cases h
 | .lend _ _ b,z,h=>by simp[cr]at h; subst h; simp[bx]
 | .ite _ b c,z,h=>by
  simp[cr]at h
  rcases h with rfl | rfl <;> simp[bx] <;> omega
 | .whl _ b,z,h=>by simp[cr]at h; subst h; simp[bx]
theorem AR(f:List ap→Nat)(l:Nat)(s:ap):(cr f l s).length≤2:=by cases s <;> simp[cr]
theorem BI{PA:Addr→List ap→Prop}{H:Hp}{a:Addr}{f:List ap→Nat}{g:List ap→Prop}{l:Nat}:∀ {s:ap},DJ PA H a s→k7 g s→∃ bs:List Addr,H a=some (.tup (.str (kindOf s)::(di s++bs.map V.ref)))∧bs.length=(bf (kindOf s)).length∧Paired (fun q (z:Nat × List ap)=>PA q z.2∧g z.2) bs (cr f l s)
 | .plain ws,h,ok=>by
  have J:ws≠[]:=fun e=>by have:=ok.two; rw[e]at this; simp at this
  obtain⟨k,r,rfl⟩:=List.exists_cons_of_ne_nil J
  have F:k∈cN:=ok.kind
  refine⟨[],?_,?_,.nil⟩
  ·show H a=some (.tup (.str k::(r.map V.str++[])))
   rw[gY]; exact h
  ·show 0=(bf k).length
   revert F; unfold cN
   intro F
   simp only[zK,qm,or_false]at F
   rcases F with rfl | rfl | rfl | rfl | rfl <;> decide
 | .lend x y b,⟨q,h,z⟩,⟨_,_,o⟩=>⟨[q],h,by show 1=(bf "lend").length; decide,.cons ⟨z,o⟩ .nil⟩
 | .ite n b c,⟨q,r,h,z,y⟩,⟨_,o,o'⟩=>⟨[q,r],h,by show 2=(bf "if").length; decide,.cons ⟨z,o⟩ (.cons ⟨y,o'⟩ .nil)⟩
 | .whl n b,⟨q,h,z⟩,⟨_,o⟩=>⟨[q],h,by show 1=(bf "while").length; decide,.cons ⟨z,o⟩ .nil⟩
noncomputable def mB(K:W.Frag)(C:Addr):Sp:=fun vs H Q _=>∃ (x dx hp:Addr) (k:Str) (ps:List V) (lp bp:Addr),vs=[.ref x,.ref hp,.ref lp,.ref bp]∧H x=some (.ins C dx [])∧vr K H hp (.str k::ps)∧
 ∀ (pp:Addr) (H':Hp),(∀ b o,H b=some o→b≠x→H' b=some o)→H' x=some (.ins C dx (nF k pp lp bp))→vr K H' pp ps→Q .non H'
noncomputable def iI(K:W.Frag)(C:Addr):Sp:=fun vs H Q _=>∃ (p:Addr) (l d:Nat) (T:List ap) (S:Addr→Prop),vs=[.ref p,.int (l:Int)]∧Ap K C S (d+1) H p l T∧aq (d+1) T≤10000∧Q (.int ((l+aq (d+1) T:Nat):Int)) H
noncomputable def FS(K:W.Frag)(C:Addr)(d:Nat):Sp:=fun vs H Q _=>∃ (a:Addr) (l:Nat) (s:ap) (S:Addr→Prop),vs=[.ref a,.int (l:Int)]∧DJ (AM S d H) H a s∧k7 (dk d) s∧bx (aq d) s≤10000∧
 ∀ (q:Addr) (H':Hp),rm H H'→A7 K C (aq d) (fun b=>H b=none) (Ap K C (fun b=>H b=none) d H') H' q l s→Q (.ref q) H'
noncomputable def qJ(K:W.Frag)(C:Addr)(d:Nat):Sp:=fun vs H Q _=>∃ (p:Addr) (l:Nat) (T:List ap) (S:Addr→Prop),vs=[.ref p,.int (l:Int)]∧AM S d H p T∧dk d T∧aq d T≤10000∧
 ∀ (q:Addr) (H':Hp),rm H H'→Ap K C (fun b=>H b=none) d H' q l T→Q (.ref q) H'
section
variable{P:Program}{w:World}{K:W.Frag}{mg:Str→Option Value}{base:Heap}{CN:Addr}
theorem AH(D:Ff K mg "NumberedStep" CN "NumberedStep.__init__" aR) (S:Fl K CN "kind") (J:Fl K CN "parts") (O:Fl K CN "lines") (F:Fl K CN "blocks") :
  rO P w K mg base 1 "NumberedStep" CN ["self", "head", "lines", "blocks"] (mB K CN):=by
 refine D.mkal (k:=0) gC (fun _ _ _ _ _ _ us hl=>by obtain⟨_,_,_,_,rfl⟩:=zu4 us hl;rfl) (fun vs H Q E h=>by obtain⟨x,dx,hp,k,ps,lp,bp,rfl,_⟩:=h; rfl) (fun f al A outer s H vs Q E hr h=>?_)
 obtain⟨x,dx,hp,k,ps,lp,bp,rfl,hx,hh,q⟩:=h
 refine⟨_,(ai (jN S (pv 0) (ao (aw K) (pv 1) ae (fun _ _=>rfl)))
   (ai (jN J (pv 0) (dW (h_ K) (pv 1) (er ae) fC))
   (ai (jN O (pv 0) (pv 2))
   (aj (jN F (pv 0) (pv 3)))))),?_⟩
 walk_at "r";refine⟨_,_,.inr hh,ir,dx,_,hx,by decide,?_⟩
 generalize hH1:upd H x _=H1
 have e1:H1 x=some (.ins CN dx [("kind", .str k)]):=by rw[← hH1,af]; walk_at "pf"
 have k1:∀ b o,H b=some o→b≠x→H1 b=some o:=fun b o e n=>by rw[← hH1,au n]; exact e
 have ag:vr K H1 hp (.str k::ps):=by rw[← hH1]; exact vr.updI hh hx
 walk_at "n";refine iB ag fun Y H2 U W=>?_
 have ec:de (V.str k::ps) (some 1) none=ps:=ju _ 1
 rw[ec]at W
 refine⟨dx,_,U _ _ e1,by simp,?_⟩
 generalize hH3:upd H2 x _=Z
 have e3:Z x=some (.ins CN dx [("kind", .str k),("parts", .ref Y)]):=by rw[← hH3,af]; walk_at "pf"
 have k3:∀ b o,H2 b=some o→b≠x→Z b=some o:=fun b o e n=>by rw[← hH3,au n]; exact e
 have ad:vr K Z Y ps:=by rw[← hH3]; exact vr.updI W (U _ _ e1)
 walk_at "n";refine⟨dx,_,e3,by simp,?_⟩
 generalize hH4:upd Z x _=H4
 have e4:H4 x=some (.ins CN dx [("kind", .str k),("parts", .ref Y),("lines", .ref lp)]):=by rw[← hH4,af]; walk_at "pf"
 have k4:∀ b o,Z b=some o→b≠x→H4 b=some o:=fun b o e n=>by rw[← hH4,au n]; exact e
 have ab:vr K H4 Y ps:=by rw[← hH4]; exact vr.updI ad e3
 walk_at "n";refine⟨dx,_,e4,by simp,?_⟩
 refine q Y _ (fun b o e n=>?_) ?_ (vr.updI ab e4)
 ·rw[au n]; exact k4 _ _ (k3 _ _ (U _ _ (k1 _ _ e n)) n) n
 ·rw[af]; unfold nF; walk_at "pf"
theorem yR(D:Ab K mg "line_behind" cV) (U:mg "len" = none) (J:Fl K CN "lines"):aH P w K mg base 1 "line_behind" ["steps", "line"] (iI K CN):=by
 refine D.cal (k:=0) mn (fun _ _ _ _ _ _ us hl=>by obtain⟨_,_,rfl⟩:=zu2 us hl;rfl) (fun vs H Q E h=>by obtain⟨p,l,d,T,S,rfl,_⟩:=h; rfl) (fun f ad A outer s H vs Q E hr h=>?_)
 obtain⟨p,l,d,T,S,rfl,⟨h0,as,h1,h2⟩,hz,q⟩:=h
 have F:=aI h2;rw[fF]at F
 refine⟨_,(aj (aJ (kD (aB bb (bi (aV K) U bK (aa (pv 0) ac)) ae (aF _)) (pv 1) (ak az (ao (aw K) (bB J (ao (aw K) (pv 0) (fN fc ae) (fun _ _=>rfl))) (fN fc ae) (fun _ _=>rfl)) ae)))),?_⟩
 walk_at "r";refine⟨_,.inl (ud.of h1),?_⟩
 rw[ze,F];rcases List.eq_nil_or_concat T with rfl | ⟨O,t,rfl⟩
 ·refine bd (fun c=>?_) (fun c=>absurd rfl c)
  exact q
 ·rw[List.concat_eq_append]at *
  refine bd (fun c=>absurd c (by rw[zr]; simp; omega)) (fun c=>?_)
  rw[jE]at h2
  rcases List.eq_nil_or_concat as with rfl | ⟨Y,a,rfl⟩
  ·have:=aI h2; simp at this
  rw[List.concat_eq_append]at *
  have ab:Y.length=O.length:=by simpa using F
  have h3:A7 K CN (aq d) S (Ap K CN S d H) H a (l+(O.map (bx (aq d))).sum) t:=by
   obtain⟨z,W,Z⟩:=b8 h2 (i:=Y.length) (x:=a) (by simp)
   rw[vw (by rw[fF]; omega),fF,ab]at W
   simp at W
   subst W; exact Z
  obtain⟨dx,pp,lp,bp,bs,g1,g2,g3,g4,g5,g6,g7⟩:=h3
  obtain⟨g8,g9⟩:=lj (f:=aq d) (l:=l+(O.map (bx (aq d))).sum) (s:=t)
  walk_at "r";refine⟨_,_,.inl (ud.of h1),s_ (x:=V.ref a) (by simp),?_⟩
  refine⟨a,rfl,dx,_,_,g1,dv _ _ _ _,?_⟩
  walk_at "r";refine⟨_,_,.inl (ud.of g4),ix g8,?_⟩
  walk_at "r"
  have e:((l+(O.map (bx (aq d))).sum+bx (aq d) t - 1:Nat):Int)+1=((l+aq (d+1) (O++[t]):Nat):Int):=by
   have:aq (d+1) (O++[t])=(O.map (bx (aq d))).sum+bx (aq d) t:=by show ((O++[t]).map _).sum=_; simp
   omega
  rw[e]; exact q
theorem Ep(D:Ab K mg "numbered_step" aP) (Y:aH P w K mg base 2 "head_of" ["step"] (jy K)) (U:aH P w K mg base 3 "blocks_of" ["step"] (gK K)) (O:aH P w K mg base 1 "line_behind" ["steps", "line"] (iI K CN))
  (J:rO P w K mg base 1 "NumberedStep" CN ["self", "head", "lines", "blocks"] (mB K CN)) {d:Nat} (F:aH P w K mg base (2 * d+4) "numbered_steps" ["steps", "line"] (qJ K CN d)) :
  aH P w K mg base (2 * d+5) "numbered_step" ["step", "line"] (FS K CN d):=by
 refine D.cal (k:=2 * d+4) C6 (fun _ _ _ _ _ _ us hl=>by obtain⟨_,_,rfl⟩:=zu2 us hl;rfl) (fun vs H Q E h=>by obtain⟨a,l,s,S,rfl,_⟩:=h; rfl) (fun f dm A outer sh H vs Q E hr h=>?_)
 obtain⟨a,l,s,S,rfl,h1,ok,hz,q⟩:=h
 obtain⟨bs,b1,b2,b3⟩:=BI (f:=aq d) (l:=l) h1 ok
 refine⟨_,(ai (ar 2 C6.nd (aY (aa (pv 1) ac)))
   (ai (ar 3 C6.nd (aY ac))
   (ai (b6 wG rfl (ia K (ay U hr (aa (pv 0) ac) (hle:=by omega))) (ba 4 C6.nd) (ai (ar 5 C6.nd (ay F hr (aa (pv 4) (aa (ak az (ao (aw K) (pv 2) (fN fc ae) (fun _ _=>rfl)) ae) ac)) (hle:=by omega)))
   (ai (bc (bA K qL vQ vT bo (pv 3) (aa (pv 5) ac)))
   (aj (bc (bA K qL vQ vT bo (pv 2) (aa (ay O hr (aa (pv 5) (aa (ak az (ao (aw K) (pv 2) (fN fc ae) (fun _ _=>rfl)) ae) ac)) (hle:=by omega)) ac)))))))
   (aj (aJ (Gk J hr (aa (ay Y hr (aa (pv 0) ac) (hle:=by omega)) (aa (pv 2) (aa (pv 3) ac))) (hle:=by omega))))))),?_⟩
 walk_at "r";refine⟨by decide,fun lp a6=>?_⟩
 generalize hA:upd H lp _=HA
 have sA:=gm hA a6;have eA:=jM hA;walk_at "n";refine⟨by decide,fun bp ad=>?_⟩
 generalize hB:upd HA bp _=HB
 have sB:=gm hB ad;have eB:=jM hB;have a7:=sA.trans sB;have b4:(bf (kindOf s)).length≤(di s++bs.map V.ref).length+1:=by rw[zr,ze,b2]; omega
 have a3:(di s++bs.map V.ref).length+1 - (bf (kindOf s)).length=(di s).length+1:=by rw[zr,ze,b2]; omega
 walk_at "n";refine⟨a,kindOf s,_,rfl,vr.of (a7 _ _ b1),b4,fun tp HC sC an=>?_⟩
 rw[a3]at an
 have cq:(V.str (kindOf s)::(di s++bs.map V.ref)).drop ((di s).length+1)=bs.map V.ref:=by rw[List.drop_succ_cons,List.drop_left']; rfl
 rw[cq]at an
 walk_at "r";refine⟨⟨_,an⟩,?_⟩
 have bt:=aI b3;have dt:=AR (aq d) l s;have b0:lp≠bp:=fun z=>by rw[← z]at ad; rw[ad]at eA; cases eA
 refine pA (xs:=bs.map V.ref) (fun j σ H'=>∃ (o4 o5:Option V) (qs:List Addr),σ=[some (.ref a),some (.int (l:Int)),some (.ref lp),some (.ref bp),o4,o5]∧rm H H'∧vr K H' tp (bs.map V.ref)∧H' lp=some (.lst (eK ((cu (aq d) l s).take (j+1))))∧H' bp=some (.lst (qs.map V.ref))∧
   (∀ b,H' b=none→HC b=none)∧Paired (fun q (z:Nat × List ap)=>Ap K CN (fun b=>HC b=none) d H' q z.1 z.2) qs ((cr (aq d) l s).take j))
  ⟨none,none,[],rfl,a7.trans sC,an,by rw[sC _ _ (sB _ _ eA)]; simp[eK,cu],by rw[sC _ _ eB]; rfl,fun b h=>h,.nil⟩ (fun j σ H' _ h=>by obtain⟨_,_,_,_,_,z,_⟩:=h; exact z) ?_ ?_
 ·rintro j v σ H' hv ⟨o4,o5,qs,rfl,sm,cb,al,W,be,ag⟩
  have hj:j<bs.length:=by have:=(Hd.mp hv).1; simpa using this
  rw[zy,zg hj]at hv
  cases hv;obtain⟨z,as,c0,c9⟩:=b8 b3 (zg hj)
  obtain⟨y,cA,dl⟩:=Ay as
  have ab:((cu (aq d) l s).take (j+1)).getLast? = some y:=by
   rw[pG,cA]; simp
  have dc:=Cs (vx as);walk_at "r";refine⟨_,_,.inl (ud.of al),ix ab,?_⟩
  walk_at "r";have ey:(y:Int)+1=((z.1:Nat):Int):=by omega
  rw[ey];refine⟨bs[j],z.1,z.2,S,rfl,c0.mono sm,c9,by omega,fun q' HD Z cB=>?_⟩
  have bg:=aI ag;rw[vW]at bg
  walk_at "n";refine⟨⟨_,ud.of (Z _ _ W)⟩,_,Z _ _ W,b5 (by rw[ze]; omega),?_⟩
  generalize hE:upd HD bp _=HE
  have c3:Dw (fun b=>H' b=none) HD HE:=by rw[← hE]; exact Dw.upd (Z _ _ W) (fun z=>by rw[W]at z; cases z)
  have a8:=Ap.imp (S':=fun b=>H' b=none) c3 (fun _ z=>z) d cB
  have eE:HE bp=some (.lst (qs.map V.ref++[V.ref q'])):=by rw[← hE,af]
  have lE:HE lp=some (.lst (eK ((cu (aq d) l s).take (j+1)))):=by rw[← hE,au b0]; exact Z _ _ al
  walk_at "n";refine⟨⟨_,ud.of lE⟩,_,_,.inl (ud.of lE),ix ab,?_⟩
  walk_at "r";rw[ey];have c5:∀ b,H' b=none→HC b=none:=be
  have c1:=Ap.imp (S':=fun b=>HC b=none) (Dw.of (rm.refl HE)) c5 d a8
  cases d with
  | zero=>exact a8.elim
  | succ d=>
  refine⟨q',z.1,d,z.2,_,rfl,a8,by omega,?_⟩
  refine⟨_,lE,b5 (by unfold eK; rw[ze,vW]; omega),?_⟩
  generalize hF:upd HE lp _=HF
  have cd:HC lp=some (.lst (eK [l])):=by rw[sC _ _ (sB _ _ eA)]; simp[eK]
  have cv:HC bp=some (.lst []):=sC _ _ eB
  have a9:Dw (fun b=>HC b=none) HE HF:=by rw[← hF]; exact Dw.upd lE (fun z=>by rw[cd]at z; cases z)
  have a4:Dw (fun b=>HC b=none) HD HE:=by rw[← hE]; exact Dw.upd (Z _ _ W) (fun z=>by rw[cv]at z; cases z)
  have up:∀ {p:Addr} {l:Nat} {T:List ap},Ap K CN (fun b=>HC b=none) (d+1) H' p l T→Ap K CN (fun b=>HC b=none) (d+1) HF p l T:=fun z=>Ap.imp a9 (fun _ y=>y) _ (Ap.imp a4 (fun _ y=>y) _ (z.mono Z))
  refine⟨_,_,qs++[q'],rfl,?_,?_,?_,?_,?_,?_⟩
  ·rw[← hF,← hE]; exact((sm.trans Z).upd (sA.free ad) _).upd a6 _
  ·exact vr.stays (vr.stays (cb.same Z) a4) a9
  ·rw[← hF,af]
   have:(cu (aq (d+1)) l s)[j+1]? = some (z.1+aq (d+1) z.2):=by
    unfold cu;rw[G1,zy,as]; rfl
   unfold eK;rw[pG (i:=j+1),this,zP]; rfl
  ·rw[← hF,au b0.symm,eE,zP]; rfl
  ·intro b hb
   refine be b (Z.free ?_)
   rw[← hF,← hE]at hb
   by_cases e1:b=lp
   ·rw[e1,af]at hb; cases hb
   ·rw[au e1]at hb
    by_cases e2:b=bp
    ·rw[e2,af]at hb; cases hb
    ·rw[au e2]at hb; exact hb
  ·rw[pG,as]
   exact fO (R:=fun q (z:Nat × List ap)=>Ap K CN (fun b=>HC b=none) (d+1) HF q z.1 z.2) (Ap.imp a9 (fun _ y=>y) _ c1) (Paired.imp' (fun q z y=>up y) ag)
 ·rintro σ H' ⟨o4,o5,qs,rfl,sm,cb,al,W,be,ag⟩
  rw[ze,bt,tx]at ag
  have c2:(cu (aq d) l s).take ((bs.map V.ref).length+1)=cu (aq d) l s:=by
   rw[mJ]; unfold cu; rw[zx,ze,ze,bt]; exact zl _
  rw[c2]at al
  walk_at "n";refine⟨a,kindOf s,_,rfl,vr.of (sm _ _ b1),b4,fun hp HD Z a5=>?_⟩
  rw[a3]at a5
  have ca:(V.str (kindOf s)::(di s++bs.map V.ref)).take ((di s).length+1)=V.str (kindOf s)::di s:=by rw[GS,List.take_left']; rfl
  rw[ca]at a5
  walk_at "r";intro x dx hx cl dn
  generalize hM:upd (upd HD dx (.own x)) x (.ins CN dx [])=HM
  have sM:rm HD HM:=by rw[← hM]; exact(ah cl (.own x)).upd hx _
  have eM:HM x=some (.ins CN dx []):=by rw[← hM,af]
  refine⟨x,dx,hp,kindOf s,di s,lp,bp,rfl,eM,a5.same sM,fun pp HN kN eN cc=>⟨rfl,?_⟩⟩
  have sN:rm HD HN:=fun b o e=>kN b o (sM _ _ e) (aA e hx)
  have da:rm H HN:=(sm.trans Z).trans sN
  have c4:∀ b,HC b=none→H b=none:=fun b z=>(a7.trans sC).free z
  refine q x HN da ⟨dx,pp,lp,bp,qs,eN,cc,a6,sN _ _ (Z _ _ al),sA.free ad,sN _ _ (Z _ _ W),?_⟩
  exact Paired.imp' (fun q z y=>Ap.imp (Dw.of (Z.trans sN)) c4 d y) ag
theorem uk(D0:Ab K mg "numbered_step" aP) (D:Ab K mg "numbered_steps" bF) (W:aH P w K mg base 2 "head_of" ["step"] (jy K)) (O:aH P w K mg base 3 "blocks_of" ["step"] (gK K)) (F:aH P w K mg base 1 "line_behind" ["steps", "line"] (iI K CN))
  (J:rO P w K mg base 1 "NumberedStep" CN ["self", "head", "lines", "blocks"] (mB K CN)):∀ d:Nat,aH P w K mg base (2 * d+4) "numbered_steps" ["steps", "line"] (qJ K CN d)
 | 0=>D.cal (k:=3) DB (fun _ _ _ _ _ _ us hl=>by obtain⟨_,_,rfl⟩:=zu2 us hl;rfl) (fun vs H Q E h=>by obtain⟨p,l,T,S,rfl,_⟩:=h; rfl) (fun f a7 A outer s H vs Q E hr h=>by obtain⟨p,l,T,S,rfl,z,_⟩:=h; exact z.elim)
 | d+1=>by
  have U:=Ep D0 W O F J (uk D0 D W O F J d);refine D.cal (k:=2 * d+5) DB (fun _ _ _ _ _ _ us hl=>by obtain⟨_,_,rfl⟩:=zu2 us hl;rfl) (fun vs H Q E h=>by obtain⟨p,l,T,S,rfl,_⟩:=h; rfl) (fun f a7 A outer s H vs Q E hr h=>?_)
  obtain⟨p,l,T,S,rfl,⟨h0,as,h1,h2⟩,ok,hz,q⟩:=h
  have al:=aI h2;have be:=t0 d T
  refine⟨_,(ai (ar 2 DB.nd (aY ac))
   (ai (b6 wG rfl (ci K (pv 0)) (ba 3 DB.nd) (aj (bc (bA K qL vQ vT bo (pv 2) (aa (ay U hr (aa (pv 3) (aa (ay F hr (aa (pv 2) (aa (pv 1) ac)) (hle:=by omega)) ac)) (hle:=by omega)) ac)))))
   (aj (aJ (pv 2))))),?_⟩
  walk_at "r";refine⟨by decide,fun Z ad=>?_⟩
  generalize hA:upd H Z _=Y
  have sA:=gm hA ad;have eA:=jM hA;walk_at "n";refine⟨⟨_,ud.of (sA _ _ h1)⟩,?_⟩
  have a5:¬ Y Z=none:=fun z=>by rw[eA]at z; cases z
  refine cw (xs:=as.map V.ref) (fun i σ H'=>∃ (o3:Option V) (ns:List Addr),σ=[some (.ref p),some (.int (l:Int)),some (.ref Z),o3]∧rm H H'∧H' Z=some (.lst (ns.map V.ref))∧(∀ b,H' b=none→Y b=none)∧
    Paired (fun a (z:Nat × ap)=>A7 K CN (aq d) (fun b=>Y b=none) (Ap K CN (fun b=>Y b=none) d H') H' a z.1 z.2) ns (eD (bx (aq d)) l (T.take i)))
   ⟨none,[],rfl,sA,eA,fun _ z=>z,.nil⟩ (fun i σ H' _ h=>by obtain⟨_,_,_,sm,_⟩:=h; exact ud.of (sm _ _ h1)) ?_ ?_
  ·rintro i v σ H' hv ⟨o3,ns,rfl,sm,n1,nf,n2⟩
   have hi:i<as.length:=by have:=(Hd.mp hv).1; simpa using this
   rw[zy,zg hi]at hv
   cases hv;obtain⟨s,hs,a6⟩:=b8 h2 (zg hi)
   have ab:=vx hs;have bg:=me (d:=d) ab;have a9:=qT (d:=d) (i:=i) (T:=T);have an:=aI n2;rw[fF,vW]at an
   walk_at "r";refine⟨⟨_,ud.of n1⟩,?_⟩
   refine⟨Z,l,d,T.take i,fun _=>True,rfl,⟨trivial,ns,n1,Paired.imp' (fun a z y=>y.imp (Dw.of (rm.refl H')) (fun _ _=>trivial) fun q l b y'=>Ap.imp (Dw.of (rm.refl H')) (fun _ _=>trivial) d y') n2⟩,by omega,?_⟩
   refine⟨as[i],l+aq (d+1) (T.take i),s,S,rfl,?_,ok s ab,by omega,fun q' HD sD a8=>?_⟩
   ·exact DJ.imp (fun b xs e=>sm _ _ e) (fun q b y=>y.mono sm) a6
   refine⟨_,sD _ _ n1,b5 (by rw[ze]; omega),?_⟩
   generalize hE:upd HD Z _=HE
   have eE:HE Z=some (.lst ((ns++[q']).map V.ref)):=by rw[← hE,af,zP]; rfl
   have a3:Dw (fun b=>Y b=none) HD HE:=by rw[← hE]; exact Dw.upd (sD _ _ n1) a5
   have a4:A7 K CN (aq d) (fun b=>Y b=none) (Ap K CN (fun b=>Y b=none) d HD) HD q' (l+aq (d+1) (T.take i)) s:=a8.imp (Dw.of (rm.refl HD)) nf fun q l b y'=>Ap.imp (Dw.of (rm.refl HD)) nf d y'
   have up:∀ {a:Addr} {l:Nat} {s:ap},A7 K CN (aq d) (fun b=>Y b=none) (Ap K CN (fun b=>Y b=none) d HD) HD a l s→A7 K CN (aq d) (fun b=>Y b=none) (Ap K CN (fun b=>Y b=none) d HE) HE a l s:=fun z=>z.imp a3 (fun _ y=>y) fun q l b y'=>Ap.imp a3 (fun _ y=>y) d y'
   refine⟨_,ns++[q'],rfl,?_,eE,?_,?_⟩
   ·rw[← hE]; exact(sm.trans sD).upd ad _
   ·intro b hb
    refine nf b (sD.free ?_)
    rw[← hE]at hb
    by_cases e1:b=Z
    ·rw[e1,af]at hb; cases hb
    ·rw[au e1]at hb; exact hb
   ·have et:T.take (i+1)=T.take i++[s]:=by rw[pG,hs]; rfl
    rw[et,jE];exact fO (R:=fun a (z:Nat × ap)=>A7 K CN (aq d) (fun b=>Y b=none) (Ap K CN (fun b=>Y b=none) d HE) HE a z.1 z.2) (up a4) (Paired.imp' (fun a z y=>up (A7.mono y sD)) n2)
  ·rintro σ H' ⟨o3,ns,rfl,sm,n1,nf,n2⟩
   rw[ze,al,tx]at n2
   walk_at "n";have ag:∀ b,Y b=none→H b=none:=fun b z=>sA.free z
   exact q Z H' sm ⟨ad,ns,n1,Paired.imp' (fun a z y=>y.imp (Dw.of (rm.refl H')) ag fun q l b y'=>Ap.imp (Dw.of (rm.refl H')) ag d y') n2⟩
end
section
variable{P:Program}{w:World}{K:W.Frag}{mg:Str→Option Value}{base:Heap}
abbrev bD:=List V
noncomputable def bT(kv:List (aG × V))(k:aG):V:=(cf kv k).getD .non
noncomputable def iN(n:Nat):V:=.int (n:Int)
noncomputable def ip(kv:List (aG × V))(l:Nat)(ws:List Str):bD:=
 if ws.headD "" = "do" then [.str "do", iN l,bT kv (.inr (ws.getD 2 "")),.str (ws.getD 1 "")] else .str (ws.headD "")::iN l::(ws.drop 1).map fun n=>bT kv (.inr n)
section
variable(kv:List (aG × V))(f:Bool→Nat→Nat→List ap→List bD)(cnt:List ap→Nat)
noncomputable def gW(t:Bool)(a l:Nat)(x y:Str)(b:List ap):List bD:=
 [[.str "copy", iN l,bT kv (.inl l),bT kv (.inr x)],[.str "do", iN l,bT kv (.inl l),.str "lend"],[.str "copy", iN l,bT kv (.inr y),bT kv (.inl l)]]++f t (a+3) (l+1) b ++
 [[.str "do", iN (l+1+cnt b),bT kv (.inl l),.str "back"],[.str "drop", iN (l+1+cnt b),bT kv (.inr y)],[.str "drop", iN (l+1+cnt b),bT kv (.inl l)]]
noncomputable def mZ(t:Bool)(a l:Nat)(n:Int)(b c:List ap):List bD:=
 [[.str "test", iN l,.int n,iN (a+1+(f t (a+1) (l+1) b).length+1)]]++f t (a+1) (l+1) b ++
 [[.str "jump", iN (l+1+cnt b),iN (a+1+(f t (a+1) (l+1) b).length+1+(f t (a+1+(f t (a+1) (l+1) b).length+1) (l+1+cnt b+1) c).length)]]++f t (a+1+(f t (a+1) (l+1) b).length+1) (l+1+cnt b+1) c
noncomputable def fL(a l:Nat)(n:Int)(b:List ap):List bD:=
 [[.str "test", iN l,.int n,iN (a+1+(f false (a+1) (l+1) b).length+1)]]++f false (a+1) (l+1) b++[[.str "jump", iN (l+1+cnt b),iN a]]
noncomputable def dJ(t:Bool)(a l:Nat)(n:Int)(b:List ap):List bD:=
 if t=true then [[.str "test", iN l,.int n,iN (a+1+(f true (a+1) (l+1) b).length+(fL f cnt (a+1+(f true (a+1) (l+1) b).length) l n b).length)]]++f true (a+1) (l+1) b++fL f cnt (a+1+(f true (a+1) (l+1) b).length) l n b
 else fL f cnt a l n b
noncomputable def iz(t:Bool)(a l:Nat):ap→List bD
 | .plain ws=>[ip kv l ws]
 | .lend x y b=>gW kv f cnt t a l x y b
 | .ite n b c=>mZ f cnt t a l n b c
 | .whl n b=>dJ f cnt t a l n b
end
noncomputable def c8(g:Nat→Nat→ap→List bD)(c:ap→Nat):Nat→Nat→List ap→List bD
 | _,_,[]=>[]
 | a,l,s::T=>g a l s++c8 g c (a+(g a l s).length) (l+c s) T
theorem kf(g:Nat→Nat→ap→List bD)(c:ap→Nat)(s:ap):∀ (T:List ap) (a l:Nat),c8 g c a l (T++[s])=c8 g c a l T++g (a+(c8 g c a l T).length) (l+(T.map c).sum) s
 | [],a,l=>by simp[c8]
 | t::T,a,l=>by
  show g a l t++c8 g c _ _ (T++[s])=(g a l t++c8 g c _ _ T)++_
  have e:(c8 g c a l (t::T)).length=(g a l t).length+(c8 g c (a+(g a l t).length) (l+c t) T).length:=zr
  rw[kf g c s T,uV,e,zW,lX,GH,GH]
noncomputable def bI(kv:List (aG × V)):Nat→Bool→Nat→Nat→List ap→List bD
 | 0,_,_,_,_=>[]
 | d+1,t,a,l,T=>c8 (iz kv (bI kv d) (aq d) t) (bx (aq d)) a l T
theorem kz{f:Bool→Nat→Nat→List ap→List bD}{cnt:List ap→Nat}{a l:Nat}{n:Int}{b:List ap}:(fL f cnt a l n b).length=(f false (a+1) (l+1) b).length+2:=by
 unfold fL; simp
theorem zM{kv:List (aG × V)}{f:Bool→Nat→Nat→List ap→List bD}{cnt:List ap→Nat}{m:Nat}(F:∀ a l T,(f false a l T).length≤6 * cnt T)(h1:∀ a l T,(f true a l T).length≤6 * m * cnt T)(J:1≤m):∀ (s:ap) (t:Bool) (a l:Nat),(iz kv f cnt t a l s).length≤(if t=true then 6 * (m+1) else 6) * bx cnt s
 | .plain ws,t,a,l=>by
  show 1≤_ * 1
  split <;> omega
 | .lend x y b,t,a,l=>by
  cases t with
  | false=>
   have:=F (a+3) (l+1) b
   show (gW kv f cnt false a l x y b).length≤6 * (cnt b+2)
   unfold gW;simp only[zr,zx,qR]
   omega
  | true=>
   have:=h1 (a+3) (l+1) b
   show (gW kv f cnt true a l x y b).length≤6 * (m+1) * (cnt b+2)
   unfold gW;simp only[zr,zx,qR]
   have e:6 * (m+1) * (cnt b+2)=6 * m * cnt b+6 * cnt b+12 * m+12:=by rw[uR 6 m 1,Nat.add_mul,uR,uR]; omega
   omega
 | .ite n b c,t,a,l=>by
  cases t with
  | false=>
   have:=F (a+1) (l+1) b
   have:=F (a+1+(f false (a+1) (l+1) b).length+1) (l+1+cnt b+1) c
   show (mZ f cnt false a l n b c).length≤6 * (cnt b+cnt c+3)
   unfold mZ;simp only[zr,zx,qR]
   omega
  | true=>
   have:=h1 (a+1) (l+1) b
   have:=h1 (a+1+(f true (a+1) (l+1) b).length+1) (l+1+cnt b+1) c
   show (mZ f cnt true a l n b c).length≤6 * (m+1) * (cnt b+cnt c+3)
   unfold mZ;simp only[zr,zx,qR]
   have e:6 * (m+1) * (cnt b+cnt c+3)=6 * m * cnt b+6 * m * cnt c+18 * m+6 * cnt b+6 * cnt c+18:=by rw[uR 6 m 1,Nat.add_mul,uR,uR,uR,uR]; omega
   omega
 | .whl n b,t,a,l=>by
  cases t with
  | false=>
   have:=F (a+1) (l+1) b
   show (dJ f cnt false a l n b).length≤6 * (cnt b+2)
   unfold dJ;rw[He (by decide),kz]
   omega
  | true=>
   have:=h1 (a+1) (l+1) b
   have:=F (a+1+(f true (a+1) (l+1) b).length+1) (l+1) b
   show (dJ f cnt true a l n b).length≤6 * (m+1) * (cnt b+2)
   unfold dJ;rw[Hf rfl];simp only[zr,zx,qR,kz]
   have e:6 * (m+1) * (cnt b+2)=6 * m * cnt b+6 * cnt b+12 * m+12:=by rw[uR 6 m 1,Nat.add_mul,uR,uR]; omega
   omega
theorem rL{g:Nat→Nat→ap→List bD}{c:ap→Nat}{k:Nat}(h:∀ s a l,(g a l s).length≤k * c s):∀ (T:List ap) (a l:Nat),(c8 g c a l T).length≤k * (T.map c).sum
 | [],_,_=>vL _
 | s::T,a,l=>by
  have:=h s a l
  have:=rL h T (a+(g a l s).length) (l+c s)
  show (g a l s++c8 g c (a+(g a l s).length) (l+c s) T).length≤k * (c s+(T.map c).sum)
  rw[zr,uR]; omega
theorem rz(kv:List (aG × V)):∀ (d:Nat) (a l:Nat) (T:List ap),(bI kv d false a l T).length≤6 * aq d T∧(bI kv d true a l T).length≤6 * (d+1) * aq d T
 | 0,_,_,_=>⟨vL _,vL _⟩
 | d+1,a,l,T=>by
  have ih:=rz kv d;have st:=zM (kv:=kv) (f:=bI kv d) (cnt:=aq d) (m:=d+1) (fun a l T=>(ih a l T).1) (fun a l T=>(ih a l T).2) (by omega)
  exact⟨rL (k:=6) (fun s a l=>by have:=st s false a l; simpa using this) T a l,rL (k:=6 * (d+1+1)) (fun s a l=>by have:=st s true a l; simpa using this) T a l⟩
def bh(H:Hp)(c:Addr)(r:bD):Prop:=H c=some (.tup r)
noncomputable def dM(ws:List Str):List Str:=if ws.headD "" = "do" then [ws.getD 2 ""] else ws.drop 1
def gA(kv:List (aG × V))(k:aG):Prop:=cf kv k=some (bT kv k)
noncomputable def iw(kv:List (aG × V))(f:Nat→List ap→Prop)(cnt:List ap→Nat)(l:Nat):ap→Prop
 | .plain ws=>(ws.headD "" = "do" → ws.length=3)∧∀ n∈dM ws,gA kv (.inr n)
 | .lend x y b=>gA kv (.inr x)∧gA kv (.inr y)∧gA kv (.inl (l:Int))∧f (l+1) b
 | .ite _ b c=>f (l+1) b∧f (l+1+cnt b+1) c
 | .whl _ b=>f (l+1) b
noncomputable def dX(kv:List (aG × V)):Nat→Nat→List ap→Prop
 | 0,_,_=>False
 | d+1,l,T=>∀ z∈eD (bx (aq d)) l T,iw kv (dX kv d) (aq d) z.1 z.2
section
variable{CN:Addr}
noncomputable def AK(K:W.Frag)(C:Addr):Sp:=fun vs H Q _=>∃ (a sp:Addr) (l:Nat) (ws:List Str) (kv:List (aG × V)) (S:Addr→Prop) (PA:Addr→Nat→List ap→Prop) (g:List ap→Nat) (f:Nat→List ap→Prop),vs=[.ref a,.ref sp]∧A7 K C g S PA H a l (.plain ws)∧gD ws∧H sp=some (.dK kv)∧iw kv f g l (.plain ws)∧
 ∀ (t:Addr) (H':Hp),rm H H'→bh H' t (ip kv l ws)→Q (.ref t) H'
theorem yd(D:Ab K mg "simple_row" bL) (W:mg "tuple" = none) (J:Fl K CN "kind") (F:Fl K CN "parts") (U:Fl K CN "lines"):aH P w K mg base 1 "simple_row" ["step", "slots"] (AK K CN):=by
 refine D.cal (k:=0) ET (fun _ _ _ _ _ _ us hl=>by obtain⟨_,_,rfl⟩:=zu2 us hl;rfl) (fun vs H Q E h=>by obtain⟨_,_,_,_,_,_,_,_,_,rfl,_⟩:=h; rfl) (fun f a7 A outer s H vs Q E hr h=>?_)
 obtain⟨a,sp,l,ws,kv,S,PA,g,ff,rfl,⟨dx,pp,lp,bp,bs,Z,g2,g3,g4,g5,g6,g7⟩,ok,ag,⟨al,O⟩,q⟩:=h
 refine⟨_,(ai (ar 2 ET.nd (ao (aw K) (bB U (pv 0)) ae (fun _ _=>rfl)))
   (ai (bC (aB bb (bB J (pv 0)) ax (aF _)) (aj (aJ (aK (aa ax (aa (pv 2) (aa (ao (qu K) (pv 1 (hv:=Ji)) (ao (aw K) (bB F (pv 0)) ae (fun _ _=>rfl)) (fun _ _=>rfl)) (aa (ao (aw K) (bB F (pv 0)) ae (fun _ _=>rfl)) ac))))))) bz)
   (aj (aJ (ak (fD K) (aK (aa (bB J (pv 0)) (aa (pv 2) ac))) (cM (xZ K) W pC (aa (fI (El.to (fsc:=(rd bL)) (N:=["step", "slots", "line"]) (N0:=["step", "slots", "line"]) (T:=["name"]) ⟨by decide +kernel,by decide +kernel,by decide +kernel,by decide +kernel,by decide +kernel,by decide +kernel,by decide +kernel⟩ rfl rfl) rfl ((ia K) (bB F (pv 0))) (fun _ _ _ _=>(ba 3 (show (["step", "slots", "line", "name"]:List Str).Nodup from by decide +kernel) (hx:=(hJ (rd bL) (by decide +kernel))) (hf:=jW (rd bL) (by decide +kernel)))) (df (show (["step", "slots", "line"]:List Str).length≤3 from by decide)) (fun _ _ _ _=>gE) (fun _ _ _ _=>(ao (qu K) (pv 1 (hv:=(cQ (rd bL) (by decide +kernel)))) (pv 3 (hv:=(cQ (rd bL) (by decide +kernel)))) (fun _ _=>rfl)))) ac))))))),?_⟩
 walk_at "r";refine⟨dx,_,_,Z,dv _ _ _ _,?_⟩
 walk_at "r";refine⟨_,_,.inl (ud.of g4),dO (i:=0) (n:=l) rfl,?_⟩
 walk_at "n";refine⟨dx,_,_,Z,eV _ _ _ _,?_⟩
 walk_at "r";unfold ip at q;unfold dM at O;refine bd (fun c=>?_) (fun c=>?_)
 ·have Y:ws.headD "" = "do" := c
  rw[Hf Y]at q O
  obtain⟨k0,w0,x0,rfl⟩ : ∃ k w x,ws=[k,w,x]:=by
   have:=al Y
   match ws,this with
   | [k,w,x],_=>exact⟨k,w,x,rfl⟩
  have hx:=O x0 (by simp)
  refine⟨dx,_,_,Z,dN _ _ _ _,?_⟩
  walk_at "r";refine⟨_,_,.inr g2,av (j:=1) (v:=.str x0) rfl,?_⟩
  refine .inr ⟨sp,kv,.inr x0,_,rfl,rfl,ag,hx,?_⟩
  refine⟨dx,_,_,Z,dN _ _ _ _,?_⟩
  walk_at "r";refine⟨_,_,.inr g2,av (j:=0) (v:=.str w0) rfl,by decide,fun t ht=>?_⟩
  exact q t _ (ah ht _) af
 ·have Y:¬ ws.headD "" = "do" := c
  rw[He Y]at q O
  walk_at "n";refine⟨dx,_,_,Z,eV _ _ _ _,by decide,fun t1 a4=>?_⟩
  generalize hH1:upd H t1 _=H1
  have s1:rm H H1:=by rw[← hH1]; exact ah a4 _
  have a6:H1 t1=some (.tup [.str (kindOf (.plain ws)),iN l]):=by rw[← hH1]; exact af
  refine⟨dx,_,_,s1 _ _ Z,dN _ _ _ _,?_⟩
  refine⟨pp,rfl,⟨_,g2.same s1⟩,fun L hL=>?_⟩
  have a3:vr K H1 pp ((ws.drop 1).map V.str):=g2.same s1
  have ab:=s1 _ _ ag;refine mV (xs:=(ws.drop 1).map V.str) (fun i ys H'=>rm H1 H'∧H' L=some (.lst ys)∧ys=((ws.drop 1).take i).map fun n=>bT kv (.inr n)) ⟨ah hL _,af,rfl⟩ (fun i ys H' _ hh=>a3.same hh.1) ?_ ?_
  ·rintro i ys H' v hv hi ⟨sm,hl,rfl⟩
   rw[ze]at hi
   rw[zy,zg hi]at hv
   cases hv;have hn:=O _ (v5 hi);have h3:=ok.three;have a5:(ws.drop 1).length≤3:=by rw[GO]; omega
   walk_at "r";refine .inr ⟨sp,kv,.inr (ws.drop 1)[i],_,rfl,rfl,sm _ _ ab,hn,?_⟩
   refine kY (by rw[ze]; exact hi) (by rw[ze,vW]; omega) (by rw[ze]; exact aX (by omega)) hl ⟨sm.upd hL _,af,?_⟩
   rw[pG,zg hi,zP]; rfl
  ·rintro ys H2 ⟨s2,e2,rfl⟩
   rw[ze,tx]at e2
   have h2:=ok.two;have h3:=ok.three;have a5:(ws.drop 1).length≤3∧1≤(ws.drop 1).length:=by rw[GO]; omega
   walk_at "r";refine⟨_,.inl ⟨ud.of e2,fun t2 as=>?_⟩⟩
   have s3:=ah as (.tup ((ws.drop 1).map fun n=>bT kv (.inr n)))
   have ad:upd H2 t2 (.tup ((ws.drop 1).map fun n=>bT kv (.inr n))) t2=some (.tup ((ws.drop 1).map fun n=>bT kv (.inr n))):=af
   generalize upd H2 t2 (.tup ((ws.drop 1).map fun n=>bT kv (.inr n)))=H3 at s3 ad ⊢
   refine⟨_,_,vr.of (s3 _ _ (s2 _ _ a6)),vr.of ad,by simp,by rw[ze]; exact aX (by simp only[zx,qR]; omega),fun hz=>?_,fun _ t3 an=>?_⟩
   ·have:=congrArg List.length hz
    rw[ze]at this
    simp only[qR]at this
    omega
   ·exact q t3 _ (((s1.trans s2).trans s3).trans (ah an _)) af
end
def C3(H:Hp)(q:Addr)(rows:List bD):Prop:=∃ as:List Addr,H q=some (.lst (as.map V.ref))∧Paired (bh H) as rows
theorem C3.mono{H H':Hp}{q:Addr}{F:List bD}(h:C3 H q F)(s:rm H H'):C3 H' q F:=let ⟨as,h1,h2⟩:=h; ⟨as,s _ _ h1,Paired.imp' (fun _ _ z=>s _ _ z) h2⟩
theorem dH{α β : Type}{R:α→β→Prop}:∀ {xs zs:List α} {ys F:List β},Paired R xs ys→Paired R zs F→Paired R (xs++zs) (ys++F)
 | _,_,_,_,.nil,h=>h
 | _,_,_,_,.cons a t,h=>.cons a (dH t h)
theorem dD{H:Hp}{x:Addr}{F bs:List Addr}{O J:List bD}(a2:Paired (bh H) F O)(S:Paired (bh H) bs J)(hx:H x=none):C3 (upd H x (.lst (F.map V.ref++bs.map V.ref))) x (O++J):=by
 have s:=ah hx (.lst (F.map V.ref++bs.map V.ref));exact⟨F++bs,by rw[af,zP],dH (Paired.imp' (fun _ _ z=>s _ _ z) a2) (Paired.imp' (fun _ _ z=>s _ _ z) S)⟩
theorem cX{H:Hp}{F bs:List Addr}{O J:List bD}(a2:Paired (bh H) F O)(S:Paired (bh H) bs J)(hl:O.length+J.length≤1000000):(F.map V.ref).length+(bs.map V.ref).length≤sizeLine:=by
 rw[ze,ze,aI a2,aI S]; exact aX hl
theorem gu{H:Hp}{c x:Addr}{r:bD}(F:bh H c r)(hx:H x=none):C3 (upd H x (.lst [.ref c])) x [r]:=⟨[c],af,.cons (ah hx _ _ _ F) .nil⟩
section
variable{CN:Addr}
noncomputable def gq(K:W.Frag)(C:Addr)(d:Nat):Sp:=fun vs H Q _=>∃ (p sp:Addr) (a l:Nat) (t:Bool) (T:List ap) (kv:List (aG × V)) (S:Addr→Prop),vs=[.ref p,.int (a:Int),.ref sp,.bl t]∧Ap K C S d H p l T∧dk d T∧H sp=some (.dK kv)∧dX kv d l T∧aq d T≤200∧d≤20∧
 ∀ (q:Addr) (H':Hp),rm H H'→H q=none→C3 H' q (bI kv d t a l T)→Q (.ref q) H'
noncomputable def yI(K:W.Frag)(C:Addr)(d:Nat):Sp:=fun vs H Q _=>∃ (x sp:Addr) (a l:Nat) (n:Int) (b:List ap) (kv:List (aG × V)) (S:Addr→Prop),vs=[.ref x,.int (a:Int),.ref sp]∧A7 K C (aq d) S (Ap K C S d H) H x l (.whl n b)∧dk d b∧H sp=some (.dK kv)∧dX kv d (l+1) b∧aq d b≤200∧d≤20∧
 ∀ (q:Addr) (H':Hp),rm H H'→H q=none→C3 H' q (fL (bI kv d) (aq d) a l n b)→Q (.ref q) H'
theorem db{kv:List (aG × V)}{d a l:Nat}{t:Bool}{T:List ap}(h:aq d T≤200)(hd:d≤20):(bI kv d t a l T).length≤30000:=by
 have h1:=rz kv d a l T;have h2:6 * (d+1) * aq d T≤6 * 21 * 200:=Nat.mul_le_mul (by omega) h
 cases t with
 | false=>omega
 | true=>omega
theorem CH(D:Ab K mg "loop_rows" bZ) (Z:mg "len" = none) (U:Fl K CN "parts") (F:Fl K CN "lines") (O:Fl K CN "blocks") {d:Nat} (J:aH P w K mg base (3 * d+2) "rows_of" ["steps", "at", "slots", "turned"] (gq K CN d)):aH P w K mg base (3 * d+3) "loop_rows" ["step", "at", "slots"] (yI K CN d):=by
 refine D.cal (k:=3 * d+2) EF (fun _ _ _ _ _ _ us hl=>by obtain⟨_,_,_,rfl⟩:=zu3 us hl;rfl) (fun vs H Q E h=>by obtain⟨_,_,_,_,_,_,_,_,rfl,_⟩:=h; rfl) (fun f b0 A outer s H vs Q E hr h=>?_)
 obtain⟨x,sp,a,l,n,b,kv,S,rfl,⟨dx,pp,lp,bp,bs,g1,g2,g3,g4,g5,g6,g7⟩,ok,a9,hk,hc,hd,q⟩:=h
 obtain⟨q0,rfl⟩ : ∃ q0,bs=[q0]:=by
  cases g7 with
  | cons _ t=>cases t; exact⟨_,rfl⟩
 have hb:Ap K CN S d H q0 (l+1) b:=by
  cases g7 with
  | cons h _=>exact h
 refine⟨_,(ai (ar 3 EF.nd (ay J hr (aa (ao (aw K) (bB O (pv 0)) ae (fun _ _=>rfl)) (aa (ak az (pv 1) ae) (aa (pv 2) (aa fP ac)))) (hle:=by omega)))
   (ai (ar 4 EF.nd (ak az (ak az (ak az (pv 1) ae) (bi (aV K) Z bK (aa (pv 3) ac))) ae))
   (aj (aJ (ak az (ak az (aY (aa (aK (aa ax (aa (ao (aw K) (bB F (pv 0)) ae (fun _ _=>rfl)) (aa (ao (aw K) (bB U (pv 0)) ae (fun _ _=>rfl)) (aa (pv 4) ac))))) ac)) (pv 3)) (aY (aa (aK (aa ax (aa (ao (aw K) (bB F (pv 0)) ae (fun _ _=>rfl)) (aa (pv 1) ac)))) ac))))))),?_⟩
 walk_at "r";refine⟨dx,_,_,g1,fQ _ _ _ _,?_⟩
 walk_at "r";refine⟨_,_,.inl (ud.of g6),av (j:=0) (v:=V.ref q0) rfl,?_⟩
 refine⟨q0,sp,a+1,l+1,false,b,kv,S,by simp,hb,ok,a9,hk,hc,hd,fun wq H1 s1 bt hW=>?_⟩
 have a8:=db (kv:=kv) (a:=a+1) (l:=l+1) (t:=false) hc hd;generalize hWW:bI kv d false (a+1) (l+1) b=W at hW a8;obtain⟨b3,w1,w2⟩:=id hW
 have wl:=aI w2;walk_at "n";refine⟨_,.inl (ud.of w1),?_⟩
 rw[ze,wl];walk_at "n";refine⟨dx,_,_,s1 _ _ g1,dv _ _ _ _,?_⟩
 walk_at "r";refine⟨_,_,.inl (ud.of (s1 _ _ g4)),dO (i:=0) (n:=l) rfl,?_⟩
 refine⟨dx,_,_,s1 _ _ g1,dN _ _ _ _,?_⟩
 walk_at "r";refine⟨_,_,.inr (g2.same s1),av (j:=0) (v:=V.int n) rfl,by decide,fun t1 be=>?_⟩
 generalize hH2:upd H1 t1 _=H2
 have s2:rm H1 H2:=by rw[← hH2]; exact ah be _
 have bg:bh H2 t1 [.str "test", iN l,.int n,iN (a+1+W.length+1)]:=by
  show H2 t1=_
  rw[← hH2,af];simp[iN]
 refine⟨by decide,fun l1 a4=>?_⟩
 have s3:=ah a4 (.lst [.ref t1]);have L1:=gu bg a4;generalize upd H2 l1 (.lst [.ref t1])=H3 at s3 L1 ⊢;have ad:=s2.trans s3;obtain⟨a5,a1,a2⟩:=L1
 obtain⟨a3,b1,b2⟩:=hW.mono ad
 refine⟨_,_,a1,b1,cX a2 b2 (by simp only[zx,qR]; omega),fun l2 ag=>?_⟩
 have s4:=ah ag (.lst (a5.map V.ref++a3.map V.ref));have L2:=dD a2 b2 ag;generalize upd H3 l2 (.lst (a5.map V.ref++a3.map V.ref))=H4 at s4 L2 ⊢;have Y:=(s1.trans ad).trans s4;refine⟨dx,_,_,Y _ _ g1,dv _ _ _ _,?_⟩
 walk_at "r";refine⟨_,_,.inl (ud.of (Y _ _ g4)),dO (i:=1) (n:=l+1+aq d b) rfl,by decide,fun t2 a6=>?_⟩
 generalize hH5:upd H4 t2 _=H5
 have s5:rm H4 H5:=by rw[← hH5]; exact ah a6 _
 have a7:bh H5 t2 [.str "jump", iN (l+1+aq d b),iN a]:=by
  show H5 t2=_
  rw[← hH5,af];simp[iN]
 refine⟨by decide,fun l3 an=>?_⟩
 have s6:=ah an (.lst [.ref t2]);have L3:=gu a7 an;generalize upd H5 l3 (.lst [.ref t2])=H6 at s6 L3 ⊢;obtain⟨as,c1,c2⟩:=L2.mono (s5.trans s6)
 obtain⟨al,d1,d2⟩:=L3
 refine⟨_,_,c1,d1,cX c2 d2 (by simp only[zr,zx,qR]; omega),fun l4 ab=>?_⟩
 have s7:=ah ab (.lst (as.map V.ref++al.map V.ref));have L4:=dD c2 d2 ab;generalize upd H6 l4 (.lst (as.map V.ref++al.map V.ref))=H7 at s7 L4 ⊢;refine q l4 H7 (((Y.trans s5).trans s6).trans s7) (((Y.trans s5).trans s6).free ab) ?_
 unfold fL;rw[hWW];exact L4
end
section
variable{CN:Addr}
noncomputable def zC(K:W.Frag)(C:Addr)(d:Nat):Sp:=fun vs H Q _=>∃ (x sp:Addr) (a l:Nat) (t:Bool) (n:Int) (b:List ap) (kv:List (aG × V)) (S:Addr→Prop),vs=[.ref x,.int (a:Int),.ref sp,.bl t]∧A7 K C (aq d) S (Ap K C S d H) H x l (.whl n b)∧dk d b∧H sp=some (.dK kv)∧dX kv d (l+1) b∧aq d b≤200∧d≤20∧
 ∀ (q:Addr) (H':Hp),rm H H'→H q=none→C3 H' q (dJ (bI kv d) (aq d) t a l n b)→Q (.ref q) H'
theorem AI(D:Ab K mg "while_rows" bv) (O:mg "len" = none) (Z:Fl K CN "parts") (ab:Fl K CN "lines") (U:Fl K CN "blocks") {d:Nat} (J:aH P w K mg base (3 * d+2) "rows_of" ["steps", "at", "slots", "turned"] (gq K CN d)) (F:aH P w K mg base (3 * d+3) "loop_rows" ["step", "at", "slots"] (yI K CN d)):aH P w K mg base (3 * d+4) "while_rows" ["step", "at", "slots", "turned"] (zC K CN d):=by
 refine D.cal (k:=3 * d+3) Ef (fun _ _ _ _ _ _ us hl=>by obtain⟨_,_,_,_,rfl⟩:=zu4 us hl;rfl) (fun vs H Q E h=>by obtain⟨_,_,_,_,_,_,_,_,_,rfl,_⟩:=h; rfl) (fun f b4 A outer s H vs Q E hr h=>?_)
 obtain⟨x,sp,a,l,t,n,b,kv,S,rfl,hN,ok,ag,hk,hc,hd,q⟩:=h
 obtain⟨dx,pp,lp,bp,bs,g1,g2,g3,g4,g5,g6,g7⟩:=id hN
 obtain⟨q0,rfl⟩ : ∃ q0,bs=[q0]:=by
  cases g7 with
  | cons _ t=>cases t; exact⟨_,rfl⟩
 have hb:Ap K CN S d H q0 (l+1) b:=by
  cases g7 with
  | cons h _=>exact h
 refine⟨_,(ai (bC (jp (dU (pv 3))) (aj (aJ (ay F hr (aa (pv 0) (aa (pv 1) (aa (pv 2) ac))) (hle:=by omega)))) bz)
   (ai (ar 4 Ef.nd (ay J hr (aa (ao (aw K) (bB U (pv 0)) ae (fun _ _=>rfl)) (aa (ak az (pv 1) ae) (aa (pv 2) (aa fP ac)))) (hle:=by omega)))
   (ai (ar 5 Ef.nd (ay F hr (aa (pv 0) (aa (ak az (ak az (pv 1) ae) (bi (aV K) O bK (aa (pv 4) ac))) (aa (pv 2) ac))) (hle:=by omega)))
   (ai (ar 6 Ef.nd (ak az (ak az (ak az (pv 1) ae) (bi (aV K) O bK (aa (pv 4) ac))) (bi (aV K) O bK (aa (pv 5) ac))))
   (aj (aJ (ak az (ak az (aY (aa (aK (aa ax (aa (ao (aw K) (bB ab (pv 0)) ae (fun _ _=>rfl)) (aa (ao (aw K) (bB Z (pv 0)) ae (fun _ _=>rfl)) (aa (pv 6) ac))))) ac)) (pv 4)) (pv 5)))))))),?_⟩
 walk_at "r"
 cases t with
 | false=>
  refine bd (fun _=>?_) (fun c=>absurd rfl c)
  exact⟨x,sp,a,l,n,b,kv,S,rfl,hN,ok,ag,hk,hc,hd,fun q' H' s' bt L'=>q q' H' s' bt (by unfold dJ; rw[He (by decide)]; exact L')⟩
 | true=>
  refine bd (fun c=>absurd c (by decide)) (fun _=>?_)
  walk_at "n";refine⟨dx,_,_,g1,fQ _ _ _ _,?_⟩
  walk_at "r";refine⟨_,_,.inl (ud.of g6),av (j:=0) (v:=V.ref q0) rfl,?_⟩
  refine⟨q0,sp,a+1,l+1,true,b,kv,S,by simp,hb,ok,ag,hk,hc,hd,fun wq H1 s1 b0 hW=>?_⟩
  have a8:=db (kv:=kv) (a:=a+1) (l:=l+1) (t:=true) hc hd;generalize hWW:bI kv d true (a+1) (l+1) b=W at hW a8;obtain⟨cb,w1,w2⟩:=id hW
  have wl:=aI w2;walk_at "n";refine⟨_,.inl (ud.of w1),?_⟩
  rw[ze,wl];walk_at "r";refine⟨x,sp,a+1+W.length,l,n,b,kv,S,by simp,hN.mono s1,ok,s1 _ _ ag,hk,hc,hd,fun lq H2 s2 ca al=>?_⟩
  have be:(fL (bI kv d) (aq d) (a+1+W.length) l n b).length≤30002:=by
   rw[kz];have:=db (kv:=kv) (a:=a+1+W.length+1) (l:=l+1) (t:=false) hc hd
   omega
  generalize hLL:fL (bI kv d) (aq d) (a+1+W.length) l n b=LP at al be;obtain⟨b3,l1,l2⟩:=id al
  have ll:=aI l2;have Y:=s1.trans s2;walk_at "n";refine⟨_,.inl (ud.of (s2 _ _ w1)),?_⟩
  rw[ze,wl];walk_at "r";refine⟨_,.inl (ud.of l1),?_⟩
  rw[ze,ll];walk_at "n";refine⟨dx,_,_,Y _ _ g1,dv _ _ _ _,?_⟩
  walk_at "r";refine⟨_,_,.inl (ud.of (Y _ _ g4)),dO (i:=0) (n:=l) rfl,?_⟩
  refine⟨dx,_,_,Y _ _ g1,dN _ _ _ _,?_⟩
  walk_at "r";refine⟨_,_,.inr (g2.same Y),av (j:=0) (v:=V.int n) rfl,by decide,fun t1 a9=>?_⟩
  generalize hH3:upd H2 t1 _=H3
  have s3:rm H2 H3:=by rw[← hH3]; exact ah a9 _
  have bg:bh H3 t1 [.str "test", iN l,.int n,iN (a+1+W.length+LP.length)]:=by
   show H3 t1=_
   rw[← hH3,af];simp[iN]
  refine⟨by decide,fun m1 a4=>?_⟩
  have s4:=ah a4 (.lst [.ref t1]);have L1:=gu bg a4;generalize upd H3 m1 (.lst [.ref t1])=H4 at s4 L1 ⊢;obtain⟨a7,a1,a2⟩:=L1
  obtain⟨a6,b1,b2⟩:=hW.mono ((s2.trans s3).trans s4)
  refine⟨_,_,a1,b1,cX a2 b2 (by simp only[zx,qR]; omega),fun m2 a3=>?_⟩
  have s5:=ah a3 (.lst (a7.map V.ref++a6.map V.ref));have L2:=dD a2 b2 a3;generalize upd H4 m2 (.lst (a7.map V.ref++a6.map V.ref))=H5 at s5 L2 ⊢;obtain⟨a5,c1,c2⟩:=L2
  obtain⟨as,d1,d2⟩:=al.mono ((s3.trans s4).trans s5)
  refine⟨_,_,c1,d1,cX c2 d2 (by simp only[zr,zx,qR]; omega),fun m3 ad=>?_⟩
  have s6:=ah ad (.lst (a5.map V.ref++as.map V.ref));have L4:=dD c2 d2 ad;generalize upd H5 m3 (.lst (a5.map V.ref++as.map V.ref))=H6 at s6 L4 ⊢;have an:=((Y.trans s3).trans s4).trans s5;refine q m3 H6 (an.trans s6) (an.free ad) ?_
  unfold dJ;rw[Hf rfl,hWW,hLL];exact L4
noncomputable def FX(K:W.Frag)(C:Addr)(d:Nat):Sp:=fun vs H Q _=>∃ (x sp:Addr) (a l:Nat) (t:Bool) (n:Int) (b c:List ap) (kv:List (aG × V)) (S:Addr→Prop),vs=[.ref x,.int (a:Int),.ref sp,.bl t]∧A7 K C (aq d) S (Ap K C S d H) H x l (.ite n b c)∧dk d b∧dk d c∧H sp=some (.dK kv)∧dX kv d (l+1) b∧dX kv d (l+1+aq d b+1) c∧aq d b≤200∧aq d c≤200∧d≤20∧
 ∀ (q:Addr) (H':Hp),rm H H'→H q=none→C3 H' q (mZ (bI kv d) (aq d) t a l n b c)→Q (.ref q) H'
theorem FY(D:Ab K mg "if_rows" bG) (U:mg "len" = none) (Y:Fl K CN "parts") (O:Fl K CN "lines") (J:Fl K CN "blocks") {d:Nat} (F:aH P w K mg base (3 * d+2) "rows_of" ["steps", "at", "slots", "turned"] (gq K CN d)):aH P w K mg base (3 * d+3) "if_rows" ["step", "at", "slots", "turned"] (FX K CN d):=by
 refine D.cal (k:=3 * d+2) Ee (fun _ _ _ _ _ _ us hl=>by obtain⟨_,_,_,_,rfl⟩:=zu4 us hl;rfl) (fun vs H Q E h=>by obtain⟨_,_,_,_,_,_,_,_,_,_,rfl,_⟩:=h; rfl) (fun f cv A outer s H vs Q E hr h=>?_)
 obtain⟨x,sp,a,l,t,n,b,c,kv,S,rfl,hN,ok,b3,a7,hk,cc,hc,a4,hd,q⟩:=h
 obtain⟨dx,pp,lp,bp,bs,g1,g2,g3,g4,g5,g6,g7⟩:=id hN
 obtain⟨q0,q1,rfl⟩ : ∃ q0 q1,bs=[q0,q1]:=by
  cases g7 with
  | cons _ t=>cases t with
   | cons _ t=>cases t; exact⟨_,_,rfl⟩
 have hb:Ap K CN S d H q0 (l+1) b∧Ap K CN S d H q1 (l+1+aq d b+1) c:=by
  cases g7 with
  | cons h t=>cases t with
   | cons h' _=>exact⟨h,h'⟩
 refine⟨_,(ai (ar 4 Ee.nd (ay F hr (aa (ao (aw K) (bB J (pv 0)) ae (fun _ _=>rfl)) (aa (ak az (pv 1) ae) (aa (pv 2) (aa (pv 3) ac)))) (hle:=by omega)))
   (ai (ar 5 Ee.nd (ak az (ak az (pv 1) ae) (bi (aV K) U bK (aa (pv 4) ac))))
   (ai (ar 6 Ee.nd (ay F hr (aa (ao (aw K) (bB J (pv 0)) ae (fun _ _=>rfl)) (aa (ak az (pv 5) ae) (aa (pv 2) (aa (pv 3) ac)))) (hle:=by omega)))
   (ai (ar 7 Ee.nd (ak az (ak az (pv 5) ae) (bi (aV K) U bK (aa (pv 6) ac))))
   (ai (ar 8 Ee.nd (aK (aa ax (aa (ao (aw K) (bB O (pv 0)) ae (fun _ _=>rfl)) (aa (ao (aw K) (bB Y (pv 0)) ae (fun _ _=>rfl)) (aa (ak az (pv 5) ae) ac))))))
   (aj (aJ (ak az (ak az (ak az (aY (aa (pv 8) ac)) (pv 4)) (aY (aa (aK (aa ax (aa (ao (aw K) (bB O (pv 0)) ae (fun _ _=>rfl)) (aa (pv 7) ac)))) ac))) (pv 6))))))))),?_⟩
 walk_at "r";refine⟨dx,_,_,g1,fQ _ _ _ _,?_⟩
 walk_at "r";refine⟨_,_,.inl (ud.of g6),av (j:=0) (v:=V.ref q0) rfl,?_⟩
 refine⟨q0,sp,a+1,l+1,t,b,kv,S,by simp,hb.1,ok,a7,hk,hc,hd,fun wq H1 s1 cl hW=>?_⟩
 have b4:=db (kv:=kv) (a:=a+1) (l:=l+1) (t:=t) hc hd;generalize hWW:bI kv d t (a+1) (l+1) b=W at hW b4;obtain⟨cB,w1,w2⟩:=id hW
 have wl:=aI w2;walk_at "n";refine⟨_,.inl (ud.of w1),?_⟩
 rw[ze,wl];walk_at "n";refine⟨dx,_,_,s1 _ _ g1,fQ _ _ _ _,?_⟩
 walk_at "r";refine⟨_,_,.inl (ud.of (s1 _ _ g6)),av (j:=1) (v:=V.ref q1) rfl,?_⟩
 refine⟨q1,sp,a+1+W.length+1,l+1+aq d b+1,t,c,kv,S,by simp,hb.2.mono s1,b3,s1 _ _ a7,cc,a4,hd,fun rq H2 s2 cq hR=>?_⟩
 have cb:=db (kv:=kv) (a:=a+1+W.length+1) (l:=l+1+aq d b+1) (t:=t) a4 hd;generalize hRR:bI kv d t (a+1+W.length+1) (l+1+aq d b+1) c=R at hR cb;obtain⟨cA,r1,r2⟩:=id hR
 have rl:=aI r2;have Z:=s1.trans s2;walk_at "n";refine⟨_,.inl (ud.of r1),?_⟩
 rw[ze,rl];walk_at "n";refine⟨dx,_,_,Z _ _ g1,dv _ _ _ _,?_⟩
 walk_at "r";refine⟨_,_,.inl (ud.of (Z _ _ g4)),dO (i:=0) (n:=l) rfl,?_⟩
 refine⟨dx,_,_,Z _ _ g1,dN _ _ _ _,?_⟩
 walk_at "r";refine⟨_,_,.inr (g2.same Z),av (j:=0) (v:=V.int n) rfl,by decide,fun t1 b0=>?_⟩
 generalize hH3:upd H2 t1 _=H3
 have s3:rm H2 H3:=by rw[← hH3]; exact ah b0 _
 have cd:bh H3 t1 [.str "test", iN l,.int n,iN (a+1+W.length+1)]:=by
  show H3 t1=_
  rw[← hH3,af];simp[iN]
 walk_at "n";refine⟨by decide,fun m1 bg=>?_⟩
 have s4:=ah bg (.lst [.ref t1]);have L1:=gu cd bg;generalize upd H3 m1 (.lst [.ref t1])=H4 at s4 L1 ⊢;obtain⟨an,a1,a2⟩:=L1
 obtain⟨a8,b1,b2⟩:=hW.mono ((s2.trans s3).trans s4)
 refine⟨_,_,a1,b1,cX a2 b2 (by simp only[zx,qR]; omega),fun m2 be=>?_⟩
 have s5:=ah be (.lst (an.map V.ref++a8.map V.ref));have L2:=dD a2 b2 be;generalize upd H4 m2 (.lst (an.map V.ref++a8.map V.ref))=H5 at s5 L2 ⊢;have ad:=((Z.trans s3).trans s4).trans s5;refine⟨dx,_,_,ad _ _ g1,dv _ _ _ _,?_⟩
 walk_at "r";refine⟨_,_,.inl (ud.of (ad _ _ g4)),dO (i:=1) (n:=l+1+aq d b) rfl,by decide,fun t2 bt=>?_⟩
 generalize hH6:upd H5 t2 _=H6
 have s6:rm H5 H6:=by rw[← hH6]; exact ah bt _
 have ca:bh H6 t2 [.str "jump", iN (l+1+aq d b),iN (a+1+W.length+1+R.length)]:=by
  show H6 t2=_
  rw[← hH6,af];simp[iN]
 refine⟨by decide,fun m3 a6=>?_⟩
 have s7:=ah a6 (.lst [.ref t2]);have L3:=gu ca a6;generalize upd H6 m3 (.lst [.ref t2])=H7 at s7 L3 ⊢;obtain⟨a3,c1,c2⟩:=L2.mono (s6.trans s7)
 obtain⟨al,d1,d2⟩:=L3
 refine⟨_,_,c1,d1,cX c2 d2 (by simp only[zr,zx,qR]; omega),fun m4 as=>?_⟩
 have s8:=ah as (.lst (a3.map V.ref++al.map V.ref));have L4:=dD c2 d2 as;generalize upd H7 m4 (.lst (a3.map V.ref++al.map V.ref))=H8 at s8 L4 ⊢;obtain⟨ag,e1,e2⟩:=L4
 obtain⟨a5,f1,f2⟩:=hR.mono (((((s3.trans s4).trans s5).trans s6).trans s7).trans s8)
 refine⟨_,_,e1,f1,cX e2 f2 (by simp only[zr,zx,qR]; omega),fun m5 ab=>?_⟩
 have s9:=ah ab (.lst (ag.map V.ref++a5.map V.ref));have L5:=dD e2 f2 ab;generalize upd H8 m5 (.lst (ag.map V.ref++a5.map V.ref))=H9 at s9 L5 ⊢;have a9:=((ad.trans s6).trans s7).trans s8;refine q m5 H9 (a9.trans s9) (a9.free ab) ?_
 unfold mZ;rw[hWW,hRR];exact L5
end
section
variable{CN:Addr}
noncomputable def B1(K:W.Frag)(C:Addr)(d:Nat):Sp:=fun vs H Q _=>∃ (z sp:Addr) (a l:Nat) (t:Bool) (x y:Str) (b:List ap) (kv:List (aG × V)) (S:Addr→Prop),vs=[.ref z,.int (a:Int),.ref sp,.bl t]∧A7 K C (aq d) S (Ap K C S d H) H z l (.lend x y b)∧dk d b∧H sp=some (.dK kv)∧gA kv (.inr x)∧gA kv (.inr y)∧gA kv (.inl (l:Int))∧dX kv d (l+1) b∧aq d b≤200∧d≤20∧
 ∀ (q:Addr) (H':Hp),rm H H'→H q=none→C3 H' q (gW kv (bI kv d) (aq d) t a l x y b)→Q (.ref q) H'
theorem k_{H:Hp}{F J O x:Addr}{U W S:bD}(h1:bh H F U)(h2:bh H J W)(Y:bh H O S)(hx:H x=none):C3 (upd H x (.lst [.ref F,.ref J,.ref O])) x [U,W,S]:=⟨[F,J,O],af,.cons (ah hx _ _ _ h1) (.cons (ah hx _ _ _ h2) (.cons (ah hx _ _ _ Y) .nil))⟩
theorem Cw(D:Ab K mg "lend_rows" aS) (ad:mg "len" = none) (F:Fl K CN "parts") (J:Fl K CN "lines") (U:Fl K CN "blocks") {d:Nat} (O:aH P w K mg base (3 * d+2) "rows_of" ["steps", "at", "slots", "turned"] (gq K CN d)):aH P w K mg base (3 * d+3) "lend_rows" ["step", "at", "slots", "turned"] (B1 K CN d):=by
 refine D.cal (k:=3 * d+2) AU (fun _ _ _ _ _ _ us hl=>by obtain⟨_,_,_,_,rfl⟩:=zu4 us hl;rfl) (fun vs H Q E h=>by obtain⟨_,_,_,_,_,_,_,_,_,_,rfl,_⟩:=h; rfl) (fun f cq A outer s H vs Q E hr h=>?_)
 obtain⟨z,sp,a,l,t,x,y,b,kv,S,rfl,hN,ok,Z,kx,ky,kl,hk,hc,hd,q⟩:=h
 obtain⟨dx,pp,lp,bp,bs,g1,g2,g3,g4,g5,g6,g7⟩:=id hN
 obtain⟨q0,rfl⟩ : ∃ q0,bs=[q0]:=by
  cases g7 with
  | cons _ t=>cases t; exact⟨_,rfl⟩
 have hb:Ap K CN S d H q0 (l+1) b:=by
  cases g7 with
  | cons h _=>exact h
 refine⟨_,(ai (ar 4 AU.nd (ao (aw K) (bB J (pv 0)) ae (fun _ _=>rfl)))
   (ai (ar 5 AU.nd (ao (aw K) (bB J (pv 0)) ae (fun _ _=>rfl)))
   (ai (ar 6 AU.nd (ao (qu K) (pv 2) (ao (aw K) (bB F (pv 0)) ae (fun _ _=>rfl)) (fun _ _=>rfl)))
   (ai (ar 7 AU.nd (ao (qu K) (pv 2) (ao (aw K) (bB F (pv 0)) ae (fun _ _=>rfl)) (fun _ _=>rfl)))
   (ai (ar 8 AU.nd (ao (qu K) (pv 2) (pv 4) (fun _ _=>rfl)))
   (ai (ar 9 AU.nd (aY (aa (aK (aa ax (aa (pv 4) (aa (pv 8) (aa (pv 6) ac))))) (aa (aK (aa ax (aa (pv 4) (aa (pv 8) (aa ax ac))))) (aa (aK (aa ax (aa (pv 4) (aa (pv 7) (aa (pv 8) ac))))) ac)))))
   (ai (ar 10 AU.nd (ay O hr (aa (ao (aw K) (bB U (pv 0)) ae (fun _ _=>rfl)) (aa (ak az (pv 1) (bi (aV K) ad bK (aa (pv 9) ac))) (aa (pv 2) (aa (pv 3) ac)))) (hle:=by omega)))
   (aj (aJ (ak az (ak az (pv 9) (pv 10)) (aY (aa (aK (aa ax (aa (pv 5) (aa (pv 8) (aa ax ac))))) (aa (aK (aa ax (aa (pv 5) (aa (pv 7) ac)))) (aa (aK (aa ax (aa (pv 5) (aa (pv 8) ac)))) ac)))))))))))))),?_⟩
 walk_at "r";refine⟨dx,_,_,g1,dv _ _ _ _,?_⟩
 walk_at "r";refine⟨_,_,.inl (ud.of g4),dO (i:=0) (n:=l) rfl,?_⟩
 walk_at "n";refine⟨dx,_,_,g1,dv _ _ _ _,?_⟩
 walk_at "r";refine⟨_,_,.inl (ud.of g4),dO (i:=1) (n:=l+1+aq d b) rfl,?_⟩
 walk_at "n";refine⟨dx,_,_,g1,dN _ _ _ _,?_⟩
 walk_at "r";refine⟨_,_,.inr g2,av (j:=0) (v:=V.str x) rfl,.inr ⟨sp,kv,.inr x,_,rfl,rfl,Z,kx,?_⟩⟩
 walk_at "n";refine⟨dx,_,_,g1,dN _ _ _ _,?_⟩
 walk_at "r";refine⟨_,_,.inr g2,av (j:=1) (v:=V.str y) rfl,.inr ⟨sp,kv,.inr y,_,rfl,rfl,Z,ky,?_⟩⟩
 walk_at "n";refine .inr ⟨sp,kv,.inl (l:Int),_,rfl,rfl,Z,kl,?_⟩
 generalize hgx:bT kv (.inr x)=gx
 generalize hgy:bT kv (.inr y)=gy
 generalize hgl:bT kv (.inl (l:Int))=gl
 walk_at "n";refine⟨by decide,fun t1 bt=>?_⟩
 generalize hH1:upd H t1 _=H1
 have s1:rm H H1:=by rw[← hH1]; exact ah bt _
 have r1:bh H1 t1 [.str "copy", iN l,gl,gx]:=by show H1 t1=_; rw[← hH1]; exact af
 refine⟨by decide,fun t2 bg=>?_⟩
 generalize hH2:upd H1 t2 _=H2
 have s2:rm H1 H2:=by rw[← hH2]; exact ah bg _
 have r2:bh H2 t2 [.str "do", iN l,gl,.str "lend"]:=by show H2 t2=_; rw[← hH2]; exact af
 refine⟨by decide,fun t3 cd=>?_⟩
 generalize hH3:upd H2 t3 _=H3
 have s3:rm H2 H3:=by rw[← hH3]; exact ah cd _
 have r3:bh H3 t3 [.str "copy", iN l,gy,gl]:=by show H3 t3=_; rw[← hH3]; exact af
 refine⟨by decide,fun m1 a8=>?_⟩
 have s4:=ah a8 (.lst [.ref t1,.ref t2,.ref t3]);have L1:=k_ (s3 _ _ (s2 _ _ r1)) (s3 _ _ r2) r3 a8;have a4:upd H3 m1 (.lst [.ref t1,.ref t2,.ref t3]) m1=some (.lst [.ref t1,.ref t2,.ref t3]):=af
 generalize upd H3 m1 (.lst [.ref t1,.ref t2,.ref t3])=H4 at s4 L1 a4 ⊢;have Y:=((s1.trans s2).trans s3).trans s4;walk_at "n";refine⟨dx,_,_,Y _ _ g1,fQ _ _ _ _,?_⟩
 walk_at "r";refine⟨_,_,.inl (ud.of (Y _ _ g6)),av (j:=0) (v:=V.ref q0) rfl,?_⟩
 walk_at "r";refine⟨_,.inl (ud.of a4),?_⟩
 refine⟨q0,sp,a+3,l+1,t,b,kv,S,by simp,hb.mono Y,ok,Y _ _ Z,hk,hc,hd,fun wq H5 s5 cl hW=>?_⟩
 have cb:=db (kv:=kv) (a:=a+3) (l:=l+1) (t:=t) hc hd;generalize hWW:bI kv d t (a+3) (l+1) b=W at hW cb;have cc:=Y.trans s5;walk_at "n";obtain⟨as,a1,a2⟩:=L1.mono s5
 obtain⟨a6,b1,b2⟩:=id hW
 refine⟨_,_,a1,b1,cX a2 b2 (by simp only[zx,qR]; omega),fun m2 a7=>?_⟩
 have s6:=ah a7 (.lst (as.map V.ref++a6.map V.ref));have L2:=dD a2 b2 a7;generalize upd H5 m2 (.lst (as.map V.ref++a6.map V.ref))=H6 at s6 L2 ⊢;refine⟨by decide,fun t4 b4=>?_⟩
 generalize hH7:upd H6 t4 _=H7
 have s7:rm H6 H7:=by rw[← hH7]; exact ah b4 _
 have r4:bh H7 t4 [.str "do", iN (l+1+aq d b),gl,.str "back"]:=by show H7 t4=_; rw[← hH7]; exact af
 refine⟨by decide,fun t5 b3=>?_⟩
 generalize hH8:upd H7 t5 _=H8
 have s8:rm H7 H8:=by rw[← hH8]; exact ah b3 _
 have r5:bh H8 t5 [.str "drop", iN (l+1+aq d b),gy]:=by show H8 t5=_; rw[← hH8]; exact af
 refine⟨by decide,fun t6 b0=>?_⟩
 generalize hH9:upd H8 t6 _=H9
 have s9:rm H8 H9:=by rw[← hH9]; exact ah b0 _
 have r6:bh H9 t6 [.str "drop", iN (l+1+aq d b),gl]:=by show H9 t6=_; rw[← hH9]; exact af
 refine⟨by decide,fun m3 a5=>?_⟩
 have ag:=ah a5 (.lst [.ref t4,.ref t5,.ref t6]);have L3:=k_ (s9 _ _ (s8 _ _ r4)) (s9 _ _ r5) r6 a5;generalize upd H9 m3 (.lst [.ref t4,.ref t5,.ref t6])=be at ag L3 ⊢;obtain⟨a3,c1,c2⟩:=L2.mono (((s7.trans s8).trans s9).trans ag)
 obtain⟨an,d1,d2⟩:=L3
 refine⟨_,_,c1,d1,cX c2 d2 (by simp only[zr,zx,qR]; omega),fun m4 al=>?_⟩
 have a9:=ah al (.lst (a3.map V.ref++an.map V.ref));have L4:=dD c2 d2 al;generalize upd be m4 (.lst (a3.map V.ref++an.map V.ref))=ca at a9 L4 ⊢;have ab:=((((cc.trans s6).trans s7).trans s8).trans s9).trans ag;refine q m4 ca (ab.trans a9) (ab.free al) ?_
 unfold gW;rw[hWW,hgx,hgy,hgl];exact L4
theorem tj(D:Ab K mg "rows_of" bP) (DL:Ab K mg "lend_rows" aS) (DI:Ab K mg "if_rows" bG) (DO:Ab K mg "loop_rows" bZ) (DW:Ab K mg "while_rows" bv) (DS:Ab K mg "simple_row" bL) (W:mg "len" = none) (ag:mg "tuple" = none) (U:Fl K CN "kind") (F:Fl K CN "parts") (O:Fl K CN "lines") (J:Fl K CN "blocks"):∀ d:Nat,aH P w K mg base (3 * d+2) "rows_of" ["steps", "at", "slots", "turned"] (gq K CN d)
 | 0=>D.cal (k:=1) Em (fun _ _ _ _ _ _ us hl=>by obtain⟨_,_,_,_,rfl⟩:=zu4 us hl;rfl) (fun vs H Q E h=>by obtain⟨_,_,_,_,_,_,_,_,rfl,_⟩:=h; rfl) (fun f cv A outer s H vs Q E hr h=>by obtain⟨_,_,_,_,_,_,_,_,rfl,z,_⟩:=h; exact z.elim)
 | d+1=>by
  have ih:=tj D DL DI DO DW DS W ag U F O J d;have ad:=Cw DL W F O J ih;have al:=FY DI W F O J ih;have Z:=AI DW W F O J ih (CH DO W F O J ih);have Y:=yd (P:=P) (w:=w) (base:=base) DS ag U F O;refine D.cal (k:=3 * d+4) Em (fun _ _ _ _ _ _ us hl=>by obtain⟨_,_,_,_,rfl⟩:=zu4 us hl;rfl) (fun vs H Q E h=>by obtain⟨_,_,_,_,_,_,_,_,rfl,_⟩:=h; rfl) (fun f cv A outer s H vs Q E hr h=>?_)
  obtain⟨p,sp,a,l,t,T,kv,S,rfl,⟨h0,as,h1,h2⟩,ok,a9,hk,hc,hd,q⟩:=h
  have be:=aI h2;rw[fF]at be
  refine⟨_,(ai (ar 4 Em.nd (aY ac))
   (ai (b6 wG rfl (ci K (pv 0)) (ba 5 Em.nd) (ai (ar 6 Em.nd (ak az (pv 1) (bi (aV K) W bK (aa (pv 4) ac))))
   (aj (bC (aB bb (bB U (pv 5)) ax (aF _)) (aj (bc (bA K qL zaS zaT fg (pv 4) (aa (ay ad hr (aa (pv 5) (aa (pv 6) (aa (pv 2) (aa (pv 3) ac)))) (hle:=by omega)) ac)))) (aj (bC (aB bb (bB U (pv 5)) ax (aF _)) (aj (bc (bA K qL zaS zaT fg (pv 4) (aa (ay al hr (aa (pv 5) (aa (pv 6) (aa (pv 2) (aa (pv 3) ac)))) (hle:=by omega)) ac)))) (aj (bC (aB bb (bB U (pv 5)) ax (aF _)) (aj (bc (bA K qL zaS zaT fg (pv 4) (aa (ay Z hr (aa (pv 5) (aa (pv 6) (aa (pv 2) (aa (pv 3) ac)))) (hle:=by omega)) ac)))) (aj (bc (bA K qL vQ vT bo (pv 4) (aa (ay Y hr (aa (pv 5) (aa (pv 2) ac)) (hle:=by omega)) ac))))))))))))
   (aj (aJ (pv 4))))),?_⟩
  walk_at "r";refine⟨by decide,fun R hR=>?_⟩
  have s1:=ah hR (.lst []);have b2:upd H R (.lst []) R=some (.lst (([]:List Addr).map V.ref)):=af
  generalize upd H R (.lst [])=H1 at s1 b2 ⊢;walk_at "n";refine⟨⟨_,ud.of (s1 _ _ h1)⟩,?_⟩
  have ca:∀ {z:Addr} {o:HO},H z=some o→z≠R:=fun e=>aA e hR
  refine cw (xs:=as.map V.ref) (fun i σ H'=>∃ (o5 o6:Option V),σ=[some (.ref p),some (.int (a:Int)),some (.ref sp),some (.bl t),some (.ref R),o5,o6]∧rm H H'∧C3 H' R (bI kv (d+1) t a l (T.take i)))
   ⟨_,_,rfl,s1,[],b2,.nil⟩ (fun i σ H' _ hh=>by obtain⟨_,_,_,sm,_⟩:=hh; exact ud.of (sm _ _ h1)) (fun i v σ H2 hv hh=>?_) (fun σ H2 hh=>?_)
  ·obtain⟨o5,o6,rfl,sm,b1,r1,r2⟩:=hh
   rw[zy]at hv
   cases hi:as[i]? with
   | none=>rw[hi]at hv; cases hv
   | some x=>
    rw[hi]at hv; cases hv
    have b3:i<T.length:=by have:=(Hd.mp hi).1; omega
    have hs:=zg b3;have hz:=tH (bx (aq d)) l T i _ hs;obtain⟨z,a8,bt⟩:=b8 h2 hi
    rw[hz]at a8
    have a8:=Option.some.inj a8;subst a8;have a4:=hk _ (vx hz);have a7:=v5 b3;generalize T[i]=st at hs hz bt a4 a7;have a3:=ok st a7;have c3:=me (d:=d) a7;generalize hl':l+((T.take i).map (bx (aq d))).sum=l' at hz bt a4;have cl:T.take (i+1)=T.take i++[st]:=by rw[pG,hs]; rfl
    have cd:bI kv (d+1) t a l (T.take (i+1))=bI kv (d+1) t a l (T.take i)++iz kv (bI kv d) (aq d) t (a+(bI kv (d+1) t a l (T.take i)).length) l' st:=by
     rw[cl];show c8 _ _ a l (T.take i++[st])=_
     rw[kf,hl']; rfl
    have cB:=qT (d:=d) (i:=i) (T:=T);have cb:=db (kv:=kv) (d:=d+1) (a:=a) (l:=l) (t:=t) (T:=T.take i) (by omega) hd
    rw[cd];generalize bI kv (d+1) t a l (T.take i)=pre at r2 cb;have rl:=aI r2;have hx2:=bt.mono sm;obtain⟨dx,pp,lp,bp,bs,g1,g2,g3,g4,g5,g6,g7⟩:=id hx2
    have put:∀ {b:Addr} {H3:Hp} {an:List bD},rm H2 H3→C3 H3 b an→b≠R→an.length≤100000→∃ xs zs,H3 R=some (.lst xs)∧H3 b=some (.lst zs)∧xs.length+zs.length≤sizeLine∧(rm H (upd H3 R (.lst (xs++zs)))∧C3 (upd H3 R (.lst (xs++zs))) R (pre++an)):=fun {b H3 an} s3 hL c1 c2=>by
     obtain⟨b4,e1,e2⟩:=hL
     have bl:=aI e2;have a5:=s3 _ _ r1
     have tp:∀ {c:Addr} {r:bD},bh H3 c r→bh (upd H3 R (.lst (b1.map V.ref++b4.map V.ref))) c r:=fun {c r} z=>by
      show upd H3 R _ c=_
      rw[au (cF z a5 (fun y=>nomatch y))]; exact z
     refine⟨_,_,a5,e1,by rw[ze,ze,rl,bl]; exact aX (by omega),fun c o y=>?_,b1++b4,by rw[af,zP],dH (Paired.imp' (fun _ _ y=>tp (s3 _ _ y)) r2) (Paired.imp' (fun _ _ y=>tp y) e2)⟩
     rw[au (ca y)]; exact s3 _ _ (sm _ _ y)
    walk_at "r";refine⟨_,.inl (ud.of r1),?_⟩
    rw[ze,rl];walk_at "n";refine⟨dx,_,_,g1,eV _ _ _ _,?_⟩
    walk_at "r";have ab:bx (aq d) st≤200:=by omega
    have bg:(iz kv (bI kv d) (aq d) t (a+pre.length) l' st).length≤30000:=by
     have:=db (kv:=kv) (d:=d+1) (a:=a+pre.length) (l:=l') (t:=t) (T:=[st]) (by show bx (aq d) st+0≤200; omega) hd
     have e:bI kv (d+1) t (a+pre.length) l' [st]=iz kv (bI kv d) (aq d) t (a+pre.length) l' st++[]:=rfl
     rw[e,gY]at this
     exact this
    cases st with
    | lend x0 y0 b0=>
     obtain⟨k1,k2,k3,k4⟩ : gA kv (.inr x0)∧gA kv (.inr y0)∧gA kv (.inl (l':Int))∧dX kv d (l'+1) b0:=a4
     have cc:aq d b0+2≤200:=ab
     refine bd (fun _=>?_) (fun c=>absurd rfl c)
     refine⟨⟨_,ud.of r1⟩,x,sp,a+pre.length,l',t,x0,y0,b0,kv,S,by simp,hx2,a3.2.2,sm _ _ a9,k1,k2,k3,k4,by omega,by omega,fun q' H3 s3 a6 L3=>?_⟩
     dsimp only
     rw[fk];obtain⟨xs,zs,p1,p2,p3,p4,p5⟩:=put s3 L3 (aA r1 a6).symm (by have:(gW kv (bI kv d) (aq d) t (a+pre.length) l' x0 y0 b0).length≤30000:=bg; omega)
     exact⟨xs,zs,p1,p2,p3,_,_,rfl,p4,p5⟩
    | ite n0 b0 c0=>
     obtain⟨k1,k2⟩ : dX kv d (l'+1) b0∧dX kv d (l'+1+aq d b0+1) c0:=a4
     have cc:aq d b0+aq d c0+3≤200:=ab
     refine bd (fun c=>absurd c (by show ¬ (Str.ofString "if" = Str.ofString "lend"); decide +kernel)) (fun _=>?_)
     refine⟨dx,_,_,g1,eV _ _ _ _,?_⟩
     walk_at "r";refine bd (fun _=>?_) (fun c=>absurd rfl c)
     refine⟨⟨_,ud.of r1⟩,x,sp,a+pre.length,l',t,n0,b0,c0,kv,S,by simp,hx2,a3.2.1,a3.2.2,sm _ _ a9,k1,k2,by omega,by omega,by omega,fun q' H3 s3 a6 L3=>?_⟩
     dsimp only
     rw[fk];obtain⟨xs,zs,p1,p2,p3,p4,p5⟩:=put s3 L3 (aA r1 a6).symm (by have:(mZ (bI kv d) (aq d) t (a+pre.length) l' n0 b0 c0).length≤30000:=bg; omega)
     exact⟨xs,zs,p1,p2,p3,_,_,rfl,p4,p5⟩
    | whl n0 b0=>
     have k1:dX kv d (l'+1) b0:=a4
     have cc:aq d b0+2≤200:=ab
     refine bd (fun c=>absurd c (by show ¬ (Str.ofString "while" = Str.ofString "lend"); decide +kernel)) (fun _=>?_)
     refine⟨dx,_,_,g1,eV _ _ _ _,?_⟩
     walk_at "r";refine bd (fun c=>absurd c (by show ¬ (Str.ofString "while" = Str.ofString "if"); decide +kernel)) (fun _=>?_)
     refine⟨dx,_,_,g1,eV _ _ _ _,?_⟩
     walk_at "r";refine bd (fun _=>?_) (fun c=>absurd rfl c)
     refine⟨⟨_,ud.of r1⟩,x,sp,a+pre.length,l',t,n0,b0,kv,S,by simp,hx2,a3.2,sm _ _ a9,k1,by omega,by omega,fun q' H3 s3 a6 L3=>?_⟩
     dsimp only
     rw[fk];obtain⟨xs,zs,p1,p2,p3,p4,p5⟩:=put s3 L3 (aA r1 a6).symm (by have:(dJ (bI kv d) (aq d) t (a+pre.length) l' n0 b0).length≤30000:=bg; omega)
     exact⟨xs,zs,p1,p2,p3,_,_,rfl,p4,p5⟩
    | plain ws=>
     have cq:ws.headD "" ∈ cN:=a3.kind
     have nk:∀ {u:Str},u∉cN→¬ kindOf (.plain ws)=u:=fun hu c=>hu (by have c':ws.headD "" = _:=c; rw[← c']; exact cq)
     refine bd (fun c=>absurd c (nk (by decide +kernel))) (fun _=>?_)
     refine⟨dx,_,_,g1,eV _ _ _ _,?_⟩
     walk_at "r";refine bd (fun c=>absurd c (nk (by decide +kernel))) (fun _=>?_)
     refine⟨dx,_,_,g1,eV _ _ _ _,?_⟩
     walk_at "r";refine bd (fun c=>absurd c (nk (by decide +kernel))) (fun _=>?_)
     refine⟨⟨_,ud.of r1⟩,x,sp,l',ws,kv,S,_,aq d,dX kv d,rfl,hx2,a3,sm _ _ a9,a4,fun c H3 s3 cA=>?_⟩
     have a5:=s3 _ _ r1
     have tp:∀ {c:Addr} {r:bD},bh H3 c r→∀ zs,bh (upd H3 R (.lst zs)) c r:=fun {c r} z zs=>by
      show upd H3 R _ c=_
      rw[au (cF z a5 (fun y=>nomatch y))]; exact z
     walk_at "r";refine⟨_,a5,b5 (by rw[ze]; omega),_,_,rfl,fun c' o y=>?_,b1++[c],by rw[af,zP]; rfl,dH (Paired.imp' (fun _ _ y=>tp (s3 _ _ y) _) r2) (.cons (tp cA _) .nil)⟩
     rw[au (ca y)]; exact s3 _ _ (sm _ _ y)
  ·obtain⟨o5,o6,rfl,sm,hL⟩:=hh
   rw[ze,be,tx]at hL
   walk_at "n";exact q R H2 sm hR hL
end
noncomputable def gR(s:Str):Bool:=decide (0+("lend " : Str).length≤s.length)&&Builtin.Str.subAt s "lend " 0
noncomputable def fS(L:List Str):List Nat:=(List.range L.length).filter fun i=>gR (L.getD i "")
noncomputable def j5(d:Nat):Sp:=fun vs H Q _=>∃ (p:Addr) (L:List Str),vs=[.ref p]∧D5 d H p L∧L.length≤1000∧∀ (q:Addr) (H':Hp),rm H H'→H q=none→H' q=some (.lst ((fS L).map iN))→Q (.ref q) H'
theorem jT(f:Nat→Bool)(i:Nat):(List.range (i+1)).filter f=(List.range i).filter f++(if f i=true then [i] else []):=by
 rw[zaz,G0]
 congr 1
 rw[List.filter_cons];split <;> rfl
theorem oR(D:Ab K mg "lend_lines" bR) (J:mg "enumerate" = none) {d k:Nat} (O:aH P w K mg base k "lines_of" ["program"] (uh d)):aH P w K mg base (k+1) "lend_lines" ["program"] (j5 d):=by
 refine D.cal (k:=k) oq (fun _ _ _ _ _ _ us hl=>by obtain⟨_,rfl⟩:=zu1 us hl;rfl) (fun vs H Q E h=>by obtain⟨_,_,rfl,_⟩:=h; rfl) (fun f ad A outer s H vs Q E hr h=>?_)
 obtain⟨p,L,rfl,hL,hl,q⟩:=h
 refine⟨_,(aj (aJ (fI (El.to (fsc:=(rd bR)) (N:=["program"]) (N0:=["program"]) (T:=["at", "line"]) ⟨by decide +kernel,by decide +kernel,by decide +kernel,by decide +kernel,by decide +kernel,by decide +kernel,by decide +kernel⟩ rfl rfl) rfl (pQ K K1 J (aa (ay O hr (aa (pv 0) ac) (hle:=by omega)) ac)) (fun _ _ _ _=>(jP K (n:=2) (cL (ba 1 (show (["program", "at", "line"]:List Str).Nodup from by decide +kernel) (hx:=(hJ (rd bR) (by decide +kernel))) (hf:=jW (rd bR) (by decide +kernel))) (cL (ba 2 (show (["program", "at", "line"]:List Str).Nodup from by decide +kernel) (hx:=(hJ (rd bR) (by decide +kernel))) (hf:=jW (rd bR) (by decide +kernel))) ib)))) (CK (nQ (df (show (["program"]:List Str).length≤1 from by decide)) lT (nQ (df (show (["program"]:List Str).length≤2 from by decide)) lT AN tY) (Ar lT tY))) (fun _ _ _ _=>(iD (dU (bA K zbj F.slot_str_startswith F.type_str_startswith oz (pv 2 (hv:=(cQ (rd bR) (by decide +kernel)))) (aa ax ac))))) (fun _ _ _ _=>(pv 1 (hv:=(cQ (rd bR) (by decide +kernel)))))))),?_⟩
 walk_at "r";refine⟨p,L,rfl,hL,by omega,fun lq H1 s1 ag e1=>?_⟩
 refine⟨lq,rfl,⟨_,e1⟩,fun R Y=>?_⟩
 refine uM (xs:=L.map V.str) (fun i ys H'=>∃ ns:List Nat,rm H1 H'∧H' R=some (.lst ys)∧ys=ns.map iN∧ns.length≤i∧ns=(List.range i).filter fun j=>gR (L.getD j "")) ⟨[],ah Y _,af,rfl,zl _,rfl⟩ (fun i ys H' _ hh=>by obtain⟨_,sm,_⟩:=hh; exact ud.of (sm _ _ e1)) ?_ ?_
 ·rintro i ys H' v t hv hi ⟨ns,sm,ab,rfl,Z,S⟩ ht
  rw[ze]at hi
  rw[zy,zg hi]at hv
  cases hv;have s2:=ah ht (.tup [.int (i:Int),.str L[i]]);have et:upd H' t (.tup [.int (i:Int),.str L[i]]) t=some (.tup [.int (i:Int),.str L[i]]):=af
  generalize upd H' t (.tup [.int (i:Int),.str L[i]])=H2 at s2 et ⊢;have U:=sm.trans s2;have W:=s2 _ _ ab
  have hg:gR (L.getD i "")=(decide (0+("lend " : Str).length≤L[i].length)&&Builtin.Str.subAt L[i] "lend " 0):=by
   unfold gR;rw[vE,zg hi]; rfl
  walk_at "r";refine⟨t,_,rfl,vr.of et,rfl,?_⟩
  walk_at "r";rw[← hg];refine bd (fun c=>?_) (fun c=>?_)
  ·refine qX (by rw[ze]; exact hi) (by rw[ze]; exact Z) (by rw[ze]; exact aX (by omega)) W ⟨ns++[i],U.upd Y _,af,q_ _ _,by simp; omega,?_⟩
   rw[jT,Hf c,← S]
  ·refine oI (by rw[ze]; exact hi) ⟨ns,U,W,rfl,by omega,?_⟩
   rw[jT,He c,← S,gY]
 ·rintro ys H2 ⟨ns,s2,e2,rfl,_,S⟩
  rw[ze]at S
  refine q R H2 (s1.trans s2) (s1.free Y) ?_
  rw[S]at e2
  exact e2
noncomputable def i7(ks:List aG):List (aG × V):=(List.range ks.length).foldl (fun acc i=>cy acc (ks.getD i (.inl 0)) (iN i)) []
noncomputable def gB(ks:List aG)(i:Nat):List (aG × V):=(List.range i).foldl (fun acc i=>cy acc (ks.getD i (.inl 0)) (iN i)) []
theorem gT(ks:List aG)(i:Nat):gB ks (i+1)=cy (gB ks i) (ks.getD i (.inl 0)) (iN i):=by
 unfold gB; rw[zaz,za4]; rfl
theorem rS(ks:List aG):∀ i,(gB ks i).length≤i
 | 0=>zl _
 | i+1=>by
  have:=rS ks i
  rw[gT];unfold cy;split
  ·rw[ze]; omega
  ·rw[zr]; simp; omega
theorem pd(ks:List aG):∀ (i j:Nat) k,j<i→ks[j]? = some k→(cf (gB ks i) k).isSome=true
 | 0,j,_,h,_=>absurd h (GN _)
 | i+1,j,k,h,hk=>by
  rw[gT,kH];split
  ·rfl
  ·rename_i c
   rcases vA j i with z | z
   ·exact pd ks i j k z hk
   ·have:j=i:=by omega
    subst this;exact absurd (by rw[vE,hk]; rfl) c
theorem jH{ks:List aG}{k:aG}(h:k∈ks):gA (i7 ks) k:=by
 obtain⟨j,F⟩:=List.mem_iff_getElem?.mp h
 have:=pd ks ks.length j k (Hd.mp F).1 F
 show cf (gB ks ks.length) k=some (bT (gB ks ks.length) k)
 unfold bT
 cases e:cf (gB ks ks.length) k with
 | none=>rw[e]at this; cases this
 | some v=>rfl
section
variable{NO:Hp→Addr→List Str→Prop}
noncomputable def Dj(NO:Hp→Addr→List Str→Prop):Sp:=fun vs H Q _=>∃ (p:Addr) (NM:List Str),vs=[.ref p]∧NO H p NM∧∀ (q:Addr) (H':Hp),rm H H'→H q=none→H' q=some (.lst (NM.map V.str))→Q (.ref q) H'
noncomputable def ck(NM:List Str)(L:List Str):List aG:=NM.map Sum.inr++(fS L).map fun (n:Nat)=>Sum.inl (n:Int)
noncomputable def uB(NO:Hp→Addr→List Str→Prop)(d:Nat):Sp:=fun vs H Q _=>∃ (p:Addr) (NM L:List Str),vs=[.ref p]∧NO H p NM∧D5 d H p L∧L.length≤1000∧NM.length≤1000∧∀ (q:Addr) (H':Hp),rm H H'→H q=none→H' q=some (.dK (i7 (ck NM L)))→Q (.ref q) H'
theorem y7(al:∀ {H H':Hp} {p:Addr} {NM:List Str},NO H p NM→rm H H'→NO H' p NM)(D:Ab K mg "slots_of" b_) (J:mg "enumerate" = none) {d k:Nat} (O:aH P w K mg base k "names_of" ["program"] (Dj NO)) (F:aH P w K mg base k "lend_lines" ["program"] (j5 d)):aH P w K mg base (k+1) "slots_of" ["program"] (uB NO d):=by
 refine D.cal (k:=k) EB (fun _ _ _ _ _ _ us hl=>by obtain⟨_,rfl⟩:=zu1 us hl;rfl) (fun vs H Q E h=>by obtain⟨_,_,_,rfl,_⟩:=h; rfl) (fun f a7 A outer s H vs Q E hr h=>?_)
 obtain⟨p,NM,L,rfl,hN,hL,hl,a5,q⟩:=h
 refine⟨_,(ai (ar 1 EB.nd qe)
   (ai (b6 wG rfl (pQ K LN J (aa (ak az (ay O hr (aa (pv 0) ac) (hle:=by omega)) (ay F hr (aa (pv 0) ac) (hle:=by omega))) ac)) (jP K (n:=2) (cL (ba 2 EB.nd) (cL (ba 3 EB.nd) ib))) (aj (im (pv 2) (jb (pv 1) (pv 3) (Bp hr)))))
   (aj (aJ (pv 1))))),?_⟩
 walk_at "r";intro U Y
 have s1:=ah Y (.dK []);have Z:upd H U (.dK []) U=some (.dK (gB (ck NM L) 0)):=af
 generalize upd H U (.dK [])=H1 at s1 Z ⊢;walk_at "n";refine⟨p,NM,rfl,al hN s1,fun nq H2 s2 be e2=>?_⟩
 have ab:=s1.trans s2;refine⟨p,L,rfl,hL.mono _ ab,hl,fun lq H3 s3 a8 e3=>?_⟩
 have a6:(fS L).length≤1000:=by
  unfold fS;refine gV (List.length_filter_le _ _) ?_
  rw[G6]; exact hl
 dsimp only
 rw[ja];refine⟨_,_,s3 _ _ e2,e3,by rw[ze,ze]; exact aX (by omega),fun cq an=>?_⟩
 have ad:NM.map V.str++(fS L).map iN=(ck NM L).map kV:=by
  unfold ck;rw[zP,yt,yt]; rfl
 rw[ad];have ag:(ck NM L).length≤2000:=by unfold ck; rw[zr,ze,ze]; omega
 generalize hks:ck NM L=ks at Z ag q ⊢;have s4:=ah an (.lst (ks.map kV));have S:upd H3 cq (.lst (ks.map kV)) cq=some (.lst (ks.map kV)):=af
 generalize upd H3 cq (.lst (ks.map kV))=H4 at s4 S ⊢;have as:=(s2.trans s3).trans s4;have W:=as _ _ Z;have a3:cq≠U:=cF S W (fun z=>nomatch z)
 walk_at "r";refine⟨⟨_,S⟩,?_⟩
 refine xP (xs:=ks.map kV) (fun i σ H'=>∃ (o2 o3:Option V),σ=[some (.ref p),some (.ref U),o2,o3]∧(∀ b o,b≠U→H4 b=some o→H' b=some o)∧H' U=some (.dK (gB ks i)))
  ⟨_,_,rfl,fun _ _ _ z=>z,W⟩ (fun i σ H' _ hh=>by obtain⟨_,_,_,sb,_⟩:=hh; exact ud.of (sb _ _ a3 S)) (fun i v t σ H5 hv hh ht=>?_) (fun σ H5 hh=>?_)
 ·obtain⟨o2,o3,rfl,sb,e5⟩:=hh
  rw[zy]at hv
  cases hi:ks[i]? with
  | none=>rw[hi]at hv; cases hv
  | some k0=>
   rw[hi]at hv; cases hv
   have a4:=(Hd.mp hi).1;have s6:=ah ht (.tup [.int (i:Int),kV k0]);have et:upd H5 t (.tup [.int (i:Int),kV k0]) t=some (.tup [.int (i:Int),kV k0]):=af
   generalize upd H5 t (.tup [.int (i:Int),kV k0])=H6 at s6 et ⊢;have a9:=rS ks i;walk_at "r";refine⟨t,_,rfl,vr.of et,rfl,?_⟩
   walk_at "r";refine⟨U,_,k0,rfl,rfl,s6 _ _ e5,b5 (by omega),_,_,rfl,fun b o hb z=>by rw[au hb]; exact s6 _ _ (sb b o hb z),?_⟩
   rw[af,gT,vE,hi]; rfl
 ·obtain⟨o2,o3,rfl,sb,e5⟩:=hh
  rw[ze]at e5
  walk_at "n";refine q U H5 (fun b o z=>sb b o (aA z Y) (s4 _ _ (s3 _ _ (ab _ _ z)))) Y e5
end
theorem oZ{f:List ap→List Str}{g:List ap→Nat}(h:∀ T,(f T).length=g T):∀ s:ap,(c6 f s).length=bx g s
 | .plain _=>rfl
 | .lend _ _ b=>by simp[c6,bx,h]
 | .ite _ b c=>by simp[c6,bx,h]; omega
 | .whl _ b=>by simp[c6,bx,h]
theorem ik:∀ (d:Nat) (T:List ap),(dI d T).length=aq d T
 | 0,_=>rfl
 | d+1,T=>by
  show (T.flatMap (c6 (dI d))).length=(T.map (bx (aq d))).sum
  induction T with
  | nil=>rfl
  | cons s T ih=>rw[zaU,zr,zW,lX,ih,oZ (ik d)]
def Sub(L:List Str)(l:Nat)(X:List Str):Prop:=∀ (i:Nat) s,X[i]? = some s→L[l+i]? = some s
theorem Sub.left{L X Y:List Str}{l:Nat}(h:Sub L l (X++Y)):Sub L l X:=fun i s e=>h i s (by rw[vX (Hd.mp e).1]; exact e)
theorem Sub.right{L X Y:List Str}{l:Nat}(h:Sub L l (X++Y)):Sub L (l+X.length) Y:=fun i s e=>by
 have:=h (X.length+i) s (by rw[vw (by omega),Nat.add_sub_cancel_left]; exact e)
 rw[← GH]at this; exact this
noncomputable def BD(f:List ap→Prop)(N:Str→Prop):ap→Prop
 | .plain ws=>(ws.headD "" = "do" → ws.length=3)∧∀ n∈dM ws,N n
 | .lend x y b=>N x∧N y∧f b
 | .ite _ b c=>f b∧f c
 | .whl _ b=>f b
noncomputable def sX(N:Str→Prop):Nat→List ap→Prop
 | 0,_=>False
 | d+1,T=>∀ s∈T,BD (sX N d) N s
theorem yF(x y:Str):gR (Txt.join " " ["lend", x,y])=true:=by
 have e:Txt.join " " ["lend", x,y]=("lend " : Str)++(x++((" " : Str)++y)):=by
  apply BK
  have h1:("lend " : Str).cps.toList=("lend" : Str).cps.toList++(" " : Str).cps.toList:=by decide +kernel
  rw[jJ,jJ,jJ,h1];show ((("lend" : Str).cps++(" " : Str).cps++x.cps)++(" " : Str).cps++y.cps).toList=_
  simp only[Array.toList_append,uV]
 rw[e];unfold gR;have hl:("lend " : Str).length=5:=by decide +kernel
 rw[Str.length_append,hl,decide_eq_true (by omega),Bool.true_and]
 unfold Builtin.Str.subAt;rw[hl,beq_iff_eq]
 apply Array.ext'
 rw[Array.toList_extract,jJ];have F:("lend " : Str).cps.toList.length=5:=by decide +kernel
 simp[List.extract_eq_drop_take,List.take_append,F]
theorem yP{L:List Str}{i:Nat}{s:Str}(h:L[i]? = some s)(F:gR s=true):i∈fS L:=by
 unfold fS;rw[Hq];refine⟨Hm.mpr (Hd.mp h).1,?_⟩
 rw[vE,h]; exact F
section
variable{NM L:List Str}
theorem AX{f:Nat→List ap→Prop}{g:List ap→Prop}{d l:Nat}(hf:∀ l b,Sub L l (dI d b)→g b→f l b):∀ (s:ap),Sub L l (c6 (dI d) s)→BD g (fun n=>n∈NM) s→iw (i7 (ck NM L)) f (aq d) l s
 | .plain ws,_,⟨h1,h2⟩=>⟨h1,fun n F=>jH (by unfold ck; exact lZ _ (Hk.mpr ⟨n,h2 n F,rfl⟩))⟩
 | .lend x y b,hS,⟨hx,hy,hb⟩=>by
  have hh:L[l]? = some (Txt.join " " ["lend", x,y]):=hS 0 _ rfl
  refine⟨jH (by unfold ck; exact lZ _ (Hk.mpr ⟨x,hx,rfl⟩)),jH (by unfold ck; exact lZ _ (Hk.mpr ⟨y,hy,rfl⟩)),jH (by unfold ck; exact kr _ (Hk.mpr ⟨l,yP hh (yF x y),rfl⟩)),hf _ _ ?_ hb⟩
  have:Sub L l ([Txt.join " " ["lend", x,y]]++(dI d b++[("back" : Str)])):=hS
  exact this.right.left
 | .ite n b c,hS,⟨hb,hc⟩=>by
  have:Sub L l ([Txt.join " " ["if", jw n]]++((dI d b++[("else" : Str)])++(dI d c++[("fi" : Str)]))):=hS
  refine⟨hf _ _ this.right.left.left hb,hf _ _ ?_ hc⟩
  have h2:=this.right.right.left;rw[zr,ik,Gv,Gv]at h2
  rw[show l+1+aq d b+1=l+1+(aq d b+1) by omega]; exact h2
 | .whl n b,hS,hb=>by
  have:Sub L l ([Txt.join " " ["while", jw n]]++(dI d b++[("done" : Str)])):=hS
  exact hf _ _ this.right.left hb
theorem mH:∀ (d l:Nat) (T:List ap),Sub L l (dI d T)→sX (fun n=>n∈NM) d T→dX (i7 (ck NM L)) d l T
 | 0,_,_,_,h=>h
 | d+1,l,T,F,J=>by
  have go:∀ (T:List ap) (l:Nat),Sub L l (T.flatMap (c6 (dI d)))→(∀ s∈T,BD (sX (fun n=>n∈NM) d) (fun n=>n∈NM) s)→∀ z∈eD (bx (aq d)) l T,iw (i7 (ck NM L)) (dX (i7 (ck NM L)) d) (aq d) z.1 z.2:=fun T=>by
   induction T with
   | nil=>intro l _ _ z hz; cases hz
   | cons s T ih=>
    intro l F J z hz
    rw[zaU]at F
    rcases Hi.mp hz with rfl | hz
    ·exact AX (fun l b h1 h2=>mH d l b h1 h2) s F.left (J s zI)
    ·have h2:=F.right
     rw[oZ (ik d)]at h2
     exact ih (l+bx (aq d) s) h2 (fun s O=>J s (zO _ O)) z hz
  exact go T l F J
end
section
variable{CN:Addr}{NO:Hp→Addr→List Str→Prop}
noncomputable def iV(NM:List Str)(d:Nat)(t:Bool)(T:List ap):List bD:=bI (i7 (ck NM (dI d T))) d t 0 0 T++[[.str "end", iN (aq d T)]]
structure kQ (NO:Hp→Addr→List Str→Prop) (H:Hp) (p:Addr) (d:Nat) (T:List ap) (NM:List Str):Prop where
 prog:∃ S,AM S d H p T
 ok:dk d T
 no:NO H p NM
 ln:D5 d H p (dI d T)
 nm:sX (fun n=>n∈NM) d T
 cnt:aq d T≤200
 nl:NM.length≤1000
 d20:d≤20
noncomputable def mw(NO:Hp→Addr→List Str→Prop)(d:Nat):Sp:=fun vs H Q _=>∃ (p:Addr) (t:Bool) (T:List ap) (NM:List Str),vs=[.ref p,.bl t]∧kQ NO H p d T NM∧∀ (q:Addr) (H':Hp),rm H H'→H q=none→C3 H' q (iV NM d t T)→Q (.ref q) H'
theorem wg(al:∀ {H H':Hp} {p:Addr} {NM:List Str},NO H p NM→rm H H'→NO H' p NM)(D:Ab K mg "rows_and_end" bQ) {d k:Nat} (a7:1≤k) (F:aH P w K mg base (2 * d+4) "numbered_steps" ["steps", "line"] (qJ K CN d)) (U:aH P w K mg base (3 * d+2) "rows_of" ["steps", "at", "slots", "turned"] (gq K CN d)) (O:aH P w K mg base k "slots_of" ["program"] (uB NO d)) (J:aH P w K mg base 1 "line_behind" ["steps", "line"] (iI K CN)) (h1:2 * d+4≤k) (h2:3 * d+2≤k):aH P w K mg base (k+1) "rows_and_end" ["program", "turned"] (mw NO d):=by
 refine D.cal (k:=k) EJ (fun _ _ _ _ _ _ us hl=>by obtain⟨_,_,rfl⟩:=zu2 us hl;rfl) (fun vs H Q E h=>by obtain⟨_,_,_,_,rfl,_⟩:=h; rfl) (fun f a8 A outer s H vs Q E hr h=>?_)
 obtain⟨p,t,T,NM,rfl,I,q⟩:=h
 obtain⟨S,hP⟩:=I.prog
 have a4:=I.cnt
 refine⟨_,(ai (ar 2 EJ.nd (ay F hr (aa (pv 0) (aa ae ac)) (hle:=by omega)))
   (aj (aJ (ak az (ay U hr (aa (pv 2) (aa ae (aa (ay O hr (aa (pv 0) ac) (hle:=by omega)) (aa (pv 1) ac)))) (hle:=by omega)) (aY (aa (aK (aa ax (aa (ay J hr (aa (pv 2) (aa ae ac)) (hle:=by omega)) ac))) ac)))))),?_⟩
 walk_at "r";refine⟨p,0,T,S,rfl,hP,I.ok,by omega,fun nq H1 s1 hN=>?_⟩
 walk_at "n";refine⟨p,NM,dI d T,rfl,al I.no s1,I.ln.mono _ s1,by rw[ik]; omega,I.nl,fun sq H2 s2 a5 e2=>?_⟩
 refine⟨nq,sq,0,0,t,T,_,_,rfl,hN.mono s2,I.ok,e2,mH d 0 T (fun i s e=>by rw[kC]; exact e) I.nm,I.cnt,I.d20,fun rq H3 s3 a6 hR=>?_⟩
 have an:=db (kv:=i7 (ck NM (dI d T))) (a:=0) (l:=0) (t:=t) I.cnt I.d20;generalize hRR:bI (i7 (ck NM (dI d T))) d t 0 0 T=R at hR an;have ab:=s2.trans s3
 cases d with
 | zero=>exact hN.elim
 | succ d=>
  refine⟨nq,0,d,T,_,rfl,hN.mono ab,by omega,?_⟩
  walk_at "r";refine⟨by decide,fun t1 as=>?_⟩
  generalize hH4:upd H3 t1 _=H4
  have s4:rm H3 H4:=by rw[← hH4]; exact ah as _
  have a3:bh H4 t1 [.str "end", iN (aq (d+1) T)]:=by
   show H4 t1=_
   rw[← hH4,af,kC]; rfl
  refine⟨by decide,fun m1 Z=>?_⟩
  have s5:=ah Z (.lst [.ref t1]);have L1:=gu a3 Z;generalize upd H4 m1 (.lst [.ref t1])=H5 at s5 L1 ⊢;obtain⟨ag,a1,a2⟩:=hR.mono (s4.trans s5)
  obtain⟨ad,b1,b2⟩:=L1
  refine⟨_,_,a1,b1,cX a2 b2 (by simp only[zx,qR]; omega),fun m2 W=>?_⟩
  have s6:=ah W (.lst (ag.map V.ref++ad.map V.ref));have L2:=dD a2 b2 W;generalize upd H5 m2 (.lst (ag.map V.ref++ad.map V.ref))=H6 at s6 L2 ⊢;have Y:=((s1.trans ab).trans s4).trans s5;refine q m2 H6 (Y.trans s6) (Y.free W) ?_
  unfold iV;rw[hRR];exact L2
noncomputable def xf(NO:Hp→Addr→List Str→Prop)(d:Nat):Sp:=fun vs H Q _=>∃ (p:Addr) (T:List ap) (NM:List Str),vs=[.ref p]∧kQ NO H p d T NM∧∀ (q:Addr) (H':Hp),rm H H'→H q=none→C3 H' q (iV NM d false T)→Q (.ref q) H'
theorem BX(D:Ab K mg "code_of" fR) {d k:Nat} (F:aH P w K mg base k "rows_and_end" ["program", "turned"] (mw NO d)):aH P w K mg base (k+1) "code_of" ["program"] (xf NO d):=by
 refine D.cal (k:=k) wB (fun _ _ _ _ _ _ O hl=>match O,hl with | [_],_=>rfl) (fun vs H Q E h=>by obtain⟨_,_,_,rfl,_⟩:=h; rfl) (fun f J A outer s H vs Q E S h=>?_)
 obtain⟨p,T,NM,rfl,I,q⟩:=h
 refine⟨_,(aj (aJ (ay F S (aa (pv 0) (aa fP ac)) (hle:=by omega)))),?_⟩
 walk_at "r";exact⟨p,false,T,NM,rfl,I,q⟩
noncomputable def oW(NO:Hp→Addr→List Str→Prop)(d:Nat):Sp:=fun vs H Q _=>∃ (p:Addr) (T:List ap) (NM:List Str),vs=[.ref p]∧kQ NO H p d T NM∧∀ (q:Addr) (H':Hp),rm H H'→H q=none→C3 H' q (iV NM d true T)→Q (.ref q) H'
theorem yk(D:Ab K mg "turned_code" dB) {d k:Nat} (F:aH P w K mg base k "rows_and_end" ["program", "turned"] (mw NO d)):aH P w K mg base (k+1) "turned_code" ["program"] (oW NO d):=by
 refine D.cal (k:=k) md (fun _ _ _ _ _ _ O hl=>match O,hl with | [_],_=>rfl) (fun vs H Q E h=>by obtain⟨_,_,_,rfl,_⟩:=h; rfl) (fun f J A outer s H vs Q E S h=>?_)
 obtain⟨p,T,NM,rfl,I,q⟩:=h
 refine⟨_,(aj (aJ (ay F S (aa (pv 0) (aa fP ac)) (hle:=by omega)))),?_⟩
 walk_at "r";exact⟨p,true,T,NM,rfl,I,q⟩
end
end
noncomputable def dj:ap→List (List ap)
 | .plain _=>[]
 | .lend _ _ b=>[b]
 | .ite _ b c=>[b,c]
 | .whl _ b=>[b]
noncomputable def eZ(f:List ap→List ap)(s:ap):List ap:=s::(dj s).flatMap f
noncomputable def cj:Nat→List ap→List ap
 | 0,_=>[]
 | d+1,T=>T.flatMap (eZ (cj d))
inductive e_:List Str→Prop
 | opn (x:Str):e_ ["open", x]
 | drp (x:Str):e_ ["drop", x]
 | cpy (x y:Str):e_ ["copy", x,y]
 | tie (x y:Str):e_ ["tie", x,y]
 | doo (u x:Str):e_ ["do", u,x]
noncomputable def bW:ap→List Str
 | .plain ws=>if ws.headD "" = "do" then ws.drop 2 else ws.drop 1
 | .lend x y _=>[x,y]
 | .ite _ _ _=>[]
 | .whl _ _=>[]
noncomputable def fo(f:List ap→Prop):ap→Prop
 | .plain ws=>e_ ws
 | .lend _ _ b=>f b
 | .ite _ b c=>f b∧f c
 | .whl _ b=>f b
noncomputable def jq:Nat→List ap→Prop
 | 0,_=>False
 | d+1,T=>∀ s∈T,fo (jq d) s
def Eb(H:Hp)(a:Addr)(s:ap):Prop:=DJ (fun _ _=>True) H a s
theorem Eb.mono{H H':Hp}{a:Addr}{s:ap}(h:Eb H a s)(sm:rm H H'):Eb H' a s:=DJ.imp (fun b xs e=>sm _ _ e) (fun _ _ _=>trivial) h
theorem wF{PA:Addr→List ap→Prop}{H:Hp}{a:Addr}{g:List ap→Prop}:∀ {s:ap},DJ PA H a s→fo g s→∃ (kind:Str) (F:List V) (bs:List Addr),H a=some (.tup (.str kind::F++bs.map V.ref))∧bs.length=(bf kind).length∧Paired PA bs (dj s)∧∀ b∈dj s,g b
 | .plain ws,h,ok=>by
  cases ok with
  | opn x=>exact⟨"open", [.str x],[],h,by show 0=(bf "open").length; decide,.nil,by simp[dj]⟩
  | drp x=>exact⟨"drop", [.str x],[],h,by show 0=(bf "drop").length; decide,.nil,by simp[dj]⟩
  | cpy x y=>exact⟨"copy", [.str x,.str y],[],h,by show 0=(bf "copy").length; decide,.nil,by simp[dj]⟩
  | tie x y=>exact⟨"tie", [.str x,.str y],[],h,by show 0=(bf "tie").length; decide,.nil,by simp[dj]⟩
  | doo u x=>exact⟨"do", [.str u,.str x],[],h,by show 0=(bf "do").length; decide,.nil,by simp[dj]⟩
 | .lend x y b,⟨q,h,z⟩,ok=>⟨"lend", [.str x,.str y],[q],h,by show 1=(bf "lend").length; decide,.cons z .nil,by simpa [dj,fo] using ok⟩
 | .ite n b c,⟨q,r,h,z,y⟩,ok=>⟨"if", [.int n],[q,r],h,by show 2=(bf "if").length; decide,.cons z (.cons y .nil),by simpa [dj,fo] using ok⟩
 | .whl n b,⟨q,h,z⟩,ok=>⟨"while", [.int n],[q],h,by show 1=(bf "while").length; decide,.cons z .nil,by simpa [dj,fo] using ok⟩
noncomputable def rf(d:Nat):Sp:=fun vs H Q _=>∃ (p:Addr) (T:List ap) (S:Addr→Prop),vs=[.ref p]∧AM S d H p T∧jq d T∧(cj d T).length≤5000∧
 ∀ (q:Addr) (H':Hp) (ads:List Addr),rm H H'→H q=none→H' q=some (.lst (ads.map V.ref))→Paired (Eb H') ads (cj d T)→Q (.ref q) H'
theorem wC{α β : Type}(f:α→List β)(T:List α)(i:Nat):((T.take i).flatMap f).length≤(T.flatMap f).length:=by
 rw[List.flatMap_def,List.flatMap_def,List.map_take]; exact mK _ _
theorem mo{α β : Type}(f:α→List β){T:List α}{i:Nat}{x:α}(h:T[i]? = some x):(T.take (i+1)).flatMap f=(T.take i).flatMap f++f x:=by
 rw[pG,h,zbc]; simp
theorem kW{α β : Type}{R:α→β→Prop}:∀ {xs zs:List α} {ys F:List β},Paired R xs ys→Paired R zs F→Paired R (xs++zs) (ys++F)
 | _,_,_,_,.nil,h=>h
 | _,_,_,_,.cons h t,h'=>.cons h (kW t h')
section
variable{P:Program}{w:World}{K:W.Frag}{mg:Str→Option Value}{base:Heap}
theorem mT(D:Ab K mg "steps_within" bJ) (F:aH P w K mg base 3 "blocks_of" ["step"] (gK K)):∀ d:Nat,aH P w K mg base (d+4) "steps_within" ["program"] (rf d)
 | 0=>D.cal (k:=3) Dt (fun _ _ _ _ _ _ us hl=>by obtain⟨_,rfl⟩:=zu1 us hl;rfl) (fun vs H Q E h=>by obtain⟨p,T,S,rfl,_⟩:=h; rfl) (fun f cA A outer s H vs Q E hr h=>by obtain⟨p,T,S,rfl,z,_⟩:=h; exact z.elim)
 | d+1=>by
  have J:=mT D F d;refine D.cal (k:=d+4) Dt (fun _ _ _ _ _ _ us hl=>by obtain⟨_,rfl⟩:=zu1 us hl;rfl) (fun vs H Q E h=>by obtain⟨p,T,S,rfl,_⟩:=h; rfl) (fun f cA A outer s H vs Q E hr h=>?_)
  obtain⟨p,T,S,rfl,⟨hS,as,h1,h2⟩,ok,hL,q⟩:=h
  have c1:=aI h2
  refine⟨_,(ai (ar 1 Dt.nd (aY ac))
   (ai (b6 wG rfl (ci K (pv 0)) (ba 2 Dt.nd) (ai (bc (bA K qL vQ vT bo (pv 1) (aa (pv 2) ac)))
   (aj (b6 wG rfl (ia K (ay F hr (aa (pv 2) ac) (hle:=by omega))) (ba 3 Dt.nd) (aj (bc (bA K qL zaS zaT fg (pv 1) (aa (ay J hr (aa (pv 3) ac) (hle:=by omega)) ac))))))))
   (aj (aJ (pv 1))))),?_⟩
  walk_at "r";refine⟨by decide,fun lp a3=>?_⟩
  generalize hH1:upd H lp _=H1
  have a8:=gm hH1 a3;have e1:=jM hH1;walk_at "n";refine⟨⟨_,ud.of (a8 _ _ h1)⟩,?_⟩
  refine cw (xs:=as.map V.ref) (fun i σ H'=>∃ (O:List Addr) (o2 o3:Option V),σ=[some (.ref p),some (.ref lp),o2,o3]∧rm H H'∧H' lp=some (.lst (O.map V.ref))∧Paired (Eb H') O ((T.take i).flatMap (eZ (cj d))))
   ⟨[],none,none,rfl,a8,e1,.nil⟩ (fun i σ H' _ h=>by obtain⟨_,_,_,_,sm,_⟩:=h; exact ud.of (sm _ _ h1)) ?_ ?_
  ·rintro i v σ H' hv ⟨O,o2,o3,rfl,sm,hl,hp⟩
   have hi:i<as.length:=by have:=(Hd.mp hv).1; simpa using this
   rw[zy,zg hi]at hv
   cases hv;obtain⟨s,hs,st⟩:=b8 h2 (zg hi)
   have cv:=ok s (vx hs);obtain⟨kind,Y,bs,ha,bg,b1,cc⟩:=wF st cv
   have a4:=mo (eZ (cj d)) hs;have a5:=wC (eZ (cj d)) T (i+1);have c5:(T.flatMap (eZ (cj d))).length≤5000:=hL
   rw[a4]at a5 ⊢
   have b4:=aI hp;generalize (T.take i).flatMap (eZ (cj d))=pre at hp a5 b4 ⊢;have cl:(eZ (cj d) s).length=1+((dj s).flatMap (cj d)).length:=by show (s::_).length=_; rw[zx]; omega
   rw[zr,cl]at a5
   have cd:Eb H as[i] s:=DJ.imp (fun b xs e=>e) (fun _ _ _=>trivial) st
   walk_at "r";refine⟨⟨_,ud.of hl⟩,_,hl,by rw[ze]; exact b5 (by omega),?_⟩
   have a6:∀ {X:Hp} {o:HO} {l:List Addr} {us:List ap} {ys:List V},X lp=some (.lst ys)→Paired (Eb X) l us→Paired (Eb (upd X lp o)) l us:=fun {X o l us ys} e h=>Paired.imp' (fun a s z=>DJ.imp (fun b xs e'=>by rw[au (cF e' e (fun z=>nomatch z))]; exact e') (fun _ _ _=>trivial) z) h
   have b0:=a6 (o:=.lst (O.map V.ref++[.ref as[i]])) hl hp;have al:rm H (upd H' lp (.lst (O.map V.ref++[.ref as[i]]))):=sm.upd a3 _
   have e2:upd H' lp (.lst (O.map V.ref++[.ref as[i]])) lp=some (.lst ((O++[as[i]]).map V.ref)):=by rw[af,zP]; rfl
   generalize upd H' lp (.lst (O.map V.ref++[.ref as[i]]))=H2 at b0 al e2 ⊢;have cB:vr K H2 as[i] (.str kind::(Y++bs.map V.ref)):=vr.of (al _ _ ha)
   have c0:(bf kind).length≤(Y++bs.map V.ref).length+1:=by rw[zr,ze,bg]; omega
   have bt:(Y++bs.map V.ref).length+1 - (bf kind).length=Y.length+1:=by rw[zr,ze,bg]; omega
   walk_at "n";refine⟨as[i],kind,Y++bs.map V.ref,rfl,cB,c0,fun bp H3 an ab=>?_⟩
   rw[bt]at ab
   have b3:(V.str kind::(Y++bs.map V.ref)).drop (Y.length+1)=bs.map V.ref:=by rw[List.drop_succ_cons,List.drop_left']; rfl
   rw[b3]at ab
   walk_at "r";refine⟨⟨_,ab⟩,?_⟩
   have c4:=aI b1
   refine pA (xs:=bs.map V.ref) (fun j σ H'=>∃ (U:List Addr) (o3:Option V),σ=[some (.ref p),some (.ref lp),some (.ref as[i]),o3]∧rm H H'∧vr K H' bp (bs.map V.ref)∧H' lp=some (.lst (U.map V.ref))∧Paired (Eb H') U (pre++(s::((dj s).take j).flatMap (cj d))))
    ⟨O++[as[i]],o3,rfl,al.trans an,ab,an _ _ e2,?_⟩ (fun j σ H' _ h=>by obtain⟨_,_,_,_,z1,_⟩:=h; exact z1) ?_ ?_
   ·exact fO (R:=Eb H3) (cd.mono (al.trans an)) (Paired.imp' (fun a s z=>Eb.mono z an) b0)
   ·rintro j x σ H4 hx ⟨U,o3,rfl,ag,b2,Z,ad⟩
    have hj:j<bs.length:=by have:=(Hd.mp hx).1; simpa using this
    rw[zy,zg hj]at hx
    cases hx;obtain⟨b,hb,cb⟩:=b8 b1 (zg hj)
    have ca:=mo (cj d) hb;have hle:=wC (cj d) (dj s) (j+1);rw[ca]at hle ⊢
    rw[zr]at hle
    have a9:=aI ad;rw[zr,zx]at a9
    walk_at "r";refine⟨⟨_,ud.of Z⟩,bs[j],b,S,rfl,cb.mono ag,cc b (vx hb),by omega,fun r H5 a7 W c3 cq be=>?_⟩
    have c2:=aI be;walk_at "r";refine⟨_,_,W _ _ Z,cq,aX (by rw[ze,ze]; omega),?_⟩
    refine⟨U++a7,_,rfl,(ag.trans W).upd a3 _,(b2.same W).updL (W _ _ Z),by rw[af,zP],?_⟩
    rw[← pT,← uV];exact kW (a6 (W _ _ Z) (Paired.imp' (fun a s z=>Eb.mono z W) ad)) (a6 (W _ _ Z) be)
   ·rintro σ H4 ⟨U,o3,rfl,ag,b2,Z,ad⟩
    rw[ze,mJ (by omega)]at ad
    exact⟨U,_,_,rfl,ag,Z,ad⟩
  ·rintro σ H' ⟨O,o2,o3,rfl,sm,hl,hp⟩
   walk_at "n";rw[ze,mJ (by omega)]at hp
   exact q lp H' O sm a3 hl hp
noncomputable def gJ(acc:List Str)(x:Str):List Str:=if x∈acc then acc else acc++[x]
noncomputable def fq(l:List Str):List Str:=l.foldl gJ []
noncomputable def jj(l:List Str):List (aG × V):=l.map fun x=>(Sum.inr x,V.bl true)
theorem CB(acc:List Str)(x:Str):cy (jj acc) (.inr x) (.bl true)=jj (gJ acc x):=by
 unfold cy gJ
 by_cases h:x∈acc
 ·rw[Hf h]
  have F:((jj acc).any fun kv=>decide (kv.1=(Sum.inr x:aG)))=true:=by
   rw[zbg];exact⟨(.inr x,.bl true),Hk.mpr ⟨x,h,rfl⟩,by simp⟩
  rw[Hf F];unfold jj;rw[yt];refine zba fun y _=>?_
  by_cases e:y=x
  ·subst e; simp
  ·have:¬ ((Sum.inr y:aG)=Sum.inr x):=fun z=>e (Sum.inr.inj z)
   simp[this]
 ·rw[He h]
  have F:((jj acc).any fun kv=>decide (kv.1=(Sum.inr x:aG)))=false:=by
   rw[List.any_eq_false];intro kv J
   obtain⟨y,O,rfl⟩:=Hk.mp J
   have:¬ ((Sum.inr y:aG)=Sum.inr x):=fun z=>h (Sum.inr.inj z ▸ O)
   simp[this]
  rw[He (by rw[F]; exact wj)]
  unfold jj;rw[zP]; rfl
theorem iu:∀ (l acc:List Str),(l.foldl gJ acc).length≤acc.length+l.length
 | [],acc=>by simp
 | x::l,acc=>by
  have:=iu l (gJ acc x)
  have h2:(gJ acc x).length≤acc.length+1:=by unfold gJ; split <;> simp
  rw[List.foldl_cons,zx]; omega
noncomputable def cg:List V→List Str→List Str
 | .str x::xs,k::ks=>if k = "name" then x::cg xs ks else cg xs ks
 | _::xs,_::ks=>cg xs ks
 | _,_=>[]
noncomputable def dE:List (Str × List Str):=[("open", ["name"]),("do", ["word", "name"]),("copy", ["name", "name"]),("drop", ["name"]),("tie", ["name", "name"]),("lend", ["name", "name", "steps"]),("if", ["bound", "steps", "steps"]),("while", ["bound", "steps"])]
structure Mo (H:Hp) (a:Addr) (s:ap) (kind:Str) (xs:List V) (ks:List Str):Prop where
 at':H a=some (.tup (.str kind::xs))
 kd:(kind,ks)∈dE
 len:xs.length=ks.length
 txt:∀ (i:Nat) (x:V),xs[i]? = some x→ks[i]? = some "name" → ∃ y,x = .str y
 names:cg xs ks=bW s
theorem rY{α : Type}{a b x:α}{i:Nat}(h:[a,b][i]? = some x):(i=0∧x=a)∨(i=1∧x=b):=by
 match i,h with
 | 0,h=>exact .inl ⟨rfl,by simpa using h.symm⟩
 | 1,h=>exact .inr ⟨rfl,by simpa using h.symm⟩
 | i+2,h=>simp at h
theorem vg{H:Hp}{a:Addr}{g:List ap→Prop}:∀ {s:ap},Eb H a s→fo g s→∃ kind xs ks,Mo H a s kind xs ks
 | .plain ws,h,ok=>by
  cases ok with
  | opn x=>exact⟨"open", [.str x],["name"],h,by simp[dE],rfl,fun i y e _=>by match i,e with | 0,e=>exact⟨x,by simpa using e.symm⟩ | i+1,e=>simp at e,by simp[cg,bW]; decide⟩
  | drp x=>exact⟨"drop", [.str x],["name"],h,by simp[dE],rfl,fun i y e _=>by match i,e with | 0,e=>exact⟨x,by simpa using e.symm⟩ | i+1,e=>simp at e,by simp[cg,bW]; decide⟩
  | cpy x y=>exact⟨"copy", [.str x,.str y],["name", "name"],h,by simp[dE],rfl,fun i z e _=>by rcases rY e with ⟨_,rfl⟩ | ⟨_,rfl⟩ <;> exact⟨_,rfl⟩,by simp[cg,bW]; decide⟩
  | tie x y=>exact⟨"tie", [.str x,.str y],["name", "name"],h,by simp[dE],rfl,fun i z e _=>by rcases rY e with ⟨_,rfl⟩ | ⟨_,rfl⟩ <;> exact⟨_,rfl⟩,by simp[cg,bW]; decide⟩
  | doo u x=>exact⟨"do", [.str u,.str x],["word", "name"],h,by simp[dE],rfl,fun i z e _=>by rcases rY e with ⟨_,rfl⟩ | ⟨_,rfl⟩ <;> exact⟨_,rfl⟩,by simp[cg,bW]; decide⟩
 | .lend x y b,⟨q,h,_⟩,ok=>⟨"lend", [.str x,.str y,.ref q],["name", "name", "steps"],h,by simp[dE],rfl,fun i z e F=>by match i,e,F with | 0,e,F=>exact⟨_,by simpa using e.symm⟩ | 1,e,F=>exact⟨_,by simpa using e.symm⟩ | 2,e,F=>exact absurd (by simpa using F) (show ¬ (("steps" : Str) = "name") from by decide) | i+3,e,F=>simp at e,by simp[cg,bW]⟩
 | .ite n b c,⟨q,r,h,_,_⟩,ok=>⟨"if", [.int n,.ref q,.ref r],["bound", "steps", "steps"],h,by simp[dE],rfl,fun i z e F=>by match i,e,F with | 0,e,F=>exact absurd (by simpa using F) (show ¬ (("bound" : Str) = "name") from by decide) | 1,e,F=>exact absurd (by simpa using F) (show ¬ (("steps" : Str) = "name") from by decide) | 2,e,F=>exact absurd (by simpa using F) (show ¬ (("steps" : Str) = "name") from by decide) | i+3,e,F=>simp at e,by simp[cg,bW]⟩
 | .whl n b,⟨q,h,_⟩,ok=>⟨"while", [.int n,.ref q],["bound", "steps"],h,by simp[dE],rfl,fun i z e F=>by match i,e,F with | 0,e,F=>exact absurd (by simpa using F) (show ¬ (("bound" : Str) = "name") from by decide) | 1,e,F=>exact absurd (by simpa using F) (show ¬ (("steps" : Str) = "name") from by decide) | i+2,e,F=>simp at e,by simp[cg,bW]⟩
theorem qd:∀ {xs:List V} {ks:List Str} (x:V) (k:Str),xs.length=ks.length→cg (xs++[x]) (ks++[k])=cg xs ks++cg [x] [k]
 | [],[],x,k,_=>rfl
 | [],_::_,_,_,h=>by simp at h
 | _::_,[],_,_,h=>by simp at h
 | y::xs,c::ks,x,k,h=>by
  have ih:=qd (xs:=xs) (ks:=ks) x k (by simpa using h)
  cases y <;> simp only[pT,cg,ih]
  split <;> simp
theorem oG(xs:List V)(ks:List Str)(j:Nat)(h:xs.length=ks.length):(cg (xs.take j) (ks.take j)).length≤(cg xs ks).length:=by
 induction xs generalizing ks j with
 | nil=>simp[cg]
 | cons y xs ih=>
  cases ks with
  | nil=>simp at h
  | cons c ks=>
   cases j with
   | zero=>simp[cg]
   | succ j=>
    have:=ih ks j (by simpa using h)
    rw[GS,GS]
    cases y <;> simp only[cg] <;> (try split) <;> (try simp only[zx]) <;> omega
theorem Aq{K:W.Frag}{H:Hp}{a l:Addr}{xs:List V}{kvs:List (aG × V)}{o:HO}(h:vr K H a xs)(hl:H l=some (.dK kvs)):vr K (upd H l o) a xs:=by
 rcases h with (h | ⟨o',h⟩) | h
 ·exact .inl (.inl (by rw[au (cF h hl (fun z=>nomatch z))]; exact h))
 ·exact .inl (.inr ⟨o',by rw[au (cF h hl (fun z=>nomatch z))]; exact h⟩)
 ·exact .inr h
noncomputable def nj:Sp:=fun vs H Q _=>∃ (sp:Addr) (ads:List Addr) (Ps:List ap) (g:List ap→Prop),vs=[.ref sp]∧H sp=some (.lst (ads.map V.ref))∧Paired (Eb H) ads Ps∧(∀ s∈Ps,fo g s)∧(Ps.flatMap bW).length≤5000∧
 ∀ (q:Addr) (H':Hp),rm H H'→H q=none→H' q=some (.lst ((fq (Ps.flatMap bW)).map V.str))→Q (.ref q) H'
theorem uS(D:Ab K mg "names_in" bV) (an:mg "zip" = none) (S:mg "list" = none) {dP:Addr} {kvs:List (Str × V)} (J:mg "PARTS" = some (.ref dP)) (m:E8 w K dP kvs)
  (qk:∀ kind ks,(kind,ks)∈dE→∃ a,cf kvs kind=some (.ref a)∧∀ H:Hp,vr K H a (ks.map V.str)):aH P w K mg base 1 "names_in" ["steps"] nj:=by
 refine D.cal Eg (fun _ _ _ _ _ _ us hl=>by obtain⟨_,rfl⟩:=zu1 us hl;rfl) (fun vs H Q E h=>by obtain⟨_,_,_,_,rfl,_⟩:=h; rfl) (fun f cB A outer s H vs Q E hr h=>?_)
 obtain⟨sp,O,U,g,rfl,bt,hp,hok,hL,q⟩:=h
 have cv:=aI hp
 refine⟨_,(ai (ar 1 Eg.nd qe)
   (ai (b6 wG rfl (ci K (pv 0)) (ba 2 Eg.nd) (aj (b6 wG rfl (tw K L_ an (aa (dW (h_ K) (pv 2) (er ae) fC) (aa (ao (JZ w K) (sU J) (ao (aw K) (pv 2) ae (fun _ _=>rfl)) (fun _ _=>rfl)) ac))) (jP K (n:=2) (cL (ba 3 Eg.nd) (cL (ba 4 Eg.nd) ib))) (aj (bC (aB bb (pv 4) ax (aF _)) (aj (im fP (jb (pv 1) (pv 3) (Bp hr)))) bz)))))
   (aj (aJ (cM (vP hr) S gn (aa (pv 1) ac)))))),?_⟩
 walk_at "r";refine fun dp a9=>?_
 generalize hH1:upd H dp _=H1
 have a6:=gm hH1 a9;have e1:=jM hH1;walk_at "n";refine⟨⟨_,ud.of (a6 _ _ bt)⟩,?_⟩
 refine cw (xs:=O.map V.ref) (fun i σ H'=>∃ o2 Z Y:Option V,σ=[some (.ref sp),some (.ref dp),o2,Z,Y]∧rm H H'∧H' dp=some (.dK (jj (fq ((U.take i).flatMap bW)))))
  ⟨none,none,none,rfl,a6,e1⟩ (fun i σ H' _ h=>by obtain⟨_,_,_,_,sm,_⟩:=h; exact ud.of (sm _ _ bt)) ?_ ?_
 ·rintro i v σ H' hv ⟨o2,Z,Y,rfl,sm,hd⟩
  have hi:i<O.length:=by have:=(Hd.mp hv).1; simpa using this
  rw[zy,zg hi]at hv
  cases hv;obtain⟨s,hs,st⟩:=b8 hp (zg hi)
  obtain⟨kind,xs,ks,cc,cq,a3,b4,bg⟩:=vg st (hok s (vx hs))
  obtain⟨ka,b2,be⟩:=qk kind ks cq
  have b3:=mo bW hs;have a7:=wC bW U (i+1);rw[b3]at a7 ⊢
  have b1:fq ((U.take i).flatMap bW++bW s)=(bW s).foldl gJ (fq ((U.take i).flatMap bW)):=by unfold fq; rw[za4]
  rw[b1];have ag:=iu ((U.take i).flatMap bW) [];rw[zr]at a7
  rw[qR]at ag
  have a4:(fq ((U.take i).flatMap bW)).length≤((U.take i).flatMap bW).length:=by unfold fq; omega
  generalize fq ((U.take i).flatMap bW)=acc at hd a4 ⊢;have bp:vr K H' O[i] (.str kind::xs):=vr.of (sm _ _ cc)
  walk_at "r";refine iB bp fun p2 H2 al h2=>?_
  have e1:de (V.str kind::xs) (some 1) none=xs:=ju _ 1
  rw[e1]at h2
  walk_at "r";refine⟨_,_,.inr (bp.same al),ir,dP,kvs,kind,.ref ka,rfl,rfl,m,b2,?_⟩
  refine⟨p2,ka,rfl,⟨_,h2⟩,⟨_,be _⟩,?_⟩
  refine nH (xs:=xs) (ys:=ks.map V.str) (fun j σ H'=>∃ Z Y:Option V,σ=[some (.ref sp),some (.ref dp),some (.ref O[i]),Z,Y]∧rm H H'∧vr K H' p2 xs∧H' dp=some (.dK (jj ((cg (xs.take j) (ks.take j)).foldl gJ acc))))
   (by rw[ze]; exact a3) ⟨Z,Y,rfl,sm.trans al,h2,al _ _ hd⟩ (fun j σ H' _ h=>by obtain⟨_,_,_,_,z1,_⟩:=h; exact⟨z1,be _⟩) ?_ ?_
  ·rintro j x y t σ H3 hx hy ⟨Z,Y,rfl,W,h3,F⟩ ht
   have cA:j<xs.length:=(Hd.mp hx).1
   have cl:j<ks.length:=by omega
   have ad:ks[j]? = some ks[j]:=zg cl
   rw[zy,ad]at hy
   cases hy;have cd:xs.take (j+1)=xs.take j++[x]:=by rw[pG,hx]; rfl
   have ca:ks.take (j+1)=ks.take j++[ks[j]]:=by rw[pG,ad]; rfl
   have a8:=qd (xs:=xs.take j) (ks:=ks.take j) x ks[j] (by rw[vW,vW,a3])
   have a5:=oG xs ks j a3;rw[bg]at a5
   have b0:=iu (cg (xs.take j) (ks.take j)) acc;rw[cd,ca,a8];have as:=b4 j x hx;rw[ad]at as
   generalize ks[j]=kj at a8 as ⊢;generalize cg (xs.take j) (ks.take j)=pk at F a5 b0 ⊢;have st:=ah ht (.tup [x,V.str kj]);have et:upd H3 t (.tup [x,V.str kj]) t=some (.tup [x,V.str kj]):=af
   generalize upd H3 t (.tup [x,V.str kj])=H4 at st et ⊢;walk_at "r";refine⟨t,_,rfl,vr.of et,rfl,?_⟩
   walk_at "r";refine bd (fun c=>?_) (fun c=>?_)
   ·subst c
    obtain⟨z,rfl⟩:=as rfl
    have ab:=st _ _ F;refine⟨dp,_,.inr z,rfl,rfl,ab,by unfold jj; rw[ze]; exact b5 (by omega),?_⟩
    rw[CB];refine⟨_,_,rfl,(W.trans st).upd a9 _,Aq (h3.same st) ab,?_⟩
    rw[af,za4]; rfl
   ·have cb:cg [x] [kj]=[]:=by
     cases x <;> simp[cg,c]
    rw[cb,gY];exact⟨_,_,rfl,W.trans st,h3.same st,st _ _ F⟩
  ·rintro σ H3 ⟨Z,Y,rfl,W,h3,F⟩
   rw[tx,mJ (by omega),bg]at F
   exact⟨_,_,_,rfl,W,F⟩
 ·rintro σ H' ⟨o2,Z,Y,rfl,sm,hd⟩
  walk_at "n";rw[ze,mJ (by omega)]at hd
  have ag:=iu (U.flatMap bW) [];rw[qR]at ag
  refine⟨_,hd,by unfold jj fq; rw[ze]; omega,fun l hl=>q l _ (sm.trans (ah hl _)) (sm.free hl) ?_⟩
  rw[af];unfold jj;rw[yt]; rfl
noncomputable def nK:Sp:=fun vs H Q _=>∃ (p:Addr) (T:List ap) (S:Addr→Prop),vs=[.ref p]∧AM S 10 H p T∧jq 10 T∧(cj 10 T).length≤1000∧((cj 10 T).flatMap bW).length≤5000∧
 ∀ (q:Addr) (H':Hp),rm H H'→H q=none→H' q=some (.lst ((fq ((cj 10 T).flatMap bW)).map V.str))→Q (.ref q) H'
theorem rA:∀ (d:Nat) {T:List ap},jq d T→∀ s∈cj d T,∃ g:List ap→Prop,fo g s
 | 0,_,h,_,_=>h.elim
 | d+1,T,ok,s,F=>by
  obtain⟨u,U,F⟩:=Hh.mp F
  have o:=ok u U;rcases Hi.mp F with rfl | F
  ·exact⟨_,o⟩
  obtain⟨b,J,F⟩:=Hh.mp F
  refine rA d (T:=b) ?_ s F
  cases u with
  | plain ws=>simp[dj]at J
  | lend x y c=>
   have:b=c:=by simpa [dj] using J
   subst this; exact o
  | ite n c e=>
   obtain⟨O,S⟩:=o
   have:b=c∨b=e:=by simpa [dj] using J
   rcases this with rfl | rfl
   ·exact O
   ·exact S
  | whl n c=>
   have:b=c:=by simpa [dj] using J
   subst this; exact o
theorem y_:∀ {s:ap} {g:List ap→Prop},fo g s→fo (fun _=>True) s
 | .plain _,_,h=>h
 | .lend _ _ _,_,_=>trivial
 | .ite _ _ _,_,_=>⟨trivial,trivial⟩
 | .whl _ _,_,_=>trivial
theorem vh(D:Ab K mg "names_of" d_) (J:aH P w K mg base 1 "names_in" ["steps"] nj) (F:aH P w K mg base 14 "steps_within" ["program"] (rf 10)):aH P w K mg base 15 "names_of" ["program"] nK:=by
 refine D.cal sx (fun _ _ _ _ _ _ us hl=>by obtain⟨_,rfl⟩:=zu1 us hl;rfl) (fun vs H Q E h=>by obtain⟨_,_,_,rfl,_⟩:=h; rfl) (fun f al A outer s H vs Q E hr h=>?_)
 obtain⟨p,T,S,rfl,hp,ok,h1,h2,q⟩:=h
 refine⟨_,(aj (aJ (ay J hr (aa (ay F hr (aa (pv 0) ac) (hle:=by omega)) ac) (hle:=by omega)))),?_⟩
 walk_at "r";refine⟨p,T,S,rfl,hp,ok,by omega,fun sp H1 Y O ag Z W=>?_⟩
 walk_at "r";refine⟨sp,Y,cj 10 T,fun _=>True,rfl,Z,W,fun s hs=>let ⟨g,z⟩:=rA 10 ok s hs; y_ z,h2,fun r H2 ad U ab=>?_⟩
 exact q r H2 (O.trans ad) (O.free U) ab
theorem qE{ws:List Str}(h:e_ ws):(ws.headD "" = "do" → ws.length=3)∧dM ws=bW (.plain ws):=by
 cases h with
 | opn x=>exact⟨fun c=>absurd c (by show ¬ (Str.ofString "open" = Str.ofString "do"); decide +kernel),by unfold dM; simp only[bW]; rw[He (by show ¬ (Str.ofString "open" = Str.ofString "do"); decide +kernel),He (by show ¬ (Str.ofString "open" = Str.ofString "do"); decide +kernel)]⟩
 | drp x=>exact⟨fun c=>absurd c (by show ¬ (Str.ofString "drop" = Str.ofString "do"); decide +kernel),by unfold dM; simp only[bW]; rw[He (by show ¬ (Str.ofString "drop" = Str.ofString "do"); decide +kernel),He (by show ¬ (Str.ofString "drop" = Str.ofString "do"); decide +kernel)]⟩
 | cpy x y=>exact⟨fun c=>absurd c (by show ¬ (Str.ofString "copy" = Str.ofString "do"); decide +kernel),by unfold dM; simp only[bW]; rw[He (by show ¬ (Str.ofString "copy" = Str.ofString "do"); decide +kernel),He (by show ¬ (Str.ofString "copy" = Str.ofString "do"); decide +kernel)]⟩
 | tie x y=>exact⟨fun c=>absurd c (by show ¬ (Str.ofString "tie" = Str.ofString "do"); decide +kernel),by unfold dM; simp only[bW]; rw[He (by show ¬ (Str.ofString "tie" = Str.ofString "do"); decide +kernel),He (by show ¬ (Str.ofString "tie" = Str.ofString "do"); decide +kernel)]⟩
 | doo u x=>exact⟨fun _=>rfl,by unfold dM; simp only[bW]; rw[Hf (by rfl),Hf (by rfl)]; rfl⟩
theorem Ci{f g:List ap→Prop}{N:Str→Prop}{O:List ap→List ap}(hf:∀ b,g b→(∀ n∈(O b).flatMap bW,N n)→f b):∀ (s:ap),fo g s→(∀ n∈(eZ O s).flatMap bW,N n)→BD f N s
 | .plain ws,ok,h=>by
  obtain⟨h1,h2⟩:=qE ok
  refine⟨h1,fun n F=>h n ?_⟩
  rw[h2]at F
  exact Hh.mpr ⟨.plain ws,zI,F⟩
 | .lend x y b,ok,h=>by
  refine⟨h x (Hh.mpr ⟨.lend x y b,zI,by simp[bW]⟩),h y (Hh.mpr ⟨.lend x y b,zI,by simp[bW]⟩),hf b ok fun n F=>h n ?_⟩
  obtain⟨s,J,F⟩:=Hh.mp F
  exact Hh.mpr ⟨s,zO _ (Hh.mpr ⟨b,by simp[dj],J⟩),F⟩
 | .ite m b c,ok,h=>by
  refine⟨hf b ok.1 fun n F=>h n ?_,hf c ok.2 fun n F=>h n ?_⟩
  ·obtain⟨s,J,F⟩:=Hh.mp F
   exact Hh.mpr ⟨s,zO _ (Hh.mpr ⟨b,by simp[dj],J⟩),F⟩
  ·obtain⟨s,J,F⟩:=Hh.mp F
   exact Hh.mpr ⟨s,zO _ (Hh.mpr ⟨c,by simp[dj],J⟩),F⟩
 | .whl m b,ok,h=>hf b ok fun n F=>h n (by
   obtain⟨s,J,F⟩:=Hh.mp F
   exact Hh.mpr ⟨s,zO _ (Hh.mpr ⟨b,by simp[dj],J⟩),F⟩)
theorem yV{N:Str→Prop}:∀ (d:Nat) (T:List ap),jq d T→(∀ n∈(cj d T).flatMap bW,N n)→sX N d T
 | 0,_,h,_=>h
 | d+1,T,ok,h=>fun s O=>Ci (fun b S F=>yV d b S F) s (ok s O) fun n F=>h n (by
   obtain⟨s',J,F⟩:=Hh.mp F
   exact Hh.mpr ⟨s',Hh.mpr ⟨s,O,J⟩,F⟩)
end
def eQ(x:Str):Prop:=32∉x.cps.toList
noncomputable def iU(f:List ap→Prop):ap→Prop
 | .plain ws=>fu ws∧∀ x∈ws,eQ x
 | .lend x y b=>eQ x∧eQ y∧f b
 | .ite n b c=>n.natAbs<10 ^ 61∧f b∧f c
 | .whl n b=>n.natAbs<10 ^ 61∧f b
noncomputable def cU:Nat→List ap→Prop
 | 0,_=>False
 | d+1,T=>∀ s∈T,iU (cU d) s
theorem qo{d:Nat}{T:List ap}{s:ap}(h:cU (d+1) T)(F:iU (cU d) s):cU (d+1) (T++[s]):=fun u J=>(Hj.mp J).elim (h u) (fun z=>by rw[Hg.mp z]; exact F)
theorem kF(d:Nat):cU (d+1) []:=fun s F=>by cases F
theorem w6{f g:List ap→Prop}(h:∀ b,f b→g b):∀ {s:ap},iU f s→fo g s
 | .plain ws,⟨px,_⟩=>by
  show e_ ws
  cases px with
  | op x=>exact .opn x
  | dr x=>exact .drp x
  | dd u x=>exact .doo u x
  | cp x y=>exact .cpy x y
  | ti x y=>exact .tie x y
 | .lend _ _ _,z=>h _ z.2.2
 | .ite _ _ _,z=>⟨h _ z.2.1,h _ z.2.2⟩
 | .whl _ _,z=>h _ z.2
theorem qC:∀ {d:Nat} {T:List ap},cU d T→jq d T
 | 0,_,h=>h
 | _+1,_,h=>fun s F=>w6 (fun _ z=>qC z) (h s F)
theorem BZ{l:List Str}{n:Str}(h:n∈l):n∈fq l:=by
 unfold fq
 have go:∀ (l acc:List Str),n∈acc∨n∈l→n∈l.foldl gJ acc:=fun l=>by
  induction l with
  | nil=>intro acc h; exact h.elim id (fun z=>by cases z)
  | cons x l ih=>
   intro acc h
   refine ih _ ?_
   unfold gJ;rcases h with h | h
   ·left; split
    ·exact h
    ·exact lZ _ h
   ·rcases Hi.mp h with rfl | h
    ·left; split
     ·assumption
     ·exact kr _ zI
    ·exact .inr h
 exact go l [] (.inr h)
theorem sF{ws:List Str}(F:fu ws):ws.headD "" = "open" ∨ ws.headD "" = "drop" ∨ ws.headD "" = "do" ∨ ws.headD "" = "copy" ∨ ws.headD "" = "tie" := by
 cases F
 ·exact .inl rfl
 ·exact .inr (.inl rfl)
 ·exact .inr (.inr (.inl rfl))
 ·exact .inr (.inr (.inr (.inl rfl)))
 ·exact .inr (.inr (.inr (.inr rfl)))
set_option genSizeOf false in
inductive Bt where
 | top
 | lend (x y:Str)
 | ite (n:Int)
 | whl (n:Int)
set_option genInjectivity false in
set_option genSizeOf false in
structure tQ where
 hd:Bt
 a:List ap
 b:List ap
 s:Bool
noncomputable def dF:Bt→List V
 | .top=>[.str "top"]
 | .lend x y=>[.str "lend", .str x,.str y]
 | .ite n=>[.str "if", .int n]
 | .whl n=>[.str "while", .int n]
noncomputable def gS(f:tQ):ap:=match f.hd with
 | .top=>.plain []
 | .lend x y=>.lend x y f.a
 | .ite n=>.ite n f.a f.b
 | .whl n=>.whl n f.a
noncomputable def bE(f:tQ)(s:ap):tQ:=if f.s=true then { f with b:=f.b++[s] } else { f with a:=f.a++[s] }
set_option genInjectivity false in
set_option genSizeOf false in
structure Ed where
 fa:Addr
 a1:Addr
 a2:Addr
 f:tQ
noncomputable def eG(fs:List Ed):List Addr:=fs.flatMap fun x=>[x.fa,x.a1,x.a2]
noncomputable def iY(b:Bool):V:=.int (if b=true then 1 else 0)
def FB(S:Addr→Prop)(H:Hp)(d:Nat)(x:Ed):Prop:=∃ (ha:Addr) (as1 as2:List Addr),H x.fa=some (.lst [.ref ha,.ref x.a1,.ref x.a2,iY x.f.s])∧H ha=some (.tup (dF x.f.hd))∧H x.a1=some (.lst (as1.map V.ref))∧H x.a2=some (.lst (as2.map V.ref))∧Paired (DJ (AM S d H) H) as1 x.f.a∧Paired (DJ (AM S d H) H) as2 x.f.b
structure DK (H0 H:Hp) (pp:Addr) (fs:List Ed) (S:Addr→Prop):Prop where
 sm:rm H0 H
 pile:H pp=some (.lst (fs.map fun x=>V.ref x.fa))
 fr:∀ k x,fs[k]? = some x→FB S H (9 - k) x
 nd:(pp::eG fs).Nodup
 ns:∀ b∈pp::eG fs,¬ S b
 nw:∀ b∈pp::eG fs,H0 b=none
 sn:∀ b,S b→H0 b=none∧∃ xs,H b=some (.lst xs)
theorem sO{S:Addr→Prop}{b q:Addr}(J:S b)(F:¬ S q):b≠q:=fun e=>F (e ▸ J)
theorem GK{L:List Addr}{q p:Addr}(F:q∈L)(J:p∉L):p≠q:=fun e=>J (e ▸ F)
theorem cn{S S':Addr→Prop}{H H':Hp}{d:Nat}(J:∀ b xs,H b=some (.tup xs)→H' b=some (.tup xs))(hl:∀ b xs,S b→H b=some (.lst xs)→H' b=some (.lst xs))(O:∀ b,S b→S' b){F:List Addr}{T:List ap}(h:Paired (DJ (AM S d H) H) F T):Paired (DJ (AM S' d H') H') F T:=
 Paired.imp' (fun a s z=>DJ.imp J (fun q b y=>AM.imp J hl O d y) z) h
theorem FB.imp{S S':Addr→Prop}{H H':Hp}{d:Nat}{x:Ed}(h:FB S H d x)(J:∀ b xs,H b=some (.tup xs)→H' b=some (.tup xs))(hl:∀ b xs,S b→H b=some (.lst xs)→H' b=some (.lst xs))(W:∀ b,S b→S' b)(O:∀ b o,(b=x.fa∨b=x.a1∨b=x.a2)→H b=some o→H' b=some o):FB S' H' d x:=by
 obtain⟨Y,U,F,h1,h2,h3,Z,h5,h6⟩:=h
 exact⟨Y,U,F,O _ _ (.inl rfl) h1,J _ _ h2,O _ _ (.inr (.inl rfl)) h3,O _ _ (.inr (.inr rfl)) Z,cn J hl W h5,cn J hl W h6⟩
theorem eI{fs:List Ed}{x:Ed}(h:x∈fs):x.fa∈eG fs∧x.a1∈eG fs∧x.a2∈eG fs:=by
 unfold eG;refine⟨?_,?_,?_⟩ <;> exact Hh.mpr ⟨x,h,by simp⟩
theorem d0(fs F:List Ed):eG (fs++F)=eG fs++eG F:=zbc
theorem DK.alloc{O H H':Hp}{F:Addr}{fs:List Ed}{S:Addr→Prop}(I:DK O H F fs S)(s:rm H H'):DK O H' F fs S:=
 ⟨I.sm.trans s,s _ _ I.pile,fun k x e=>(I.fr k x e).imp (fun b xs z=>s _ _ z) (fun b xs _ z=>s _ _ z) (fun _ z=>z) (fun b o _ z=>s _ _ z),I.nd,I.ns,I.nw,fun b J=>⟨(I.sn b J).1,by obtain⟨xs,z⟩:=(I.sn b J).2; exact⟨xs,s _ _ z⟩⟩⟩
theorem DK.free{F H:Hp}{J:Addr}{fs:List Ed}{S:Addr→Prop}(I:DK F H J fs S){t:Addr}(h:H t=none):F t=none∧¬ S t:=by
 refine⟨I.sm.free h,fun z=>?_⟩
 obtain⟨_,xs,e⟩:=I.sn t z
 rw[h]at e; cases e
theorem DK.notop{W H:Hp}{F:Addr}{fs:List Ed}{S:Addr→Prop}(I:DK W H F fs S){t:Addr}(h:H t=none):t∉F::eG fs:=fun z=>by
 rcases Hi.mp z with rfl | z
 ·rw[I.pile]at h; cases h
 ·obtain⟨x,hx,J⟩:=Hh.mp z
  obtain⟨k,U,rfl⟩:=Ho.mp hx
  obtain⟨ha,ab,Z,h1,h2,Y,O,_⟩:=I.fr k _ (zg U)
  simp only[zK,qm,or_false]at J
  rcases J with e | e | e <;> rw[e]at h
  ·rw[h1]at h; cases h
  ·rw[Y]at h; cases h
  ·rw[O]at h; cases h
theorem DK.write{H0 H:Hp}{pp:Addr}{F:List Ed}{x J:Ed}{S:Addr→Prop}(I:DK H0 H pp (F++[x]) S){q:Addr}{ys:List V}(hq:q=x.fa∨q=x.a1∨q=x.a2)(e1:J.fa=x.fa)(e2:J.a1=x.a1)(e3:J.a2=x.a2)(hx:FB S (upd H q (.lst ys)) (9 - F.length) J):DK H0 (upd H q (.lst ys)) pp (F++[J]) S:=by
 have Y:eG (F++[J])=eG (F++[x]):=by
  rw[d0,d0];show _++[J.fa,J.a1,J.a2]=_++[x.fa,x.a1,x.a2]
  rw[e1,e2,e3]
 have a3:x∈F++[x]:=kr _ zI
 have U:q∈eG (F++[x]):=by
  obtain⟨m1,m2,m3⟩:=eI a3
  rcases hq with rfl | rfl | rfl <;> assumption
 have al:¬ S q:=I.ns q (zO _ U)
 have ab:H0 q=none:=I.nw q (zO _ U)
 obtain⟨ha,a5,a6,h1,h2,h3,h4,_⟩:=I.fr F.length x (by rw[vw (zl _),td]; rfl)
 have a4:∃ zs,H q=some (.lst zs):=by
  rcases hq with rfl | rfl | rfl
  ·exact⟨_,h1⟩
  ·exact⟨_,h3⟩
  ·exact⟨_,h4⟩
 obtain⟨zs,ag⟩:=a4
 have ht:∀ b xs,H b=some (.tup xs)→upd H q (.lst ys) b=some (.tup xs):=fun b xs z=>by rw[au (cF z ag (fun y=>nomatch y))]; exact z
 have hl:∀ b xs,S b→H b=some (.lst xs)→upd H q (.lst ys) b=some (.lst xs):=fun b xs W z=>by rw[au (sO W al)]; exact z
 have O:=I.nd;rw[f6]at O
 refine⟨I.sm.upd ab _,?_,fun k y Z=>?_,by rw[Y]; exact I.nd,by rw[Y]; exact I.ns,by rw[Y]; exact I.nw,fun b W=>⟨(I.sn b W).1,?_⟩⟩
 ·rw[au (GK U O.1),I.pile,zP,zP]
  show some (HO.lst (_++[V.ref x.fa]))=some (HO.lst (_++[V.ref J.fa]))
  rw[e1]
 ·by_cases hk:k<F.length
  ·rw[vX hk]at Z
   refine(I.fr k y (by rw[vX hk]; exact Z)).imp ht hl (fun _ z=>z) (fun b o W z=>?_)
   have an:b∈eG F:=by
    obtain⟨m1,m2,m3⟩:=eI (vx Z)
    rcases W with rfl | rfl | rfl <;> assumption
   have as:q∈eG [x]:=by
    obtain⟨m1,m2,m3⟩:=eI (fs:=[x]) (x:=x) zI
    rcases hq with rfl | rfl | rfl <;> assumption
   have:=O.2
   rw[d0,zaD]at this
   rw[au (this.2.2 b an q as)]; exact z
  ·rw[vw (by omega)]at Z
   have ad:k - F.length=0:=by have:=(Hd.mp Z).1; simp at this; omega
   rw[ad]at Z
   cases Z;rw[show k=F.length by omega]
   exact hx
 ·obtain⟨xs,z⟩:=(I.sn b W).2
  exact⟨xs,hl b xs W z⟩
theorem cP{α : Type}(F:List α)(x:α):(F++[x])[F.length]? = some x:=by rw[vw (zl _),td]; rfl
theorem DK.put{H0 H:Hp}{pp:Addr}{Z:List Ed}{x:Ed}{S:Addr→Prop}(I:DK H0 H pp (Z++[x]) S){t:Addr}{st:ap}(ht:DJ (AM S (9 - Z.length) H) H t st) :
  ∃ (q:Addr) (as:List Addr),q=(if x.f.s=true then x.a2 else x.a1)∧H q=some (.lst (as.map V.ref))∧as.length=(if x.f.s=true then x.f.b else x.f.a).length∧DK H0 (upd H q (.lst (as.map V.ref++[.ref t]))) pp (Z++[{ x with f:=bE x.f st }]) S:=by
 obtain⟨Y,J,F,h1,h2,h3,h4,h5,h6⟩:=I.fr Z.length x (cP Z x)
 have ag:x∈Z++[x]:=kr _ zI
 have ab:=I.nd;rw[f6,d0,zaD]at ab
 have ad:[x.fa,x.a1,x.a2].Nodup:=ab.2.2.1
 simp only[f6,zK,qm,or_false,not_or,not_false_eq_true,GB,and_true]at ad
 obtain⟨⟨n1,n2⟩,n3⟩:=ad
 obtain⟨m1,m2,m3⟩:=eI ag
 cases hs:x.f.s with
 | true=>
  refine⟨x.a2,F,rfl,h4,aI h6,I.write (.inr (.inr rfl)) rfl rfl rfl ?_⟩
  have U:¬ S x.a2:=I.ns _ (zO _ m3)
  have W:∀ b xs,H b=some (.tup xs)→upd H x.a2 (.lst (F.map V.ref++[.ref t])) b=some (.tup xs):=fun b xs z=>by rw[au (cF z h4 (fun y=>nomatch y))]; exact z
  have kl:∀ b xs,S b→H b=some (.lst xs)→upd H x.a2 (.lst (F.map V.ref++[.ref t])) b=some (.lst xs):=fun b xs hb z=>by rw[au (sO hb U)]; exact z
  refine⟨Y,J,F++[t],?_,W _ _ ?_,?_,by rw[af,zP]; rfl,?_,?_⟩
  ·show upd H x.a2 _ x.fa=some (.lst [.ref Y,.ref x.a1,.ref x.a2,iY (bE x.f st).s])
   rw[au n2,h1]; unfold bE; rw[Hf hs]
  ·show H Y=some (.tup (dF (bE x.f st).hd))
   rw[h2]; unfold bE; rw[Hf hs]
  ·show upd H x.a2 _ x.a1=_
   rw[au n3]; exact h3
  ·show Paired _ J (bE x.f st).a
   unfold bE; rw[Hf hs]
   exact cn W kl (fun _ z=>z) h5
  ·show Paired _ (F++[t]) (bE x.f st).b
   unfold bE; rw[Hf hs]
   exact cn W kl (fun _ z=>z) (dH h6 (.cons ht .nil))
 | false=>
  refine⟨x.a1,J,rfl,h3,aI h5,I.write (.inr (.inl rfl)) rfl rfl rfl ?_⟩
  have U:¬ S x.a1:=I.ns _ (zO _ m2)
  have W:∀ b xs,H b=some (.tup xs)→upd H x.a1 (.lst (J.map V.ref++[.ref t])) b=some (.tup xs):=fun b xs z=>by rw[au (cF z h3 (fun y=>nomatch y))]; exact z
  have kl:∀ b xs,S b→H b=some (.lst xs)→upd H x.a1 (.lst (J.map V.ref++[.ref t])) b=some (.lst xs):=fun b xs hb z=>by rw[au (sO hb U)]; exact z
  have O:¬ x.f.s=true:=by rw[hs]; decide
  refine⟨Y,J++[t],F,?_,W _ _ ?_,by rw[af,zP]; rfl,?_,?_,?_⟩
  ·show upd H x.a1 _ x.fa=some (.lst [.ref Y,.ref x.a1,.ref x.a2,iY (bE x.f st).s])
   rw[au n1,h1]; unfold bE; rw[He O]
  ·show H Y=some (.tup (dF (bE x.f st).hd))
   rw[h2]; unfold bE; rw[He O]
  ·show upd H x.a1 _ x.a2=_
   rw[au (ve n3)]; exact h4
  ·show Paired _ (J++[t]) (bE x.f st).a
   unfold bE; rw[He O]
   exact cn W kl (fun _ z=>z) (dH h5 (.cons ht .nil))
  ·show Paired _ F (bE x.f st).b
   unfold bE; rw[He O]
   exact cn W kl (fun _ z=>z) h6
theorem DK.push{Y H:Hp}{J:Addr}{fs:List Ed}{S:Addr→Prop}(I:DK Y H J fs S){x:Ed}(hx:FB S H (9 - fs.length) x)(n1:[x.fa,x.a1,x.a2].Nodup)(hf:∀ b∈[x.fa,x.a1,x.a2],b∉J::eG fs∧¬ S b∧Y b=none):DK Y (upd H J (.lst (fs.map (fun x=>V.ref x.fa)++[.ref x.fa]))) J (fs++[x]) S:=by
 have ad:¬ S J:=I.ns J zI
 have ab:Y J=none:=I.nw J zI
 have O:=I.nd;rw[f6]at O
 have kt:∀ b xs,H b=some (.tup xs)→upd H J (.lst (fs.map (fun x=>V.ref x.fa)++[.ref x.fa])) b=some (.tup xs):=fun b xs z=>by rw[au (cF z I.pile (fun y=>nomatch y))]; exact z
 have kl:∀ b xs,S b→H b=some (.lst xs)→upd H J (.lst (fs.map (fun x=>V.ref x.fa)++[.ref x.fa])) b=some (.lst xs):=fun b xs F z=>by rw[au (sO F ad)]; exact z
 have ko:∀ b o,b≠J→H b=some o→upd H J (.lst (fs.map (fun x=>V.ref x.fa)++[.ref x.fa])) b=some o:=fun b o F z=>by rw[au F]; exact z
 have U:eG (fs++[x])=eG fs++[x.fa,x.a1,x.a2]:=by rw[d0]; rfl
 refine⟨I.sm.upd ab _,by rw[af,zP]; rfl,fun k y W=>?_,?_,fun b F=>?_,fun b F=>?_,fun b F=>⟨(I.sn b F).1,by obtain⟨xs,z⟩:=(I.sn b F).2; exact⟨xs,kl b xs F z⟩⟩⟩
 ·by_cases hk:k<fs.length
  ·rw[vX hk]at W
   refine(I.fr k y W).imp kt kl (fun _ z=>z) (fun b o F z=>ko b o (fun e=>?_) z)
   obtain⟨m1,m2,m3⟩:=eI (vx W)
   rcases F with h | h | h
   ·exact O.1 (by rw[← e,h]; exact m1)
   ·exact O.1 (by rw[← e,h]; exact m2)
   ·exact O.1 (by rw[← e,h]; exact m3)
  ·rw[vw (by omega)]at W
   have Z:k - fs.length=0:=by have:=(Hd.mp W).1; simp at this; omega
   rw[Z]at W
   cases W;rw[show k=fs.length by omega]
   refine hx.imp kt kl (fun _ z=>z) (fun b o F z=>ko b o (fun e=>?_) z)
   have ag:b∈[x.fa,x.a1,x.a2]:=by rcases F with h | h | h <;> rw[h] <;> simp
   exact(hf b ag).1 (by rw[e]; exact zI)
 ·rw[U,← pT,zaD]
  exact⟨I.nd,n1,fun a ha b F e=>(hf b F).1 (e ▸ ha)⟩
 ·rw[U,← pT]at F
  rcases Hj.mp F with h | h
  ·exact I.ns b h
  ·exact(hf b h).2.1
 ·rw[U,← pT]at F
  rcases Hj.mp F with h | h
  ·exact I.nw b h
  ·exact(hf b h).2.2
theorem DK.pop{H0 H:Hp}{O:Addr}{F:List Ed}{x:Ed}{S:Addr→Prop}(I:DK H0 H O (F++[x]) S)(hg:F.length≤8) :
  DK H0 (upd H O (.lst (F.map fun x=>V.ref x.fa))) O F (fun b=>S b∨b=x.a1∨b=x.a2)∧AM (fun b=>S b∨b=x.a1∨b=x.a2) (10 - F.length) (upd H O (.lst (F.map fun x=>V.ref x.fa))) x.a1 x.f.a∧AM (fun b=>S b∨b=x.a1∨b=x.a2) (10 - F.length) (upd H O (.lst (F.map fun x=>V.ref x.fa))) x.a2 x.f.b:=by
 obtain⟨ha,Y,W,h1,h2,h3,h4,h5,h6⟩:=I.fr F.length x (cP F x)
 have ab:¬ S O:=I.ns O zI
 have ad:H0 O=none:=I.nw O zI
 have U:=I.nd;rw[d0,← pT,zaD]at U
 obtain⟨d1,d2,d3⟩:=U
 have dx:∀ b∈O::eG F,b≠x.a1∧b≠x.a2:=fun b J=>⟨fun e=>d3 b J x.a1 (by show _∈[x.fa,x.a1,x.a2]; simp) e,fun e=>d3 b J x.a2 (by show _∈[x.fa,x.a1,x.a2]; simp) e⟩
 have kt:∀ b xs,H b=some (.tup xs)→upd H O (.lst (F.map fun x=>V.ref x.fa)) b=some (.tup xs):=fun b xs z=>by rw[au (cF z I.pile (fun y=>nomatch y))]; exact z
 have Z:∀ b xs,S b→H b=some (.lst xs)→upd H O (.lst (F.map fun x=>V.ref x.fa)) b=some (.lst xs):=fun b xs J z=>by rw[au (sO J ab)]; exact z
 have p1:=(dx O zI).1;have p2:=(dx O zI).2;have k3:upd H O (.lst (F.map fun x=>V.ref x.fa)) x.a1=some (.lst (Y.map V.ref)):=by rw[au p1.symm]; exact h3
 have k4:upd H O (.lst (F.map fun x=>V.ref x.fa)) x.a2=some (.lst (W.map V.ref)):=by rw[au p2.symm]; exact h4
 have al:x∈F++[x]:=kr _ zI
 obtain⟨m1,m2,m3⟩:=eI al
 have e9:10 - F.length=9 - F.length+1:=by omega
 refine⟨⟨I.sm.upd ad _,af,fun k y hy=>?_,d1,fun b J z=>?_,fun b J=>?_,fun b J=>?_⟩,?_,?_⟩
 ·have hk:=(Hd.mp hy).1
  refine(I.fr k y (by rw[vX hk]; exact hy)).imp kt Z (fun _ z=>.inl z) (fun b o J z=>?_)
  have ag:b∈eG F:=by
   obtain⟨m1,m2,m3⟩:=eI (vx hy)
   rcases J with rfl | rfl | rfl <;> assumption
  rw[f6]at d1
  rw[au (GK ag d1.1).symm]; exact z
 ·rcases z with z | z | z
  ·exact I.ns b (by rw[d0,← pT]; exact lZ _ J) z
  ·exact(dx b J).1 z
  ·exact(dx b J).2 z
 ·exact I.nw b (by rw[d0,← pT]; exact lZ _ J)
 ·rcases J with J | rfl | rfl
  ·exact⟨(I.sn b J).1,by obtain⟨xs,z⟩:=(I.sn b J).2; exact⟨xs,Z b xs J z⟩⟩
  ·exact⟨I.nw _ (zO _ m2),_,k3⟩
  ·exact⟨I.nw _ (zO _ m3),_,k4⟩
 ·rw[e9]
  exact⟨.inr (.inl rfl),Y,k3,cn kt Z (fun _ z=>.inl z) h5⟩
 ·rw[e9]
  exact⟨.inr (.inr rfl),W,k4,cn kt Z (fun _ z=>.inl z) h6⟩
section
variable{P:Program}{w:World}{K:W.Frag}{mg:Str→Option Value}{base:Heap}
noncomputable def uX:Sp:=fun vs H Q _=>∃ (pp t:Addr) (H0:Hp) (gs:List Ed) (x:Ed) (S:Addr→Prop) (st:ap),vs=[.ref pp,.ref t]∧DK H0 H pp (gs++[x]) S∧DJ (AM S (9 - gs.length) H) H t st∧x.f.a.length≤1000∧x.f.b.length≤1000∧gs.length≤100∧
 ∀ H':Hp,DK H0 H' pp (gs++[{ x with f:=bE x.f st }]) S→Q .non H'
theorem fV{F:List Ed}{x:Ed}:cJ ((F++[x]).map fun x=>V.ref x.fa) (-1)=some (.ref x.fa):=Cg (by rw[ze,zy,zr]; simp)
theorem Fu(D:Ab K mg "_law_put" fW):aH P w K mg base 1 "_law_put" ["_law_pile", "_law_step_here"] uX:=by
 refine D.cal (k:=0) vM (fun _ _ _ _ _ _ Z hl=>match Z,hl with | [_,_],_=>rfl) (fun vs H Q E h=>by obtain⟨_,_,_,_,_,_,_,rfl,_⟩:=h; rfl) (fun f ab A outer s0 H vs Q E hr h=>?_)
 obtain⟨pp,t,H0,U,x,S,st,rfl,I,ht,ag,Y,ad,q⟩:=h
 refine⟨_,(aj (bc (bA K qL vQ vT bo (ao (aw K) (ao (aw K) (pv 0) (fN fc ae) (fun _ _=>rfl)) (ak az ae (ao (aw K) (ao (aw K) (pv 0) (fN fc ae) (fun _ _=>rfl)) ae (fun _ _=>rfl))) (fun _ _=>rfl)) (aa (pv 1) ac)))),?_⟩
 obtain⟨ha,an,al,h1,h2,h3,h4,h5,h6⟩:=I.fr U.length x (cP U x)
 obtain⟨q0,as,O,J,F,W⟩:=I.put ht
 walk_at "r";refine⟨_,_,.inl (ud.of I.pile),fV,?_⟩
 walk_at "r";refine⟨_,_,.inl (ud.of I.pile),fV,?_⟩
 walk_at "r";refine⟨_,_,.inl (ud.of h1),av (j:=3) rfl,?_⟩
 cases hs:x.f.s with
 | true=>
  rw[hs,Hf rfl]at O F
  subst O;rw[show iY true=V.int 1 from rfl];walk_at "r";refine⟨_,_,.inl (ud.of h1),av (j:=2) rfl,?_⟩
  walk_at "r";refine⟨⟨_,ud.of J⟩,_,J,by rw[ze,F]; exact b5 (by omega),?_⟩
  exact q _ W
 | false=>
  rw[hs,He (by decide)]at O F
  subst O;rw[show iY false=V.int 0 from rfl];walk_at "r";refine⟨_,_,.inl (ud.of h1),av (j:=1) rfl,?_⟩
  walk_at "r";refine⟨⟨_,ud.of J⟩,_,J,by rw[ze,F]; exact b5 (by omega),?_⟩
  exact q _ W
noncomputable def uJ:Sp:=fun vs H Q _=>∃ (pp:Addr) (H0:Hp) (gs:List Ed) (g x:Ed) (S:Addr→Prop),vs=[.ref pp]∧DK H0 H pp (gs++[g]++[x]) S∧x.f.hd ≠ .top∧g.f.a.length≤1000∧g.f.b.length≤1000∧gs.length≤7∧
 ∀ (H':Hp) (S':Addr→Prop),DK H0 H' pp (gs++[{ g with f:=bE g.f (gS x.f) }]) S'→Q .non H'
theorem zu(D:Ab K mg "_law_close" b9) (J:aH P w K mg base 1 "_law_put" ["_law_pile", "_law_step_here"] uX):aH P w K mg base 2 "_law_close" ["_law_pile"] uJ:=by
 refine D.cal (k:=1) DZ (fun _ _ _ _ _ _ us hl=>by obtain⟨_,rfl⟩:=zu1 us hl;rfl) (fun vs H Q E h=>by obtain⟨_,_,_,_,_,_,rfl,_⟩:=h; rfl) (fun f as A outer s0 H vs Q E hr h=>?_)
 obtain⟨pp,H0,W,g,x,S,rfl,I,hx,ad,ab,a3,q⟩:=h
 refine⟨_,(ai (im (l8 K qL F.slot_list_pop F.type_list_pop B8 (pv 0)) (CQ K (n:=4) (cL (ba 1 DZ.nd) (cL (ba 2 DZ.nd) (cL (ba 3 DZ.nd) (cL (ba 4 DZ.nd) ib))))))
   (aj (bC (aB bb (ao (aw K) (pv 1) ae (fun _ _=>rfl)) ax (aF _)) (aj (bc (ay J hr (aa (pv 0) (aa (ak (fD K) (pv 1) (aK (aa (pv 2) (aa (pv 3) ac)))) ac))))) (aj (bc (ay J hr (aa (pv 0) (aa (ak (fD K) (pv 1) (aK (aa (pv 2) ac))) ac)))))))),?_⟩
 obtain⟨ha,a6,a5,h1,h2,h3,h4,h5,h6⟩:=I.fr (W++[g]).length x (cP (W++[g]) x)
 obtain⟨I2,pa,pb⟩:=I.pop (by rw[zr]; simp; omega)
 have al:(W++[g]).length=W.length+1:=by simp
 rw[al,show 10 - (W.length+1)=9 - W.length by omega]at pa pb
 walk_at "r";refine⟨⟨_,ud.of I.pile⟩,_,_,I.pile,(by rw[zP,zr,vw (by simp)]; simp:_=some (V.ref x.fa)),?_⟩
 rw[zP,zW,rW,List.dropLast_concat]
 have an:x.fa≠pp:=fun e=>by
  have:=I.nd
  rw[f6]at this
  exact this.1 (by rw[← e]; exact(eI (kr _ zI)).1)
 have ag:upd H pp (.lst ((W++[g]).map fun x=>V.ref x.fa)) x.fa=some (.lst [.ref ha,.ref x.a1,.ref x.a2,iY x.f.s]):=by rw[au an]; exact h1
 have O:upd H pp (.lst ((W++[g]).map fun x=>V.ref x.fa)) ha=some (.tup (dF x.f.hd)):=by rw[au (cF h2 I.pile (fun y=>nomatch y))]; exact h2
 generalize upd H pp (.lst ((W++[g]).map fun x=>V.ref x.fa))=H1 at I2 pa pb ag O ⊢
 rw[BM];refine⟨x.fa,_,rfl,ud.of ag,rfl,?_⟩
 have a4:Ed.mk g.fa g.a1 g.a2 (bE g.f (gS x.f))={ g with f:=bE g.f (gS x.f) }:=rfl
 cases hh:x.f.hd with
 | top=>exact absurd hh hx
 | ite n=>
  rw[hh]at O
  walk_at "r";walk_at "n";refine⟨_,_,.inr (vr.of O),(show cJ (dF (.ite n)) 0=some (.str "if") from ir),?_⟩
  walk_at "r";refine⟨by decide,fun t1 Z=>?_⟩
  have s2:=ah Z (.tup [.ref x.a1,.ref x.a2]);have e2:upd H1 t1 (.tup [.ref x.a1,.ref x.a2]) t1=some (.tup [.ref x.a1,.ref x.a2]):=af
  generalize upd H1 t1 (.tup [.ref x.a1,.ref x.a2])=H2 at s2 e2 ⊢;refine⟨_,_,vr.of (s2 _ _ O),vr.of e2,by simp[dF],aX (by simp[dF]),fun z=>by simp at z,fun _ t2 Y=>?_⟩
  have s3:=ah Y (.tup (dF (.ite n)++[.ref x.a1,.ref x.a2]));have e3:upd H2 t2 (.tup (dF (.ite n)++[.ref x.a1,.ref x.a2])) t2=some (.tup [.str "if", .int n,.ref x.a1,.ref x.a2]):=af
  generalize upd H2 t2 (.tup (dF (.ite n)++[.ref x.a1,.ref x.a2]))=H3 at s3 e3 ⊢;have U:=s2.trans s3;refine⟨pp,t2,H0,W,g,_,gS x.f,rfl,I2.alloc U,?_,ad,ab,by omega,fun H' I3=>q H' _ I3⟩
  unfold gS;rw[hh];exact⟨x.a1,x.a2,e3,pa.mono U,pb.mono U⟩
 | lend u v=>
  rw[hh]at O
  walk_at "r";walk_at "n";refine⟨_,_,.inr (vr.of O),(show cJ (dF (.lend u v)) 0=some (.str "lend") from ir),?_⟩
  walk_at "r";rw[He (by decide +kernel)]
  refine⟨by decide,fun t1 Z=>?_⟩
  have s2:=ah Z (.tup [.ref x.a1]);have e2:upd H1 t1 (.tup [.ref x.a1]) t1=some (.tup [.ref x.a1]):=af
  generalize upd H1 t1 (.tup [.ref x.a1])=H2 at s2 e2 ⊢;refine⟨_,_,vr.of (s2 _ _ O),vr.of e2,by simp[dF],aX (by simp[dF]),fun z=>by simp at z,fun _ t2 Y=>?_⟩
  have s3:=ah Y (.tup (dF (.lend u v)++[.ref x.a1]));have e3:upd H2 t2 (.tup (dF (.lend u v)++[.ref x.a1])) t2=some (.tup [.str "lend", .str u,.str v,.ref x.a1]):=af
  generalize upd H2 t2 (.tup (dF (.lend u v)++[.ref x.a1]))=H3 at s3 e3 ⊢;have U:=s2.trans s3;refine⟨pp,t2,H0,W,g,_,gS x.f,rfl,I2.alloc U,?_,ad,ab,by omega,fun H' I3=>q H' _ I3⟩
  unfold gS;rw[hh];exact⟨x.a1,e3,pa.mono U⟩
 | whl n=>
  rw[hh]at O
  walk_at "r";walk_at "n";refine⟨_,_,.inr (vr.of O),(show cJ (dF (.whl n)) 0=some (.str "while") from ir),?_⟩
  walk_at "r";rw[He (by decide +kernel)]
  refine⟨by decide,fun t1 Z=>?_⟩
  have s2:=ah Z (.tup [.ref x.a1]);have e2:upd H1 t1 (.tup [.ref x.a1]) t1=some (.tup [.ref x.a1]):=af
  generalize upd H1 t1 (.tup [.ref x.a1])=H2 at s2 e2 ⊢;refine⟨_,_,vr.of (s2 _ _ O),vr.of e2,by simp[dF],aX (by simp[dF]),fun z=>by simp at z,fun _ t2 Y=>?_⟩
  have s3:=ah Y (.tup (dF (.whl n)++[.ref x.a1]));have e3:upd H2 t2 (.tup (dF (.whl n)++[.ref x.a1])) t2=some (.tup [.str "while", .int n,.ref x.a1]):=af
  generalize upd H2 t2 (.tup (dF (.whl n)++[.ref x.a1]))=H3 at s3 e3 ⊢;have U:=s2.trans s3;refine⟨pp,t2,H0,W,g,_,gS x.f,rfl,I2.alloc U,?_,ad,ab,by omega,fun H' I3=>q H' _ I3⟩
  unfold gS;rw[hh];exact⟨x.a1,e3,pa.mono U⟩
theorem BQ{x:Str}(h:∀ c∈x.cps.toList,c∈EC.cps.toList):32∉x.cps.toList:=fun z=>absurd (h 32 z) (by decide)
def dR(x:Str):Prop:=x.length≤20∧eQ x
noncomputable def ms:Sp:=fun vs H Q _=>∃ (c:Int) (n:Nat),vs=[.int c,.int (n:Int)]∧n≤10∧∀ (L:Addr) (ss:List Str) (H':Hp),rm H H'→H L=none→H' L=some (.lst (ss.map V.str))→ss.length=n→(∀ x∈ss,dR x)→Q (.ref L) H'
theorem zj(D:Ab K mg "_law_words" aO) (J:mg "range" = none) (ad:mg "int" = none):aH P w K mg base 1 "_law_words" ["_law_cell", "_law_many"] ms:=by
 refine D.cal (k:=0) AB (fun _ _ _ _ _ _ us hl=>by obtain⟨_,_,rfl⟩:=zu2 us hl;rfl) (fun vs H Q E h=>by obtain⟨_,_,rfl,_⟩:=h; rfl) (fun f bp A outer s0 H vs Q E hr h=>?_)
 obtain⟨c,n,rfl,hn,q⟩:=h
 refine⟨_,(ai (ar 2 AB.nd ax (hx:=ID))
   (ai (ar 3 AB.nd (ak az ae (ak bq (pv 0) ae)))
   (ai (ar 4 AB.nd (ak bq (ak cK (pv 0) ae) (pv 3)) (hx:=IG))
   (ai (ar 5 AB.nd (ak bq (ak cK (pv 0) ae) (ak jo ae ae)))
   (ai (ar 6 AB.nd (aY ac) (hx:=IV))
   (ai (b6 wG rfl (cZ AW J (aa (pv 3) ac)) (ba 7 AB.nd (hx:=D8)) (ai (bc (bA K qL vQ vT bo (pv 6 (hv:=HU)) (aa (ak bq (pv 5) ae) ac)))
   (aj (ar 5 AB.nd (ak cK (pv 5) ae)))))
   (ai (ar 8 AB.nd (aY ac))
   (ai (b6 wG rfl (cZ AW J (aa (pv 1) ac)) (ba 7 AB.nd (hx:=D8)) (aj (bc (bA K qL vQ vT bo (pv 8) (aa (bA K zbj F.slot_str_join F.type_str_join (rH K) ax (aa (fI (El.to (fsc:=(rd aO)) (N:=["_law_cell", "_law_many", "_law_letters", "_law_size", "_law_at", "_law_rest", "_law_base", "_law_k", "_law_words_here"]) (N0:=["_law_cell", "_law_many", "_law_letters", "_law_size", "_law_at", "_law_rest", "_law_base", "_law_k", "_law_words_here"]) (T:=["_law_j"]) ⟨by decide +kernel,by decide +kernel,by decide +kernel,by decide +kernel,by decide +kernel,by decide +kernel,by decide +kernel⟩ rfl rfl) rfl (cZ AW J (aa (pv 3) ac)) (fun _ _ _ _=>(ba 9 (show (["_law_cell", "_law_many", "_law_letters", "_law_size", "_law_at", "_law_rest", "_law_base", "_law_k", "_law_words_here", "_law_j"]:List Str).Nodup from by decide +kernel) (hx:=(hJ (rd aO) (by decide +kernel))) (hf:=jW (rd aO) (by decide +kernel)))) (df (show (["_law_cell", "_law_many", "_law_letters", "_law_size", "_law_at", "_law_rest", "_law_base", "_law_k", "_law_words_here"]:List Str).length≤9 from by decide)) (fun _ _ _ _=>gE) (fun _ _ _ _=>(ao (aw K) (pv 2 (hv:=(cQ (rd aO) (by decide +kernel)))) (ak bq (ak az (ao (aw K) (pv 6 (hv:=(cQ (rd aO) (by decide +kernel)))) (pv 9 (hv:=(cQ (rd aO) (by decide +kernel)))) (fun _ _=>rfl)) (ak cz (pv 7 (hv:=(cQ (rd aO) (by decide +kernel)))) (cM eT ad gw (aa (cY bb (pv 9 (hv:=(cQ (rd aO) (by decide +kernel)))) (pv 4 (hv:=(cQ (rd aO) (by decide +kernel)))) (aF _)) ac) (hg:=(n5 (rd aO) (by decide +kernel)))))) ae) (fun _ _=>rfl)))) ac)) ac)))))
   (aj (aJ (pv 8))))))))))),?_⟩
 walk_at "r";walk_at "n";refine⟨by decide,?_⟩
 have a4:∃ z:Nat,1+c % 8=(z:Int)∧1≤z∧z≤8:=⟨(1+c % 8).toNat,by omega,by omega,by omega⟩
 obtain⟨sz,be,bt,b0⟩:=a4
 rw[be];walk_at "n";refine⟨⟨by decide,by decide⟩,by omega,?_⟩
 generalize c / 8 % (sz:Int)=at'
 walk_at "n";refine⟨⟨by decide,by decide⟩,⟨by decide,by decide,by decide⟩,by decide,?_⟩
 generalize hrest:c / 64 % 26 ^ Int.toNat 8=CS
 walk_at "n";refine⟨by decide,fun p hp=>?_⟩
 have s1:=ah hp (.lst []);have e1:upd H p (.lst []) p=some (.lst (([]:List Int).map V.int)):=af
 generalize upd H p (.lst [])=H1 at s1 e1 ⊢;walk_at "n";refine⟨by omega,by omega,?_⟩
 rw[vO]
 refine dy (fun i σ H'=>∃ (ns:List Int) (r0:Int) (o7:Option V),σ=[some (.int c),some (.int (n:Int)),some (.str "abcdefghijklmnopqrstuvwxyz"),some (.int (sz:Int)),some (.int at'),some (.int r0),some (.ref p),o7,none]∧rm H H'∧H' p=some (.lst (ns.map V.int))∧ns.length=i)
  ⟨[],CS,none,rfl,s1,e1,rfl⟩ ?_ ?_
 ·rintro i σ H' hi ⟨ns,r0,o7,rfl,sm,hl,al⟩
  walk_at "r";refine⟨⟨_,ud.of hl⟩,by decide,?_⟩
  walk_at "r";refine⟨_,hl,by rw[ze]; exact b5 (by omega),?_⟩
  walk_at "n";exact⟨⟨by decide,by decide⟩,ns++[r0 % 26],_,_,rfl,sm.upd hp _,by rw[af,zP]; rfl,by simp[al]⟩
 rintro σ H2 ⟨ns,r0,o7,rfl,s2,e2,al⟩
 walk_at "n";refine⟨by decide,fun L hL=>?_⟩
 have s3:=ah hL (.lst []);have e3:upd H2 L (.lst []) L=some (.lst (([]:List Str).map V.str)):=af
 have as:H L=none:=s2.free hL
 have bg:p≠L:=aA e2 hL
 have a3:=s3 _ _ e2;generalize upd H2 L (.lst [])=H3 at s3 e3 a3 ⊢;walk_at "n";refine⟨by omega,by omega,?_⟩
 rw[vO]
 refine dy (fun i σ H'=>∃ (Z:List Str) (o7:Option V),σ=[some (.int c),some (.int (n:Int)),some (.str "abcdefghijklmnopqrstuvwxyz"),some (.int (sz:Int)),some (.int at'),some (.int r0),some (.ref p),o7,some (.ref L)]∧rm H H'∧H' p=some (.lst (ns.map V.int))∧H' L=some (.lst (Z.map V.str))∧Z.length=i∧∀ x∈Z,dR x)
  ⟨[],_,rfl,s2.trans s3,a3,e3,rfl,by simp⟩ ?_ ?_
 ·rintro i σ H' hi ⟨Z,o7,rfl,sm,hl,U,ab,Y⟩
  walk_at "r";refine⟨⟨_,ud.of U⟩,by omega,by omega,fun C hC=>?_⟩
  rw[vO];refine jV (fun j ys H2=>rm H' H2∧H2 C=some (.lst ys)∧∃ ds:List Nat,ys=ds.map (fun d=>V.str ⟨#[d]⟩)∧ds.length=j∧∀ d∈ds,d∈EC.cps.toList) ⟨ah hC _,af,[],rfl,rfl,by simp⟩ ?_ ?_
  ·rintro j ys H4 hj ⟨O,S,ds,rfl,ag,W⟩
   walk_at "r";have a8:j<ns.length:=by omega
   refine⟨_,_,.inl (ud.of (O _ _ hl)),(show cJ (ns.map V.int) (0+(j:Int))=some (.int ns[j]) by rw[zaE]; exact av (by rw[zy,zg a8]; rfl)),?_⟩
   walk_at "r";obtain⟨ch,z1,z2,z3⟩:=xA (ns[j]+(0+(i:Int)) * if 0+(j:Int)=at' then 1 else 0)
   refine⟨.inl ⟨by omega,by omega⟩,by decide,ch,z1,z2,?_⟩
   refine kY hj (by rw[ze]; omega) (aX (by omega)) S ⟨O.upd hC _,af,ds++[ch],by rw[zP]; rfl,by simp[ag],fun d hd=>?_⟩
   rcases Hj.mp hd with hd | hd
   ·exact W d hd
   ·rw[Hg.mp hd]; exact z3
  ·rintro ys H4 ⟨O,S,ds,rfl,ag,W⟩
   walk_at "r";have a7:ds.map (fun c=>V.str ⟨#[c]⟩)=(ds.map fun c=>(⟨#[c]⟩ : Str)).map V.str:=by rw[yt]; rfl
   rw[a7]at S
   have a9:(Str.ofString "").length=0:=by decide
   refine⟨_,ud.of S,?_,?_⟩
   ·rw[a9]
    have:=iM 1 (ds.map fun c=>(⟨#[c]⟩ : Str)) (fun s hs=>by obtain⟨c,_,rfl⟩:=Hk.mp hs; exact zl _)
    rw[ze]at this ⊢
    omega
   have a6:(Txt.join "" (ds.map fun c=>(⟨#[c]⟩ : Str))).length=sz:=by rw[zt]; exact ag
   have an:∀ c∈(Txt.join "" (ds.map fun c=>(⟨#[c]⟩ : Str))).cps.toList,c∈EC.cps.toList:=by rw[qp]; exact W
   generalize Txt.join "" (ds.map fun c=>(⟨#[c]⟩ : Str))=bs at a6 an ⊢
   have a5:=O _ _ U;walk_at "r";refine⟨_,a5,by rw[ze]; exact b5 (by omega),Z++[bs],_,rfl,(sm.trans O).upd as _,?_,by rw[af,zP]; rfl,by simp[ab],fun x hx=>?_⟩
   ·rw[au bg]; exact O _ _ hl
   ·rcases Hj.mp hx with hx | hx
    ·exact Y x hx
    ·rw[Hg.mp hx]; exact⟨by omega,BQ an⟩
 ·rintro σ H4 ⟨Z,o7,rfl,sm,hl,U,ab,Y⟩
  walk_at "n";exact q L Z H4 sm as U ab Y
noncomputable def nO(nm:List Str)(z:Int):Str:=nm.getD (z % (nm.length:Int)).toNat ""
theorem p9{nm:List Str}(h:1≤nm.length)(z:Int):nO nm z∈nm∧cJ (nm.map V.str) (z % (nm.length:Int))=some (.str (nO nm z)):=by
 have F:=rD z (show (nm.length:Int)≠0 by omega)
 have h1:=lY z (show (0:Int)<nm.length by omega)
 have hl:(z % (nm.length:Int)).toNat<nm.length:=by omega
 have e:nO nm z=nm[(z % (nm.length:Int)).toNat]:=by unfold nO; rw[vE,zg hl]; rfl
 refine⟨by rw[e]; exact v5 hl,?_⟩
 have:=av (xs:=nm.map V.str) (j:=(z % (nm.length:Int)).toNat) (v:=.str (nO nm z)) (by rw[zy,zg hl,e]; rfl)
 rwa [show (((z % (nm.length:Int)).toNat:Nat):Int)=z % (nm.length:Int) by omega]at this
noncomputable def uT(c:Int):Int:=c * 40692 % (2 * 10 ^ 60 - 1) - 10 ^ 60+1
theorem B6(c:Int):(uT c).natAbs<10 ^ 61:=by
 unfold uT;have F:=rD (c * 40692) (show (2 * 10 ^ 60 - 1:Int)≠0 by decide)
 have h1:=lY (c * 40692) (show (0:Int)<2 * 10 ^ 60 - 1 by decide)
 omega
noncomputable def vC(x y wd:Str)(b:Int):List (List V):=[[.str "open", .str x],[.str "do", .str wd,.str x],[.str "do", .str wd,.str x],[.str "do", .str wd,.str x],[.str "copy", .str x,.str y],[.str "drop", .str x],[.str "tie", .str x,.str y],[.str "lend", .str x,.str y],[.str "if", .int b],[.str "while", .int b],[.str "while", .int b],[.str "do", .str wd,.str x],[.str "tie", .str x,.str y],[.str "open", .str x],[.str "other"],[.str "close"]]
inductive f7:List V→Prop
 | plain (ws:List Str):fu ws→gD ws→(∀ x∈ws,eQ x)→f7 (ws.map V.str)
 | lend (x y:Str):dR x→dR y→f7 [.str "lend", .str x,.str y]
 | ite (n:Int):n.natAbs<10 ^ 61→f7 [.str "if", .int n]
 | whl (n:Int):n.natAbs<10 ^ 61→f7 [.str "while", .int n]
 | other:f7 [.str "other"]
 | close:f7 [.str "close"]
theorem tm{h x:Str}(hh:h∈cN)(hl:h.length≤20)(hx:x.length≤20):gD [h,x]:=⟨by simp,by simp,hh,fun z hz=>by
 simp only[zK,qm,or_false]at hz
 rcases hz with rfl | rfl <;> assumption⟩
theorem lP{h x y:Str}(hh:h∈cN)(hl:h.length≤20)(hx:x.length≤20)(F:y.length≤20):gD [h,x,y]:=⟨by simp,by simp,hh,fun z hz=>by
 simp only[zK,qm,or_false]at hz
 rcases hz with rfl | rfl | rfl <;> assumption⟩
theorem wD{x y F:Str}{b:Int}(hx:dR x)(J:dR y)(W:dR F)(hb:b.natAbs<10 ^ 61):∀ r∈vC x y F b,f7 r:=by
 have kk:∀ {u:Str},u∈(["open", "do", "copy", "drop", "tie"]:List Str)→eQ u:=fun {u} Y=>by
  simp only[zK,qm,or_false]at Y
  rcases Y with rfl | rfl | rfl | rfl | rfl <;> (unfold eQ; decide)
 have U:∀ {a c:Str},eQ a→eQ c→∀ z∈[a,c],eQ z:=fun ha hc z hz=>by
  simp only[zK,qm,or_false]at hz
  rcases hz with rfl | rfl <;> assumption
 have S:∀ {a c e:Str},eQ a→eQ c→eQ e→∀ z∈[a,c,e],eQ z:=fun ha hc he z hz=>by
  simp only[zK,qm,or_false]at hz
  rcases hz with rfl | rfl | rfl <;> assumption
 have op:f7 [.str "open", .str x]:=.plain ["open", x] (.op x) (tm (by decide +kernel) (by decide) hx.1) (U (kk (by decide +kernel)) hx.2)
 have dr:f7 [.str "drop", .str x]:=.plain ["drop", x] (.dr x) (tm (by decide +kernel) (by decide) hx.1) (U (kk (by decide +kernel)) hx.2)
 have dd:f7 [.str "do", .str F,.str x]:=.plain ["do", F,x] (.dd F x) (lP (by decide +kernel) (by decide) W.1 hx.1) (S (kk (by decide +kernel)) W.2 hx.2)
 have cp:f7 [.str "copy", .str x,.str y]:=.plain ["copy", x,y] (.cp x y) (lP (by decide +kernel) (by decide) hx.1 J.1) (S (kk (by decide +kernel)) hx.2 J.2)
 have ti:f7 [.str "tie", .str x,.str y]:=.plain ["tie", x,y] (.ti x y) (lP (by decide +kernel) (by decide) hx.1 J.1) (S (kk (by decide +kernel)) hx.2 J.2)
 have le:f7 [.str "lend", .str x,.str y]:=.lend x y hx J
 have it:f7 [.str "if", .int b]:=.ite b hb
 have Z:f7 [.str "while", .int b]:=.whl b hb
 intro r O
 unfold vC at O;simp only[zK,qm,or_false]at O
 rcases O with rfl | rfl | rfl | rfl | rfl | rfl | rfl | rfl | rfl | rfl | rfl | rfl | rfl | rfl | rfl | rfl
 ·exact op
 ·exact dd
 ·exact dd
 ·exact dd
 ·exact cp
 ·exact dr
 ·exact ti
 ·exact le
 ·exact it
 ·exact Z
 ·exact Z
 ·exact dd
 ·exact ti
 ·exact op
 ·exact .other
 ·exact .close
noncomputable def x6:Sp:=fun vs H Q _=>∃ (c:Int) (np wp:Addr) (nm ws:List Str),vs=[.int c,.ref np,.ref wp]∧H np=some (.lst (nm.map V.str))∧H wp=some (.lst (ws.map V.str))∧1≤nm.length∧nm.length≤20∧1≤ws.length∧ws.length≤20∧(∀ x∈nm,dR x)∧(∀ x∈ws,dR x)∧
 ∀ (t:Addr) (H':Hp) (v:List V),rm H H'→H' t=some (.tup v)→f7 v→Q (.ref t) H'
theorem Ca(D:Ab K mg "_law_step" bN) (Z:mg "len" = none):aH P w K mg base 1 "_law_step" ["_law_cell", "_law_names", "_law_words_here"] x6:=by
 refine D.cal (k:=0) C7 (fun _ _ _ _ _ _ us hl=>by obtain⟨_,_,_,rfl⟩:=zu3 us hl;rfl) (fun vs H Q E h=>by obtain⟨_,_,_,_,_,rfl,_⟩:=h; rfl) (fun f eE A outer s0 H vs Q E hr h=>?_)
 obtain⟨c,np,wp,nm,ws,rfl,bg,cb,n1,n2,w1,w2,dc,eu,q⟩:=h
 refine⟨_,(ai (ar 3 C7.nd (ao (aw K) (pv 1) (ak bq (ak bq (ak cz (pv 0) ae) ae) (bi (aV K) Z bK (aa (pv 1) ac))) (fun _ _=>rfl)))
   (ai (ar 4 C7.nd (ao (aw K) (pv 1) (ak bq (ak bq (ak cz (pv 0) ae) ae) (bi (aV K) Z bK (aa (pv 1) ac))) (fun _ _=>rfl)))
   (ai (ar 5 C7.nd (ao (aw K) (pv 2) (ak bq (ak bq (ak cz (pv 0) ae) ae) (bi (aV K) Z bK (aa (pv 2) ac))) (fun _ _=>rfl)))
   (ai (ar 6 C7.nd (ak az (ak ji (ak bq (ak cz (pv 0) ae) (ak ji (ak cz ae (ak jo ae ae)) ae)) (ak jo ae ae)) ae))
   (ai (ar 7 C7.nd (aY (aa (aK (aa ax (aa (pv 3) ac))) (aa (aK (aa ax (aa (pv 5) (aa (pv 3) ac)))) (aa (aK (aa ax (aa (pv 5) (aa (pv 3) ac)))) (aa (aK (aa ax (aa (pv 5) (aa (pv 3) ac)))) (aa (aK (aa ax (aa (pv 3) (aa (pv 4) ac)))) (aa (aK (aa ax (aa (pv 3) ac))) ac))))))))
   (ai (ar 7 C7.nd (ak az (pv 7) (aY (aa (aK (aa ax (aa (pv 3) (aa (pv 4) ac)))) (aa (aK (aa ax (aa (pv 3) (aa (pv 4) ac)))) (aa (aK (aa ax (aa (pv 6) ac))) (aa (aK (aa ax (aa (pv 6) ac))) (aa (aK (aa ax (aa (pv 6) ac))) ac))))))))
   (ai (ar 7 C7.nd (ak az (pv 7) (aY (aa (aK (aa ax (aa (pv 5) (aa (pv 3) ac)))) (aa (aK (aa ax (aa (pv 3) (aa (pv 4) ac)))) (aa (aK (aa ax (aa (pv 3) ac))) (aa (aK (aa ax ac)) (aa (aK (aa ax ac)) ac))))))))
   (aj (aJ (ao (aw K) (pv 7) (ak bq (pv 0) ae) (fun _ _=>rfl))))))))))),?_⟩
 obtain⟨x1,x2⟩:=p9 n1 (c * 48271 % 99991)
 obtain⟨y1,y2⟩:=p9 n1 (c * 69621 % 99989)
 obtain⟨u1,u2⟩:=p9 w1 (c * 16807 % 99971)
 walk_at "r";refine⟨.inr ⟨by decide,by decide⟩,by decide,_,.inl (ud.of bg),?_⟩
 rw[ze];refine⟨by omega,_,_,.inl (ud.of bg),x2,?_⟩
 generalize nO nm (c * 48271 % 99991)=x at x1 ⊢;walk_at "n";refine⟨.inr ⟨by decide,by decide⟩,by decide,_,.inl (ud.of bg),?_⟩
 rw[ze];refine⟨by omega,_,_,.inl (ud.of bg),y2,?_⟩
 generalize nO nm (c * 69621 % 99989)=y at y1 ⊢;walk_at "n";refine⟨.inr ⟨by decide,by decide⟩,by decide,_,.inl (ud.of cb),?_⟩
 rw[ze];refine⟨by omega,_,_,.inl (ud.of cb),u2,?_⟩
 generalize nO ws (c * 16807 % 99971)=wd at u1 ⊢;walk_at "n";refine⟨.inr ⟨by decide,by decide⟩,⟨by decide,by decide,by decide⟩,.inl ⟨by decide,by decide⟩,by decide,⟨by decide,by decide,by decide⟩,?_⟩
 have hb:=B6 c;rw[show c * 40692 % (2 * 10 ^ Int.toNat 60 - 1) - 10 ^ Int.toNat 60+1=uT c from rfl];generalize uT c=b at hb ⊢;walk_at "n";refine⟨by decide,fun t1 d7=>?_⟩
 generalize hT1:upd H t1 _=H1
 have s1:rm H H1:=by rw[← hT1]; exact ah d7 _
 have r1:bh H1 t1 [.str "open", .str x]:=by show H1 t1=_; rw[← hT1]; exact af
 refine⟨by decide,fun t2 dV=>?_⟩
 generalize hT2:upd H1 t2 _=H2
 have s2:rm H1 H2:=by rw[← hT2]; exact ah dV _
 have r2:bh H2 t2 [.str "do", .str wd,.str x]:=by show H2 t2=_; rw[← hT2]; exact af
 refine⟨by decide,fun t3 ej=>?_⟩
 generalize hT3:upd H2 t3 _=H3
 have s3:rm H2 H3:=by rw[← hT3]; exact ah ej _
 have r3:bh H3 t3 [.str "do", .str wd,.str x]:=by show H3 t3=_; rw[← hT3]; exact af
 refine⟨by decide,fun t4 ee=>?_⟩
 generalize hT4:upd H3 t4 _=H4
 have s4:rm H3 H4:=by rw[← hT4]; exact ah ee _
 have r4:bh H4 t4 [.str "do", .str wd,.str x]:=by show H4 t4=_; rw[← hT4]; exact af
 refine⟨by decide,fun t5 ed=>?_⟩
 generalize hT5:upd H4 t5 _=H5
 have s5:rm H4 H5:=by rw[← hT5]; exact ah ed _
 have r5:bh H5 t5 [.str "copy", .str x,.str y]:=by show H5 t5=_; rw[← hT5]; exact af
 refine⟨by decide,fun t6 eb=>?_⟩
 generalize hT6:upd H5 t6 _=H6
 have s6:rm H5 H6:=by rw[← hT6]; exact ah eb _
 have r6:bh H6 t6 [.str "drop", .str x]:=by show H6 t6=_; rw[← hT6]; exact af
 refine⟨by decide,fun l0 ez=>?_⟩
 have ab:=ah ez (.lst [.ref t1,.ref t2,.ref t3,.ref t4,.ref t5,.ref t6]);have L0:C3 (upd H6 l0 (.lst [.ref t1,.ref t2,.ref t3,.ref t4,.ref t5,.ref t6])) l0 [[.str "open", .str x],[.str "do", .str wd,.str x],[.str "do", .str wd,.str x],[.str "do", .str wd,.str x],[.str "copy", .str x,.str y],[.str "drop", .str x]]:=⟨[t1,t2,t3,t4,t5,t6],af,.cons (ab _ _ (s6 _ _ (s5 _ _ (s4 _ _ (s3 _ _ (s2 _ _ (r1))))))) (.cons (ab _ _ (s6 _ _ (s5 _ _ (s4 _ _ (s3 _ _ (r2)))))) (.cons (ab _ _ (s6 _ _ (s5 _ _ (s4 _ _ (r3))))) (.cons (ab _ _ (s6 _ _ (s5 _ _ (r4)))) (.cons (ab _ _ (s6 _ _ (r5))) (.cons (ab _ _ (r6)) .nil)))))⟩
 have c0:rm H (upd H6 l0 (.lst [.ref t1,.ref t2,.ref t3,.ref t4,.ref t5,.ref t6])):=((((((s1.trans s2).trans s3).trans s4).trans s5).trans s6).trans ab)
 generalize upd H6 l0 (.lst [.ref t1,.ref t2,.ref t3,.ref t4,.ref t5,.ref t6])=b0 at L0 c0 ⊢;have C0:=L0;have S0:=c0;clear hT1 hT2 hT3 hT4 hT5 hT6;walk_at "n";refine⟨by decide,fun t7 eg=>?_⟩
 generalize hT7:upd b0 t7 _=H7
 have s7:rm b0 H7:=by rw[← hT7]; exact ah eg _
 have r7:bh H7 t7 [.str "tie", .str x,.str y]:=by show H7 t7=_; rw[← hT7]; exact af
 refine⟨by decide,fun t8 ea=>?_⟩
 generalize hT8:upd H7 t8 _=H8
 have s8:rm H7 H8:=by rw[← hT8]; exact ah ea _
 have r8:bh H8 t8 [.str "lend", .str x,.str y]:=by show H8 t8=_; rw[← hT8]; exact af
 refine⟨by decide,fun t9 eq=>?_⟩
 generalize hT9:upd H8 t9 _=H9
 have s9:rm H8 H9:=by rw[← hT9]; exact ah eq _
 have r9:bh H9 t9 [.str "if", .int b]:=by show H9 t9=_; rw[← hT9]; exact af
 refine⟨by decide,fun Y cB=>?_⟩
 generalize hT10:upd H9 Y _=a3
 have be:rm H9 a3:=by rw[← hT10]; exact ah cB _
 have eo:bh a3 Y [.str "while", .int b]:=by show a3 Y=_; rw[← hT10]; exact af
 refine⟨by decide,fun J dm=>?_⟩
 generalize hT11:upd a3 J _=ad
 have a8:rm a3 ad:=by rw[← hT11]; exact ah dm _
 have d3:bh ad J [.str "while", .int b]:=by show ad J=_; rw[← hT11]; exact af
 refine⟨by decide,fun l1 ei=>?_⟩
 have al:=ah ei (.lst [.ref t7,.ref t8,.ref t9,.ref Y,.ref J]);have L1:C3 (upd ad l1 (.lst [.ref t7,.ref t8,.ref t9,.ref Y,.ref J])) l1 [[.str "tie", .str x,.str y],[.str "lend", .str x,.str y],[.str "if", .int b],[.str "while", .int b],[.str "while", .int b]]:=⟨[t7,t8,t9,Y,J],af,.cons (al _ _ (a8 _ _ (be _ _ (s9 _ _ (s8 _ _ (r7)))))) (.cons (al _ _ (a8 _ _ (be _ _ (s9 _ _ (r8))))) (.cons (al _ _ (a8 _ _ (be _ _ (r9)))) (.cons (al _ _ (a8 _ _ (eo))) (.cons (al _ _ (d3)) .nil))))⟩
 have bt:rm b0 (upd ad l1 (.lst [.ref t7,.ref t8,.ref t9,.ref Y,.ref J])):=(((((s7.trans s8).trans s9).trans be).trans a8).trans al)
 generalize upd ad l1 (.lst [.ref t7,.ref t8,.ref t9,.ref Y,.ref J])=d8 at L1 bt ⊢;obtain⟨cl,a1,b1⟩:=C0.mono bt
 obtain⟨cq,c1,d1⟩:=L1
 refine⟨_,_,a1,c1,cX b1 d1 (by simp),fun m1 dn=>?_⟩
 have C1:=dD b1 d1 dn;have S1:=(S0.trans bt).trans (ah dn (.lst (cl.map V.ref++cq.map V.ref)));generalize upd d8 m1 (.lst (cl.map V.ref++cq.map V.ref))=ca at C1 S1 ⊢;walk_at "n";refine⟨by decide,fun S c5=>?_⟩
 generalize hT12:upd ca S _=a7
 have et:rm ca a7:=by rw[← hT12]; exact ah c5 _
 have d4:bh a7 S [.str "do", .str wd,.str x]:=by show a7 S=_; rw[← hT12]; exact af
 refine⟨by decide,fun W cd=>?_⟩
 generalize hT13:upd a7 W _=a9
 have c4:rm a7 a9:=by rw[← hT13]; exact ah cd _
 have ey:bh a9 W [.str "tie", .str x,.str y]:=by show a9 W=_; rw[← hT13]; exact af
 refine⟨by decide,fun O du=>?_⟩
 generalize hT14:upd a9 O _=a5
 have b4:rm a9 a5:=by rw[← hT14]; exact ah du _
 have d6:bh a5 O [.str "open", .str x]:=by show a5 O=_; rw[← hT14]; exact af
 refine⟨by decide,fun F cA=>?_⟩
 generalize hT15:upd a5 F _=a4
 have bp:rm a5 a4:=by rw[← hT15]; exact ah cA _
 have ek:bh a4 F [.str "other"]:=by show a4 F=_; rw[← hT15]; exact af
 refine⟨by decide,fun U dt=>?_⟩
 generalize hT16:upd a4 U _=ag
 have a6:rm a4 ag:=by rw[← hT16]; exact ah dt _
 have ec:bh ag U [.str "close"]:=by show ag U=_; rw[← hT16]; exact af
 refine⟨by decide,fun l2 dP=>?_⟩
 have an:=ah dP (.lst [.ref S,.ref W,.ref O,.ref F,.ref U]);have L2:C3 (upd ag l2 (.lst [.ref S,.ref W,.ref O,.ref F,.ref U])) l2 [[.str "do", .str wd,.str x],[.str "tie", .str x,.str y],[.str "open", .str x],[.str "other"],[.str "close"]]:=⟨[S,W,O,F,U],af,.cons (an _ _ (a6 _ _ (bp _ _ (b4 _ _ (c4 _ _ (d4)))))) (.cons (an _ _ (a6 _ _ (bp _ _ (b4 _ _ (ey))))) (.cons (an _ _ (a6 _ _ (bp _ _ (d6)))) (.cons (an _ _ (a6 _ _ (ek))) (.cons (an _ _ (ec)) .nil))))⟩
 have b3:rm ca (upd ag l2 (.lst [.ref S,.ref W,.ref O,.ref F,.ref U])):=(((((et.trans c4).trans b4).trans bp).trans a6).trans an)
 generalize upd ag l2 (.lst [.ref S,.ref W,.ref O,.ref F,.ref U])=ev at L2 b3 ⊢;obtain⟨c3,a2,b2⟩:=C1.mono b3
 obtain⟨c9,c2,d2⟩:=L2
 refine⟨_,_,a2,c2,cX b2 d2 (by simp),fun m2 dl=>?_⟩
 have C2:=dD b2 d2 dl;have S2:=(S1.trans b3).trans (ah dl (.lst (c3.map V.ref++c9.map V.ref)));generalize upd ev m2 (.lst (c3.map V.ref++c9.map V.ref))=da at C2 S2 ⊢;walk_at "n";have d9:C3 da m2 (vC x y wd b):=C2
 refine⟨by decide,?_⟩
 obtain⟨as,ew,cc⟩:=d9
 have em:=aI cc;have eB:=rD c (show (16:Int)≠0 by decide)
 have eA:=lY c (show (0:Int)<16 by decide)
 have d5:as.length=16:=em
 have cv:(c % 16).toNat<as.length:=by omega
 obtain⟨r,e1,e2⟩:=b8 cc (zg cv)
 refine⟨_,_,.inl (ud.of ew),(show cJ (as.map V.ref) (c % 16)=some (.ref as[(c % 16).toNat]) from ?_),q _ da r S2 e2 (wD (dc x x1) (dc y y1) (eu wd u1) hb r (vx e1))⟩
 have:=av (xs:=as.map V.ref) (j:=(c % 16).toNat) (v:=.ref as[(c % 16).toNat]) (by rw[zy,zg cv]; rfl)
 rwa [show (((c % 16).toNat:Nat):Int)=c % 16 by omega]at this
end
noncomputable def Di:Bt→Prop
 | .top=>False
 | .lend x y=>dR x∧dR y
 | .ite n=>n.natAbs<10 ^ 61
 | .whl n=>n.natAbs<10 ^ 61
noncomputable def gL(k:Nat)(x:Ed):Nat:=aq (10 - k) x.f.a+aq (10 - k) x.f.b+(if k=0 then 0 else 3)
noncomputable def g0:Nat→List Ed→Nat
 | _,[]=>0
 | k,x::r=>gL k x+g0 (k+1) r
theorem fJ(x:Ed):∀ (F:List Ed) (k:Nat),g0 k (F++[x])=g0 k F+gL (k+F.length) x
 | [],k=>by simp[g0]
 | g::F,k=>by
  show gL k g+g0 (k+1) (F++[x])=gL k g+g0 (k+1) F+_
  rw[fJ x F (k+1),zx,show k+1+F.length=k+(F.length+1) by omega]; omega
structure EA (k:Nat) (f:tQ):Prop where
 top:k=0→f.hd = .top
 hd:0<k→Di f.hd
 a:cU (10 - k) f.a∧dk (10 - k) f.a
 b:cU (10 - k) f.b∧dk (10 - k) f.b
 sd:(∃ n,f.hd = .ite n)∨(f.s=false∧f.b=[])
structure E1 (fs:List Ed) (m:Nat):Prop where
 ok:∀ k x,fs[k]? = some x→EA k x.f
 cnt:g0 0 fs≤m
 len:fs.length≤5
 pos:1≤fs.length
theorem iW{α : Type}{F:List α}{x y:α}{k:Nat}(h:(F++[x])[k]? = some y):(k<F.length∧F[k]? = some y)∨(k=F.length∧y=x):=by
 by_cases hk:k<F.length
 ·rw[vX hk]at h; exact .inl ⟨hk,h⟩
 ·rw[vw (by omega)]at h
  have J:k - F.length=0:=by have:=(Hd.mp h).1; simp at this; omega
  rw[J]at h
  cases h;exact .inr ⟨by omega,rfl⟩
theorem Cv(d:Nat)(T U:List ap):aq (d+1) (T++U)=aq (d+1) T+aq (d+1) U:=by
 show ((T++U).map _).sum=_
 rw[zP,List.sum_append]; rfl
theorem xw{d:Nat}{T U:List ap}(h:dk (d+1) T)(h':dk (d+1) U):dk (d+1) (T++U):=fun s F=>(Hj.mp F).elim (h s) (h' s)
theorem E1.put{F:List Ed}{x:Ed}{m c:Nat}{st:ap}(I:E1 (F++[x]) m)(h1:iU (cU (9 - F.length)) st)(h2:k7 (dk (9 - F.length)) st)(h3:bx (aq (9 - F.length)) st≤c):E1 (F++[{ x with f:=bE x.f st }]) (m+c):=by
 have hl:F.length≤4:=by have:=I.len; simp at this; omega
 have J:10 - F.length=9 - F.length+1:=by omega
 have hx:=I.ok F.length x (cP F x);obtain⟨a1,a2⟩:=hx.a
 obtain⟨W,S⟩:=hx.b
 have O:=I.cnt;rw[fJ,kC]at O
 refine⟨fun k y Y=>?_,?_,by have:=I.len; simpa using this,by simp⟩
 ·rcases iW Y with ⟨Z,Y⟩ | ⟨rfl,rfl⟩
  ·exact I.ok k y (by rw[vX Z]; exact Y)
  ·unfold bE
   rw[J]at a1 a2 W S
   have n1:cU (9 - F.length+1) (x.f.a++[st]):=qo a1 h1
   have n2:dk (9 - F.length+1) (x.f.a++[st]):=xw a2 fun u U=>by rw[Hg.mp U]; exact h2
   have n3:cU (9 - F.length+1) (x.f.b++[st]):=qo W h1
   have n4:dk (9 - F.length+1) (x.f.b++[st]):=xw S fun u U=>by rw[Hg.mp U]; exact h2
   split
   ·rename_i hs
    refine⟨hx.top,hx.hd,by rw[J]; exact⟨a1,a2⟩,by rw[J]; exact⟨n3,n4⟩,?_⟩
    rcases hx.sd with z | ⟨z,_⟩
    ·exact .inl z
    ·rw[hs]at z; cases z
   ·refine⟨hx.top,hx.hd,by rw[J]; exact⟨n1,n2⟩,by rw[J]; exact⟨W,S⟩,?_⟩
    rcases hx.sd with z | ⟨z,z2⟩
    ·exact .inl z
    ·exact .inr ⟨z,z2⟩
 ·rw[fJ,kC]
  unfold gL at O ⊢
  unfold bE;rw[J]at O ⊢
  have ab:aq (9 - F.length+1) [st]≤c:=by show bx (aq (9 - F.length)) st+0≤c; omega
  split <;> simp only[Cv] <;> omega
theorem E1.drop{F:List Ed}{x:Ed}{m:Nat}(I:E1 (F++[x]) m)(hg:1≤F.length):E1 F (m - (aq (10 - F.length) x.f.a+aq (10 - F.length) x.f.b+3))∧aq (10 - F.length) x.f.a+aq (10 - F.length) x.f.b+3≤m:=by
 have J:=I.cnt;rw[fJ,kC]at J
 unfold gL at J;rw[He (by omega)]at J
 exact⟨⟨fun k y O=>I.ok k y (by rw[vX (Hd.mp O).1]; exact O),by omega,by have:=I.len; simp at this; omega,hg⟩,by omega⟩
theorem Cm{k:Nat}{f:tQ}(J:0<k)(S:k≤5)(h:EA k f):iU (cU (10 - k)) (gS f)∧k7 (dk (10 - k)) (gS f)∧bx (aq (10 - k)) (gS f)≤aq (10 - k) f.a+aq (10 - k) f.b+3:=by
 have hh:=h.hd J
 have F:∀ n:Int,n.natAbs<10 ^ 61→n.natAbs.log2<1920:=fun n O=>by
  by_cases z:n.natAbs=0
  ·rw[z]; decide
  ·have:=(Nat.log2_lt z (k:=1920)).mpr (Nat.lt_trans O (by decide))
   exact this
 unfold gS
 cases hhd:f.hd with
 | top=>rw[hhd]at hh; exact hh.elim
 | lend x y=>
  rw[hhd]at hh
  exact⟨⟨hh.1.2,hh.2.2,h.a.1⟩,⟨hh.1.1,hh.2.1,h.a.2⟩,by show aq _ f.a+2≤_; omega⟩
 | ite n=>
  rw[hhd]at hh
  exact⟨⟨hh,h.a.1,h.b.1⟩,⟨F n hh,h.a.2,h.b.2⟩,zl _⟩
 | whl n=>
  rw[hhd]at hh
  exact⟨⟨hh,h.a.1⟩,⟨F n hh,h.a.2⟩,by show aq _ f.a+2≤_; omega⟩
theorem E1.close{J:List Ed}{g x:Ed}{m:Nat}(I:E1 (J++[g]++[x]) m):E1 (J++[{ g with f:=bE g.f (gS x.f) }]) m:=by
 have F:(J++[g]).length=J.length+1:=by simp
 have O:=I.len;rw[zr,F]at O
 simp at O
 have hx:=I.ok (J++[g]).length x (cP _ x);rw[F]at hx
 obtain⟨Y,U,W⟩:=Cm (by omega) (by omega) hx
 obtain⟨S,hle⟩:=I.drop (by rw[F]; omega)
 rw[F]at S hle
 rw[show 10 - (J.length+1)=9 - J.length by omega]at Y U W S hle
 have:=S.put Y U W
 rwa [Nat.sub_add_cancel hle]at this
theorem E1.side{F:List Ed}{x:Ed}{m:Nat}{n:Int}(I:E1 (F++[x]) m)(h:x.f.hd = .ite n):E1 (F++[{ x with f:={ x.f with s:=true } }]) m:=by
 have hx:=I.ok F.length x (cP F x);refine⟨fun k y J=>?_,?_,by have:=I.len; simpa using this,by simp⟩
 ·rcases iW J with ⟨S,J⟩ | ⟨rfl,rfl⟩
  ·exact I.ok k y (by rw[vX S]; exact J)
  ·exact⟨hx.top,hx.hd,hx.a,hx.b,.inl ⟨n,h⟩⟩
 ·have O:=I.cnt
  rw[fJ]at O ⊢
  exact O
theorem E1.open{fs:List Ed}{m:Nat}(I:E1 fs m)(hl:fs.length≤4){h:Bt}(hh:Di h)(fa a1 a2:Addr):E1 (fs++[⟨fa,a1,a2,⟨h,[],[],false⟩⟩]) (m+3):=by
 have U:=I.pos;have F:10 - fs.length=9 - fs.length+1:=by omega
 have nl:cU (10 - fs.length) []∧dk (10 - fs.length) []:=by rw[F]; exact⟨kF _,fun s O=>by cases O⟩
 refine⟨fun k y J=>?_,?_,by simp; omega,by simp⟩
 ·rcases iW J with ⟨S,J⟩ | ⟨rfl,rfl⟩
  ·exact I.ok k y J
  ·exact⟨fun z=>by omega,fun _=>hh,nl,nl,.inr ⟨rfl,rfl⟩⟩
 ·rw[fJ,kC]
  unfold gL;rw[He (by omega),F]
  have:=I.cnt
  show g0 0 fs+(0+0+3)≤m+3
  omega
theorem E1.small{fs:List Ed}{m k:Nat}{x:Ed}(I:E1 fs m)(e:fs[k]? = some x):x.f.a.length≤m∧x.f.b.length≤m:=by
 have F:=(Hd.mp e).1;have hl:=I.len
 have w:∀ (fs:List Ed) (j k:Nat) (x:Ed),fs[k]? = some x→gL (j+k) x≤g0 j fs:=fun fs=>by
  induction fs with
  | nil=>intro j k x e; simp at e
  | cons y r ih=>
   intro j k x e
   cases k with
   | zero=>cases e; show gL j _≤gL j _+_; omega
   | succ k=>
    have:=ih (j+1) k x (by simpa using e)
    show _≤gL j y+g0 (j+1) r
    rw[show j+(k+1)=j+1+k by omega]; omega
 have h:=w fs 0 k x e;have J:=I.cnt;rw[kC]at h
 unfold gL at h
 have ln:∀ (d:Nat) (T:List ap),T.length≤aq (d+1) T:=fun d T=>by
  show T.length≤(T.map (bx (aq d))).sum
  induction T with
  | nil=>exact zl _
  | cons s T ih=>
   rw[zW,lX,zx];have:1≤bx (aq d) s:=by cases s <;> simp[bx]
   omega
 rw[show 10 - k=9 - k+1 by omega]at h
 have:=ln (9 - k) x.f.a
 have:=ln (9 - k) x.f.b
 omega
section
variable{P:Program}{w:World}{K:W.Frag}{mg:Str→Option Value}{base:Heap}
theorem fG(x:Str):∀ ss:List Str,iX (.str x) (ss.map V.str)=decide (x∈ss)
 | []=>rfl
 | y::ss=>by
  have ih:=fG x ss;show (fw (.str y) (.str x)||iX (.str x) (ss.map V.str))=_
  rw[ih];show ((y == x)||decide (x∈ss))=_
  by_cases h:y=x
  ·subst h; simp
  ·have h2:¬ x=y:=fun z=>h z.symm
   rw[beq_eq_false_iff_ne.mpr h];simp[h2]
theorem E1.mono{fs:List Ed}{m n:Nat}(I:E1 fs m)(h:m≤n):E1 fs n:=⟨I.ok,gV I.cnt h,I.len,I.pos⟩
def EW(a1:Addr)(fs:List Ed):Prop:=∃ x,fs[0]? = some x∧x.a1=a1
theorem EW.set{a1:Addr}{F:List Ed}{x S:Ed}(h:EW a1 (F++[x]))(e:S.a1=x.a1):EW a1 (F++[S]):=by
 cases F with
 | nil=>obtain⟨y,O,J⟩:=h; cases O; exact⟨S,rfl,by rw[e]; exact J⟩
 | cons g F=>obtain⟨y,O,J⟩:=h; exact⟨y,O,J⟩
theorem EW.cut{a1:Addr}{F:List Ed}{x:Ed}(h:EW a1 (F++[x]))(hg:1≤F.length):EW a1 F:=by
 cases F with
 | nil=>simp at hg
 | cons g F=>obtain⟨y,O,J⟩:=h; exact⟨y,O,J⟩
theorem EW.add{a1:Addr}{fs:List Ed}{x:Ed}(h:EW a1 fs):EW a1 (fs++[x]):=by
 cases fs with
 | nil=>obtain⟨y,F,_⟩:=h; cases F
 | cons g gs=>obtain⟨y,F,J⟩:=h; exact⟨y,F,J⟩
theorem DK.side{H0 H:Hp}{pp:Addr}{W:List Ed}{x:Ed}{S:Addr→Prop}(I:DK H0 H pp (W++[x]) S){ha:Addr}{z:V}(h1:H x.fa=some (.lst [.ref ha,.ref x.a1,.ref x.a2,z])):DK H0 (upd H x.fa (.lst [.ref ha,.ref x.a1,.ref x.a2,.int 1])) pp (W++[{ x with f:={ x.f with s:=true } }]) S:=by
 obtain⟨F,al,ag,J,h2,h3,h4,h5,h6⟩:=I.fr W.length x (cP W x)
 have ab:F=ha:=by rw[h1]at J; simp at J; exact J.1.symm
 subst ab;have ad:x∈W++[x]:=kr _ zI
 have O:=I.nd;rw[f6,d0,zaD]at O
 have U:[x.fa,x.a1,x.a2].Nodup:=O.2.2.1
 simp only[f6,zK,qm,or_false,not_or,not_false_eq_true,GB,and_true]at U
 obtain⟨⟨n1,n2⟩,n3⟩:=U
 have Y:¬ S x.fa:=I.ns _ (zO _ (eI ad).1)
 have Z:∀ b xs,H b=some (.tup xs)→upd H x.fa (.lst [.ref F,.ref x.a1,.ref x.a2,.int 1]) b=some (.tup xs):=fun b xs y=>by rw[au (cF y h1 (fun y=>nomatch y))]; exact y
 have kl:∀ b xs,S b→H b=some (.lst xs)→upd H x.fa (.lst [.ref F,.ref x.a1,.ref x.a2,.int 1]) b=some (.lst xs):=fun b xs hb y=>by rw[au (sO hb Y)]; exact y
 refine I.write (.inl rfl) rfl rfl rfl ⟨F,al,ag,af,Z _ _ h2,?_,?_,cn Z kl (fun _ z=>z) h5,cn Z kl (fun _ z=>z) h6⟩
 ·rw[au (ve n1)]; exact h3
 ·rw[au (ve n2)]; exact h4
noncomputable def nn:Sp:=fun vs H Q _=>∃ (cp np wp:Addr) (cs:List Int) (nm ws:List Str),vs=[.ref cp,.ref np,.ref wp,.int 3,.int 4]∧H cp=some (.lst (cs.map V.int))∧H np=some (.lst (nm.map V.str))∧H wp=some (.lst (ws.map V.str))∧cs.length≤20∧1≤nm.length∧nm.length≤20∧1≤ws.length∧ws.length≤20∧(∀ x∈nm,dR x)∧(∀ x∈ws,dR x)∧
 ∀ (root:Addr) (H':Hp) (S:Addr→Prop) (T:List ap),rm H H'→H root=none→AM S 10 H' root T→cU 10 T→dk 10 T→aq 10 T≤60→Q (.ref root) H'
theorem wL(D:Ab K mg "_law_program" aU) (be:mg "len" = none) (cA:mg "int" = none) (b4:aH P w K mg base 1 "_law_step" ["_law_cell", "_law_names", "_law_words_here"] x6) (cb:aH P w K mg base 1 "_law_put" ["_law_pile", "_law_step_here"] uX) (a3:aH P w K mg base 2 "_law_close" ["_law_pile"] uJ):aH P w K mg base 3 "_law_program" ["_law_cells", "_law_names", "_law_words_here", "_law_lends", "_law_deep"] nn:=by
 refine D.cal (k:=2) DH (fun _ _ _ _ _ _ us hl=>by obtain⟨_,_,_,_,_,rfl⟩:=zu5 us hl;rfl) (fun vs H Q E h=>by obtain⟨_,_,_,_,_,_,rfl,_⟩:=h; rfl) (fun f ec A outer s0 H vs Q E hr h=>?_)
 obtain⟨cp,np,wp,cs,nm,ws,rfl,da,d5,dt,eb,n1,n2,w1,w2,d4,d7,q⟩:=h
 refine⟨_,(ai (ar 5 DH.nd (aY (aa (aY (aa (aK (aa ax ac)) (aa (aY ac) (aa (aY ac) (aa ae ac))))) ac)))
   (ai (b6 wG rfl (ci K (pv 0)) (ba 6 DH.nd) (ai (ar 7 DH.nd (ay b4 hr (aa (pv 6) (aa (pv 1) (aa (pv 2) ac)))))
   (aj (bC (aB (rB K) (ao (aw K) (pv 7) ae (fun _ _=>rfl)) (aK (aa ax (aa ax ac))) (by with_unfolding_all rfl)) (aj (bC (PW.pt' (c7 (aB la (bi (aV K) be bK (aa (pv 5) ac)) ae (aF _)) (c7 (aB bb (ao (aw K) (pv 7) ae (fun _ _=>rfl)) ax (aF _)) (c7 (aB bb (ao (aw K) (ao (aw K) (ao (aw K) (pv 5) (fN fc ae) (fun _ _=>rfl)) ae (fun _ _=>rfl)) ae (fun _ _=>rfl)) ax (aF _)) (dh (aB bb (ao (aw K) (ao (aw K) (pv 5) (fN fc ae) (fun _ _=>rfl)) ae (fun _ _=>rfl)) ae (aF _))))))) (aj (im ae (jb (ao (aw K) (pv 5) (fN fc ae) (fun _ _=>rfl)) ae Gf))) (aj (bC (aB la (bi (aV K) be bK (aa (pv 5) ac)) ae (aF _)) (aj (bc (ay a3 hr (aa (pv 5) ac)))) bz)))) (aj (bC (aB (gU K) (ao (aw K) (pv 7) ae (fun _ _=>rfl)) (aK (aa ax (aa ax (aa ax ac)))) (by with_unfolding_all rfl)) (aj (bc (ay cb hr (aa (pv 5) (aa (pv 7) ac))))) (aj (bC (PW.pt' (c7 (aB FT (bi (aV K) be bK (aa (pv 5) ac)) (pv 4) (aF _)) (dh (PW.pt' (oH (aB C9 (ao (aw K) (pv 7) ae (fun _ _=>rfl)) ax (aF _)) (pB (aB la (pv 3) ae (aF _)))))))) (ai (ar 3 DH.nd (ak ji (pv 3) (cM eT cA gw (aa (cY bb (ao (aw K) (pv 7) ae (fun _ _=>rfl)) ax (aF _)) ac))))
   (aj (bc (bA K qL vQ vT bo (pv 5) (aa (aY (aa (pv 7) (aa (aY ac) (aa (aY ac) (aa ae ac))))) ac))))) bz))))))))
   (ai (AQ wG (aB la (bi (aV K) be bK (aa (pv 5) ac)) ae (aF _)) (aj (bc (ay a3 hr (aa (pv 5) ac)))))
   (aj (aJ (ao (aw K) (ao (aw K) (pv 5) ae (fun _ _=>rfl)) ae (fun _ _=>rfl))))))),?_⟩
 walk_at "r";refine⟨by decide,fun th du=>?_⟩
 have s1:=ah du (.tup [V.str "top"]);have e1:upd H th (.tup [V.str "top"]) th=some (.tup [V.str "top"]):=af
 generalize upd H th (.tup [V.str "top"])=H1 at s1 e1 ⊢;refine⟨by decide,fun a1 c5=>?_⟩
 have s2:=ah c5 (.lst []);have e2:upd H1 a1 (.lst []) a1=some (.lst (([]:List Addr).map V.ref)):=af
 generalize upd H1 a1 (.lst [])=H2 at s2 e2 ⊢;refine⟨by decide,fun a2 cv=>?_⟩
 have s3:=ah cv (.lst []);have e3:upd H2 a2 (.lst []) a2=some (.lst (([]:List Addr).map V.ref)):=af
 generalize upd H2 a2 (.lst [])=H3 at s3 e3 ⊢;refine⟨by decide,fun fa cd=>?_⟩
 have s4:=ah cd (.lst [.ref th,.ref a1,.ref a2,.int 0]);have e4:upd H3 fa (.lst [.ref th,.ref a1,.ref a2,.int 0]) fa=some (.lst [.ref th,.ref a1,.ref a2,iY false]):=af
 generalize upd H3 fa (.lst [.ref th,.ref a1,.ref a2,.int 0])=H4 at s4 e4 ⊢;refine⟨by decide,fun pp cc=>?_⟩
 have s5:=ah cc (.lst [.ref fa]);have e5:upd H4 pp (.lst [.ref fa]) pp=some (.lst [.ref fa]):=af
 generalize upd H4 pp (.lst [.ref fa])=H5 at s5 e5 ⊢;have Z:=s1.trans s2;have dc:=Z.trans s3;have dl:=dc.trans s4;have dm:=dl.trans s5;have i1:a1≠a2:=aA e2 cv
 have i2:a1≠fa:=aA (s3 _ _ e2) cd
 have i3:a2≠fa:=aA e3 cd
 have i4:a1≠pp:=aA (s4 _ _ (s3 _ _ e2)) cc
 have i5:a2≠pp:=aA (s4 _ _ e3) cc
 have i6:fa≠pp:=aA e4 cc
 have I0:DK H H5 pp [⟨fa,a1,a2,⟨.top,[],[],false⟩⟩] (fun _=>False):=by
  refine⟨dm,e5,fun k x hx=>?_,?_,fun b _ z=>z,fun b hb=>?_,fun b z=>z.elim⟩
  ·have hk:k=0:=by have:=(Hd.mp hx).1; simp at this; omega
   subst hk
   cases hx;exact⟨th,[],[],s5 _ _ e4,s5 _ _ (s4 _ _ (s3 _ _ (s2 _ _ e1))),s5 _ _ (s4 _ _ (s3 _ _ e2)),s5 _ _ (s4 _ _ e3),.nil,.nil⟩
  ·show [pp,fa,a1,a2].Nodup
   simp only[f6,zK,qm,or_false,not_or,not_false_eq_true,GB,and_true]
   exact⟨⟨fun e=>i6 e.symm,fun e=>i4 e.symm,fun e=>i5 e.symm⟩,⟨fun e=>i2 e.symm,fun e=>i3 e.symm⟩,i1⟩
  ·have a6:b∈[pp,fa,a1,a2]:=hb
   simp only[zK,qm,or_false]at a6
   rcases a6 with rfl | rfl | rfl | rfl
   ·exact dl.free cc
   ·exact dc.free cd
   ·exact s1.free c5
   ·exact Z.free cv
 have O0:E1 [⟨fa,a1,a2,⟨.top,[],[],false⟩⟩] (3 * 0):=by
  refine⟨fun k x hx=>?_,zl _,by simp,by simp⟩
  have hk:k=0:=by have:=(Hd.mp hx).1; simp at this; omega
  subst hk
  cases hx;exact⟨fun _=>rfl,fun z=>absurd z (by decide),⟨kF 9,fun s hs=>by cases hs⟩,⟨kF 9,fun s hs=>by cases hs⟩,.inr ⟨rfl,rfl⟩⟩
 walk_at "n";refine⟨⟨_,ud.of (dm _ _ da)⟩,?_⟩
 refine cw (xs:=cs.map V.int) (fun i σ H'=>∃ (le:Int) (o6 o7:Option V) (fs:List Ed) (S:Addr→Prop),σ=[some (.ref cp),some (.ref np),some (.ref wp),some (.int le),some (.int 4),some (.ref pp),o6,o7]∧DK H H' pp fs S∧E1 fs (3 * i)∧EW a1 fs)
  ⟨3,none,none,_,_,rfl,I0,O0,_,rfl,rfl⟩ (fun i σ H' _ hh=>by obtain⟨_,_,_,_,_,_,I,_⟩:=hh; exact ud.of (I.sm _ _ da)) ?_ ?_
 ·rintro i v σ H6 hv ⟨le,o6,o7,fs,S,rfl,I,O,F⟩
  have hi:i<cs.length:=by have:=(Hd.mp hv).1; simpa using this
  rw[zy,zg hi]at hv
  cases hv;walk_at "r";refine⟨cs[i],np,wp,nm,ws,rfl,I.sm _ _ d5,I.sm _ _ dt,n1,n2,w1,w2,d4,d7,fun t H7 v s7 et hk=>?_⟩
  have I7:=I.alloc s7;walk_at "n";have a5:∀ {H':Hp} {le:Int} {o6 o7:Option V} {fs':List Ed} {S':Addr→Prop},DK H H' pp fs' S'→E1 fs' (3 * i+3)→EW a1 fs'→∃ (le':Int) (p6 p7:Option V) (fs:List Ed) (S:Addr→Prop),[some (V.ref cp),some (.ref np),some (.ref wp),some (.int le),some (.int 4),some (.ref pp),o6,o7]=[some (.ref cp),some (.ref np),some (.ref wp),some (.int le'),some (.int 4),some (.ref pp),p6,p7]∧DK H H' pp fs S∧E1 fs (3 * (i+1))∧EW a1 fs:=fun I' O' R'=>⟨_,_,_,_,_,rfl,I',O',R'⟩
  have b0:fs≠[]:=fun z=>by have:=O.pos; rw[z]at this; simp at this
  obtain⟨gs,x,rfl⟩ : ∃ gs x,fs=gs++[x]:=⟨fs.dropLast,fs.getLast b0,(GV b0).symm⟩
  have bg:=O.ok gs.length x (cP gs x);have d9:=O.small (cP gs x);have c0:=O.len;rw[zr,zx,qR]at c0
  have d1:∃ (g:Str) (u:List V),v = .str g::u:=by cases hk <;> first | exact⟨_,_,rfl⟩ | (rename_i px _ _; cases px <;> exact⟨_,_,rfl⟩)
  obtain⟨gh,u,hv⟩:=d1
  have bt:cJ v 0=some (.str gh):=by rw[hv]; exact ir
  refine⟨_,_,.inr (vr.of et),bt,by decide,fun p1 dP=>?_⟩
  have s8:=ah dP (.tup [V.str "other", V.str "close"]);have e8:upd H7 p1 (.tup [V.str "other", V.str "close"]) p1=some (.tup ((["other", "close"]:List Str).map V.str)):=af
  generalize upd H7 p1 (.tup [V.str "other", V.str "close"])=H8 at s8 e8 ⊢;have I8:=I7.alloc s8;have cB:=s8 _ _ et;refine⟨_,.inr (vr.of e8),rfl,rfl,?_⟩
  rw[fG];have ad:(((gs++[x]).map fun x=>V.ref x.fa).length:Int)=(gs.length:Int)+1:=by simp
  refine bd (fun c1=>?_) (fun c1=>?_)
  ·have cq:gh = "other" ∨ gh = "close" := by have:=of_decide_eq_true c1; simpa only[zK,qm,or_false] using this
   refine⟨_,.inl (ud.of I8.pile),?_⟩
   rw[ad];refine bd (fun c2=>?_) (fun c2=>?_)
   ·have ab:gs≠[]:=fun z=>by rw[z]at c2; simp at c2
    refine⟨_,_,.inr (vr.of cB),bt,?_⟩
    walk_at "r";obtain⟨ha,c9,d3,h1,h2,h3,h4,h5,h6⟩:=I8.fr gs.length x (cP gs x)
    rcases cq with rfl | rfl
    ·rw[Hf rfl]
     refine⟨_,_,.inl (ud.of I8.pile),fV,?_⟩
     walk_at "r";refine⟨_,_,.inl (ud.of h1),ir,?_⟩
     walk_at "r"
     cases hhd:x.f.hd with
     | top=>
      have:=bg.hd (by cases gs with | nil=>exact absurd rfl ab | cons _ _=>simp)
      rw[hhd]at this; exact this.elim
     | lend y1 y2=>
      rw[hhd]at h2
      refine⟨_,_,.inr (vr.of h2),(show cJ (dF (.lend y1 y2)) 0=some (.str "lend") from ir),?_⟩
      walk_at "r";rw[He (by decide +kernel)]
      refine⟨_,.inl (ud.of I8.pile),?_⟩
      rw[ad,Hf c2];obtain⟨J,g,rfl⟩ : ∃ J g,gs=J++[g]:=⟨gs.dropLast,gs.getLast ab,(GV ab).symm⟩
      have cl:=O.small (k:=J.length) (x:=g) (by rw[uV,vw (zl _),td]; rfl)
      have bp:=O.len;simp at bp
      refine⟨pp,H,J,g,x,S,rfl,I8,fun z=>by
       have:=bg.hd (by simp)
       rw[z]at this; exact this,by omega,by omega,by omega,fun H9 S9 I9=>?_⟩
      exact a5 I9 (O.close.mono (by omega)) ((F.cut (by simp)).set rfl)
     | whl n=>
      rw[hhd]at h2
      refine⟨_,_,.inr (vr.of h2),(show cJ (dF (.whl n)) 0=some (.str "while") from ir),?_⟩
      walk_at "r";rw[He (by decide +kernel)]
      refine⟨_,.inl (ud.of I8.pile),?_⟩
      rw[ad,Hf c2];obtain⟨J,g,rfl⟩ : ∃ J g,gs=J++[g]:=⟨gs.dropLast,gs.getLast ab,(GV ab).symm⟩
      have cl:=O.small (k:=J.length) (x:=g) (by rw[uV,vw (zl _),td]; rfl)
      have bp:=O.len;simp at bp
      refine⟨pp,H,J,g,x,S,rfl,I8,fun z=>by
       have:=bg.hd (by simp)
       rw[z]at this; exact this,by omega,by omega,by omega,fun H9 S9 I9=>?_⟩
      exact a5 I9 (O.close.mono (by omega)) ((F.cut (by simp)).set rfl)
     | ite n=>
      rw[hhd]at h2
      refine⟨_,_,.inr (vr.of h2),(show cJ (dF (.ite n)) 0=some (.str "if") from ir),?_⟩
      walk_at "r";refine⟨_,_,.inl (ud.of I8.pile),fV,?_⟩
      walk_at "r";refine⟨_,_,.inl (ud.of h1),av (j:=3) rfl,?_⟩
      cases hs:x.f.s with
      | true=>
       rw[show iY true=V.int 1 from rfl];walk_at "r";rw[He (by decide)]
       refine⟨_,.inl (ud.of I8.pile),?_⟩
       rw[ad,Hf c2];obtain⟨J,g,rfl⟩ : ∃ J g,gs=J++[g]:=⟨gs.dropLast,gs.getLast ab,(GV ab).symm⟩
       have cl:=O.small (k:=J.length) (x:=g) (by rw[uV,vw (zl _),td]; rfl)
       have bp:=O.len;simp at bp
       refine⟨pp,H,J,g,x,S,rfl,I8,fun z=>by
        have:=bg.hd (by simp)
        rw[z]at this; exact this,by omega,by omega,by omega,fun H9 S9 I9=>?_⟩
       exact a5 I9 (O.close.mono (by omega)) ((F.cut (by simp)).set rfl)
      | false=>
       rw[show iY false=V.int 0 from rfl];walk_at "r";refine⟨_,_,.inl (ud.of I8.pile),fV,?_⟩
       walk_at "r";refine⟨_,3,h1,rfl,?_⟩
       exact a5 (I8.side h1) ((O.side hhd).mono (by omega)) (F.set rfl)
    ·rw[He (by decide +kernel)]
     refine⟨_,.inl (ud.of I8.pile),?_⟩
     rw[ad,Hf c2];obtain⟨J,g,rfl⟩ : ∃ J g,gs=J++[g]:=⟨gs.dropLast,gs.getLast ab,(GV ab).symm⟩
     have cl:=O.small (k:=J.length) (x:=g) (by rw[uV,vw (zl _),td]; rfl)
     have bp:=O.len;simp at bp
     refine⟨pp,H,J,g,x,S,rfl,I8,fun z=>by
      have:=bg.hd (by simp)
      rw[z]at this; exact this,by omega,by omega,by omega,fun H9 S9 I9=>?_⟩
     exact a5 I9 (O.close.mono (by omega)) ((F.cut (by simp)).set rfl)
   ·refine⟨_,.inl (ud.of I8.pile),?_⟩
    rw[ad,He c2];exact a5 I8 (O.mono (by omega)) F
  ·have cq:gh∉(["other", "close"]:List Str):=fun z=>c1 (decide_eq_true z)
   walk_at "r";refine⟨_,_,.inr (vr.of cB),bt,by decide,fun p2 d6=>?_⟩
   have s9:=ah d6 (.tup [V.str "lend", V.str "if", V.str "while"])
   have e9:upd H8 p2 (.tup [V.str "lend", V.str "if", V.str "while"]) p2=some (.tup ((["lend", "if", "while"]:List Str).map V.str)):=af
   generalize upd H8 p2 (.tup [V.str "lend", V.str "if", V.str "while"])=H9 at s9 e9 ⊢
   have I9:=I8.alloc s9;have a8:=s9 _ _ cB;refine⟨_,.inr (vr.of e9),rfl,rfl,?_⟩
   rw[fG]
   cases hk with
   | plain ws' px pw hfr=>
    have d8:ws'.headD "" = gh:=by cases px <;> (cases hv; rfl)
    have d2:gh∉(["lend", "if", "while"]:List Str):=by
     rw[← d8];rcases sF px with h | h | h | h | h <;> rw[h] <;> decide +kernel
    rw[decide_eq_false d2,Hf (by decide)]
    refine⟨pp,t,H,gs,x,S,.plain ws',rfl,I9,a8,by omega,by omega,by omega,fun a9 an=>?_⟩
    exact a5 an ((O.put (st:=.plain ws') (c:=1) ⟨px,hfr⟩ pw (zl _)).mono (by omega)) (F.set rfl)
   | lend y1 y2 k1 k2=>
    cases hv;rw[decide_eq_true (by decide +kernel),He (by decide)]
    refine⟨_,.inl (ud.of I9.pile),?_⟩
    rw[ad];refine bd (fun c3=>?_) (fun c3=>?_)
    ·refine⟨_,_,.inr (vr.of a8),bt,?_⟩
     walk_at "r";rw[He (by simp)]
     refine bd (fun c4=>?_) (fun c4=>?_)
     ·refine⟨_,_,.inr (vr.of a8),bt,?_⟩
      walk_at "r";walk_at "n";refine⟨⟨_,ud.of I9.pile⟩,by decide,fun U as=>?_⟩
      have a7:=ah as (.lst []);have f1:upd H9 U (.lst []) U=some (.lst (([]:List Addr).map V.ref)):=af
      generalize upd H9 U (.lst [])=a9 at a7 f1 ⊢;refine⟨by decide,fun W al=>?_⟩
      have ag:=ah al (.lst []);have f2:upd a9 W (.lst []) W=some (.lst (([]:List Addr).map V.ref)):=af
      generalize upd a9 W (.lst [])=b3 at ag f2 ⊢;refine⟨by decide,fun fb Y=>?_⟩
      have Z:=ah Y (.lst [.ref t,.ref U,.ref W,.int 0]);have f3:upd b3 fb (.lst [.ref t,.ref U,.ref W,.int 0]) fb=some (.lst [.ref t,.ref U,.ref W,iY false]):=af
      generalize upd b3 fb (.lst [.ref t,.ref U,.ref W,.int 0])=dn at Z f3 ⊢;have an:=I9.alloc a7;have a4:=an.alloc ag;have ca:=a4.alloc Z;have j1:U≠W:=aA f1 al
      have j2:U≠fb:=aA (ag _ _ f1) Y
      have j3:W≠fb:=aA f2 Y
      refine⟨_,ca.pile,by rw[ze,zr]; exact b5 (by simp; omega),?_⟩
      refine a5 (ca.push (x:=⟨fb,U,W,⟨.lend y1 y2,[],[],false⟩⟩) ⟨t,[],[],f3,(a7.trans (ag.trans Z)) _ _ a8,(ag.trans Z) _ _ f1,Z _ _ f2,.nil,.nil⟩ ?_ ?_) (O.open (h:=.lend y1 y2) (by simp; omega) ⟨k1,k2⟩ fb U W) F.add
      ·show [fb,U,W].Nodup
       simp only[f6,zK,qm,or_false,not_or,not_false_eq_true,GB,and_true]
       exact⟨⟨fun e=>j2 e.symm,fun e=>j3 e.symm⟩,j1⟩
      ·intro b hb
       have a6:b∈[fb,U,W]:=hb
       simp only[zK,qm,or_false]at a6
       rcases a6 with rfl | rfl | rfl
       ·exact⟨a4.notop Y,(a4.free Y).2,(a4.free Y).1⟩
       ·exact⟨I9.notop as,(I9.free as).2,(I9.free as).1⟩
       ·exact⟨an.notop al,(an.free al).2,(an.free al).1⟩
     ·exact a5 I9 (O.mono (by omega)) F
    ·exact a5 I9 (O.mono (by omega)) F
   | ite n k1=>
    cases hv;rw[decide_eq_true (by decide +kernel),He (by decide)]
    refine⟨_,.inl (ud.of I9.pile),?_⟩
    rw[ad];refine bd (fun c3=>?_) (fun c3=>?_)
    ·refine⟨_,_,.inr (vr.of a8),bt,?_⟩
     walk_at "r";rw[Hf (by decide +kernel)]
     refine⟨_,_,.inr (vr.of a8),bt,?_⟩
     walk_at "r";walk_at "n";refine⟨⟨_,ud.of I9.pile⟩,by decide,fun U as=>?_⟩
     have a7:=ah as (.lst []);have f1:upd H9 U (.lst []) U=some (.lst (([]:List Addr).map V.ref)):=af
     generalize upd H9 U (.lst [])=a9 at a7 f1 ⊢;refine⟨by decide,fun W al=>?_⟩
     have ag:=ah al (.lst []);have f2:upd a9 W (.lst []) W=some (.lst (([]:List Addr).map V.ref)):=af
     generalize upd a9 W (.lst [])=b3 at ag f2 ⊢;refine⟨by decide,fun fb Y=>?_⟩
     have Z:=ah Y (.lst [.ref t,.ref U,.ref W,.int 0]);have f3:upd b3 fb (.lst [.ref t,.ref U,.ref W,.int 0]) fb=some (.lst [.ref t,.ref U,.ref W,iY false]):=af
     generalize upd b3 fb (.lst [.ref t,.ref U,.ref W,.int 0])=dn at Z f3 ⊢;have an:=I9.alloc a7;have a4:=an.alloc ag;have ca:=a4.alloc Z;have j1:U≠W:=aA f1 al
     have j2:U≠fb:=aA (ag _ _ f1) Y
     have j3:W≠fb:=aA f2 Y
     refine⟨_,ca.pile,by rw[ze,zr]; exact b5 (by simp; omega),?_⟩
     refine a5 (ca.push (x:=⟨fb,U,W,⟨.ite n,[],[],false⟩⟩) ⟨t,[],[],f3,(a7.trans (ag.trans Z)) _ _ a8,(ag.trans Z) _ _ f1,Z _ _ f2,.nil,.nil⟩ ?_ ?_) (O.open (h:=.ite n) (by simp; omega) k1 fb U W) F.add
     ·show [fb,U,W].Nodup
      simp only[f6,zK,qm,or_false,not_or,not_false_eq_true,GB,and_true]
      exact⟨⟨fun e=>j2 e.symm,fun e=>j3 e.symm⟩,j1⟩
     ·intro b hb
      have a6:b∈[fb,U,W]:=hb
      simp only[zK,qm,or_false]at a6
      rcases a6 with rfl | rfl | rfl
      ·exact⟨a4.notop Y,(a4.free Y).2,(a4.free Y).1⟩
      ·exact⟨I9.notop as,(I9.free as).2,(I9.free as).1⟩
      ·exact⟨an.notop al,(an.free al).2,(an.free al).1⟩
    ·exact a5 I9 (O.mono (by omega)) F
   | whl n k1=>
    cases hv;rw[decide_eq_true (by decide +kernel),He (by decide)]
    refine⟨_,.inl (ud.of I9.pile),?_⟩
    rw[ad];refine bd (fun c3=>?_) (fun c3=>?_)
    ·refine⟨_,_,.inr (vr.of a8),bt,?_⟩
     walk_at "r";rw[Hf (by decide +kernel)]
     refine⟨_,_,.inr (vr.of a8),bt,?_⟩
     walk_at "r";walk_at "n";refine⟨⟨_,ud.of I9.pile⟩,by decide,fun U as=>?_⟩
     have a7:=ah as (.lst []);have f1:upd H9 U (.lst []) U=some (.lst (([]:List Addr).map V.ref)):=af
     generalize upd H9 U (.lst [])=a9 at a7 f1 ⊢;refine⟨by decide,fun W al=>?_⟩
     have ag:=ah al (.lst []);have f2:upd a9 W (.lst []) W=some (.lst (([]:List Addr).map V.ref)):=af
     generalize upd a9 W (.lst [])=b3 at ag f2 ⊢;refine⟨by decide,fun fb Y=>?_⟩
     have Z:=ah Y (.lst [.ref t,.ref U,.ref W,.int 0]);have f3:upd b3 fb (.lst [.ref t,.ref U,.ref W,.int 0]) fb=some (.lst [.ref t,.ref U,.ref W,iY false]):=af
     generalize upd b3 fb (.lst [.ref t,.ref U,.ref W,.int 0])=dn at Z f3 ⊢;have an:=I9.alloc a7;have a4:=an.alloc ag;have ca:=a4.alloc Z;have j1:U≠W:=aA f1 al
     have j2:U≠fb:=aA (ag _ _ f1) Y
     have j3:W≠fb:=aA f2 Y
     refine⟨_,ca.pile,by rw[ze,zr]; exact b5 (by simp; omega),?_⟩
     refine a5 (ca.push (x:=⟨fb,U,W,⟨.whl n,[],[],false⟩⟩) ⟨t,[],[],f3,(a7.trans (ag.trans Z)) _ _ a8,(ag.trans Z) _ _ f1,Z _ _ f2,.nil,.nil⟩ ?_ ?_) (O.open (h:=.whl n) (by simp; omega) k1 fb U W) F.add
     ·show [fb,U,W].Nodup
      simp only[f6,zK,qm,or_false,not_or,not_false_eq_true,GB,and_true]
      exact⟨⟨fun e=>j2 e.symm,fun e=>j3 e.symm⟩,j1⟩
     ·intro b hb
      have a6:b∈[fb,U,W]:=hb
      simp only[zK,qm,or_false]at a6
      rcases a6 with rfl | rfl | rfl
      ·exact⟨a4.notop Y,(a4.free Y).2,(a4.free Y).1⟩
      ·exact⟨I9.notop as,(I9.free as).2,(I9.free as).1⟩
      ·exact⟨an.notop al,(an.free al).2,(an.free al).1⟩
    ·exact a5 I9 (O.mono (by omega)) F
   | other=>cases hv; exact absurd (by decide +kernel) cq
   | close=>cases hv; exact absurd (by decide +kernel) cq
 ·rintro σ H6 ⟨le,o6,o7,fs,S,rfl,I,O,F⟩
  rw[ze]at O
  walk_at "n";refine⟨fun m σ H'=>∃ (fs:List Ed) (S:Addr→Prop),σ=[some (.ref cp),some (.ref np),some (.ref wp),some (.int le),some (.int 4),some (.ref pp),o6,o7]∧DK H H' pp fs S∧E1 fs (3 * cs.length)∧EW a1 fs∧fs.length=m,⟨_,fs,S,rfl,I,O,F,rfl⟩,?_⟩
  clear I O F;rintro m σ H7 ⟨fs,S,rfl,I,O,F,hm⟩
  have b0:fs≠[]:=fun z=>by have:=O.pos; rw[z]at this; simp at this
  obtain⟨gs,x,rfl⟩ : ∃ gs x,fs=gs++[x]:=⟨fs.dropLast,fs.getLast b0,(GV b0).symm⟩
  have bg:=O.ok gs.length x (cP gs x);have d9:=O.small (cP gs x);have ad:(((gs++[x]).map fun x=>V.ref x.fa).length:Int)=(gs.length:Int)+1:=by simp
  walk_at "r";refine⟨_,.inl (ud.of I.pile),?_⟩
  rw[ad];refine bd (fun c2=>?_) (fun c2=>?_)
  ·have ab:gs≠[]:=fun z=>by rw[z]at c2; simp at c2
   obtain⟨J,g,rfl⟩ : ∃ J g,gs=J++[g]:=⟨gs.dropLast,gs.getLast ab,(GV ab).symm⟩
   have cl:=O.small (k:=J.length) (x:=g) (by rw[uV,vw (zl _),td]; rfl)
   have bp:=O.len;simp at bp hm
   refine⟨fun σ' H'=>∃ (fs:List Ed) (S:Addr→Prop),σ'=[some (.ref cp),some (.ref np),some (.ref wp),some (.int le),some (.int 4),some (.ref pp),o6,o7]∧DK H H' pp fs S∧E1 fs (3 * cs.length)∧EW a1 fs∧fs.length=J.length+1,fun σ' H' z=>⟨J.length+1,by omega,z⟩,?_⟩
   refine⟨pp,H,J,g,x,S,rfl,I,fun z=>by
    have:=bg.hd (by simp)
    rw[z]at this; exact this,by omega,by omega,by omega,fun H9 S9 I9=>?_⟩
   exact⟨_,S9,rfl,I9,O.close,(F.cut (by simp)).set rfl,by simp⟩
  ·have dV:gs=[]:=zbi (by omega)
   subst dV;obtain⟨ha,c9,d3,h1,h2,h3,h4,h5,h6⟩:=I.fr 0 x rfl
   obtain⟨y,hy,ea⟩:=F
   cases hy;walk_at "n";refine⟨_,_,.inl (ud.of I.pile),ir,?_⟩
   walk_at "r";refine⟨_,_,.inl (ud.of h1),av (j:=1) rfl,?_⟩
   have hc:=O.cnt;have hw:gL 0 x+0≤3 * cs.length:=hc
   unfold gL at hw;refine q x.a1 H7 (fun b=>S b∨b=x.a1) x.f.a I.sm (I.nw _ (zO _ (eI (fs:=[]++[x]) (x:=x) (by simp)).2.1)) ⟨.inr rfl,c9,h3,cn (fun _ _ z=>z) (fun _ _ _ z=>z) (fun _ z=>.inl z) h5⟩ bg.a.1 bg.a.2 (by simp at hw; omega)
end
noncomputable def dA:Option Nat→V
 | none=>.non
 | some n=>.int n
set_option genInjectivity false in
set_option genSizeOf false in
structure Rl where
 s:Int
 ws:List Str
 rs:List (List (Option Nat))
structure gX (r:Rl):Prop where
 s:r.s=1∨r.s=2
 nw:r.ws.length≤16
 n0:1≤r.rs.length
 n1:r.rs.length≤60
 row:∀ x∈r.rs,x.length=r.ws.length∧∀ k,some k∈x→k<r.rs.length
 lw:∀ w∈r.ws,w.length≤30
def ED(H:Hp)(p:Addr)(rs:List (List (Option Nat)))(as:List Addr):Prop:=
 H p=some (.lst (as.map V.ref))∧as.length=rs.length∧∀ (i:Nat) a x,as[i]? = some a→rs[i]? = some x→H a=some (.lst (x.map dA))
def Ej(H:Hp)(p:Addr)(r:Rl):Prop:=∃ pw pr as,H p=some (.tup [.int r.s,.ref pw,.ref pr])∧H pw=some (.lst (r.ws.map V.str))∧ED H pr r.rs as
theorem ED.mono{H H':Hp}{p:Addr}{rs:List (List (Option Nat))}{F:List Addr}(sm:rm H H')(h:ED H p rs F):ED H' p rs F:=by
 obtain⟨h1,h2,S⟩:=h
 exact⟨sm _ _ h1,h2,fun i a x J O=>sm _ _ (S i a x J O)⟩
theorem Ej.mono{H H':Hp}{p:Addr}{r:Rl}(sm:rm H H')(h:Ej H p r):Ej H' p r:=by
 obtain⟨J,O,F,h1,h2,S⟩:=h
 exact⟨J,O,F,sm _ _ h1,sm _ _ h2,S.mono sm⟩
theorem nX(F:List Str):(F.map V.str).all bM=true:=by
 rw[zaM]; intro x hx; obtain⟨s,_,rfl⟩:=Hk.mp hx; rfl
theorem ui(y:Str)(F:List Str):iX (.str y) (F.map V.str)=decide (y∈F):=by
 rw[zaF];unfold iX;rw[zbg,decide_eq_true_eq]
 constructor
 ·rintro⟨x,hx,e⟩
  obtain⟨s,J,rfl⟩:=Hk.mp hx
  have O:(s == y)=true:=e
  rw[← eq_of_beq O]; exact J
 ·intro h
  exact⟨.str y,Hk.mpr ⟨y,h,rfl⟩,by show (y == y)=true; simp⟩
theorem xF(x:List (Option Nat)):∀ v∈x.map dA,bM v=true:=by
 intro v hv
 obtain⟨o,_,rfl⟩:=Hk.mp hv
 cases o <;> rfl
theorem AG{K:W.Frag}{H:Hp}{p q:Addr}{rs:List (List (Option Nat))}{O bs:List Addr}(h1:ED H p rs O)(h2:ED H q rs bs):Eo K H 2 (.ref p) (.ref q) true:=by
 obtain⟨a1,a2,S⟩:=h1
 obtain⟨Y,Z,U⟩:=h2
 refine Eo.seq (.inl ⟨ud.of a1,ud.of Y⟩) (by simp; omega) fun i x y J F=>?_
 rw[zy]at J F
 cases qa:O[i]? with
 | none=>rw[qa]at J; cases J
 | some a=>
  cases qb:bs[i]? with
  | none=>rw[qb]at F; cases F
  | some b=>
   rw[qa]at J; rw[qb]at F
   cases J; cases F
   have hi:i<rs.length:=by have:=(Hd.mp qa).1; omega
   exact Eo.seqFlat (.inl ⟨ud.of (S i a _ qa (zg hi)),ud.of (U i b _ qb (zg hi))⟩) (xF _)
theorem vZ{K:W.Frag}{pr L:Addr}{g:TG}{te:TE}{nT:Nat}{σ : L2.St}{Q:VK}{H:Hp}{rs:List (List (Option Nat))}{Z:List Addr}(hR:ED H pr rs Z)(hn:rs.length≤60)(hL:H L=none)
  (hs:∀ (a:Addr) (xs:List V) (H':Hp) (C:VK),H' a=some (.lst xs)→(∀ l,H' l=none→C (.ref l) (upd H' l (.lst xs)))→g (.ref a) (σ++List.replicate nT none) H' fun σ2 H2=>te σ2 H2 C)
  (q:∀ H' bs,rm H H'→ED H' L rs bs→(∀ b∈bs,H b=none∧b≠L)→bs.Nodup→Q (.ref L) H'):eO (kc K pr) g kJ te nT σ L Q (upd H L (.lst [])):=by
 obtain⟨h1,h2,h3⟩:=hR
 refine vo (xs:=Z.map V.ref) (fun i ys H'=>∃ bs:List Addr,rm H H'∧H' L=some (.lst ys)∧ys=bs.map V.ref∧bs.length=i∧(∀ b∈bs,H b=none∧b≠L∧∃ o,H' b=some o)∧bs.Nodup∧∀ (j:Nat) b x,bs[j]? = some b→rs[j]? = some x→H' b=some (.lst (x.map dA)))
  ⟨[],ah hL _,af,rfl,rfl,by simp,GB,by simp⟩ (fun i ys H' _ h=>by obtain⟨_,sm,_⟩:=h; exact ud.of (sm _ _ h1)) ?_ ?_
 ·rintro i ys H' x hx hi ⟨bs,sm,hl,rfl,hb,J,O,U⟩
  rw[zy]at hx
  cases qa:Z[i]? with
  | none=>rw[qa]at hx; cases hx
  | some a=>
   rw[qa]at hx; cases hx
   have ab:i<rs.length:=by have:=(Hd.mp qa).1; omega
   have ha:=h3 i a _ qa (zg ab);have e:=hs a _ H' (gi (Z.map V.ref).length i (fun i ys H'=>∃ bs:List Addr,rm H H'∧H' L=some (.lst ys)∧ys=bs.map V.ref∧bs.length=i∧(∀ b∈bs,H b=none∧b≠L∧∃ o,H' b=some o)∧bs.Nodup∧∀ (j:Nat) b x,bs[j]? = some b→rs[j]? = some x→H' b=some (.lst (x.map dA))) L (bs.map V.ref)) (sm _ _ ha) ?_
   ·have e2:(iF (Z.map V.ref).length i (fun i ys H'=>∃ bs:List Addr,rm H H'∧H' L=some (.lst ys)∧ys=bs.map V.ref∧bs.length=i∧(∀ b∈bs,H b=none∧b≠L∧∃ o,H' b=some o)∧bs.Nodup∧∀ (j:Nat) b x,bs[j]? = some b→rs[j]? = some x→H' b=some (.lst (x.map dA))) L (bs.map V.ref) te)=fun σ2 H2=>te σ2 H2 (gi (Z.map V.ref).length i (fun i ys H'=>∃ bs:List Addr,rm H H'∧H' L=some (.lst ys)∧ys=bs.map V.ref∧bs.length=i∧(∀ b∈bs,H b=none∧b≠L∧∃ o,H' b=some o)∧bs.Nodup∧∀ (j:Nat) b x,bs[j]? = some b→rs[j]? = some x→H' b=some (.lst (x.map dA))) L (bs.map V.ref)):=by
     funext σ2 H2; exact kM
    rw[e2]; exact e
   ·intro l F
    have nl:l≠L:=by
     rintro rfl
     rw[hl]at F; cases F
    have ag:upd H' l (.lst ((rs[i]).map dA)) L=some (.lst (bs.map V.ref)):=by rw[au (ve nl)]; exact hl
    refine kY hi (by rw[ze]; exact hb) (by rw[ze,h2]; exact aX (by omega)) ag ⟨bs++[l],(sm.trans (ah F _)).upd hL _,af,by rw[zP]; rfl,by simp[hb],?_,?_,?_⟩
    ·intro b S
     rcases Hj.mp S with z | z
     ·obtain⟨z1,z2,o,z3⟩:=J b z
      exact⟨z1,z2,o,by rw[au z2]; exact(ah F _) _ _ z3⟩
     ·rw[Hg.mp z]
      exact⟨sm.free F,nl,_,by rw[au nl]; exact af⟩
    ·rw[zaD]
     refine⟨O,by simp,fun b S c hc=>?_⟩
     rw[Hg.mp hc];rintro rfl
     obtain⟨_,_,o,z⟩:=J b S
     rw[F]at z; cases z
    ·intro j b x Y e2
     rcases vA j bs.length with z | z
     ·rw[vX z]at Y
      have q1:=U j b x Y e2;have q2:=(J b (vx Y)).2.1;rw[au q2]; exact(ah F _) _ _ q1
     ·rw[vw z]at Y
      have hj:j - bs.length=0:=by
       have:=(Hd.mp Y).1
       simp at this; omega
      rw[hj]at Y
      have ad:l=b:=by simpa using Y
      subst ad;have al:j=i:=by omega
      subst al;rw[zg ab]at e2
      cases e2;rw[au nl]; exact af
 ·rintro ys H' ⟨bs,sm,hl,rfl,hb,J,O,U⟩
  exact q H' bs sm ⟨hl,by rw[hb,ze,h2],U⟩ (fun b z=>⟨(J b z).1,(J b z).2.1⟩) O
section
variable{P:Program}{w:World}{K:W.Frag}{mg:Str→Option Value}{base:Heap}
noncomputable def step(r:Rl)(k:Nat)(y:Str):Option Nat:=if y∈r.ws then (r.rs.getD k []).getD (r.ws.idxOf y) none else some k
noncomputable def after(r:Rl):Nat→List Str→Option Nat
 | k,[]=>some k
 | k,y::ys=>match step r k y with
  | none=>none
  | some k'=>after r k' ys
noncomputable def wW:Sp:=fun vs H Q _=>∃ (p:Addr) (r:Rl) (k:Nat) (y:Str),vs=[.ref p,.int k,.str y]∧Ej H p r∧gX r∧k<r.rs.length∧Q (dA (step r k y)) H
theorem tf{r:Rl}{k:Nat}{y:Str}{x:List (Option Nat)}(ok:gX r)(hx:r.rs[k]? = some x)(J:y∈r.ws):(x.map dA)[r.ws.idxOf y]? = some (dA (step r k y)):=by
 have F:r.ws.idxOf y<x.length:=by rw[(ok.row x (vx hx)).1]; exact List.idxOf_lt_length_iff.mpr J
 rw[zy,zg F];show some (dA x[r.ws.idxOf y])=_
 unfold step;rw[Hf J,vE (l:=r.rs),hx];show _=some (dA (x.getD (r.ws.idxOf y) none))
 rw[vE,zg F]; rfl
theorem CD(D:Ab K mg "next_room" cO):aH P w K mg base 1 "next_room" ["rule", "room", "text"] wW:=by
 refine D.cal EY (fun _ _ _ _ _ _ us hl=>by obtain⟨_,_,_,rfl⟩:=zu3 us hl;rfl) (fun vs H Q E h=>by obtain⟨p,r,k,y,rfl,_⟩:=h; rfl) (fun f ab A outer s H vs Q E hr h=>?_)
 obtain⟨p,r,k,y,rfl,U,ok,W,q⟩:=h
 obtain⟨pw,pr,O,h1,h2,Z,h4,Y⟩:=U
 refine⟨_,(ai (ar 3 EY.nd (ao (aw K) (pv 0) ae (fun _ _=>rfl)))
   (ai (bC (aB (gU K) (pv 2) (pv 3) (by with_unfolding_all rfl)) (aj (aJ (pv 1))) bz)
   (aj (aJ (ao (aw K) (ao (aw K) (ao (aw K) (pv 0) ae (fun _ _=>rfl)) (pv 1) (fun _ _=>rfl)) (bA K qL zbh F.type_list_index (nD K) (pv 3) (aa (pv 2) ac)) (fun _ _=>rfl)))))),?_⟩
 walk_at "r";refine⟨_,_,.inr (vr.of h1),rfl,?_⟩
 walk_at "n";refine⟨_,.inl (ud.of h2),rfl,nX _,?_⟩
 rw[ui];refine bd (fun c=>?_) (fun c=>?_)
 ·have J:y∉r.ws:=by simpa using c
  have e:step r k y=some k:=by unfold step; rw[He J]
  rw[e]at q; exact q
 ·have J:y∈r.ws:=by simpa using c
  obtain⟨b,S⟩ : ∃ b,O[k]? = some b:=⟨O[k],zg (by omega)⟩
  obtain⟨x,hx⟩ : ∃ x,r.rs[k]? = some x:=⟨_,zg W⟩
  walk_at "n";refine⟨_,_,.inr (vr.of h1),rfl,?_⟩
  walk_at "r";refine⟨_,_,.inl (ud.of Z),(je (by omega) (by simpa using S)),?_⟩
  walk_at "r";refine⟨⟨_,ud.of h2⟩,_,ud.of h2,J,?_⟩
  exact⟨_,_,.inl (ud.of (Y k b x S hx)),(av (tf ok hx J)),q⟩
end
theorem xH{H:Hp}{c:Addr}{R:List bD}{i:Nat}{r:bD}(h:C3 H c R)(e:R[i]? = some r):∃ (F:List Addr) (b:Addr),H c=some (.lst (F.map V.ref))∧F.length=R.length∧F[i]? = some b∧H b=some (.tup r):=by
 obtain⟨F,a1,a2⟩:=h
 have hl:=aI a2;have hi:=(Hd.mp e).1;have J:i<F.length:=by omega
 obtain⟨U,O,S⟩:=b8 a2 (zg J)
 rw[e]at O
 cases O;exact⟨F,_,a1,hl,zg J,S⟩
theorem xq{K:W.Frag}{a:Addr}{xs:List V}{g:TG}{te:TE}{nT:Nat}{σ : L2.St}{D:Addr}{Q:VK}{H:Hp}{tc:TT}(F:Nat→List V→Hp→Prop)(S:F 0 [] H)(hl:∀ i ys H,i≤xs.length→F i ys H→vr K H a xs)
  (O:∀ i ys H x,xs[i]? = some x→i<xs.length→F i ys H→g x (σ++List.replicate nT none) H (kR xs.length i F D ys tc te))
  (hd:∀ ys H,F xs.length ys H→Q (.ref D) H):eO (ux K a) g tc te nT σ D Q H:=by
 refine kE xs.length F S (fun i ys H hi p=>⟨xs,xs[i],hl i ys H (wm hi) p,by simp[hi]⟩) (fun ys H p=>⟨xs,hl _ ys H (zl _) p,zl _⟩) (fun i ys H x H' hi p J=>?_) hd
 obtain⟨rfl,y⟩:=J
 exact O i ys _ x (y xs (hl i ys _ (wm hi) p)) hi p
section
variable{P:Program}{w:World}{K:W.Frag}{mg:Str→Option Value}{base:Heap}
inductive Ey (N:Nat):bD→Prop
 | op (l s:Nat):s<N→Ey N [.str "open", iN l,iN s]
 | dd (l s:Nat) (x:Str):s<N→x.length≤20→Ey N [.str "do", iN l,iN s,.str x]
 | cp (l s t:Nat):s<N→t<N→Ey N [.str "copy", iN l,iN s,iN t]
 | dr (l s:Nat):s<N→Ey N [.str "drop", iN l,iN s]
 | ti (l s t:Nat):s<N→t<N→Ey N [.str "tie", iN l,iN s,iN t]
 | ts (l:Nat) (n:Int) (j:Nat):Ey N [.str "test", iN l,.int n,iN j]
 | jm (l j:Nat):Ey N [.str "jump", iN l,iN j]
 | en (l:Nat):Ey N [.str "end", iN l]
noncomputable def aC(r:bD)(k:Nat):Nat:=match r.getD k .non with
 | .int j=>j.toNat
 | _=>0
noncomputable def gP(r:bD):Str:=match r.getD 0 .non with
 | .str x=>x
 | _ => ""
theorem Ey.hd{N:Nat}{r:bD}(h:Ey N r):r[0]? = some (.str (gP r)):=by cases h <;> rfl
theorem Ey.s2{N:Nat}{r:bD}(h:Ey N r)(g:gP r∈(["open", "copy", "drop", "do", "tie"]:List Str)):r[2]? = some (.int (aC r 2:Nat))∧aC r 2<N:=by
 cases h with
 | op l s h | dr l s h=>exact⟨rfl,h⟩
 | dd l s x h _=>exact⟨rfl,h⟩
 | cp l s t h _ | ti l s t h _=>exact⟨rfl,h⟩
 | ts l n j=>exact absurd g (by show ¬ (("test" : Str)∈_); decide)
 | jm l j=>exact absurd g (by show ¬ (("jump" : Str)∈_); decide)
 | en l=>exact absurd g (by show ¬ (("end" : Str)∈_); decide)
theorem Ey.s3{N:Nat}{r:bD}(h:Ey N r)(g:gP r∈(["copy", "tie"]:List Str)):r[3]? = some (.int (aC r 3:Nat))∧aC r 3<N:=by
 cases h with
 | cp l s t _ h | ti l s t _ h=>exact⟨rfl,h⟩
 | op l s h=>exact absurd g (by show ¬ (("open" : Str)∈_); decide)
 | dr l s h=>exact absurd g (by show ¬ (("drop" : Str)∈_); decide)
 | dd l s x h _=>exact absurd g (by show ¬ (("do" : Str)∈_); decide)
 | ts l n j=>exact absurd g (by show ¬ (("test" : Str)∈_); decide)
 | jm l j=>exact absurd g (by show ¬ (("jump" : Str)∈_); decide)
 | en l=>exact absurd g (by show ¬ (("end" : Str)∈_); decide)
noncomputable def Bu(r:bD)(n:Nat):Nat:=if gP r = "copy" ∧ bj n (aC r 3)=true then mL n (aC r 2) else if gP r∈(["open", "copy", "drop"]:List Str) then aT n (aC r 2) else n
noncomputable def yh:Sp:=fun vs H Q _=>∃ s n:Nat,vs=[.int (s:Int),.int (n:Int)]∧Q (.bl (bj n s)) H
theorem CJ(D:Ab K mg "is_in" ic):aH P w K mg base 1 "is_in" ["slot", "held"] yh:=by
 refine D.cal (k:=0) A1 (fun _ _ _ _ _ _ J hl=>match J,hl with | [_,_],_=>rfl) (fun vs H Q E h=>by obtain⟨_,_,rfl,_⟩:=h; rfl) (fun f F A outer O H vs Q E S h=>?_)
 obtain⟨s,n,rfl,q⟩:=h
 refine⟨_,(aj (aJ (cY bb (ak jF (ak qV (pv 1) (pv 0)) ae) ae (aF _)))),?_⟩
 walk_at "r";refine⟨by omega,?_⟩
 rw[vO,DF];have e:decide ((if bj n s=true then (1:Int) else 0)=1)=bj n s:=by cases bj n s <;> decide
 rw[e]; exact q
noncomputable def mP:Sp:=fun vs H Q _=>∃ s n:Nat,vs=[.int (s:Int),.int (n:Int)]∧s≤1000000∧Q (.int (aT n s:Nat)) H
theorem vb(D:Ab K mg "without" fU):aH P w K mg base 1 "without" ["slot", "held"] mP:=by
 refine D.cal (k:=0) wx (fun _ _ _ _ _ _ F hl=>match F,hl with | [_,_],_=>rfl) (fun vs H Q E h=>by obtain⟨_,_,rfl,_⟩:=h; rfl) (fun f J A outer S H vs Q E O h=>?_)
 obtain⟨s,n,rfl,U,q⟩:=h
 refine⟨_,(aj (aJ (ak jF (pv 1) (fN CT (ak dZ ae (pv 0)))))),?_⟩
 walk_at "r";refine⟨⟨by omega,by omega,by decide⟩,?_⟩
 rw[vO,show (1:Int) * 2 ^ s=((2 ^ s:Nat):Int) by push_cast; omega,su]
 exact q
def ft(H:Hp)(t:Addr)(ts:List Nat):Prop:=H t=some (.tup (ts.map iN))
noncomputable def eC(rl:Rl)(s:Nat)(tss:List (List Nat)):List (List Nat):=if rl.s=1 then (match step rl 0 "open" with | some j=>[[2 ^ s,j]] | none=>[]) else [2 ^ s]::tss.flatMap fun ts=>if ts.length=1 then [[aT (ts.getD 0 0) s,2 ^ s,1],[2 ^ s,aT (ts.getD 0 0) s,2]] else []
noncomputable def fm(s t:Nat)(tss:List (List Nat)):List (List Nat):=(tss.filter fun ts=>decide (ts.length=3)&&bj (ts.getD 0 0) s&&bj (ts.getD 1 0) t).map (· ++ [0])
def wh(H:Hp)(bs:List Addr)(tss:List (List Nat)):Prop:=bs.length=tss.length∧∀ (i:Nat) b ts,bs[i]? = some b→tss[i]? = some ts→ft H b ts
theorem wh.nil(H:Hp):wh H [] []:=⟨rfl,fun i b ts h=>by simp at h⟩
theorem wh.same{H H':Hp}{bs:List Addr}{F:List (List Nat)}(h:wh H bs F)(s:rm H H'):wh H' bs F:=⟨h.1,fun i b ts h1 h2=>s _ _ (h.2 i b ts h1 h2)⟩
theorem wh.snoc{H:Hp}{bs:List Addr}{F:List (List Nat)}{b:Addr}{ts:List Nat}(h:wh H bs F)(J:ft H b ts):wh H (bs++[b]) (F++[ts]):=by
 refine⟨by rw[zr,zr,h.1]; rfl,fun i c O h1 h2=>?_⟩
 rcases vA i bs.length with z | z
 ·rw[vX z]at h1
  rw[vX (by rw[← h.1]; exact z)]at h2
  exact h.2 i c O h1 h2
 ·rw[vw z]at h1
  rw[vw (by rw[← h.1]; exact z),← h.1]at h2
  cases e:i - bs.length with
  | zero=>
   rw[e]at h1 h2
   obtain rfl:=Option.some.inj h1
   obtain rfl:=Option.some.inj h2
   exact J
  | succ n=>rw[e]at h1; simp at h1
theorem lO{H H':Hp}{l a:Addr}{cs:List Addr}{F:List (List Nat)}(ts:List Nat)(sm:rm H H')(Z:H l=none)(hl:H' l=some (.lst (cs.map V.ref)))(hT:wh H' cs F)(U:∀ c∈cs,H c=none∧c≠l)(W:H' a=none) :
  rm H (upd (upd H' a (.tup (ts.map iN))) l (.lst (cs.map V.ref++[V.ref a])))∧upd (upd H' a (.tup (ts.map iN))) l (.lst (cs.map V.ref++[V.ref a])) l=some (.lst ((cs++[a]).map V.ref))∧wh (upd (upd H' a (.tup (ts.map iN))) l (.lst (cs.map V.ref++[V.ref a]))) (cs++[a]) (F++[ts])∧∀ c∈cs++[a],H c=none∧c≠l:=by
 have O:a≠l:=fun z=>by rw[z,hl]at W; cases W
 have s1:=ah W (.tup (ts.map iN));have J:∀ c S,c≠l→upd H' a (.tup (ts.map iN)) c=S→upd (upd H' a (.tup (ts.map iN))) l (.lst (cs.map V.ref++[V.ref a])) c=S:=fun c S Y e=>by rw[au Y]; exact e
 refine⟨(sm.trans s1).upd Z _,by rw[af,zP]; rfl,wh.snoc ⟨hT.1,fun i b S h1 h2=>?_⟩ (J a _ O af),fun c Y=>?_⟩
 ·exact J b _ (U b (vx h1)).2 (s1 _ _ (hT.2 i b S h1 h2))
 ·rcases Hj.mp Y with z | z
  ·exact U c z
  ·rw[Hg.mp z]; exact⟨sm.free W,O⟩
noncomputable def xX:Sp:=fun vs H Q _=>∃ (p L:Addr) (rl:Rl) (s:Nat) (bs:List Addr) (tss:List (List Nat)),vs=[.ref p,.int (s:Int),.ref L]∧Ej H p rl∧gX rl∧s<9000∧H L=some (.lst (bs.map V.ref))∧wh H bs tss∧tss.length≤7∧
 ∀ (L':Addr) (H':Hp) (cs:List Addr),rm H H'→H L'=none→H' L'=some (.lst (cs.map V.ref))→wh H' cs (eC rl s tss)→(∀ c∈cs,H c=none)→Q (.ref L') H'
theorem Cy(D:Ab K mg "begun_by_open" aQ) (Z:mg "len" = none) (J:aH P w K mg base 1 "next_room" ["rule", "room", "text"] wW) (O:aH P w K mg base 1 "without" ["slot", "held"] mP):aH P w K mg base 2 "begun_by_open" ["rule", "slot", "tokens"] xX:=by
 refine D.cal (k:=1) AS (fun _ _ _ _ _ _ us hl=>by obtain⟨_,_,_,rfl⟩:=zu3 us hl;rfl) (fun vs H Q E h=>by obtain⟨_,_,_,_,_,_,rfl,_⟩:=h; rfl) (fun f a8 A outer s0 H vs Q E hr h=>?_)
 obtain⟨p,L,rl,s,bs,F,rfl,hp,hok,hs,hL,hT,h7,q⟩:=h
 refine⟨_,(ai (ar 3 AS.nd (ak dZ ae (pv 1)))
   (ai (bC (aB bb (ao (aw K) (pv 0) ae (fun _ _=>rfl)) ae (aF _)) (ai (ar 4 AS.nd (ay J hr (aa (pv 0) (aa ae (aa ax ac)))))
   (aj (aJ (kD (aB Cc (pv 4) rN (aF _)) (aY ac) (aY (aa (aK (aa (pv 3) (aa (pv 4) ac))) ac)))))) bz)
   (ai (ar 5 AS.nd (aY (aa (aK (aa (pv 3) ac)) ac)))
   (ai (b6 wG rfl (ci K (pv 2)) (ba 6 AS.nd) (aj (bC (aB bb (bi (aV K) Z bK (aa (pv 6) ac)) ae (aF _)) (ai (ar 7 AS.nd (ay O hr (aa (pv 1) (aa (ao (aw K) (pv 6) ae (fun _ _=>rfl)) ac))))
   (ai (bc (bA K qL vQ vT bo (pv 5) (aa (aK (aa (pv 7) (aa (pv 3) (aa ae ac)))) ac)))
   (aj (bc (bA K qL vQ vT bo (pv 5) (aa (aK (aa (pv 3) (aa (pv 7) (aa ae ac)))) ac)))))) bz)))
   (aj (aJ (pv 5))))))),?_⟩
 walk_at "r";refine⟨⟨by omega,by omega,by decide⟩,?_⟩
 have e2:(1:Int) * 2 ^ (Int.toNat (s:Int))=((2 ^ s:Nat):Int):=by rw[vO]; push_cast; omega
 rw[e2];obtain⟨pw,pr,as,a5,a9,a7⟩:=id hp
 walk_at "n";refine⟨_,_,.inr (vr.of a5),av (j:=0) (by rfl),?_⟩
 walk_at "r";refine bd (fun c1=>?_) (fun c1=>?_)
 ·walk_at "r"
  refine⟨p,rl,0, "open", rfl,hp,hok,by have:=hok.n0; omega,?_⟩
  have eb:eC rl s F=(match step rl 0 "open" with | some j=>[[2 ^ s,j]] | none=>[]):=by unfold eC; rw[Hf c1]
  cases hst:step rl 0 "open" with
  | none=>
   walk_at "n";rw[Hf (show dA none=V.non from rfl)];refine⟨by decide,fun u hu=>q u _ [] (ah hu _) hu af ?_ (fun c hc=>nomatch hc)⟩
   rw[eb,hst]; exact wh.nil _
  | some j=>
   walk_at "n";rw[He (by simp[dA])]
   refine⟨by decide,fun t ht=>?_⟩
   have s1:=ah ht (.tup [V.int (2 ^ s:Nat),V.int (j:Int)]);have e1:ft (upd H t (.tup [V.int (2 ^ s:Nat),V.int (j:Int)])) t [2 ^ s,j]:=af
   refine⟨by decide,fun u hu=>q u _ [t] (s1.trans (ah hu _)) (s1.free hu) af ?_ (fun c hc=>by rw[Hg.mp hc]; exact ht)⟩
   rw[eb,hst];exact(wh.nil _).snoc ((ah hu _) _ _ e1)
 ·walk_at "n"
  refine⟨by decide,fun t ht=>⟨by decide,fun l hl=>?_⟩⟩
  have s1:=ah ht (.tup [V.int (2 ^ s:Nat)]);have e1:ft (upd H t (.tup [V.int (2 ^ s:Nat)])) t [2 ^ s]:=af
  have ab:H l=none:=s1.free hl
  have a3:t≠l:=fun z=>by rw[z,af]at hl; cases hl
  have s2:=s1.trans (ah hl (.lst [V.ref t]));have an:=ah hl (.lst [V.ref t]) _ _ e1;have e3:upd (upd H t (.tup [V.int (2 ^ s:Nat)])) l (.lst [V.ref t]) l=some (.lst ([t].map V.ref)):=af
  generalize upd (upd H t (.tup [V.int (2 ^ s:Nat)])) l (.lst [V.ref t])=H2 at s2 an e3 ⊢;walk_at "n";refine⟨⟨_,ud.of (s2 _ _ hL)⟩,?_⟩
  refine cw (xs:=bs.map V.ref) (fun i σ H'=>∃ (cs:List Addr) (o6 o7:Option V),σ=[some (.ref p),some (.int (s:Int)),some (.ref L),some (.int (2 ^ s:Nat)),none,some (.ref l),o6,o7]∧rm H H'∧H' l=some (.lst (cs.map V.ref))∧
   wh H' cs ([2 ^ s]::(F.take i).flatMap fun ts=>if ts.length=1 then [[aT (ts.getD 0 0) s,2 ^ s,1],[2 ^ s,aT (ts.getD 0 0) s,2]] else [])∧(∀ c∈cs,H c=none∧c≠l)∧cs.length≤1+2 * i)
   ⟨[t],none,none,rfl,s2,e3,(wh.nil _).snoc an,fun c hc=>by rw[Hg.mp hc]; exact⟨ht,a3⟩,by simp⟩ (fun i σ H' _ hh=>by obtain⟨_,_,_,_,z,_⟩:=hh; exact ud.of (z _ _ hL)) ?_ ?_
  ·rintro i v σ H' hv ⟨cs,o6,o7,rfl,sm,S,U,W,a6⟩
   have hi:i<bs.length:=by have:=(Hd.mp hv).1; simpa using this
   rw[zy,zg hi]at hv
   cases hv;have al:i<F.length:=by rw[← hT.1]; exact hi
   have ad:=hT.2 i _ _ (zg hi) (zg al);have a4:F.take (i+1)=F.take i++[F[i]]:=by rw[pG,zg al]; rfl
   rw[a4,zbc,List.flatMap_singleton,← pT];generalize F[i]=ts at ad ⊢;generalize bs[i]=b at ad ⊢;have Y:H' b=some (.tup (ts.map iN)):=sm _ _ ad
   walk_at "r";refine⟨_,.inr (vr.of Y),?_⟩
   rw[ze];refine bd (fun c2=>?_) (fun c2=>?_)
   ·obtain⟨n,rfl⟩:=List.length_eq_one_iff.mp (show ts.length=1 by omega)
    refine⟨_,_,.inr (vr.of Y),av (j:=0) (by rfl),?_⟩
    refine⟨s,n,rfl,by omega,?_⟩
    walk_at "n";refine⟨⟨_,ud.of S⟩,by decide,fun a ha=>⟨_,ah ha _ _ _ S,by rw[ze]; exact aX (by omega),?_⟩⟩
    obtain⟨sA,lA,tA,cA⟩:=lO [aT n s,2 ^ s,1] sm ab S U W ha
    rw[show [V.int ((aT n s:Nat):Int),V.int ((2 ^ s:Nat):Int),V.int 1]=[aT n s,2 ^ s,1].map iN from rfl];generalize upd (upd H' a (.tup ([aT n s,2 ^ s,1].map iN))) l (.lst (cs.map V.ref++[V.ref a]))=H3 at sA lA tA ⊢;walk_at "n";refine⟨⟨_,ud.of lA⟩,by decide,fun a2 ag=>⟨_,ah ag _ _ _ lA,by rw[ze,zr]; exact aX (by simp; omega),?_⟩⟩
    obtain⟨sB,lB,tB,cB⟩:=lO [2 ^ s,aT n s,2] sA ab lA tA cA ag
    refine⟨cs++[a]++[a2],_,_,rfl,sB,lB,?_,cB,by simp; omega⟩
    have eq:([2 ^ s]::((F.take i).flatMap fun ts=>if ts.length=1 then [[aT (ts.getD 0 0) s,2 ^ s,1],[2 ^ s,aT (ts.getD 0 0) s,2]] else []))++[[aT n s,2 ^ s,1]]++[[2 ^ s,aT n s,2]]=[2 ^ s]::(((F.take i).flatMap fun ts=>if ts.length=1 then [[aT (ts.getD 0 0) s,2 ^ s,1],[2 ^ s,aT (ts.getD 0 0) s,2]] else [])++[[aT n s,2 ^ s,1],[2 ^ s,aT n s,2]]):=by simp
    rw[eq]at tB
    exact tB
   ·refine⟨cs,some (.ref b),o7,rfl,sm,S,?_,W,by omega⟩
    rw[He (by omega),gY]; exact U
  ·rintro σ H' ⟨cs,o6,o7,rfl,sm,S,U,W,a6⟩
   walk_at "n";refine q l H' cs sm ab S ?_ fun c hc=>(W c hc).1
   rw[ze,hT.1,tx]at U
   unfold eC;rw[He c1]; exact U
noncomputable def xK:Sp:=fun vs H Q _=>∃ (L:Addr) (s t:Nat) (bs:List Addr) (tss:List (List Nat)),vs=[.int (s:Int),.int (t:Int),.ref L]∧s<9000∧t<9000∧H L=some (.lst (bs.map V.ref))∧wh H bs tss∧tss.length≤7∧
 ∀ (L':Addr) (H':Hp) (cs:List Addr),rm H H'→H L'=none→H' L'=some (.lst (cs.map V.ref))→wh H' cs (fm s t tss)→(∀ c∈cs,H c=none)→Q (.ref L') H'
theorem CC(D:Ab K mg "begun_by_tie" aL) (a3:mg "len" = none) (S:aH P w K mg base 1 "is_in" ["slot", "held"] yh):aH P w K mg base 2 "begun_by_tie" ["one", "other", "tokens"] xK:=by
 refine D.cal (k:=1) EG (fun _ _ _ _ _ _ O hl=>match O,hl with | [_,_,_],_=>rfl) (fun vs H Q E h=>by obtain⟨_,_,_,_,_,rfl,_⟩:=h; rfl) (fun f bg A outer s0 H vs Q E hr h=>?_)
 obtain⟨L,s,t,bs,F,rfl,hs,ht,hL,hT,h7,q⟩:=h
 refine⟨_,(ai (lC (El.to (fsc:=(rd aL)) (N:=["one", "other", "tokens", "unlike"]) (N0:=["one", "other", "tokens", "unlike"]) (T:=["token"]) ⟨by decide +kernel,by decide +kernel,by decide +kernel,by decide +kernel,by decide +kernel,by decide +kernel,by decide +kernel⟩ rfl rfl) rfl EG.nd (i:=3) rfl Mg (ci K (pv 2)) (fun _ _ _ _=>(ba 4 (show (["one", "other", "tokens", "unlike", "token"]:List Str).Nodup from by decide +kernel) (hx:=(hJ (rd aL) (by decide +kernel))) (hf:=jW (rd aL) (by decide +kernel)))) (df (show (["one", "other", "tokens", "unlike"]:List Str).length≤4 from by decide)) (fun _ _ _ _=>(iD (aB bb (bi (aV K) a3 bK (aa (pv 4 (hv:=(cQ (rd aL) (by decide +kernel)))) ac) (hg:=(n5 (rd aL) (by decide +kernel)))) ae (aF _)))) (fun _ _ _ _=>(pv 4 (hv:=(cQ (rd aL) (by decide +kernel))))))
   (aj (aJ (fI (El.to (fsc:=(rd aL)) (N:=["one", "other", "tokens", "unlike"]) (N0:=["one", "other", "tokens", "unlike"]) (T:=["token"]) ⟨by decide +kernel,by decide +kernel,by decide +kernel,by decide +kernel,by decide +kernel,by decide +kernel,by decide +kernel⟩ rfl rfl) rfl (ci K (pv 3)) (fun _ _ _ _=>(ba 4 (show (["one", "other", "tokens", "unlike", "token"]:List Str).Nodup from by decide +kernel) (hx:=(hJ (rd aL) (by decide +kernel))) (hf:=jW (rd aL) (by decide +kernel)))) (df (show (["one", "other", "tokens", "unlike"]:List Str).length≤4 from by decide)) (fun _ _ _ _=>(iD (PW.pt' (c7 (dU (ay S hr (aa (pv 0 (hv:=(cQ (rd aL) (by decide +kernel)))) (aa (ao (aw K) (pv 4 (hv:=(cQ (rd aL) (by decide +kernel)))) ae (fun _ _=>rfl)) ac)) (hg:=(n5 (rd aL) (by decide +kernel))))) (dh (dU (ay S hr (aa (pv 1 (hv:=(cQ (rd aL) (by decide +kernel)))) (aa (ao (aw K) (pv 4 (hv:=(cQ (rd aL) (by decide +kernel)))) ae (fun _ _=>rfl)) ac)) (hg:=(n5 (rd aL) (by decide +kernel)))))))))) (fun _ _ _ _=>(ak (fD K) (pv 4 (hv:=(cQ (rd aL) (by decide +kernel)))) (aK (aa ae ac)))))))),?_⟩
 walk_at "r";refine⟨⟨_,ud.of hL⟩,fun D1 a7=>?_⟩
 have W:∀ (O:List (List Nat)) i (h:i<O.length),O.take (i+1)=O.take i++[O[i]]:=fun O i h=>by rw[pG,zg h]; rfl
 have hl:=hT.1;refine lz (xs:=bs.map V.ref) (fun i ys H'=>rm H H'∧∃ cs:List Addr,ys=cs.map V.ref∧H' D1=some (.lst (cs.map V.ref))∧cs.length≤i∧wh H cs ((F.take i).filter fun ts=>decide (ts.length=3))) ⟨ah a7 _,[],rfl,af,zl _,wh.nil _⟩ (fun i ys H' _ hh=>ud.of (hh.1 _ _ hL)) ?_ ?_
 ·rintro i ys H' v hv hi ⟨sm,cs,rfl,hD,a5,Y⟩
  have Z:i<bs.length:=by simpa using hi
  rw[zy,zg Z]at hv
  cases hv;have U:i<F.length:=by omega
  have J:=hT.2 i _ _ (zg Z) (zg U);have e:=W F i U;generalize F[i]=ts at J e;generalize bs[i]=b at J ⊢;walk_at "r";refine⟨_,.inr (vr.of (sm _ _ J)),?_⟩
  rw[ze];refine bd (fun c=>?_) (fun c=>?_)
  ·refine qX hi (by rw[ze]; exact a5) (aX (by rw[ze]; omega)) hD ⟨sm.upd a7 _,cs++[b],by simp,by rw[af]; simp,by simp; omega,?_⟩
   rw[e,G0,show [ts].filter (fun ts=>decide (ts.length=3))=[ts] by simp; omega]
   exact Y.snoc J
  ·refine oI hi ⟨sm,cs,rfl,hD,by omega,?_⟩
   rw[e,G0,show [ts].filter (fun ts=>decide (ts.length=3))=[] by simp; omega,gY]
   exact Y
 ·rintro ys H1 ⟨s1,cs,rfl,hD,a5,Y⟩
  rw[ze,hl,tx]at Y
  rw[ze]at a5
  have an:=Y.same s1;have h3:∀ O∈(F.filter fun ts=>decide (ts.length=3)),O.length=3:=fun O hu=>of_decide_eq_true (Hq.mp hu).2
  have eb:fm s t F=((F.filter fun ts=>decide (ts.length=3)).filter fun ts=>bj (ts.getD 0 0) s&&bj (ts.getD 1 0) t).map (· ++ [0]):=by
   unfold fm;rw[List.filter_filter]
   congr 1
   refine List.filter_congr fun x _=>?_
   cases decide (x.length=3) <;> simp
  generalize (F.filter fun ts=>decide (ts.length=3))=O at an h3 eb
  walk_at "n";refine⟨⟨_,ud.of hD⟩,fun D2 a4=>?_⟩
  refine lz (xs:=cs.map V.ref) (fun i ys H'=>rm H1 H'∧∃ ds:List Addr,ys=ds.map V.ref∧H' D2=some (.lst (ds.map V.ref))∧ds.length≤i∧wh H' ds (((O.take i).filter fun ts=>bj (ts.getD 0 0) s&&bj (ts.getD 1 0) t).map (· ++ [0]))∧∀ c∈ds,H1 c=none∧c≠D2) ⟨ah a4 _,[],rfl,af,zl _,wh.nil _,fun c hc=>nomatch hc⟩ (fun i ys H' _ hh=>ud.of (hh.1 _ _ hD)) ?_ ?_
  ·rintro i ys H' v hv hi ⟨sm,ds,rfl,ad,be,ag,al⟩
   have Z:i<cs.length:=by simpa using hi
   rw[zy,zg Z]at hv
   cases hv;have U:i<O.length:=by have:=an.1; omega
   have J:=an.2 i _ _ (zg Z) (zg U);have e:=W O i U;have a8:=h3 O[i] (v5 U);generalize O[i]=ts at J e a8;generalize cs[i]=b at J ⊢;have ab:H' b=some (.tup (ts.map iN)):=sm _ _ J
   obtain⟨x,y,z,rfl⟩ : ∃ x y z,ts=[x,y,z]:=by
    match ts,a8 with
    | [x,y,z],_=>exact⟨x,y,z,rfl⟩
   walk_at "r"
   have as:(bj x s&&bj y t)=false→oN (cs.map V.ref).length i (fun i ys H'=>rm H1 H'∧∃ ds:List Addr,ys=ds.map V.ref∧H' D2=some (.lst (ds.map V.ref))∧ds.length≤i∧wh H' ds (((O.take i).filter fun ts=>bj (ts.getD 0 0) s&&bj (ts.getD 1 0) t).map (· ++ [0]))∧∀ c∈ds,H1 c=none∧c≠D2) (ds.map V.ref) H':=fun hz=>by
    refine oI hi ⟨sm,ds,rfl,ad,by omega,?_,al⟩
    rw[e,G0,show [[x,y,z]].filter (fun ts=>bj (ts.getD 0 0) s&&bj (ts.getD 1 0) t)=[] by simpa using hz,gY]
    exact ag
   refine⟨_,_,.inr (vr.of ab),av (j:=0) (by rfl),s,x,rfl,_,rfl,bd (fun c=>?_) (fun c=>as (by rw[Hu.mpr c]; rfl))⟩
   refine⟨_,_,.inr (vr.of ab),av (j:=1) (by rfl),t,y,rfl,_,rfl,bd (fun c'=>?_) (fun c'=>as (by rw[Hu.mpr c',Bool.and_false]))⟩
   refine⟨by decide,fun a1 a9=>⟨_,_,vr.of (ah a9 _ _ _ ab),vr.of af,by simp,(by show 4≤sizeLine; decide),?_⟩⟩
   refine⟨fun z=>absurd z (by simp),fun _ a2 a6=>?_⟩
   have sa:=ah a9 (.tup [V.int 0]);obtain⟨sB,lB,tB,cB⟩:=lO [x,y,z,0] (sm.trans sa) a4 (sa _ _ ad) (ag.same sa) al a6
   refine qX hi (by rw[ze]; exact be) (aX (by rw[ze]; omega)) (ah a6 _ _ _ (sa _ _ ad)) ⟨sB,ds++[a2],by simp,lB,by simp; omega,?_,cB⟩
   rw[e,G0,show [[x,y,z]].filter (fun ts=>bj (ts.getD 0 0) s&&bj (ts.getD 1 0) t)=[[x,y,z]] by simp[c,c'],zP]
   exact tB
  ·rintro ys H2 ⟨s2,ds,rfl,ad,be,ag,al⟩
   rw[ze,an.1,tx,← eb]at ag
   exact q D2 H2 ds (s1.trans s2) (s1.free a4) ad ag fun c hc=>s1.free (al c hc).1
noncomputable def dL(rl:Rl)(r:bD)(tss:List (List Nat)):List (List Nat):=if gP r = "open" then eC rl (aC r 2) tss else if gP r = "tie" then fm (aC r 2) (aC r 3) tss else []
noncomputable def C_(v:V):Int:=match v with
 | .int i=>i
 | _=>0
noncomputable def eR(H:Hp)(q:Addr):List Int:=match H q with
 | some (.tup xs)=>xs.map C_
 | _=>[]
noncomputable def zN(ts:List Nat):List Int:=ts.map Int.ofNat
theorem lS{H:Hp}{q:Addr}{ts:List Nat}(h:ft H q ts):eR H q=zN ts∧H q=some (.tup ((eR H q).map V.int)):=by
 have e:eR H q=zN ts:=by
  unfold eR zN; rw[show H q=some (.tup (ts.map iN)) from h]
  show (ts.map iN).map C_=_
  rw[yt]; rfl
 refine⟨e,?_⟩
 rw[e,show H q=some (.tup (ts.map iN)) from h];unfold zN; rw[yt]; rfl
theorem xD:∀ {a b:List Nat},zN a=zN b→a=b
 | [],[],_=>rfl
 | [],_::_,h=>nomatch h
 | _::_,[],h=>nomatch h
 | x::a,y::b,h=>by
  unfold zN at h;rw[zW,zW]at h
  injection h with h1 h2
  rw[Int.ofNat.inj h1,xD h2]
theorem zb(J:Rl)(s:Nat)(F:List (List Nat)):(eC J s F).length≤1+2 * F.length:=by
 unfold eC;split
 ·split <;> simp
 ·rw[zx]
  have:∀ l:List (List Nat),(l.flatMap fun ts=>if ts.length=1 then [[aT (ts.getD 0 0) s,2 ^ s,1],[2 ^ s,aT (ts.getD 0 0) s,2]] else []).length≤2 * l.length:=by
   intro l
   induction l with
   | nil=>simp
   | cons x l ih=>
    rw[zaU,zr,zx];have h2:(if x.length=1 then [[aT (x.getD 0 0) s,2 ^ s,1],[2 ^ s,aT (x.getD 0 0) s,2]] else []).length≤2:=by split <;> simp
    omega
  have:=this F
  omega
theorem rJ(J:Rl)(r:bD)(F:List (List Nat))(h:F.length≤7):(dL J r F).length≤15:=by
 unfold dL;split
 ·have:=zb J (aC r 2) F; omega
 ·split
  ·unfold fm
   rw[ze];have:=List.length_filter_le (fun ts:List Nat=>decide (ts.length=3)&&bj (ts.getD 0 0) (aC r 2)&&bj (ts.getD 1 0) (aC r 3)) F
   omega
  ·simp
theorem t_(J:Rl)(r:bD)(F:List (List Nat))(ts:List Nat)(h:ts∈dL J r F):ts≠[]:=by
 unfold dL at h;rintro rfl
 split at h
 ·unfold eC at h
  split at h
  ·split at h <;> simp at h
  ·rcases Hi.mp h with z | z
   ·cases z
   ·obtain⟨x,_,hx⟩:=Hh.mp z
    split at hx <;> simp at hx
 ·split at h
  ·unfold fm at h
   obtain⟨x,_,hx⟩:=Hk.mp h
   simp at hx
  ·cases h
def pI(kss:List (List Nat)):Prop:=kss.Pairwise fun x y=>cD (zN x) (zN y)=true
theorem nJ{w:World}{K:W.Frag}{H2:Hp}{Bg:Addr}{cs:List Addr}{kk:List (List Nat)}{Q:VK}(a3:H2 Bg=some (.lst (cs.map V.ref)))(U:wh H2 cs kk)(a6:kk.length≤15)(as:∀ ts∈kk,ts≠[])
  (q:∀ (l2:Addr) (H':Hp) (F:List Addr) (Z:List (List Nat)),rm H2 H'→H2 l2=none→H' l2=some (.lst (F.map V.ref))→wh H' F Z→pI Z→(∀ k,k∈Z ↔ k∈kk)→(∀ x∈F,x∈cs)→Q (.ref l2) H') :
  vt K (gf w) [.ref Bg] H2 fun v H'=>jt K (gf w) [v] H' Q:=by
 have a5:=U.1
 have at_:∀ x∈cs,∃ ts,ft H2 x ts∧ts∈kk:=fun x hx=>by
  obtain⟨j,hj,e⟩:=Ho.mp hx
  have O:j<kk.length:=by omega
  exact⟨_,U.2 j x _ (by rw[zg hj,e]) (zg O),v5 O⟩
 have eX:∀ x∈cs,H2 x=some (.tup ((eR H2 x).map V.int))∧eR H2 x≠[]:=fun x hx=>by
  obtain⟨ts,t1,t2⟩:=at_ x hx
  obtain⟨k1,k2⟩:=lS t1
  refine⟨k2,?_⟩
  rw[k1];intro z
  exact as ts t2 (xD (b:=[]) z)
 refine⟨Bg,cs,eR H2,rfl,ud.of a3,fun x hx=>vr.of (eX x hx).1,by omega,fun l ad hl ab an al hle=>?_⟩
 have s3:=ah hl (gf w l ad);refine⟨l,ad,eR H2,rfl,af,by omega,fun x hx=>⟨vr.of (s3 _ _ (eX x (ab x hx)).1),(eX x (ab x hx)).2⟩,an,fun l2 F ag S a4=>?_⟩
 have s4:=s3.trans (ah ag (.lst (F.map V.ref)));have J:∀ x∈F,x∈cs:=fun x hx=>ab x (S.mem_iff.mp hx)
 have fz:∀ k,(zN k).map Int.toNat=k:=fun k=>by unfold zN; rw[yt]; exact List.map_id k
 have hf:∀ x∈cs,∃ ts,ft H2 x ts∧ts∈kk∧(eR H2 x).map Int.toNat=ts∧eR H2 x=zN ts:=fun x hx=>by
  obtain⟨ts,t1,t2⟩:=at_ x hx
  have k1:=(lS t1).1;exact⟨ts,t1,t2,by rw[k1,fz],k1⟩
 refine q l2 _ F (F.map fun x=>(eR H2 x).map Int.toNat) s4 (s3.free ag) af ⟨by rw[ze],fun j x ts h1 h2=>?_⟩ ?_ (fun k=>⟨fun Y=>?_,fun Y=>?_⟩) J
 ·rw[zy,h1]at h2
  obtain rfl:=Option.some.inj h2
  obtain⟨ts,t1,_,t3,_⟩:=hf x (J x (vx h1))
  show ft _ x ((eR H2 x).map Int.toNat)
  rw[t3];exact s4 _ _ t1
 ·unfold pI
  rw[Ht];refine za6 (fun {x y} hx hy z=>?_) a4
  obtain⟨ts,_,_,t3,t4⟩:=hf x (J x hx)
  obtain⟨us,_,_,u3,u4⟩:=hf y (J y hy)
  rw[t3,u3,← t4,← u4]; exact z
 ·obtain⟨x,hx,rfl⟩:=Hk.mp Y
  obtain⟨ts,_,t2,t3,_⟩:=hf x (J x hx)
  rw[t3]; exact t2
 ·obtain⟨j,hj,e⟩:=Ho.mp Y
  have O:j<cs.length:=by omega
  have t1:=U.2 j _ _ (zg O) (by rw[zg hj,e])
  have hm:zN k∈ad.map (eR H2):=(al (zN k)).mpr (Hk.mpr ⟨cs[j],v5 O,(lS t1).1⟩)
  obtain⟨x,hx,ex⟩:=Hk.mp hm
  exact Hk.mpr ⟨x,S.mem_iff.mpr hx,by rw[ex,fz]⟩
noncomputable def xj:Sp:=fun vs H Q _=>∃ (c p L:Addr) (R:List bD) (rl:Rl) (r:bD) (i N:Nat) (bs:List Addr) (tss:List (List Nat)),vs=[.ref c,.ref p,.int (i:Int),.ref L]∧C3 H c R∧R[i]? = some r∧Ey N r∧N≤9000∧Ej H p rl∧gX rl∧H L=some (.lst (bs.map V.ref))∧wh H bs tss∧tss.length≤7∧
 ∀ (L':Addr) (H':Hp) (cs:List Addr) (kss:List (List Nat)),rm H H'→H L'=none→H' L'=some (.lst (cs.map V.ref))→wh H' cs kss→pI kss→(∀ k,k∈kss ↔ k∈dL rl r tss)→(∀ c∈cs,H c=none)→Q (.ref L') H'
theorem B0(D:Ab K mg "begins_at" bO) (Y:mg "set" = none) (S:mg "sorted" = none) (F:aH P w K mg base 2 "begun_by_open" ["rule", "slot", "tokens"] xX) (J:aH P w K mg base 2 "begun_by_tie" ["one", "other", "tokens"] xK):aH P w K mg base 3 "begins_at" ["code", "rule", "at", "tokens"] xj:=by
 refine D.cal (k:=2) DY (fun _ _ _ _ _ _ us hl=>by obtain⟨_,_,_,_,rfl⟩:=zu4 us hl;rfl) (fun vs H Q E h=>by obtain⟨_,_,_,_,_,_,_,_,_,_,rfl,_⟩:=h; rfl) (fun f a9 A outer s0 H vs Q E hr h=>?_)
 obtain⟨c,p,L,R,rl,r,i,N,bs,U,rfl,hR,hi,hk,hN,hp,hok,hL,hT,h7,q⟩:=h
 refine⟨_,(ai (ar 4 DY.nd (ao (aw K) (pv 0) (pv 2) (fun _ _=>rfl)))
   (ai (ar 5 DY.nd (aY ac))
   (ai (bC (aB bb (ao (aw K) (pv 4) ae (fun _ _=>rfl)) ax (aF _)) (aj (ar 5 DY.nd (ay F hr (aa (pv 1) (aa (ao (aw K) (pv 4) ae (fun _ _=>rfl)) (aa (pv 3) ac)))))) (aj (bC (aB bb (ao (aw K) (pv 4) ae (fun _ _=>rfl)) ax (aF _)) (aj (ar 5 DY.nd (ay J hr (aa (ao (aw K) (pv 4) ae (fun _ _=>rfl)) (aa (ao (aw K) (pv 4) ae (fun _ _=>rfl)) (aa (pv 3) ac)))))) bz)))
   (aj (aJ (bi (ig K w hr) S jc (aa (cM (kZ K w hr) Y rb (aa (pv 5) ac)) ac))))))),?_⟩
 obtain⟨as,b,a1,a2,a3,hb⟩:=xH hR hi
 walk_at "r";refine⟨_,_,.inl (ud.of a1),av (by rw[zy,a3]; rfl),?_⟩
 walk_at "n";refine⟨by decide,fun B hB=>?_⟩
 have O:=ah hB (.lst []);have e1:upd H B (.lst []) B=some (.lst (([]:List Addr).map V.ref)):=af
 generalize upd H B (.lst [])=H1 at O e1 ⊢;refine fY (fun σ' H'=>∃ (Bg:Addr) (cs:List Addr),σ'=[some (.ref c),some (.ref p),some (.int (i:Int)),some (.ref L),some (.ref b),some (.ref Bg)]∧rm H H'∧H' Bg=some (.lst (cs.map V.ref))∧wh H' cs (dL rl r U)∧∀ c∈cs,H c=none) (fun k ab=>?_) ?_
 ·walk_at "r"
  refine⟨_,_,.inr (vr.of (O _ _ hb)),av (j:=0) hk.hd,?_⟩
  walk_at "r";refine bd (fun c1=>?_) (fun c1=>?_)
  ·obtain⟨h2,l2⟩:=hk.s2 (by rw[c1]; decide)
   refine⟨_,_,.inr (vr.of (O _ _ hb)),av (j:=2) h2,p,L,rl,aC r 2,bs,U,rfl,hp.mono O,hok,by omega,O _ _ hL,hT.same O,h7,fun L' H' cs sm a8 e W hc=>ab _ _ ⟨L',cs,rfl,O.trans sm,e,?_,fun c Z=>O.free (hc c Z)⟩⟩
   unfold dL; rw[Hf c1]; exact W
  ·refine⟨_,_,.inr (vr.of (O _ _ hb)),av (j:=0) hk.hd,?_⟩
   walk_at "r";refine bd (fun c2=>?_) (fun c2=>?_)
   ·obtain⟨h2,l2⟩:=hk.s2 (by rw[c2]; decide)
    obtain⟨h3,l3⟩:=hk.s3 (by rw[c2]; decide)
    refine⟨_,_,.inr (vr.of (O _ _ hb)),av (j:=2) h2,_,_,.inr (vr.of (O _ _ hb)),av (j:=3) h3,L,aC r 2,aC r 3,bs,U,rfl,by omega,by omega,O _ _ hL,hT.same O,h7,fun L' H' cs sm a8 e W hc=>ab _ _ ⟨L',cs,rfl,O.trans sm,e,?_,fun c Z=>O.free (hc c Z)⟩⟩
    unfold dL; rw[He c1,Hf c2]; exact W
   ·refine ab _ _ ⟨B,[],rfl,O,e1,?_,fun c hc=>nomatch hc⟩
    unfold dL; rw[He c1,He c2]; exact wh.nil _
 ·rintro σ' H2 ⟨Bg,cs,rfl,s2,an,W,a7⟩
  walk_at "n";exact nJ an W (rJ rl r U h7) (t_ rl r U) fun l2 H' ad a4 sm ag e2 al a5 hm a6=>q l2 H' ad a4 (s2.trans sm) (s2.free ag) e2 al a5 hm fun x hx=>a7 x (a6 x hx)
end
noncomputable def BF:List Nat→Prop
 | n::m::_::_=>∀ s,¬ (bj n s=true∧bj m s=true)
 | _=>True
section
variable{P:Program}{w:World}{K:W.Frag}{mg:Str→Option Value}{base:Heap}
inductive jh (sd:Int) (Z:Nat):List Nat→Prop
 | h1 (n k:Nat):sd=1→k<Z→jh sd Z [n,k]
 | one (n:Nat):sd=2→jh sd Z [n]
 | two (n m o:Nat):sd=2→jh sd Z [n,m,o]
 | tie (n m o k:Nat):sd=2→k<Z→jh sd Z [n,m,o,k]
noncomputable def FM:List V→Hp→VK→Prop:=fun xs H Q=>∃ i j k,xs=[.int i,.int j,.int k]∧Q (.int (if j>i then (if k>j then k else j) else (if k>i then k else i))) H
theorem ya{X:Cx}(F:X.calm=true:=by rfl):AL X (.builtin "max") FM:=by
 unfold AL;intro pins s σ H xs S Q I r h
 obtain⟨i,j,k,rfl,q⟩:=h
 cases r with
 | cons r1 r2=>
  obtain⟨u,J,rfl,⟨t',rfl⟩,⟨t2,rfl⟩⟩:=kS r2
  obtain⟨t,rfl⟩:=r1
  refine max_three_ints (I.ok.hd F) fun h' O kk=>⟨_,H,I.kept kk,?_,q⟩
  by_cases hj:j>i
  ·rw[Hf hj,Hf hj]
   by_cases h2:k>j
   ·rw[Hf h2,Hf h2]; exact⟨_,rfl⟩
   ·rw[He h2,He h2]; exact⟨_,rfl⟩
  ·rw[He hj,He hj]
   by_cases h2:k>i
   ·rw[Hf h2,Hf h2]; exact⟨_,rfl⟩
   ·rw[He h2,He h2]; exact⟨_,rfl⟩
def FZ(i j:Int):Prop:=0<j∧j.natAbs.log2<9000
theorem zH{X:Cx}:Ek X (binaryOp .FloorDiv) (rI FZ fun i j=>.int (i / j)):=pq fun i j _ _ _ _ _ F q=>by
 have h1:(0:Int)<j:=F.1
 exact floordiv_int (by omega) (by rw[zbd i (by omega)]; exact q) (.inl (PyProof.noPylong_of_log2 F.2))
theorem fh(s:Nat):(1:Int) * 2 ^ (Int.toNat (s:Int))=((2 ^ s:Nat):Int):=by rw[vO]; push_cast; omega
noncomputable def qG:Sp:=fun vs H Q _=>∃ n s:Nat,vs=[.int (n:Int),.int (s:Int)]∧s<9000∧Q (.bl (bj n s)) H
theorem Cj(D:Ab K mg "_law_has" fT):aH P w K mg base 1 "_law_has" ["_law_held", "_law_slot"] qG:=by
 refine D.cal (k:=0) uY (fun _ _ _ _ _ _ F hl=>match F,hl with | [_,_],_=>rfl) (fun vs H Q E h=>by obtain⟨_,_,rfl,_⟩:=h; rfl) (fun f J A outer W H vs Q E S h=>?_)
 obtain⟨n,s,rfl,O,q⟩:=h
 refine⟨_,(aj (aJ (cY bb (ak bq (ak zH (pv 0) (ak dZ ae (pv 1))) ae) ae (aF _)))),?_⟩
 walk_at "r";have U:=Nat.two_pow_pos s;refine⟨⟨by omega,by omega,by decide⟩,?_⟩
 rw[fh];refine⟨⟨by omega,by rw[Int.natAbs_natCast,Nat.log2_two_pow]; exact O⟩,by decide,?_⟩
 have e:decide ((n:Int) / ((2 ^ s:Nat):Int) % 2=1)=bj n s:=by
  rw[lM];have:(n:Int) / ((2 ^ s:Nat):Int) % 2=((n / 2 ^ s % 2:Nat):Int):=by push_cast; rfl
  rw[this];exact decide_eq_decide.mpr (by omega)
 rw[e]; exact q
noncomputable def BB:Sp:=fun vs H Q _=>∃ (b:Addr) (r:bD) (n N:Nat),vs=[.ref b,.int (n:Int)]∧bh H b r∧Ey N r∧N≤9000∧∀ H':Hp,rm H H'→Q (.int (Bu r n:Nat)) H'
theorem E4(D:Ab K mg "_law_sum_behind" bU) (S:mg "int" = none) (F:aH P w K mg base 1 "_law_has" ["_law_held", "_law_slot"] qG):aH P w K mg base 2 "_law_sum_behind" ["_law_row", "_law_held"] BB:=by
 refine D.cal (k:=1) Ec (fun _ _ _ _ _ _ us hl=>by obtain⟨_,_,rfl⟩:=zu2 us hl;rfl) (fun vs H Q E h=>by obtain⟨_,_,_,_,rfl,_⟩:=h; rfl) (fun f ab A outer s0 H vs Q E Z h=>?_)
 obtain⟨b,r,n,N,rfl,hb,U,hN,q⟩:=h
 refine⟨_,(ai (bC (aB (gU K) (ao (aw K) (pv 0) ae (fun _ _=>rfl)) (aK (aa ax (aa ax (aa ax ac)))) (by with_unfolding_all rfl)) (aj (aJ (pv 1))) bz)
   (ai (ar 2 Ec.nd (ak ji (pv 1) (ak cz (ak dZ ae (ao (aw K) (pv 0) ae (fun _ _=>rfl))) (cM eT S gw (aa (ay F Z (aa (pv 1) (aa (ao (aw K) (pv 0) ae (fun _ _=>rfl)) ac))) ac)))))
   (ai (bC (PW.pt' (c7 (aB bb (ao (aw K) (pv 0) ae (fun _ _=>rfl)) ax (aF _)) (dh (dU (ay F Z (aa (pv 1) (aa (ao (aw K) (pv 0) ae (fun _ _=>rfl)) ac))))))) (aj (ar 2 Ec.nd (ak az (pv 2) (ak dZ ae (ao (aw K) (pv 0) ae (fun _ _=>rfl)))))) bz)
   (aj (aJ (pv 2)))))),?_⟩
 walk_at "r";refine⟨_,_,.inr (vr.of hb),av (j:=0) U.hd,by decide,fun p hp=>?_⟩
 have Y:=ah hp (.tup [V.str "open", .str "drop", .str "copy"]);refine⟨_,.inr (vr.of af),rfl,rfl,?_⟩
 have J:=Y _ _ hb;generalize upd H p (.tup [V.str "open", .str "drop", .str "copy"])=H1 at Y J ⊢;rw[show [V.str "open", .str "drop", .str "copy"]=(["open", "drop", "copy"]:List Str).map V.str from rfl,fG];have O:=q H1 Y;unfold Bu at O
 by_cases c:gP r∈(["open", "copy", "drop"]:List Str)
 ·rw[He (by simp only[zK,qm,or_false]at c; rcases c with c | c | c <;> rw[c] <;> decide)]
  obtain⟨h2,l2⟩:=U.s2 (by simp only[zK,qm,or_false]at c ⊢; rcases c with c | c | c <;> simp[c])
  rw[Hf c]at O
  walk_at "n";refine⟨_,_,.inr (vr.of J),av (j:=2) h2,?_⟩
  walk_at "r";refine⟨⟨by omega,by omega,by decide⟩,?_⟩
  rw[fh];refine⟨_,_,.inr (vr.of J),av (j:=2) h2,n,aC r 2,rfl,by omega,?_⟩
  walk_at "r";refine⟨.inr (by split <;> decide),?_⟩
  have e:(n:Int) - ((2 ^ aC r 2:Nat):Int) * (if bj n (aC r 2)=true then 1 else 0)=(aT n (aC r 2):Nat):=by
   unfold aT;split
   ·rename_i hh
    have:=fZ hh
    omega
   ·omega
  rw[e];walk_at "n";refine⟨_,_,.inr (vr.of J),av (j:=0) U.hd,?_⟩
  walk_at "r";refine bd (fun W=>?_) (fun W=>?_)
  ·obtain⟨h3,l3⟩:=U.s3 (by rw[W]; decide)
   refine⟨_,_,.inr (vr.of J),av (j:=3) h3,n,aC r 3,rfl,by omega,_,rfl,bd (fun d=>?_) (fun d=>?_)⟩
   ·refine⟨_,_,.inr (vr.of J),av (j:=2) h2,?_⟩
    walk_at "r";refine⟨⟨by omega,by omega,by decide⟩,?_⟩
    rw[fh]
    have e2:((aT n (aC r 2):Nat):Int)+((2 ^ aC r 2:Nat):Int)=(mL n (aC r 2):Nat):=by
     unfold aT mL;split
     ·rename_i hh
      have:=fZ hh
      omega
     ·omega
    rw[e2];walk_at "n";rw[Hf ⟨W,d⟩]at O
    exact O
   ·walk_at "n"
    rw[He (fun z=>d z.2)]at O
    exact O
  ·walk_at "n"
   rw[He (fun z=>W z.1)]at O
   exact O
 ·rw[He (show ¬ (gP r = "copy" ∧ _) from fun z=>c (by rw[z.1]; decide)),He c]at O
  rw[Hf (by simp only[zK,qm,or_false,not_or]at c ⊢; simp[c])]
  exact O
noncomputable def tU:Sp:=fun vs H Q _=>∃ (p:Addr) (r:Rl) (k:Nat) (y:Str),vs=[.ref p,.int k,.str y]∧Ej H p r∧gX r∧k<r.rs.length∧Q (dA (step r k y)) H
theorem Ao(D:Ab K mg "_law_next" ef):aH P w K mg base 1 "_law_next" ["_law_rule_here", "_law_room", "_law_text"] tU:=by
 refine D.cal sy (fun _ _ _ _ _ _ us hl=>by obtain⟨_,_,_,rfl⟩:=zu3 us hl;rfl) (fun vs H Q E h=>by obtain⟨p,r,k,y,rfl,_⟩:=h; rfl) (fun f ab A outer s H vs Q E hr h=>?_)
 obtain⟨p,r,k,y,rfl,U,ok,W,q⟩:=h
 obtain⟨pw,pr,O,h1,h2,Z,h4,Y⟩:=U
 refine⟨_,(ai (bC (aB (gU K) (pv 2) (ao (aw K) (pv 0) ae (fun _ _=>rfl)) (by with_unfolding_all rfl)) (aj (aJ (pv 1))) bz)
   (aj (aJ (ao (aw K) (ao (aw K) (ao (aw K) (pv 0) ae (fun _ _=>rfl)) (pv 1) (fun _ _=>rfl)) (bA K qL zbh F.type_list_index (nD K) (ao (aw K) (pv 0) ae (fun _ _=>rfl)) (aa (pv 2) ac)) (fun _ _=>rfl))))),?_⟩
 walk_at "r";refine⟨_,_,.inr (vr.of h1),rfl,?_⟩
 walk_at "r";refine⟨_,.inl (ud.of h2),rfl,nX _,?_⟩
 rw[ui];refine bd (fun c=>?_) (fun c=>?_)
 ·have J:y∉r.ws:=by simpa using c
  have e:step r k y=some k:=by unfold step; rw[He J]
  rw[e]at q; exact q
 ·have J:y∈r.ws:=by simpa using c
  obtain⟨b,S⟩ : ∃ b,O[k]? = some b:=⟨O[k],zg (by omega)⟩
  obtain⟨x,hx⟩ : ∃ x,r.rs[k]? = some x:=⟨_,zg W⟩
  walk_at "n";refine⟨_,_,.inr (vr.of h1),rfl,?_⟩
  walk_at "r";refine⟨_,_,.inl (ud.of Z),(je (by omega) (by simpa using S)),?_⟩
  walk_at "r";refine⟨_,_,.inr (vr.of h1),rfl,?_⟩
  walk_at "r";refine⟨⟨_,ud.of h2⟩,_,ud.of h2,J,?_⟩
  exact⟨_,_,.inl (ud.of (Y k b x S hx)),(av (tf ok hx J)),q⟩
noncomputable def CZ:Sp:=fun vs H Q _=>∃ i:Int,vs=[.int i]∧Q (.bl true) H
theorem FL(D:Ab K mg "_law_whole" c_) (F:mg "isinstance" = none) (O:mg "int" = none) (J:mg "bool" = none):aH P w K mg base 1 "_law_whole" ["_law_found"] CZ:=by
 refine D.cal (k:=0) rF (fun _ _ _ _ _ _ S hl=>match S,hl with | [_],_=>rfl) (fun vs H Q E h=>by obtain⟨i,rfl,_⟩:=h; rfl) (fun f U A outer s H vs Q E W h=>?_)
 obtain⟨i,rfl,q⟩:=h
 refine⟨_,(aj (aJ (lI (bi iO F eL (aa (pv 0) (aa (li O gw) ac))) (oV (CU (bi iO F eL (aa (pv 0) (aa (li J B4) ac)))))))),?_⟩
 walk_at "r";refine⟨"int", rfl,by decide,bd (fun _=>?_) (fun c=>absurd (by decide) c)⟩
 exact⟨"int", rfl,by decide,q⟩
noncomputable def o_:Sp:=fun vs H Q _=>∃ (c:Addr) (R:List bD) (N:Nat),vs=[.ref c]∧C3 H c R∧(∀ r∈R,Ey N r)∧∀ (M:Nat) (H':Hp),rm H H'→M≤N→Q (.int (M:Int)) H'
theorem yr(D:Ab K mg "_law_slots" cH) (J:mg "max" = none):aH P w K mg base 1 "_law_slots" ["_law_code_here"] o_:=by
 refine D.cal (k:=0) D3 (fun _ _ _ _ _ _ us hl=>by obtain⟨_,rfl⟩:=zu1 us hl;rfl) (fun vs H Q E h=>by obtain⟨_,_,_,rfl,_⟩:=h; rfl) (fun f an A outer s0 H vs Q E hr h=>?_)
 obtain⟨c,R,N,rfl,hL,hk,q⟩:=h
 refine⟨_,(ai (ar 1 D3.nd ae)
   (ai (b6 wG rfl (ci K (pv 0)) (ba 2 D3.nd) (ai (bC (aB (rB K) (ao (aw K) (pv 2) ae (fun _ _=>rfl)) (aK (aa ax (aa ax (aa ax ac)))) (by with_unfolding_all rfl)) (aj (ar 1 D3.nd (bi yX J xI (aa (pv 1) (aa (ak az (ao (aw K) (pv 2) ae (fun _ _=>rfl)) ae) ac))))) bz)
   (aj (bC (aB (rB K) (ao (aw K) (pv 2) ae (fun _ _=>rfl)) (aK (aa ax (aa ax ac))) (by with_unfolding_all rfl)) (aj (ar 1 D3.nd (bi ya J xI (aa (pv 1) (aa (ak az (ao (aw K) (pv 2) ae (fun _ _=>rfl)) ae) (aa (ak az (ao (aw K) (pv 2) ae (fun _ _=>rfl)) ae) ac)))))) bz))))
   (aj (aJ (pv 1))))),?_⟩
 obtain⟨as,a1,a2⟩:=id hL
 have hl:=aI a2;walk_at "r";walk_at "n";refine⟨⟨_,ud.of a1⟩,?_⟩
 refine cw (xs:=as.map V.ref) (fun i σ H'=>∃ (M:Nat) (o2:Option V),σ=[some (.ref c),some (.int (M:Int)),o2]∧rm H H'∧M≤N) ⟨0,none,rfl,fun _ _ z=>z,vL _⟩ (fun i σ H' _ hh=>by obtain⟨_,_,_,z,_⟩:=hh; exact ud.of (z _ _ a1)) ?_ ?_
 ·rintro i v σ H' hv ⟨M,o2,rfl,sm,hM⟩
  have hi:i<as.length:=by have:=(Hd.mp hv).1; simpa using this
  rw[zy,zg hi]at hv
  cases hv;obtain⟨r,al,ab⟩:=b8 a2 (zg hi)
  have F:=hk r (vx al);have hb:=sm _ _ ab;have S:H as[i]=some (.tup r):=ab
  generalize as[i]=b at hb S ⊢;refine fY (fun σ' H'=>∃ M:Nat,σ'=[some (.ref c),some (.int (M:Int)),some (.ref b)]∧rm H H'∧M≤N) (fun k ad=>?_) ?_
  ·walk_at "r"
   refine⟨_,_,.inr (vr.of hb),av (j:=0) F.hd,by decide,fun p hp=>?_⟩
   have s1:=ah hp (.tup [V.str "open", .str "do", .str "drop"]);refine⟨_,.inr (vr.of af),rfl,rfl,?_⟩
   have Z:=s1 _ _ hb;generalize upd H' p (.tup [V.str "open", .str "do", .str "drop"])=H1 at s1 Z ⊢;rw[show [V.str "open", .str "do", .str "drop"]=(["open", "do", "drop"]:List Str).map V.str from rfl,fG];refine bd (fun e=>?_) (fun e=>?_)
   ·have e:=of_decide_eq_true e
    obtain⟨h2,l2⟩:=F.s2 (by simp only[zK,qm,or_false]at e ⊢; rcases e with e | e | e <;> simp[e])
    refine⟨_,_,.inr (vr.of Z),av (j:=2) h2,?_⟩
    walk_at "r"
    have e:∃ O:Nat,(if (aC r 2:Int)+1>(M:Int) then (aC r 2:Int)+1 else (M:Int))=(O:Int)∧O≤N:=by
     split
     ·exact⟨aC r 2+1,by push_cast; rfl,l2⟩
     ·exact⟨M,rfl,hM⟩
    obtain⟨O,e,U⟩:=e
    rw[e];exact ad _ _ ⟨O,rfl,sm.trans s1,U⟩
   ·exact ad _ _ ⟨M,rfl,sm.trans s1,hM⟩
  rintro σ' H2 ⟨M1,rfl,s2,Y⟩
  have ag:=s2 _ _ S;walk_at "n";refine⟨_,_,.inr (vr.of ag),av (j:=0) F.hd,by decide,fun p hp=>?_⟩
  have s3:=ah hp (.tup [V.str "copy", .str "tie"]);refine⟨_,.inr (vr.of af),rfl,rfl,?_⟩
  have W:=s3 _ _ ag;generalize upd H2 p (.tup [V.str "copy", .str "tie"])=H3 at s3 W ⊢;rw[show [V.str "copy", .str "tie"]=(["copy", "tie"]:List Str).map V.str from rfl,fG];refine bd (fun e=>?_) (fun e=>?_)
  ·have e:=of_decide_eq_true e
   obtain⟨h2,l2⟩:=F.s2 (by simp only[zK,qm,or_false]at e ⊢; rcases e with e | e <;> simp[e])
   obtain⟨h3,l3⟩:=F.s3 e
   refine⟨_,_,.inr (vr.of W),av (j:=2) h2,?_⟩
   walk_at "r";refine⟨_,_,.inr (vr.of W),av (j:=3) h3,?_⟩
   walk_at "r";refine⟨_,_,_,rfl,?_⟩
   have e:∃ O:Nat,(if (aC r 2:Int)+1>(M1:Int) then (if (aC r 3:Int)+1>(aC r 2:Int)+1 then (aC r 3:Int)+1 else (aC r 2:Int)+1) else (if (aC r 3:Int)+1>(M1:Int) then (aC r 3:Int)+1 else (M1:Int)))=(O:Int)∧O≤N:=by
    split
    ·split
     ·exact⟨aC r 3+1,by push_cast; rfl,l3⟩
     ·exact⟨aC r 2+1,by push_cast; rfl,l2⟩
    ·split
     ·exact⟨aC r 3+1,by push_cast; rfl,l3⟩
     ·exact⟨M1,rfl,Y⟩
   obtain⟨O,e,U⟩:=e
   rw[e];exact⟨O,_,rfl,s2.trans s3,U⟩
  ·exact⟨M1,_,rfl,s2.trans s3,Y⟩
 ·rintro σ H' ⟨M,o2,rfl,sm,hM⟩
  walk_at "n";exact q M H' sm hM
theorem ua{n i:Nat}(h:n<2 ^ i)(s:Nat):bj (n+2 ^ i) s=(bj n s||decide (i=s)):=by
 have F:bj n i=false:=Nat.testBit_lt_two_pow h
 have e:n+2 ^ i=n ||| 2 ^ i:=by
  rw[Dl]; unfold mL; rw[He (by rw[F]; decide)]
 rw[e];unfold bj;rw[Nat.testBit_or,za7]
theorem tz{n i s:Nat}(h:n<2 ^ i)(F:i=s):bj n s=false:=by subst F; exact Nat.testBit_lt_two_pow h
theorem zw{n m i:Nat}(F:n<2 ^ i)(J:m<2 ^ i)(hd:∀ s,¬ (bj n s=true∧bj m s=true))(x:Int):∃ n' m':Nat,(n:Int)+((2 ^ i:Nat):Int) * (if x=1 then 1 else 0)=(n':Int)∧(m:Int)+((2 ^ i:Nat):Int) * (if x=2 then 1 else 0)=(m':Int)∧n'<2 ^ (i+1)∧m'<2 ^ (i+1)∧∀ s,¬ (bj n' s=true∧bj m' s=true):=by
 have h2:2 ^ (i+1)=2 ^ i+2 ^ i:=by rw[Nat.pow_succ]; omega
 by_cases a:x=1
 ·have b:¬ x=2:=by omega
  rw[Hf a,He b];refine⟨n+2 ^ i,m,by push_cast; omega,by omega,by omega,by omega,fun s z=>?_⟩
  rw[ua F]at z
  by_cases c:i=s
  ·rw[tz J c]at z; exact absurd z.2 (by decide)
  ·rw[decide_eq_false c,zaI]at z; exact hd s z
 ·rw[He a]
  by_cases b:x=2
  ·rw[Hf b]
   refine⟨n,m+2 ^ i,by omega,by push_cast; omega,by omega,by omega,fun s z=>?_⟩
   rw[ua J]at z
   by_cases c:i=s
   ·rw[tz F c]at z; exact absurd z.1 (by decide)
   ·rw[decide_eq_false c,zaI]at z; exact hd s z
  ·rw[He b]
   exact⟨n,m,by omega,by omega,by omega,by omega,hd⟩
noncomputable def w9:Sp:=fun vs H Q _=>∃ (c:Int) (M:Nat),vs=[.int c,.int (M:Int)]∧M≤9000∧∀ (t:Addr) (H':Hp) (n m o:Nat),rm H H'→H t=none→ft H' t [n,m,o]→(∀ s,¬ (bj n s=true∧bj m s=true))→Q (.ref t) H'
theorem BV(D:Ab K mg "_law_pair" bS) (J:mg "int" = none) (F:mg "range" = none):aH P w K mg base 1 "_law_pair" ["_law_cell", "_law_slots_here"] w9:=by
 refine D.cal (k:=0) De (fun _ _ _ _ _ _ us hl=>by obtain⟨_,_,rfl⟩:=zu2 us hl;rfl) (fun vs H Q E h=>by obtain⟨_,_,rfl,_⟩:=h; rfl) (fun f ab A outer s0 H vs Q E hr h=>?_)
 obtain⟨c,M,rfl,hM,q⟩:=h
 refine⟨_,(ai (ar 2 De.nd (ak bq (ak cz (pv 0) ae) (ak az (ak jo ae ae) ae)))
   (ai (ar 3 De.nd ae)
   (ai (ar 4 De.nd ae)
   (ai (b6 wG rfl (cZ J2 F (aa (pv 1) ac)) (ba 5 De.nd) (ai (ar 3 De.nd (ak az (pv 3) (ak cz (ak dZ ae (pv 5)) (cM eT J gw (aa (cY bb (ak bq (pv 2) ae) ae (aF _)) ac)))))
   (ai (ar 4 De.nd (ak az (pv 4) (ak cz (ak dZ ae (pv 5)) (cM eT J gw (aa (cY bb (ak bq (pv 2) ae) ae (aF _)) ac)))))
   (aj (ar 2 De.nd (ak cK (pv 2) ae))))))
   (aj (aJ (aK (aa (pv 3) (aa (pv 4) (aa (ak az ae (ak bq (pv 2) ae)) ac)))))))))),?_⟩
 walk_at "r";refine⟨.inr ⟨by decide,by decide⟩,⟨by decide,by decide,by decide⟩,by decide,?_⟩
 generalize c * 16807 % (10 ^ Int.toNat 12+39)=CS
 walk_at "n";walk_at "n";walk_at "n";refine⟨by omega,by omega,?_⟩
 rw[vO]
 refine dy (fun i σ H'=>∃ (n m:Nat) (O:Int) (Y:Option V),σ=[some (.int c),some (.int (M:Int)),some (.int O),some (.int (n:Int)),some (.int (m:Int)),Y]∧H=H'∧n<2 ^ i∧m<2 ^ i∧∀ s,¬ (bj n s=true∧bj m s=true))
  ⟨0,0,CS,none,rfl,rfl,by decide,by decide,fun s z=>by rw[show bj 0 s=false from Nat.zero_testBit s]at z; exact absurd z.1 (by decide)⟩ ?_ ?_
 ·rintro i σ H' hi ⟨n,m,O,Y,rfl,rfl,Z,hm,hd⟩
  rw[zaE];walk_at "r";obtain⟨n',m',en,em,W,U,S⟩:=zw Z hm hd (O % 3)
  refine⟨⟨by omega,by omega,by decide⟩,by decide,.inr (by split <;> decide),?_⟩
  rw[fh,en];walk_at "n";refine⟨⟨by omega,by omega,by decide⟩,by decide,.inr (by split <;> decide),?_⟩
  rw[fh,em];walk_at "n";exact⟨⟨by decide,by decide⟩,n',m',_,_,rfl,W,U,S⟩
 ·rintro σ H' ⟨n,m,O,Y,rfl,rfl,Z,hm,hd⟩
  walk_at "n";have ho:∃ o:Nat,1+O % 2=(o:Int):=⟨(1+O % 2).toNat,by omega⟩
  obtain⟨o,eo⟩:=ho
  rw[eo];exact⟨by decide,by decide,fun t ht=>q t _ n m o (ah ht _) ht af hd⟩
theorem AV{kvs:List (List aG × V)}{k:List aG}{v:V}{p:List aG × V}(h:p∈cy kvs k v):p.1=k∨∃ q∈kvs,q.1=p.1:=by
 unfold cy at h;split at h
 ·obtain⟨q,F,e⟩:=Hk.mp h
  refine .inr ⟨q,F,?_⟩
  rw[← e]; split <;> rfl
 ·rcases Hj.mp h with z | z
  ·exact .inr ⟨p,z,rfl⟩
  ·rw[Hg.mp z]; exact .inl rfl
theorem Am(kvs:List (List aG × V))(k:List aG)(v:V):(cy kvs k v).length≤kvs.length+1:=by
 unfold cy;split
 ·rw[ze]; omega
 ·rw[zr]; simp
def Gx(sd:Int)(Z:Nat)(k:List aG):Prop:=∃ ts:List Nat,k.map kV=ts.map iN∧jh sd Z ts∧BF ts
noncomputable def yZ:Sp:=fun vs H Q _=>∃ (c:Int) (p:Addr) (rl:Rl) (M:Nat),vs=[.int c,.ref p,.int (M:Int)]∧M≤9000∧Ej H p rl∧gX rl∧∀ (L:Addr) (H':Hp) (bs:List Addr),rm H H'→H L=none→H' L=some (.lst (bs.map V.ref))→bs.length≤6→(∀ b∈bs,∃ ts,ft H' b ts∧jh rl.s rl.rs.length ts∧BF ts)→Q (.ref L) H'
theorem Ce(D:Ab K mg "_law_tokens" a_) (S:mg "range" = none) (al:mg "len" = none) (ag:mg "list" = none) (F:aH P w K mg base 1 "_law_pair" ["_law_cell", "_law_slots_here"] w9):aH P w K mg base 2 "_law_tokens" ["_law_cell", "_law_rule_here", "_law_slots_here"] yZ:=by
 refine D.cal (k:=1) AZ (fun _ _ _ _ _ _ us hl=>by obtain⟨_,_,_,rfl⟩:=zu3 us hl;rfl) (fun vs H Q E h=>by obtain⟨_,_,_,_,rfl,_⟩:=h; rfl) (fun f c0 A outer s0 H vs Q E hr h=>?_)
 obtain⟨c,p,Y,M,rfl,hM,hR,ok,q⟩:=h
 refine⟨_,(ai (ar 3 AZ.nd (ak bq (pv 0) ae))
   (ai (ar 4 AZ.nd AC)
   (ai (b6 wG rfl (cZ Kn S (aa (ak bq (pv 0) ae) ac)) (ba 5 AZ.nd) (ai (ar 3 AZ.nd (ak bq (ak az (ak az (ak cz (pv 3) (pv 3)) (ak cz ae (pv 3))) (pv 5)) ae))
   (ai (ar 6 AZ.nd (ay F hr (aa (pv 3) (aa (pv 2) ac))))
   (ai (ar 7 AZ.nd (ak bq (ak cK (pv 3) ae) (bi (aV K) al bK (aa (ao (aw K) (pv 1) ae (fun _ _=>rfl)) ac))))
   (aj (bC (aB bb (ao (aw K) (pv 1) ae (fun _ _=>rfl)) ae (aF _)) (aj (im fP (jb (pv 4) (aK (aa (ao (aw K) (pv 6) ae (fun _ _=>rfl)) (aa (pv 7) ac))) (wX hr)))) (aj (im fP (jb (pv 4) (ao (aw K) (aY (aa (dW (h_ K) (pv 6) fC (er ae)) (aa (pv 6) (aa (ak (fD K) (pv 6) (aK (aa (pv 7) ac))) (aa (pv 6) ac))))) (ak bq (pv 3) ae) (fun _ _=>rfl)) (wX hr))))))))))
   (aj (aJ (cM (v4 hr) ag gn (aa (pv 4) ac))))))),?_⟩
 obtain⟨pw,pr,as,r1,r2,r3⟩:=id hR
 have cA:=ok.n0;have a9:=r3.2.1;have hs:=ok.s;walk_at "r";refine⟨by decide,?_⟩
 have Z:∃ x:Nat,c % 2147483647=(x:Int)∧x<2147483647:=⟨(c % 2147483647).toNat,by omega,by omega⟩
 obtain⟨x0,bp,b0⟩:=Z
 rw[bp];walk_at "n";intro d hd
 have s1:=ah hd (.dT []);have e1:upd H d (.dT []) d=some (.dT []):=af
 generalize upd H d (.dT [])=H1 at s1 e1 ⊢;walk_at "n";refine⟨by decide,by omega,by omega,?_⟩
 have b3:∃ z:Nat,c % 7=(z:Int)∧z≤6:=⟨(c % 7).toNat,by omega,by omega⟩
 obtain⟨z7,bt,cB⟩:=b3
 rw[bt,vO]
 refine dy (fun i σ H'=>∃ (x:Nat) (kvs:List (List aG × V)) (o5 o6 o7:Option V),σ=[some (.int c),some (.ref p),some (.int (M:Int)),some (.int (x:Int)),some (.ref d),o5,o6,o7]∧x<2147483647∧rm H H'∧H' d=some (.dT kvs)∧kvs.length≤i∧∀ q∈kvs,Gx Y.s Y.rs.length q.1)
  ⟨x0,[],none,none,none,rfl,b0,s1,e1,zl _,by simp⟩ ?_ ?_
 ·rintro i σ H' hi ⟨x,kvs,o5,o6,o7,rfl,hx,sm,an,cl,a3⟩
  walk_at "r";refine⟨.inl ⟨by omega,by omega⟩,.inl ⟨by decide,by decide⟩,by decide,?_⟩
  have Z:∃ y:Nat,((x:Int) * x+48271 * x+(0+(i:Int))) % 2147483647=(y:Int)∧y<2147483647:=⟨_,(Int.toNat_of_nonneg (rD _ (by decide))).symm,by have:=lY ((x:Int) * x+48271 * x+(0+(i:Int))) (show (0:Int)<2147483647 by decide); omega⟩
  obtain⟨y,ey,hy⟩:=Z
  rw[ey];walk_at "n";refine⟨(y:Int),M,rfl,hM,fun W H2 n m o s2 cv U a5=>?_⟩
  have ab:=sm.trans s2;have a7:=s2 _ _ an;walk_at "n";refine⟨⟨by decide,by decide⟩,_,_,.inr (vr.of (ab _ _ r1)),rfl,?_⟩
  walk_at "r";refine⟨_,.inl (ud.of (ab _ _ r3.1)),?_⟩
  rw[ze,a9]
  have ad:∃ J:Nat,(y:Int) / 3 % (Y.rs.length:Int)=(J:Int)∧J<Y.rs.length:=by
   have a1:=rD ((y:Int) / 3) (show (Y.rs.length:Int)≠0 by omega)
   have a2:=lY ((y:Int) / 3) (show (0:Int)<(Y.rs.length:Int) by omega)
   exact⟨_,(Int.toNat_of_nonneg a1).symm,by omega⟩
  obtain⟨J,b1,ad⟩:=ad
  rw[b1];walk_at "r";refine⟨by omega,?_⟩
  have put:∀ (u:Addr) (ts:List Nat) (H3:Hp) (o5 o6 o7:Option V),rm H2 H3→ft H3 u ts→jh Y.s Y.rs.length ts→BF ts→x5 (.ref d) (.ref u) (.bl true) H3 fun H4=>∃ (x:Nat) (kvs:List (List aG × V)) (p5 p6 p7:Option V),[some (V.int c),some (.ref p),some (.int (M:Int)),some (.int (y:Int)),some (.ref d),o5,o6,o7]=[some (V.int c),some (.ref p),some (.int (M:Int)),some (.int (x:Int)),some (.ref d),p5,p6,p7]∧x<2147483647∧rm H H4∧H4 d=some (.dT kvs)∧kvs.length≤i+1∧∀ q∈kvs,Gx Y.s Y.rs.length q.1:=fun u ts H3 o5 o6 o7 s3 hu bg cb=>by
   have ek:(ts.map fun (n:Nat)=>(Sum.inl (n:Int):aG)).map kV=ts.map iN:=by rw[yt]; rfl
   refine⟨d,u,kvs,ts.map fun (n:Nat)=>(Sum.inl (n:Int):aG),rfl,rfl,s3 _ _ a7,by rw[ek]; exact hu,b5 (by omega),y,_,o5,o6,o7,rfl,hy,(ab.trans s3).upd hd _,af,?_,fun q hq=>?_⟩
   ·have:=Am kvs (ts.map fun (n:Nat)=>(Sum.inl (n:Int):aG)) (.bl true)
    omega
   ·rcases AV hq with e | ⟨q',ca,e⟩
    ·rw[e]; exact⟨ts,ek,bg,cb⟩
    ·rw[← e]; exact a3 q' ca
  walk_at "n";refine⟨_,_,.inr (vr.of (ab _ _ r1)),rfl,?_⟩
  walk_at "r";refine bd (fun c1=>?_) (fun c1=>?_)
  ·refine⟨_,_,.inr (vr.of U),rfl,by decide,fun t1 a4=>?_⟩
   exact put t1 [n,J] _ _ _ _ (ah a4 _) af (.h1 n J c1 ad) trivial
  ·have c2:Y.s=2:=hs.resolve_left c1
   refine⟨W,_,rfl,vr.of U,fun hw=>absurd hw (show ¬ (HT.sIx 3 0 none=0∧HT.sIx 3 3 (some 1)=3) by decide),fun _ t1 a4=>?_⟩
   rw[show de ([n,m,o].map iN) none (some 1)=[n].map iN from rfl];have s3:=ah a4 (.tup ([n].map iN));have e3:ft (upd H2 t1 (.tup ([n].map iN))) t1 [n]:=af
   generalize upd H2 t1 (.tup ([n].map iN))=H3 at s3 e3 ⊢;refine⟨by decide,fun t2 be=>?_⟩
   have s4:=ah be (.tup [V.int (J:Int)]);have e4:upd H3 t2 (.tup [V.int (J:Int)]) t2=some (.tup ([J].map iN)):=af
   generalize upd H3 t2 (.tup [V.int (J:Int)])=H4 at s4 e4 ⊢;have a6:=s3.trans s4;refine⟨_,_,vr.of (a6 _ _ U),vr.of e4,by simp,aX (by simp),fun hz=>absurd hz (by simp),fun _ t3 cc=>?_⟩
   have s5:=ah cc (.tup ([n,m,o].map iN++[J].map iN));have e5:ft (upd H4 t3 (.tup ([n,m,o].map iN++[J].map iN))) t3 [n,m,o,J]:=af
   generalize upd H4 t3 (.tup ([n,m,o].map iN++[J].map iN))=H5 at s5 e5 ⊢;refine⟨by decide,fun t4 b4=>⟨by decide,?_⟩⟩
   have s6:=ah b4 (.lst [.ref t1,.ref W,.ref t3,.ref W]);have e6:upd H5 t4 (.lst [.ref t1,.ref W,.ref t3,.ref W]) t4=some (.lst [.ref t1,.ref W,.ref t3,.ref W]):=af
   generalize upd H5 t4 (.lst [.ref t1,.ref W,.ref t3,.ref W])=H6 at s6 e6 ⊢;have O:=a6.trans (s5.trans s6);have cd:∃ z:Nat,(y:Int) % 4=(z:Int)∧z<4:=⟨y % 4,by omega,by omega⟩
   obtain⟨z,ez,hz⟩:=cd
   rw[ez];have b2:z=0∨z=1∨z=2∨z=3:=by omega
   rcases b2 with rfl | rfl | rfl | rfl
   ·exact⟨_,_,.inl (ud.of e6),av (j:=0) rfl,put t1 [n] _ _ _ _ O ((s4.trans (s5.trans s6)) _ _ e3) (.one n c2) trivial⟩
   ·exact⟨_,_,.inl (ud.of e6),av (j:=1) rfl,put W [n,m,o] _ _ _ _ O (O _ _ U) (.two n m o c2) a5⟩
   ·exact⟨_,_,.inl (ud.of e6),av (j:=2) rfl,put t3 [n,m,o,J] _ _ _ _ O (s6 _ _ e5) (.tie n m o J c2 ad) a5⟩
   ·exact⟨_,_,.inl (ud.of e6),av (j:=3) rfl,put W [n,m,o] _ _ _ _ O (O _ _ U) (.two n m o c2) a5⟩
 ·rintro σ H' ⟨x,kvs,o5,o6,o7,rfl,hx,sm,an,cl,a3⟩
  walk_at "n";rw[xL];refine⟨kvs,an,by omega,fun L bs hL hb=>?_⟩
  refine q L _ bs (sm.trans (ah hL _)) (sm.free hL) af (by rw[← G2 hb]; omega) (fun b cq=>?_)
  obtain⟨j,hj,rfl⟩:=Ho.mp cq
  have a8:j<kvs.length:=by rw[G2 hb]; exact hj
  have hp:=iK hb (zg a8) (zg hj);obtain⟨ts,e1,e2,e3⟩:=a3 _ (v5 a8)
  rw[e1]at hp
  exact⟨ts,(ah hL _) _ _ hp,e2,e3⟩
def EO(H:Hp)(rp:Addr)(n z i:Nat)(as:List Addr)(rows:List (List (Option Nat))):Prop:=H rp=some (.lst (as.map V.ref))∧as.length=i∧rows.length=i∧(∀ (j:Nat) b x,as[j]? = some b→rows[j]? = some x→H b=some (.lst (x.map dA))∧b≠rp)∧∀ x∈rows,x.length=n∧∀ k,some k∈x→k<z
theorem EO.push{H H':Hp}{S L:Addr}{n z i:Nat}{U:List Addr}{F:List (List (Option Nat))}{x:List (Option Nat)}(h:EO H S n z i U F)(sm:rm H H')(hL:H L=none)(hx:H' L=some (.lst (x.map dA)))(hn:x.length=n)(hk:∀ k,some k∈x→k<z) :
  EO (upd H' S (.lst (U.map V.ref++[.ref L]))) S n z (i+1) (U++[L]) (F++[x]):=by
 obtain⟨hl,h1,h2,h3,h4⟩:=h
 have nL:L≠S:=ve (aA hl hL)
 refine⟨by rw[af,zP]; rfl,by simp[h1],by simp[h2],fun j b y J O=>?_,iR h4 ⟨hn,hk⟩⟩
 rcases vA j i with z' | z'
 ·rw[vX (by omega)]at J O
  obtain⟨q1,q2⟩:=h3 j b y J O
  exact⟨by rw[au q2]; exact sm _ _ q1,q2⟩
 ·rw[vw (by omega)]at J O
  have Y:j - U.length=0:=by
   have:=(Hd.mp J).1
   simp at this; omega
  have ab:j - F.length=0:=by omega
  rw[Y]at J
  rw[ab]at O
  have W:L=b:=by simpa using J
  have Z:x=y:=by simpa using O
  subst W Z;exact⟨by rw[au nL]; exact hx,nL⟩
theorem EO.rule{H H':Hp}{S U Y:Addr}{n z:Nat}{O:List Addr}{F:List (List (Option Nat))}{ws:List Str}{sd:Int}(h:EO H S n z z O F)(sm:rm H H')(Z:H U=some (.lst (ws.map V.str)))(ht:H' Y=some (.tup [.int sd,.ref U,.ref S]))(W:sd=1∨sd=2)(hn:ws.length=n)(ab:n≤16)(z0:1≤z)(z1:z≤60)(J:∀ x∈ws,x.length≤30) :
  Ej H' Y ⟨sd,ws,F⟩∧gX ⟨sd,ws,F⟩:=by
 obtain⟨hl,h1,h2,h3,h4⟩:=h
 refine⟨⟨U,S,O,ht,sm _ _ Z,sm _ _ hl,by show O.length=F.length; omega,fun j b x e1 e2=>sm _ _ (h3 j b x e1 e2).1⟩,W,by show ws.length≤16; omega,by show 1≤F.length; omega,by show F.length≤60; omega,fun x hx=>?_,J⟩
 obtain⟨x1,x2⟩:=h4 x hx
 exact⟨by show x.length=ws.length; omega,fun k hk=>by have:=x2 k hk; show k<F.length; omega⟩
theorem zh(l:List Int)(c:Int)(n:Nat)(h:l.length=n)(J:0<n)(F:∀ x∈l,0<x∧x<100):∃ v,cJ (l.map V.int) (c % (n:Int))=some (.int v)∧0<v∧v<100:=by
 have a1:=rD c (show (n:Int)≠0 by omega)
 have a2:=lY c (show (0:Int)<n by omega)
 obtain⟨v,hv,_⟩:=yN (xs:=l) (i:=c % (n:Int)) a1 (by omega)
 exact⟨v,je a1 hv,F v (vx hv)⟩
theorem BL(F:Int){z:Nat}(hz:1≤z):∃ k:Nat,F % (z:Int)=(k:Int)∧k<z:=by
 have a1:=rD F (show (z:Int)≠0 by omega)
 have a2:=lY F (show (0:Int)<z by omega)
 exact⟨(F % (z:Int)).toNat,by omega,by omega⟩
theorem rn{x:List (Option Nat)}{z:Nat}{o:Option Nat}(h:∀ k,some k∈x→k<z)(J:∀ k,o=some k→k<z):∀ k,some k∈x++[o]→k<z:=fun k F=>by
 rcases Hj.mp F with g | g
 ·exact h k g
 ·exact J k (Hg.mp g).symm
noncomputable def qU:Sp:=fun vs H Q _=>∃ (cp wp:Addr) (cs:List Int) (ss:List Str) (m:Nat) (sd:Int),vs=[.ref cp,.int sd,.ref wp,.int (m:Int)]∧(sd=1∨sd=2)∧H cp=some (.lst (cs.map V.int))∧cs.length=6∧H wp=some (.lst (ss.map V.str))∧ss.length≤8∧(∀ x∈ss,x.length≤20)∧1≤m∧m≤60∧∀ (p:Addr) (H':Hp) (r:Rl),rm H H'→H p=none→Ej H' p r→gX r→r.s=sd→Q (.ref p) H'
theorem yH(D:Ab K mg "_law_rule" aM) (J:mg "range" = none) (a6:mg "len" = none) (U:mg "sorted" = none) (a5:mg "set" = none):aH P w K mg base 1 "_law_rule" ["_law_cells", "_law_sides", "_law_words_here", "_law_most"] qU:=by
 refine D.cal (k:=0) Aj (fun _ _ _ _ _ _ us hl=>by obtain⟨_,_,_,_,rfl⟩:=zu4 us hl;rfl) (fun vs H Q E h=>by obtain⟨_,_,_,_,_,_,rfl,_⟩:=h; rfl) (fun f du A outer s H vs Q E hr h=>?_)
 obtain⟨cp,wp,cs,ss,m,sd,rfl,dc,hc,dn,hS,dP,b0,m0,m1,q⟩:=h
 refine⟨_,(ai (ar 4 Aj.nd (aY ac))
   (ai (b6 wG rfl (cZ Dc J (aa (bi (aV K) a6 bK (aa (pv 2) ac)) ac)) (ba 5 Aj.nd) (ai (ar 6 Aj.nd (ak qV (ak bq (ao (aw K) (pv 0) ae (fun _ _=>rfl)) ae) (pv 5)))
   (ai (bC (PW.pt' (c7 (aB bb (pv 1) ae (aF _)) (dh (aB bb (ak jF (pv 6) ae) ae (aF _))))) (aj (bc (bA K qL vQ vT bo (pv 4) (aa (ao (aw K) (pv 2) (pv 5) (fun _ _=>rfl)) ac)))) bz)
   (ai (bC (PW.pt' (c7 (aB bb (pv 1) ae (aF _)) (dh (aB bb (ak jF (pv 6) ae) ae (aF _))))) (aj (bc (bA K qL vQ vT bo (pv 4) (aa (ak az ax (ao (aw K) (pv 2) (pv 5) (fun _ _=>rfl))) ac)))) bz)
   (aj (bC (PW.pt' (c7 (aB bb (pv 1) ae (aF _)) (dh (aB bb (ak jF (ak qV (pv 6) ae) ae) ae (aF _))))) (aj (bc (bA K qL vQ vT bo (pv 4) (aa (ak az ax (ao (aw K) (pv 2) (pv 5) (fun _ _=>rfl))) ac)))) bz))))))
   (ai (ar 4 Aj.nd (bi (lL w hr) U jc (aa (cM (sj K w hr) a5 rb (aa (pv 4) ac)) ac)))
   (ai (ar 7 Aj.nd (ak az ae (ak bq (ao (aw K) (pv 0) ae (fun _ _=>rfl)) (pv 3))))
   (ai (ar 8 Aj.nd (ao (aw K) (aY (aa ae (aa ae (aa ae (aa ae ac))))) (ak bq (ak cK (ao (aw K) (pv 0) ae (fun _ _=>rfl)) ae) ae) (fun _ _=>rfl)))
   (ai (ar 9 Aj.nd (aY ac))
   (ai (b6 wG rfl (cZ Dc J (aa (pv 7) ac)) (ba 5 Aj.nd) (ai (ar 10 Aj.nd (ak bq (ak cz (ao (aw K) (pv 0) (ak az ae (ak bq (pv 5) ae)) (fun _ _=>rfl)) (ak az ae (ak cz ae (pv 5)))) (ak jo ae ae)))
   (ai (ar 11 Aj.nd (aY ac))
   (ai (b6 wG rfl (ci K (pv 4)) (ba 12 Aj.nd) (ai (ar 13 Aj.nd (ak bq (pv 10) ae))
   (ai (ar 10 Aj.nd (ak cK (pv 10) ae))
   (aj (bC (aB bb (ak bq (pv 13) (pv 8)) ae (aF _)) (aj (bc (bA K qL vQ vT bo (pv 11) (aa rN ac)))) (aj (bc (bA K qL vQ vT bo (pv 11) (aa (ak bq (ak cK (pv 13) (pv 8)) (pv 7)) ac)))))))))
   (aj (bc (bA K qL vQ vT bo (pv 9) (aa (pv 11) ac))))))))
   (aj (aJ (aK (aa (pv 1) (aa (pv 4) (aa (pv 9) ac))))))))))))),?_⟩
 have ab:∀ j:Nat,j<6→∃ v:Int,(cs.map V.int)[j]? = some (.int v):=fun j hj=>⟨cs[j],by rw[zy,zg (by omega)]; rfl⟩
 obtain⟨c0,cA⟩:=ab 0 (by decide)
 obtain⟨Z,b1⟩:=ab 1 (by decide)
 walk_at "r";refine⟨by decide,fun tp al=>?_⟩
 have s1:=ah al (.lst []);have e1:upd H tp (.lst []) tp=some (.lst (([]:List Str).map V.str)):=af
 generalize upd H tp (.lst [])=H1 at s1 e1 ⊢;walk_at "n";refine⟨_,.inl (ud.of (s1 _ _ hS)),?_⟩
 rw[ze];refine⟨by omega,by omega,?_⟩
 rw[vO]
 refine dy (fun i σ H'=>∃ (ts:List Str) (o4 o5:Option V),σ=[some (.ref cp),some (.int sd),some (.ref wp),some (.int (m:Int)),some (.ref tp),o4,o5,none,none,none,none,none,none,none]∧rm H H'∧H' tp=some (.lst (ts.map V.str))∧ts.length≤2 * i∧∀ x∈ts,x.length≤30)
  ⟨[],none,none,rfl,s1,e1,zl _,by simp⟩ ?_ ?_
 ·rintro i σ H' hi ⟨ts,o4,o5,rfl,sm,hl,W,F⟩
  walk_at "r";refine⟨_,_,.inl (ud.of (sm _ _ hc)),av (j:=0) cA,?_⟩
  walk_at "r";refine⟨by decide,by omega,?_⟩
  generalize c0 % 65536 / 2 ^ (0+(i:Int)).toNat=bt
  have dl:=b0 _ (v5 hi);refine fY (fun σ' H'=>∃ (ts:List Str),σ'=[some (.ref cp),some (.int sd),some (.ref wp),some (.int (m:Int)),some (.ref tp),some (.int (0+(i:Int))),some (.int bt),none,none,none,none,none,none,none]∧rm H H'∧H' tp=some (.lst (ts.map V.str))∧ts.length≤2 * i+1∧(sd=2→ts.length≤2 * i)∧∀ x∈ts,x.length≤30) (fun k hk=>?_) ?_
  ·walk_at "r"
   refine bd (fun Z=>bd (fun c=>?_) (fun c=>?_)) (fun Z=>?_)
   ·refine⟨⟨_,ud.of hl⟩,_,_,.inl (ud.of (sm _ _ hS)),by rw[zaE]; exact av (v:=.str ss[i]) (by rw[zy,zg hi]; rfl),?_⟩
    refine⟨_,hl,by rw[ze]; exact b5 (by omega),?_⟩
    exact hk _ _ ⟨ts++[ss[i]],rfl,sm.upd al _,by rw[af,zP]; rfl,by rw[zr,Gv]; omega,fun h=>by omega,iR F (by omega)⟩
   ·exact hk _ _ ⟨ts,rfl,sm,hl,by omega,fun _=>W,F⟩
   ·exact hk _ _ ⟨ts,rfl,sm,hl,by omega,fun _=>W,F⟩
  rintro σ' H' ⟨ts,rfl,sm,hl,W,be,F⟩
  refine fY (fun σ' H'=>∃ (ts:List Str),σ'=[some (.ref cp),some (.int sd),some (.ref wp),some (.int (m:Int)),some (.ref tp),some (.int (0+(i:Int))),some (.int bt),none,none,none,none,none,none,none]∧rm H H'∧H' tp=some (.lst (ts.map V.str))∧ts.length≤2 * i+1∧∀ x∈ts,x.length≤30) (fun k hk=>?_) ?_
  ·walk_at "r"
   refine bd (fun Z=>bd (fun c=>?_) (fun c=>?_)) (fun Z=>?_)
   ·have:=be Z
    refine⟨⟨_,ud.of hl⟩,_,_,.inl (ud.of (sm _ _ hS)),by rw[zaE]; exact av (v:=.str ss[i]) (by rw[zy,zg hi]; rfl),?_⟩
    walk_at "r";have hz:("1." : Str).length=2:=by decide +kernel
    refine⟨by rw[hz]; exact aX (by omega),_,hl,by rw[ze]; exact b5 (by omega),?_⟩
    exact hk _ _ ⟨ts++[("1." : Str)++ss[i]],rfl,sm.upd al _,by rw[af,zP]; rfl,by rw[zr,Gv]; omega,iR F (by rw[Str.length_append,hz]; omega)⟩
   ·exact hk _ _ ⟨ts,rfl,sm,hl,by omega,F⟩
   ·exact hk _ _ ⟨ts,rfl,sm,hl,by omega,F⟩
  rintro σ' H' ⟨ts,rfl,sm,hl,W,F⟩
  walk_at "n";refine bd (fun Z=>⟨by decide,bd (fun c=>?_) (fun c=>?_)⟩) (fun Z=>?_)
  ·refine⟨⟨_,ud.of hl⟩,_,_,.inl (ud.of (sm _ _ hS)),by rw[zaE]; exact av (v:=.str ss[i]) (by rw[zy,zg hi]; rfl),?_⟩
   walk_at "r";have hz:("2." : Str).length=2:=by decide +kernel
   refine⟨by rw[hz]; exact aX (by omega),_,hl,by rw[ze]; exact b5 (by omega),?_⟩
   exact⟨ts++[("2." : Str)++ss[i]],_,_,rfl,sm.upd al _,by rw[af,zP]; rfl,by rw[zr,Gv]; omega,iR F (by rw[Str.length_append,hz]; omega)⟩
  ·exact⟨ts,_,_,rfl,sm,hl,by omega,F⟩
  ·exact⟨ts,_,_,rfl,sm,hl,by omega,F⟩
 rintro σ H2 ⟨cq,o4,o5,rfl,s2,e2,W,F⟩
 walk_at "n";refine⟨tp,cq,rfl,ud.of e2,by omega,fun sl ds cl dt a4 da=>?_⟩
 have s3:=ah cl (fM w sl ds);have e3:upd H2 sl (fM w sl ds) sl=some (fM w sl ds):=af
 generalize upd H2 sl (fM w sl ds)=H3 at s3 e3 ⊢;refine⟨sl,ds,rfl,e3,by omega,fun xp ts c9 O _=>?_⟩
 have c2:ts.length≤16:=by rw[O.length_eq]; omega
 have ca:∀ x∈ts,x.length≤30:=fun x hx=>F x ((a4 x).mp (O.mem_iff.mp hx))
 have s4:=ah c9 (.lst (ts.map V.str));have e4:upd H3 xp (.lst (ts.map V.str)) xp=some (.lst (ts.map V.str)):=af
 generalize upd H3 xp (.lst (ts.map V.str))=H4 at s4 e4 ⊢;have a7:=s2.trans (s3.trans s4);clear O a4 da F W e3 e2;walk_at "n";refine⟨_,_,.inl (ud.of (a7 _ _ hc)),av (j:=1) b1,?_⟩
 walk_at "r"
 have cd:∃ z:Nat,1+Z % (m:Int)=(z:Int)∧1≤z∧z≤60:=by
  have a1:=rD Z (show (m:Int)≠0 by omega)
  have a2:=lY Z (show (0:Int)<m by omega)
  exact⟨(1+Z % (m:Int)).toNat,by omega,by omega,by omega⟩
 obtain⟨z,ez,z0,z1⟩:=cd
 refine⟨by omega,?_⟩
 rw[ez];walk_at "n";refine⟨by decide,fun lp cb=>?_⟩
 have s5:=ah cb (.lst [V.int 2,V.int 3,V.int 5,V.int 11]);have e5:upd H4 lp (.lst [V.int 2,V.int 3,V.int 5,V.int 11]) lp=some (.lst [V.int 2,V.int 3,V.int 5,V.int 11]):=af
 generalize upd H4 lp (.lst [V.int 2,V.int 3,V.int 5,V.int 11])=H5 at s5 e5 ⊢;refine⟨_,_,.inl (ud.of (s5 _ _ (a7 _ _ hc))),av (j:=1) b1,?_⟩
 walk_at "r";obtain⟨sh,c5,dm,dV⟩:=zh [2,3,5,11] (Z / 64) 4 rfl (by decide) (by decide)
 refine⟨⟨by decide,by decide⟩,by decide,_,_,.inl (ud.of e5),c5,?_⟩
 have a9:=a7.trans s5;have a8:=s5 _ _ e4;walk_at "n";refine⟨by decide,fun rp bp=>?_⟩
 have s6:=ah bp (.lst []);have e6:upd H5 rp (.lst []) rp=some (.lst (([]:List Addr).map V.ref)):=af
 generalize upd H5 rp (.lst [])=H6 at s6 e6 ⊢;walk_at "n";refine⟨by omega,by omega,?_⟩
 rw[vO]
 refine dy (fun i σ H'=>∃ (as:List Addr) (S:List (List (Option Nat))) (o1 o2 o3 o4 o5 o6:Option V),σ=[some (.ref cp),some (.int sd),some (.ref wp),some (.int (m:Int)),some (.ref xp),o1,o2,some (.int (z:Int)),some (.int sh),some (.ref rp),o3,o4,o5,o6]∧rm H5 H'∧EO H' rp ts.length z i as S)
  ⟨[],[],_,_,none,none,none,none,rfl,s6,⟨e6,rfl,rfl,by simp,by simp⟩⟩ ?_ ?_
 ·rintro i σ H' hi ⟨as,S,o1,o2,o3,o4,o5,o6,rfl,sm,Y⟩
  have cB:∃ j:Nat,2+(0+(i:Int)) % 4=(j:Int)∧j<6:=⟨(2+(0+(i:Int)) % 4).toNat,by omega,by omega⟩
  obtain⟨j0,c4,b4⟩:=cB
  obtain⟨cv,c3⟩:=ab j0 b4
  walk_at "r";rw[c4];refine⟨by decide,_,_,.inl (ud.of (sm _ _ (a9 _ _ hc))),av c3,?_⟩
  walk_at "r";refine⟨.inl ⟨by decide,by decide⟩,.inr ⟨by omega,by omega⟩,⟨by decide,by decide,by decide⟩,by decide,?_⟩
  generalize cv * (48271+10 * (0+(i:Int))) % 10 ^ Int.toNat 36=CS
  walk_at "n";refine⟨by decide,fun L' a3=>?_⟩
  have s7:=ah a3 (.lst []);have e7:upd H' L' (.lst []) L'=some (.lst (([]:List (Option Nat)).map dA)):=af
  generalize upd H' L' (.lst [])=H7 at s7 e7 ⊢;walk_at "n";have cc:=(sm.trans s7) _ _ a8;refine⟨⟨_,ud.of cc⟩,?_⟩
  refine cw (xs:=ts.map V.str) (fun j σ H5=>∃ (x:List (Option Nat)) (r1:Int) (o5 o6:Option V),σ=[some (.ref cp),some (.int sd),some (.ref wp),some (.int (m:Int)),some (.ref xp),some (.int (0+(i:Int))),o2,some (.int (z:Int)),some (.int sh),some (.ref rp),some (.int r1),some (.ref L'),o5,o6]∧rm H' H5∧H5 L'=some (.lst (x.map dA))∧x.length=j∧∀ k,some k∈x→k<z)
   ⟨[],CS,_,_,rfl,s7,e7,rfl,by simp⟩ (fun j σ H5 _ hh=>by obtain⟨_,_,_,_,_,z,_⟩:=hh; exact ud.of (z _ _ (sm _ _ a8))) ?_ ?_
  ·rintro j v σ H5 hv ⟨x,r1,o5,o6,rfl,bg,hx,ad,an⟩
   have hj:j<ts.length:=by have:=(Hd.mp hv).1; simpa using this
   walk_at "r";refine⟨by decide,?_⟩
   walk_at "n";refine⟨⟨by decide,by decide⟩,?_⟩
   walk_at "n";refine⟨by omega,bd (fun _=>?_) (fun _=>?_)⟩
   ·refine⟨⟨_,ud.of hx⟩,_,hx,by rw[ze]; exact b5 (by omega),?_⟩
    exact⟨x++[none],_,_,_,rfl,bg.upd a3 _,by rw[af,zP]; rfl,kq ad,rn an fun k e=>by cases e⟩
   ·obtain⟨k,ek,hk⟩:=BL (r1 % 1000 / sh) z0
    refine⟨⟨_,ud.of hx⟩,⟨by omega,by omega⟩,by omega,?_⟩
    rw[ek];refine⟨_,hx,by rw[ze]; exact b5 (by omega),?_⟩
    exact⟨x++[some k],_,_,_,rfl,bg.upd a3 _,by rw[af,zP]; rfl,kq ad,rn an fun k' e=>by cases e; exact hk⟩
  ·rintro σ H8 ⟨x,r1,o5,o6,rfl,ag,hx,ad,an⟩
   rw[ze]at ad
   walk_at "n";refine⟨⟨_,ud.of (ag _ _ Y.1)⟩,_,ag _ _ Y.1,by rw[ze,Y.2.1]; exact b5 (by omega),?_⟩
   exact⟨_,_,_,_,_,_,_,_,rfl,(sm.trans ag).upd bp _,Y.push ag a3 hx ad an⟩
 rintro σ H' ⟨as,S,o1,o2,o3,o4,o5,o6,rfl,sm,Y⟩
 walk_at "n";refine⟨by decide,fun tq b2=>?_⟩
 have b3:=ah b2 (.tup [.int sd,.ref xp,.ref rp]);obtain⟨hR,ok⟩:=Y.rule b3 (sm _ _ a8) af dc rfl c2 z0 z1 ca
 exact q tq _ ⟨sd,ts,S⟩ ((a9.trans sm).trans b3) ((a9.trans sm).free b2) hR ok rfl
end
theorem uo(ks:List aG):∀ (i:Nat) (k:aG) (v:V),cf (gB ks i) k=some v→∃ n:Nat,v=iN n∧n<i
 | 0,_,_,h=>by cases h
 | i+1,k,v,h=>by
  rw[gT,kH]at h
  split at h
  ·exact⟨i,(Option.some.inj h).symm,by omega⟩
  ·obtain⟨n,h1,h2⟩:=uo ks i k v h
   exact⟨n,h1,by omega⟩
section
variable{kv:List (aG × V)}{N:Nat}
theorem wK(S:∀ k,gA kv k→∃ n,bT kv k=iN n∧n<N){l:Nat}{ws:List Str}(Z:fu ws)(Y:gD ws)(O:∀ n∈dM ws,gA kv (.inr n)):Ey N (ip kv l ws):=by
 unfold ip;unfold dM at O
 cases Z with
 | dd u x=>
  obtain⟨n1,J,F⟩:=S _ (O x (by rw[Hf (show ([("do" : Str),u,x]:List Str).headD "" = "do" from rfl)]; simp))
  rw[Hf (show ([("do" : Str),u,x]:List Str).headD "" = "do" from rfl)];show Ey N [.str "do", iN l,bT kv (.inr x),.str u]
  rw[J]; exact .dd _ _ _ F (Y.len u (by simp))
 | op x=>
  obtain⟨n1,J,F⟩:=S _ (O x (by rw[He (show ¬ ([("open" : Str),x]:List Str).headD "" = "do" from (by decide +kernel:¬ ("open" : Str) = "do"))]; simp))
  rw[He (show ¬ ([("open" : Str),x]:List Str).headD "" = "do" from (by decide +kernel:¬ ("open" : Str) = "do"))]
  show Ey N [.str "open", iN l,bT kv (.inr x)]
  rw[J]; exact .op _ _ F
 | dr x=>
  obtain⟨n1,J,F⟩:=S _ (O x (by rw[He (show ¬ ([("drop" : Str),x]:List Str).headD "" = "do" from (by decide +kernel:¬ ("drop" : Str) = "do"))]; simp))
  rw[He (show ¬ ([("drop" : Str),x]:List Str).headD "" = "do" from (by decide +kernel:¬ ("drop" : Str) = "do"))]
  show Ey N [.str "drop", iN l,bT kv (.inr x)]
  rw[J]; exact .dr _ _ F
 | cp x y=>
  obtain⟨n1,J,F⟩:=S _ (O x (by rw[He (show ¬ ([("copy" : Str),x,y]:List Str).headD "" = "do" from (by decide +kernel:¬ ("copy" : Str) = "do"))]; simp))
  obtain⟨n2,W,U⟩:=S _ (O y (by rw[He (show ¬ ([("copy" : Str),x,y]:List Str).headD "" = "do" from (by decide +kernel:¬ ("copy" : Str) = "do"))]; simp))
  rw[He (show ¬ ([("copy" : Str),x,y]:List Str).headD "" = "do" from (by decide +kernel:¬ ("copy" : Str) = "do"))]
  show Ey N [.str "copy", iN l,bT kv (.inr x),bT kv (.inr y)]
  rw[J,W]; exact .cp _ _ _ F U
 | ti x y=>
  obtain⟨n1,J,F⟩:=S _ (O x (by rw[He (show ¬ ([("tie" : Str),x,y]:List Str).headD "" = "do" from (by decide +kernel:¬ ("tie" : Str) = "do"))]; simp))
  obtain⟨n2,W,U⟩:=S _ (O y (by rw[He (show ¬ ([("tie" : Str),x,y]:List Str).headD "" = "do" from (by decide +kernel:¬ ("tie" : Str) = "do"))]; simp))
  rw[He (show ¬ ([("tie" : Str),x,y]:List Str).headD "" = "do" from (by decide +kernel:¬ ("tie" : Str) = "do"))]
  show Ey N [.str "tie", iN l,bT kv (.inr x),bT kv (.inr y)]
  rw[J,W]; exact .ti _ _ _ F U
theorem qt(W:∀ k,gA kv k→∃ n,bT kv k=iN n∧n<N):∀ (d:Nat) (t:Bool) (a l:Nat) (T:List ap),cU d T→dk d T→dX kv d l T→∀ r∈bI kv d t a l T,Ey N r
 | 0,_,_,_,_,h,_,_=>h.elim
 | d+1,t,a,l,T,hf,O,hkl=>by
  have ih:=qt W d
  have st:∀ (s:ap) (a l:Nat),iU (cU d) s→k7 (dk d) s→iw kv (dX kv d) (aq d) l s→∀ r∈iz kv (bI kv d) (aq d) t a l s,Ey N r:=fun s a l S O J r F=>by
   cases s with
   | plain ws=>rw[Hg.mp F]; exact wK W S.1 O J.2
   | lend x y b=>
    obtain⟨k1,k2,k3,k4⟩:=J
    obtain⟨n1,e1,f1⟩:=W _ k1
    obtain⟨n2,e2,f2⟩:=W _ k2
    obtain⟨n3,Z,Y⟩:=W _ k3
    rcases Hj.mp F with F | F
    ·rcases Hj.mp F with F | F
     ·simp only[zK,qm,or_false]at F
      rcases F with rfl | rfl | rfl
      ·rw[Z,e1]; exact .cp _ _ _ Y f1
      ·rw[Z]; exact .dd _ _ _ Y (by decide)
      ·rw[e2,Z]; exact .cp _ _ _ f2 Y
     ·exact ih t _ _ b S.2.2 O.2.2 k4 r F
    ·simp only[zK,qm,or_false]at F
     rcases F with rfl | rfl | rfl
     ·rw[Z]; exact .dd _ _ _ Y (by decide)
     ·rw[e2]; exact .dr _ _ f2
     ·rw[Z]; exact .dr _ _ Y
   | ite n b c=>
    rcases Hj.mp F with F | F
    ·rcases Hj.mp F with F | F
     ·rcases Hj.mp F with F | F
      ·rw[Hg.mp F]; exact .ts _ _ _
      ·exact ih t _ _ b S.2.1 O.2.1 J.1 r F
     ·rw[Hg.mp F]; exact .jm _ _
    ·exact ih t _ _ c S.2.2 O.2.2 J.2 r F
   | whl n b=>
    have lp:∀ a,r∈fL (bI kv d) (aq d) a l n b→Ey N r:=fun a F=>by
     rcases Hj.mp F with F | F
     ·rcases Hj.mp F with F | F
      ·rw[Hg.mp F]; exact .ts _ _ _
      ·exact ih false _ _ b S.2 O.2 J r F
     ·rw[Hg.mp F]; exact .jm _ _
    have U:r∈dJ (bI kv d) (aq d) t a l n b:=F
    unfold dJ at U;split at U
    ·rcases Hj.mp U with F | F
     ·rcases Hj.mp F with F | F
      ·rw[Hg.mp F]; exact .ts _ _ _
      ·exact ih true _ _ b S.2 O.2 J r F
     ·exact lp _ F
    ·exact lp _ U
  have go:∀ (T:List ap) (a l:Nat),(∀ s∈T,iU (cU d) s)→(∀ s∈T,k7 (dk d) s)→(∀ z∈eD (bx (aq d)) l T,iw kv (dX kv d) (aq d) z.1 z.2)→∀ r∈c8 (iz kv (bI kv d) (aq d) t) (bx (aq d)) a l T,Ey N r:=fun T=>by
   induction T with
   | nil=>intro a l _ _ _ r F; cases F
   | cons s T ihT=>
    intro a l hf O hz r F
    rcases Hj.mp F with F | F
    ·exact st s a l (hf s zI) (O s zI) (hz _ zI) r F
    ·exact ihT _ _ (fun s S=>hf s (zO _ S)) (fun s S=>O s (zO _ S)) (fun z h=>hz z (zO _ h)) r F
  exact go T a l hf O hkl
end
theorem Au{NM:List Str}{d:Nat}{t:Bool}{T:List ap}(hf:cU d T)(S:dk d T)(J:sX (fun n=>n∈NM) d T):∀ r∈iV NM d t T,Ey (NM.length+aq d T) r:=by
 have hl:(ck NM (dI d T)).length≤NM.length+aq d T:=by
  unfold ck fS;rw[zr,ze,ze];have:=List.length_filter_le (fun i=>gR ((dI d T).getD i "")) (List.range (dI d T).length)
  rw[G6,ik]at this
  rw[ik];omega
 have O:∀ k,gA (i7 (ck NM (dI d T))) k→∃ n,bT (i7 (ck NM (dI d T))) k=iN n∧n<NM.length+aq d T:=fun k h=>by
  obtain⟨n,U,W⟩:=uo _ _ k _ h
  exact⟨n,U,by omega⟩
 intro r F
 rcases Hj.mp F with F | F
 ·exact qt O d t 0 0 T hf S (mH d 0 T (fun i s e=>by rw[kC]; exact e) J) r F
 ·rw[Hg.mp F]; exact .en _
theorem Ey.flat{N:Nat}{r:bD}(h:Ey N r):∀ v∈r,bM v=true:=fun v hv=>by
 cases h <;> simp only[zK,qm,or_false]at hv
 ·rcases hv with rfl | rfl | rfl <;> rfl
 ·rcases hv with rfl | rfl | rfl | rfl <;> rfl
 ·rcases hv with rfl | rfl | rfl | rfl <;> rfl
 ·rcases hv with rfl | rfl | rfl <;> rfl
 ·rcases hv with rfl | rfl | rfl | rfl <;> rfl
 ·rcases hv with rfl | rfl | rfl | rfl <;> rfl
 ·rcases hv with rfl | rfl | rfl <;> rfl
 ·rcases hv with rfl | rfl <;> rfl
theorem Bc{ws:List Str}(F:∀ x∈ws,dR x):∀ x∈ws++(["open", "lend", "back", "end"]:List Str),dR x:=fun x hx=>by
 rcases Hj.mp hx with hx | hx
 ·exact F x hx
 ·simp only[zK,qm,or_false]at hx
  rcases hx with rfl | rfl | rfl | rfl <;> exact⟨by decide,by unfold eQ; decide⟩
theorem CG{α : Type}(ns:List α)(p q:Nat):(iC ns (some (p:Int)) (some (q:Int))).length≤q - p:=by
 unfold iC;rw[vW,GO];have h1:HT.sIx ns.length 0 (some (p:Int))=min p ns.length:=HT.sIx_nat _ _ p
 have h2:HT.sIx ns.length ns.length (some (q:Int))=min q ns.length:=HT.sIx_nat _ _ q
 rw[h1,h2];omega
section
variable{P:Program}{w:World}{K:W.Frag}{mg:Str→Option Value}{base:Heap}
theorem w4{j k:Nat}{x:Str}{ps:List Str}{sp:Sp}(c:aH P w K mg base j x ps sp)(h:j≤k):aH P w K mg base k x ps sp:=by
 obtain⟨f,fd,F,r⟩:=c.ex
 exact⟨f,fd,F.mono h,r⟩
theorem BO{k:Nat}{x:Str}{ps:List Str}{sp J:Sp}(c:aH P w K mg base k x ps sp)(h:∀ vs H Q E,J vs H Q E→sp vs H Q E):aH P w K mg base k x ps J:=by
 obtain⟨f,fd,F,r⟩:=c.ex
 exact⟨f,fd,F.imp h,r⟩
def FK(H:Hp)(p:Addr)(NM:List Str):Prop:=∃ (T:List ap) (S:Addr→Prop),AM S 10 H p T∧jq 10 T∧(cj 10 T).length≤1000∧((cj 10 T).flatMap bW).length≤5000∧NM=fq ((cj 10 T).flatMap bW)
theorem FK.mono{H H':Hp}{p:Addr}{NM:List Str}(h:FK H p NM)(s:rm H H'):FK H' p NM:=by
 obtain⟨T,S,h1,h2⟩:=h
 exact⟨T,S,h1.mono s,h2⟩
theorem AJ{k:Nat}(c:aH P w K mg base k "names_of" ["program"] nK):aH P w K mg base k "names_of" ["program"] (Dj FK):=BO c fun vs H Q E h=>by
 obtain⟨p,NM,rfl,⟨T,S,h1,h2,J,F,rfl⟩,q⟩:=h
 exact⟨p,T,S,rfl,h1,h2,J,F,q⟩
theorem AD{f:List ap→List ap}{g:List ap→Nat}(h:∀ b,(f b).length≤g b):∀ s:ap,(eZ f s).length≤bx g s
 | .plain _=>by simp[eZ,dj,bx]
 | .lend _ _ b=>by have:=h b; simp[eZ,dj,bx]; omega
 | .ite _ b c=>by have:=h b; have:=h c; simp[eZ,dj,bx]; omega
 | .whl _ b=>by have:=h b; simp[eZ,dj,bx]; omega
theorem mC:∀ (d:Nat) (T:List ap),(cj d T).length≤aq d T
 | 0,_=>zl _
 | d+1,T=>by
  show (T.flatMap (eZ (cj d))).length≤(T.map (bx (aq d))).sum
  induction T with
  | nil=>exact zl _
  | cons s T ih=>
   have:=AD (mC d) s
   rw[zaU,zr,zW,lX]; omega
theorem Ez{g:List ap→Prop}:∀ {s:ap},fo g s→(bW s).length≤2
 | .plain ws,h=>by cases (show e_ ws from h) <;> simp[bW] <;> split <;> simp
 | .lend _ _ _,_=>by simp[bW]
 | .ite _ _ _,_=>by simp[bW]
 | .whl _ _,_=>by simp[bW]
theorem xv{d:Nat}{T:List ap}(h:jq d T):((cj d T).flatMap bW).length≤2 * aq d T:=by
 have h1:=mC d T;have h2:=rA d h
 have go:∀ X:List ap,(∀ s∈X,∃ g:List ap→Prop,fo g s)→(X.flatMap bW).length≤2 * X.length:=fun X=>by
  induction X with
  | nil=>intro _; exact zl _
  | cons s X ih=>
   intro hx
   obtain⟨g,hg⟩:=hx s zI
   have:=Ez hg
   have:=ih fun u F=>hx u (zO _ F)
   rw[zaU,zr,zx]; omega
 have:=go _ h2
 omega
noncomputable def nG(K:W.Frag):Sp:=fun vs H Q _=>∃ (a:Addr) (ns:List Int),vs=[.ref a,.int 8,.int 3,.int 4]∧ud K H a (ns.map V.int)∧∀ (cq:Addr) (H':Hp) (R:List bD) (N:Nat),rm H H'→H cq=none→C3 H' cq R→(∀ r∈R,Ey N r)→N≤9000→R.length≤40000→Q (.ref cq) H'
theorem Ak(D:Ab K mg "_law_code" bm) (F:aH P w K mg base 1 "_law_cell_at" ["_law_script", "_law_k"] (oU K)) (J:aH P w K mg base 1 "_law_words" ["_law_cell", "_law_many"] ms) (U:aH P w K mg base 3 "_law_program" ["_law_cells", "_law_names", "_law_words_here", "_law_lends", "_law_deep"] nn) (W:aH P w K mg base 35 "code_of" ["program"] (xf FK 10)) (O:aH P w K mg base 35 "turned_code" ["program"] (oW FK 10)):aH P w K mg base 36 "_law_code" ["_law_script", "_law_start", "_law_lends", "_law_deep"] (nG K):=by
 refine D.cal (k:=35) DV (fun _ _ _ _ _ _ us hl=>by obtain⟨_,_,_,_,rfl⟩:=zu4 us hl;rfl) (fun vs H Q E h=>by obtain⟨_,_,rfl,_⟩:=h; rfl) (fun f cl A outer s H vs Q E hr h=>?_)
 obtain⟨a,ns,rfl,hS,q⟩:=h
 refine⟨_,(ai (ar 4 DV.nd (ay F hr (aa (pv 0) (aa ae ac))))
   (ai (ar 5 DV.nd (ay F hr (aa (pv 0) (aa ae ac))))
   (ai (ar 6 DV.nd (ay J hr (aa (ak cK (pv 4) ae) (aa (ak az ae (ak bq (pv 4) ae)) ac))))
   (ai (ar 7 DV.nd (ak az (ay J hr (aa (ak cK (pv 5) ae) (aa ae ac))) (aY (aa ax (aa ax (aa ax (aa ax ac)))))))
   (ai (ar 8 DV.nd (ay U hr (aa (dW (kB K) (pv 0) (er (pv 1)) (er (ak az (pv 1) ae))) (aa (pv 6) (aa (pv 7) (aa (pv 2) (aa (pv 3) ac)))))))
   (ai (bC (aB bb (ak bq (pv 5) ae) ae (aF _)) (aj (aJ (ay O hr (aa (pv 8) ac)))) bz)
   (aj (aJ (ay W hr (aa (pv 8) ac)))))))))),?_⟩
 walk_at "r";refine⟨a,ns,0,rfl,hS,by decide,?_⟩
 generalize ns.getD (Int.toNat 0) 0=c0
 walk_at "n";refine⟨a,ns,1,rfl,hS,by decide,?_⟩
 generalize ns.getD (Int.toNat 1) 0=c1
 walk_at "n";refine⟨⟨by decide,by decide⟩,by decide,?_⟩
 have b2:∃ z:Nat,2+c0 % 3=(z:Int)∧2≤z∧z≤4:=⟨(2+c0 % 3).toNat,by omega,by omega,by omega⟩
 obtain⟨mz,b0,GE,LQ⟩:=b2
 rw[b0];refine⟨c0 / 8,mz,rfl,by omega,fun np nm H1 s1 cd e1 b4 b1=>?_⟩
 walk_at "n";refine⟨⟨by decide,by decide⟩,?_⟩
 refine⟨c1 / 2,2,rfl,by decide,fun wp ws H2 s2 ca e2 a4 a9=>?_⟩
 walk_at "r";refine⟨by decide,fun x4 bp=>?_⟩
 have s3:=ah bp (.lst [V.str "open", .str "lend", .str "back", .str "end"]);have e3:upd H2 x4 (.lst [V.str "open", .str "lend", .str "back", .str "end"]) x4=some (.lst ((["open", "lend", "back", "end"]:List Str).map V.str)):=af
 generalize upd H2 x4 (.lst [V.str "open", .str "lend", .str "back", .str "end"])=H3 at s3 e3 ⊢;refine⟨_,_,s3 _ _ e2,e3,by rw[ze,ze,a4]; exact aX (by simp),fun wq a7=>?_⟩
 have s4:=ah a7 (.lst (ws.map V.str++(["open", "lend", "back", "end"]:List Str).map V.str));have e4:upd H3 wq (.lst (ws.map V.str++(["open", "lend", "back", "end"]:List Str).map V.str)) wq=some (.lst ((ws++(["open", "lend", "back", "end"]:List Str)).map V.str)):=by rw[af,zP]
 generalize upd H3 wq (.lst (ws.map V.str++(["open", "lend", "back", "end"]:List Str).map V.str))=H4 at s4 e4 ⊢;have Z:∀ x∈ws++(["open", "lend", "back", "end"]:List Str),dR x:=Bc a9
 have a3:(ws++(["open", "lend", "back", "end"]:List Str)).length=6:=by rw[zr,a4]; rfl
 generalize ws++(["open", "lend", "back", "end"]:List Str)=be at e4 Z a3;have ag:=s1.trans ((s2.trans s3).trans s4);walk_at "n";refine⟨_,ag.seq hS,fun cp bt=>?_⟩
 rw[Co];have a6:(iC ns (some 8) (some (8+20))).length≤20:=CG ns 8 28
 have s5:=ah bt (.lst ((iC ns (some 8) (some (8+20))).map V.int));have e5:upd H4 cp (.lst ((iC ns (some 8) (some (8+20))).map V.int)) cp=some (.lst ((iC ns (some 8) (some (8+20))).map V.int)):=af
 generalize iC ns (some 8) (some (8+20))=cs at a6 s5 e5 ⊢;generalize upd H4 cp (.lst (cs.map V.int))=H5 at s5 e5 ⊢;refine⟨cp,np,wq,cs,nm,be,rfl,e5,s5 _ _ ((s2.trans (s3.trans s4)) _ _ e1),s5 _ _ e4,a6,by omega,by omega,by omega,by omega,b1,Z,fun Y H6 S T s6 bg hP an hok b3=>?_⟩
 have ad:=qC an;have cb:=mC 10 T;have cv:=xv ad
 have a5:(fq ((cj 10 T).flatMap bW)).length≤1000:=by
  have:=iu ((cj 10 T).flatMap bW) []
  rw[qR]at this
  unfold fq; omega
 have ab:kQ FK H6 Y 10 T (fq ((cj 10 T).flatMap bW)):=
  ⟨⟨_,hP⟩,hok,⟨_,_,hP,ad,by omega,by omega,rfl⟩,lm 10 hP hok,yV 10 _ ad (fun n hn=>BZ hn),by omega,a5,by decide⟩
 have as:=ag.trans (s5.trans s6)
 have al:∀ (t:Bool) (cq:Addr) (H7:Hp),rm H6 H7→H6 cq=none→C3 H7 cq (iV (fq ((cj 10 T).flatMap bW)) 10 t T)→Q (.ref cq) H7:=fun t cq H7 s7 a8 hC=>by
  refine q cq H7 _ ((fq ((cj 10 T).flatMap bW)).length+aq 10 T) (as.trans s7) (as.free a8) hC (Au an hok ab.nm) (by omega) ?_
  have:=db (kv:=i7 (ck (fq ((cj 10 T).flatMap bW)) (dI 10 T))) (d:=10) (a:=0) (l:=0) (t:=t) (T:=T) (by omega) (by decide)
  unfold iV;rw[zr,Gv];omega
 walk_at "n";refine⟨by decide,bd (fun cc=>?_) (fun cc=>?_)⟩
 ·exact⟨Y,T,_,rfl,ab,al true⟩
 ·walk_at "n"
  exact⟨Y,T,_,rfl,ab,al false⟩
theorem iE:∀ {a b:List (List Nat)},pI a→pI b→(∀ k,k∈a ↔ k∈b)→a=b
 | [],[],_,_,_=>rfl
 | [],y::b,_,_,h=>nomatch (h y).mpr zI
 | x::a,[],_,_,h=>nomatch (h x).mp zI
 | x::a,y::b,ha,hb,h=>by
  unfold pI at ha hb;rw[List.pairwise_cons]at ha hb
  have e:x=y:=by
   rcases Hi.mp ((h x).mp zI) with z | z
   ·exact z
   ·rcases Hi.mp ((h y).mpr zI) with u | u
    ·exact u.symm
    ·have:=eW _ _ _ (ha.1 y u) (hb.1 x z)
     rw[gj]at this; cases this
  subst e;rw[iE ha.2 hb.2 fun k=>⟨fun F=>?_,fun F=>?_⟩]
  ·rcases Hi.mp ((h k).mp (zO _ F)) with z | z
   ·subst z; have:=ha.1 k F; rw[gj]at this; cases this
   ·exact z
  ·rcases Hi.mp ((h k).mpr (zO _ F)) with z | z
   ·subst z; have:=hb.1 k F; rw[gj]at this; cases this
   ·exact z
theorem rR{F:Rl}{r:bD}{a b:List (List Nat)}(h:∀ k,k∈a ↔ k∈b)(k:List Nat):k∈dL F r a ↔ k∈dL F r b:=by
 unfold dL;split
 ·unfold eC
  split
  ·exact Iff.rfl
  ·rw[zK,zK,Hh,Hh]
   exact or_congr Iff.rfl ⟨fun ⟨x,hx,z⟩=>⟨x,(h x).mp hx,z⟩,fun ⟨x,hx,z⟩=>⟨x,(h x).mpr hx,z⟩⟩
 ·split
  ·unfold fm
   rw[zaB,zaB];exact⟨fun ⟨x,hx,z⟩=>⟨x,Hq.mpr ⟨(h x).mp (Hq.mp hx).1,(Hq.mp hx).2⟩,z⟩,fun ⟨x,hx,z⟩=>⟨x,Hq.mpr ⟨(h x).mpr (Hq.mp hx).1,(Hq.mp hx).2⟩,z⟩⟩
  ·exact Iff.rfl
theorem wh.updL{H:Hp}{bs:List Addr}{F:List (List Nat)}{l:Addr}{xs ys:List V}(hl:H l=some (.lst xs))(h:wh H bs F):wh (upd H l (.lst ys)) bs F:=⟨h.1,fun i b ts h1 h2=>by
 have e:H b=some (.tup (ts.map iN)):=h.2 i b ts h1 h2
 show upd H l (.lst ys) b=_
 rw[au (fun z=>by rw[z,hl]at e; cases e)]; exact e⟩
noncomputable def sI:Sp:=fun vs H Q _=>∃ (p b L:Addr) (rl:Rl) (r:bD) (N:Nat) (bs:List Addr) (tss:List (List Nat)),vs=[.ref p,.ref b,.ref L]∧Ej H p rl∧gX rl∧bh H b r∧Ey N r∧N≤9000∧H L=some (.lst (bs.map V.ref))∧wh H bs tss∧tss.length≤7∧(∀ ts∈tss,jh rl.s rl.rs.length ts)∧
 ∀ (L':Addr) (H':Hp) (cs:List Addr) (kss:List (List Nat)),rm H H'→H L'=none→H' L'=some (.lst (cs.map V.ref))→wh H' cs kss→pI kss→(∀ k,k∈kss ↔ k∈dL rl r tss)→Q (.ref L') H'
theorem zc(D:Ab K mg "_law_due" bH) (a4:mg "len" = none) (a9:mg "set" = none) (al:mg "sorted" = none) (ab:aH P w K mg base 1 "_law_next" ["_law_rule_here", "_law_room", "_law_text"] tU) (S:aH P w K mg base 2 "_law_sum_behind" ["_law_row", "_law_held"] BB) (Y:aH P w K mg base 1 "_law_has" ["_law_held", "_law_slot"] qG):aH P w K mg base 3 "_law_due" ["_law_rule_here", "_law_row", "_law_tokens_here"] sI:=by
 refine D.cal (k:=2) DN (fun _ _ _ _ _ _ us hl=>by obtain⟨_,_,_,rfl⟩:=zu3 us hl;rfl) (fun vs H Q E h=>by obtain⟨_,_,_,_,_,_,_,_,rfl,_⟩:=h; rfl) (fun f du A outer s0 H vs Q E hr h=>?_)
 obtain⟨p,b,L,rl,r,N,bs,J,rfl,hp,hok,hb,hk,hN,hL,hT,h7,hA,q⟩:=h
 refine⟨_,(ai (ar 3 DN.nd (aY ac))
   (ai (bC (PW.pt' (c7 (aB bb (ao (aw K) (pv 1) ae (fun _ _=>rfl)) ax (aF _)) (dh (aB bb (ao (aw K) (pv 0) ae (fun _ _=>rfl)) ae (aF _))))) (ai (ar 4 DN.nd (ay ab hr (aa (pv 0) (aa ae (aa ax ac)))))
   (aj (bC (aB zB (pv 4) rN (aF _)) (aj (bc (bA K qL vQ vT bo (pv 3) (aa (aK (aa (ak dZ ae (ao (aw K) (pv 1) ae (fun _ _=>rfl))) (aa (pv 4) ac))) ac)))) bz))) bz)
   (ai (bC (PW.pt' (c7 (aB bb (ao (aw K) (pv 1) ae (fun _ _=>rfl)) ax (aF _)) (dh (aB bb (ao (aw K) (pv 0) ae (fun _ _=>rfl)) ae (aF _))))) (ai (bc (bA K qL vQ vT bo (pv 3) (aa (aK (aa (ak dZ ae (ao (aw K) (pv 1) ae (fun _ _=>rfl))) ac)) ac)))
   (aj (b6 wG rfl (ci K (pv 2)) (ba 5 DN.nd) (aj (bC (aB bb (bi (aV K) a4 bK (aa (pv 5) ac)) ae (aF _)) (ai (ar 6 DN.nd (ay S hr (aa (pv 1) (aa (ao (aw K) (pv 5) ae (fun _ _=>rfl)) ac))))
   (aj (ar 3 DN.nd (ak az (pv 3) (aY (aa (aK (aa (pv 6) (aa (ak dZ ae (ao (aw K) (pv 1) ae (fun _ _=>rfl))) (aa ae ac)))) (aa (aK (aa (ak dZ ae (ao (aw K) (pv 1) ae (fun _ _=>rfl))) (aa (pv 6) (aa ae ac)))) ac))))))) bz))))) bz)
   (ai (bC (PW.pt' (c7 (aB bb (ao (aw K) (pv 1) ae (fun _ _=>rfl)) ax (aF _)) (dh (aB bb (ao (aw K) (pv 0) ae (fun _ _=>rfl)) ae (aF _))))) (aj (b6 wG rfl (ci K (pv 2)) (ba 5 DN.nd) (aj (bC (PW.pt' (c7 (aB bb (bi (aV K) a4 bK (aa (pv 5) ac)) ae (aF _)) (c7 (dU (ay Y hr (aa (ao (aw K) (pv 5) ae (fun _ _=>rfl)) (aa (ao (aw K) (pv 1) ae (fun _ _=>rfl)) ac)))) (dh (dU (ay Y hr (aa (ao (aw K) (pv 5) ae (fun _ _=>rfl)) (aa (ao (aw K) (pv 1) ae (fun _ _=>rfl)) ac)))))))) (aj (bc (bA K qL vQ vT bo (pv 3) (aa (ak (fD K) (pv 5) (aK (aa ae ac))) ac)))) bz)))) bz)
   (aj (aJ (bi (ig K w hr) al jc (aa (cM (kZ K w hr) a9 rb (aa (pv 3) ac)) ac)))))))),?_⟩
 obtain⟨pw,pr,as,bp,dm,dt⟩:=id hp
 walk_at "r";refine⟨by decide,fun F0 an=>?_⟩
 have s1:=ah an (.lst []);have e1:upd H F0 (.lst []) F0=some (.lst (([]:List Addr).map V.ref)):=af
 generalize upd H F0 (.lst [])=H1 at s1 e1 ⊢;have a3:∀ i (h:i<J.length),J.take (i+1)=J.take i++[J[i]]:=fun i h=>by rw[pG,zg h]; rfl
 have hs:=hok.s;refine fY (fun σ' H'=>∃ (F:Addr) (cs:List Addr) (o4:Option V),σ'=[some (.ref p),some (.ref b),some (.ref L),some (.ref F),o4,none,none]∧rm H H'∧H F=none∧H' F=some (.lst (cs.map V.ref))∧wh H' cs (if gP r = "open" ∧ rl.s=1 then eC rl (aC r 2) J else [])) (fun k O=>?_) ?_
 ·have a7:¬ (gP r = "open" ∧ rl.s=1)→wh H1 [] (if gP r = "open" ∧ rl.s=1 then eC rl (aC r 2) J else []):=fun z=>by rw[He z]; exact wh.nil _
  walk_at "r";refine⟨_,_,.inr (vr.of (s1 _ _ hb)),av (j:=0) hk.hd,?_⟩
  walk_at "r";refine bd (fun c1=>?_) (fun c1=>O _ _ ⟨F0,[],none,rfl,s1,an,e1,a7 fun z=>c1 z.1⟩)
  refine⟨_,_,.inr (vr.of (s1 _ _ bp)),rfl,?_⟩
  walk_at "r";refine bd (fun c2=>?_) (fun c2=>O _ _ ⟨F0,[],none,rfl,s1,an,e1,a7 fun z=>c2 z.2⟩)
  obtain⟨h2,l2⟩:=hk.s2 (by rw[c1]; decide)
  refine⟨p,rl,0, "open", rfl,hp.mono s1,hok,by have:=hok.n0; omega,?_⟩
  have eb:eC rl (aC r 2) J=(match step rl 0 "open" with | some j=>[[2 ^ aC r 2,j]] | none=>[]):=by unfold eC; exact Hf c2
  rw[Hf ⟨c1,c2⟩,eb]at O
  cases hst:step rl 0 "open" with
  | none=>
   rw[hst]at O
   walk_at "n";exact O _ _ ⟨F0,[],_,rfl,s1,an,e1,wh.nil _⟩
  | some j=>
   rw[hst]at O
   walk_at "n";refine⟨⟨_,ud.of e1⟩,_,_,.inr (vr.of (s1 _ _ hb)),av (j:=2) h2,?_⟩
   walk_at "r";refine⟨⟨by omega,by omega,by decide⟩,by decide,fun t ht=>⟨_,ah ht _ _ _ e1,aX (by simp),?_⟩⟩
   rw[fh];have s2:=s1.trans (ah ht (.tup [V.int (2 ^ aC r 2:Nat),V.int (j:Int)]));have e2:=ah ht (.tup [V.int (2 ^ aC r 2:Nat),V.int (j:Int)]) _ _ e1;have t2:ft (upd H1 t (.tup [V.int (2 ^ aC r 2:Nat),V.int (j:Int)])) t [2 ^ aC r 2,j]:=af
   exact O _ _ ⟨F0,[t],_,rfl,s2.upd an _,an,af,((wh.nil _).snoc t2).updL e2⟩
 rintro σ1 H2 ⟨F,cs,o4,rfl,s2,hF,W,ad⟩
 have b3:=s2 _ _ hb;refine fY (fun σ' H'=>∃ (F:Addr) (cs:List Addr) (o5 o6:Option V),σ'=[some (.ref p),some (.ref b),some (.ref L),some (.ref F),o4,o5,o6]∧rm H H'∧H F=none∧H' F=some (.lst (cs.map V.ref))∧wh H' cs (if gP r = "open" then eC rl (aC r 2) J else [])) (fun k O=>?_) ?_
 ·walk_at "r"
  refine⟨_,_,.inr (vr.of b3),av (j:=0) hk.hd,?_⟩
  walk_at "r";refine bd (fun c1=>?_) (fun c1=>O _ _ ⟨F,cs,none,none,rfl,s2,hF,W,by rw[He c1]; rw[He (fun z=>c1 z.1)]at ad; exact ad⟩)
  rw[Hf c1]at O
  refine⟨_,_,.inr (vr.of (s2 _ _ bp)),rfl,?_⟩
  walk_at "r";refine bd (fun c2=>?_) (fun c2=>O _ _ ⟨F,cs,none,none,rfl,s2,hF,W,by rw[Hf ⟨c1,hs.resolve_right c2⟩]at ad; exact ad⟩)
  have c3:¬ rl.s=1:=by omega
  rw[He (fun z=>c3 z.2)]at ad
  obtain rfl:cs=[]:=List.length_eq_zero_iff.mp ad.1
  obtain⟨h2,l2⟩:=hk.s2 (by rw[c1]; decide)
  have cq:eC rl (aC r 2) J=[2 ^ aC r 2]::J.flatMap fun ts=>if ts.length=1 then [[aT (ts.getD 0 0) (aC r 2),2 ^ aC r 2,1],[2 ^ aC r 2,aT (ts.getD 0 0) (aC r 2),2]] else []:=by unfold eC; rw[He c3]
  have cA:∀ n,Bu r n=aT n (aC r 2):=fun n=>by unfold Bu; rw[He (fun z=>absurd (c1.symm.trans z.1) (by decide)),Hf (by rw[c1]; decide)]
  rw[cq]at O
  refine⟨⟨_,ud.of W⟩,_,_,.inr (vr.of b3),av (j:=2) h2,?_⟩
  walk_at "r";refine⟨⟨by omega,by omega,by decide⟩,by decide,fun t ht=>⟨_,ah ht _ _ _ W,aX (by simp),?_⟩⟩
  rw[fh];have t3:ft (upd H2 t (.tup [V.int (2 ^ aC r 2:Nat)])) t [2 ^ aC r 2]:=af
  have T3:wh (upd (upd H2 t (.tup [V.int (2 ^ aC r 2:Nat)])) F (.lst (([]:List Addr).map V.ref++[V.ref t]))) [t] [[2 ^ aC r 2]]:=((wh.nil _).snoc t3).updL (ah ht _ _ _ W)
  have s3:=(s2.trans (ah ht (.tup [V.int (2 ^ aC r 2:Nat)]))).upd hF (.lst (([]:List Addr).map V.ref++[V.ref t]));have e3:upd (upd H2 t (.tup [V.int (2 ^ aC r 2:Nat)])) F (.lst (([]:List Addr).map V.ref++[V.ref t])) F=some (.lst ([t].map V.ref)):=af
  generalize upd (upd H2 t (.tup [V.int (2 ^ aC r 2:Nat)])) F (.lst (([]:List Addr).map V.ref++[V.ref t]))=H3 at T3 s3 e3 ⊢;walk_at "n";refine⟨⟨_,ud.of (s3 _ _ hL)⟩,?_⟩
  refine cw (xs:=bs.map V.ref) (fun i σ H'=>∃ (F:Addr) (cs:List Addr) (o5 o6:Option V),σ=[some (.ref p),some (.ref b),some (.ref L),some (.ref F),o4,o5,o6]∧rm H H'∧H F=none∧H' F=some (.lst (cs.map V.ref))∧
   wh H' cs ([2 ^ aC r 2]::(J.take i).flatMap fun ts=>if ts.length=1 then [[aT (ts.getD 0 0) (aC r 2),2 ^ aC r 2,1],[2 ^ aC r 2,aT (ts.getD 0 0) (aC r 2),2]] else [])∧cs.length≤1+2 * i)
   ⟨F,[t],none,none,rfl,s3,hF,e3,T3,by simp⟩ (fun i σ H' _ hh=>by obtain⟨_,_,_,_,_,z,_⟩:=hh; exact ud.of (z _ _ hL)) ?_ ?_
  ·rintro i v σ H' hv ⟨F,cs,o5,o6,rfl,sm,hF,W,U,bt⟩
   have hi:i<bs.length:=by have:=(Hd.mp hv).1; simpa using this
   rw[zy,zg hi]at hv
   cases hv;have a6:i<J.length:=by rw[← hT.1]; exact hi
   have ag:=hT.2 i _ _ (zg hi) (zg a6);rw[a3 i a6,zbc,List.flatMap_singleton,← pT];generalize J[i]=ts at ag ⊢;generalize bs[i]=u at ag ⊢;have Z:H' u=some (.tup (ts.map iN)):=sm _ _ ag
   walk_at "r";refine⟨_,.inr (vr.of Z),?_⟩
   rw[ze];refine bd (fun c2=>?_) (fun c2=>?_)
   ·obtain⟨n,rfl⟩:=List.length_eq_one_iff.mp (show ts.length=1 by omega)
    refine⟨_,_,.inr (vr.of Z),av (j:=0) (by rfl),?_⟩
    refine⟨b,r,n,N,rfl,sm _ _ hb,hk,hN,fun H4 s4=>?_⟩
    rw[cA];have bg:=sm.trans s4;have cl:=s4 _ _ W;have T4:=U.same s4;have b4:=bg _ _ hb;walk_at "n";refine⟨_,_,.inr (vr.of b4),av (j:=2) h2,?_⟩
    walk_at "r";refine⟨⟨by omega,by omega,by decide⟩,by decide,fun t1 cv=>?_⟩
    rw[fh];have s6:=ah cv (.tup ([aT n (aC r 2),2 ^ aC r 2,1].map iN));have e6:ft (upd H4 t1 (.tup ([aT n (aC r 2),2 ^ aC r 2,1].map iN))) t1 [aT n (aC r 2),2 ^ aC r 2,1]:=af
    rw[show [V.int ((aT n (aC r 2):Nat):Int),V.int ((2 ^ aC r 2:Nat):Int),V.int 1]=[aT n (aC r 2),2 ^ aC r 2,1].map iN from rfl];generalize upd H4 t1 (.tup ([aT n (aC r 2),2 ^ aC r 2,1].map iN))=H6 at s6 e6 ⊢;refine⟨_,_,.inr (vr.of (s6 _ _ b4)),av (j:=2) h2,?_⟩
    walk_at "r";refine⟨⟨by omega,by omega,by decide⟩,by decide,fun t2 cd=>?_⟩
    rw[fh];have s7:=ah cd (.tup ([2 ^ aC r 2,aT n (aC r 2),2].map iN));have e7:ft (upd H6 t2 (.tup ([2 ^ aC r 2,aT n (aC r 2),2].map iN))) t2 [2 ^ aC r 2,aT n (aC r 2),2]:=af
    rw[show [V.int ((2 ^ aC r 2:Nat):Int),V.int ((aT n (aC r 2):Nat):Int),V.int 2]=[2 ^ aC r 2,aT n (aC r 2),2].map iN from rfl];generalize upd H6 t2 (.tup ([2 ^ aC r 2,aT n (aC r 2),2].map iN))=H7 at s7 e7 ⊢;refine⟨by decide,fun x da=>?_⟩
    have s8:=ah da (.lst [V.ref t1,V.ref t2]);have e8:upd H7 x (.lst [V.ref t1,V.ref t2]) x=some (.lst ([t1,t2].map V.ref)):=af
    generalize upd H7 x (.lst [V.ref t1,V.ref t2])=H8 at s8 e8 ⊢;have a8:=s6.trans (s7.trans s8);refine⟨_,_,a8 _ _ cl,e8,by rw[ze]; exact aX (by simp; omega),fun G hG=>?_⟩
    have s9:=ah hG (.lst (cs.map V.ref++[t1,t2].map V.ref));refine⟨G,cs++[t1]++[t2],_,_,rfl,bg.trans (a8.trans s9),(bg.trans a8).free hG,by rw[af]; simp,?_,by simp; omega⟩
    have T9:=((T4.same (a8.trans s9)).snoc ((s7.trans (s8.trans s9)) _ _ e6)).snoc ((s8.trans s9) _ _ e7);have eq:([2 ^ aC r 2]::((J.take i).flatMap fun ts=>if ts.length=1 then [[aT (ts.getD 0 0) (aC r 2),2 ^ aC r 2,1],[2 ^ aC r 2,aT (ts.getD 0 0) (aC r 2),2]] else []))++[[aT n (aC r 2),2 ^ aC r 2,1]]++[[2 ^ aC r 2,aT n (aC r 2),2]]=[2 ^ aC r 2]::(((J.take i).flatMap fun ts=>if ts.length=1 then [[aT (ts.getD 0 0) (aC r 2),2 ^ aC r 2,1],[2 ^ aC r 2,aT (ts.getD 0 0) (aC r 2),2]] else [])++[[aT n (aC r 2),2 ^ aC r 2,1],[2 ^ aC r 2,aT n (aC r 2),2]]):=by simp
    rw[eq]at T9
    exact T9
   ·refine⟨F,cs,some (.ref u),o6,rfl,sm,hF,W,?_,by omega⟩
    rw[He (by omega),gY]; exact U
  ·rintro σ H' ⟨F,cs,o5,o6,rfl,sm,hF,W,U,bt⟩
   rw[ze,hT.1,tx]at U
   exact O _ _ ⟨F,cs,o5,o6,rfl,sm,hF,W,U⟩
 rintro σ2 H5 ⟨F,cs,o5,o6,rfl,s5,hF,W,b0⟩
 have c9:=s5 _ _ hb;refine fY (fun σ' H'=>∃ (F:Addr) (cs:List Addr) (o5 o6:Option V),σ'=[some (.ref p),some (.ref b),some (.ref L),some (.ref F),o4,o5,o6]∧rm H H'∧H F=none∧H' F=some (.lst (cs.map V.ref))∧wh H' cs (dL rl r J)) (fun k O=>?_) ?_
 ·walk_at "r"
  refine⟨_,_,.inr (vr.of c9),av (j:=0) hk.hd,?_⟩
  walk_at "r";refine bd (fun c1=>?_) (fun c1=>O _ _ ⟨F,cs,o5,o6,rfl,s5,hF,W,by unfold dL; rw[He c1]; exact b0⟩)
  have no:¬ gP r = "open" := fun z=>absurd (c1.symm.trans z) (by decide)
  have eb:dL rl r J=fm (aC r 2) (aC r 3) J:=by unfold dL; rw[He no,Hf c1]
  rw[eb]at O
  rw[He no]at b0
  obtain rfl:cs=[]:=List.length_eq_zero_iff.mp b0.1
  refine⟨_,_,.inr (vr.of (s5 _ _ bp)),rfl,?_⟩
  walk_at "r";refine bd (fun c2=>?_) (fun c2=>O _ _ ⟨F,[],o5,o6,rfl,s5,hF,W,?_⟩)
  ·obtain⟨h2,l2⟩:=hk.s2 (by rw[c1]; decide)
   obtain⟨h3,l3⟩:=hk.s3 (by rw[c1]; decide)
   refine⟨⟨_,ud.of (s5 _ _ hL)⟩,?_⟩
   refine cw (xs:=bs.map V.ref) (fun i σ H'=>∃ (cs:List Addr) (o5:Option V),σ=[some (.ref p),some (.ref b),some (.ref L),some (.ref F),o4,o5,o6]∧rm H H'∧H' F=some (.lst (cs.map V.ref))∧wh H' cs (fm (aC r 2) (aC r 3) (J.take i))∧cs.length≤i)
    ⟨[],o5,rfl,s5,W,wh.nil _,zl _⟩ (fun i σ H' _ hh=>by obtain⟨_,_,_,z,_⟩:=hh; exact ud.of (z _ _ hL)) ?_ ?_
   ·rintro i v σ H' hv ⟨cs,o5,rfl,sm,W,U,bt⟩
    have hi:i<bs.length:=by have:=(Hd.mp hv).1; simpa using this
    rw[zy,zg hi]at hv
    cases hv;have a6:i<J.length:=by rw[← hT.1]; exact hi
    have ag:=hT.2 i _ _ (zg hi) (zg a6);have be:=a3 i a6;generalize J[i]=ts at ag be;generalize bs[i]=u at ag ⊢;have Z:H' u=some (.tup (ts.map iN)):=sm _ _ ag
    have a5:(decide (ts.length=3)&&bj (ts.getD 0 0) (aC r 2)&&bj (ts.getD 1 0) (aC r 3))=false→∃ (cs:List Addr) (o5:Option V),[some (V.ref p),some (.ref b),some (.ref L),some (.ref F),o4,some (.ref u),o6]=[some (V.ref p),some (.ref b),some (.ref L),some (.ref F),o4,o5,o6]∧rm H H'∧H' F=some (.lst (cs.map V.ref))∧wh H' cs (fm (aC r 2) (aC r 3) (J.take (i+1)))∧cs.length≤i+1:=fun z=>by
     refine⟨cs,_,rfl,sm,W,?_,by omega⟩
     unfold fm;rw[be,G0,show [ts].filter (fun ts=>decide (ts.length=3)&&bj (ts.getD 0 0) (aC r 2)&&bj (ts.getD 1 0) (aC r 3))=[] by rw[List.filter_cons,z]; rfl,gY]
     exact U
    walk_at "r";refine⟨_,.inr (vr.of Z),?_⟩
    rw[ze];refine bd (fun c3=>?_) (fun c3=>a5 (by rw[decide_eq_false (fun z=>c3 (by omega))]; rfl))
    obtain⟨x,y,z,rfl⟩ : ∃ x y z,ts=[x,y,z]:=by
     match ts,(show ts.length=3 by omega) with
     | [x,y,z],_=>exact⟨x,y,z,rfl⟩
    have b1:=sm _ _ hb;refine⟨_,_,.inr (vr.of Z),av (j:=0) (by rfl),_,_,.inr (vr.of b1),av (j:=2) h2,x,aC r 2,rfl,by omega,_,rfl,bd (fun c4=>?_) (fun c4=>a5 (by show (true&&bj x _&&_)=false; rw[Hu.mpr c4]; rfl))⟩
    refine⟨_,_,.inr (vr.of Z),av (j:=1) (by rfl),_,_,.inr (vr.of b1),av (j:=3) h3,y,aC r 3,rfl,by omega,_,rfl,bd (fun c5=>?_) (fun c5=>a5 (by show (true&&bj x _&&bj y _)=false; rw[Hu.mpr c5,Bool.and_false]))⟩
    refine⟨⟨_,ud.of W⟩,by decide,fun a1 b2=>⟨_,_,vr.of (ah b2 _ _ _ Z),vr.of af,by simp,(by show 4≤sizeLine; decide),fun z=>absurd z (by simp),fun _ a2 cb=>?_⟩⟩
    have sa:=(ah b2 (.tup [V.int 0])).trans (ah cb (.tup ([x,y,z].map iN++[V.int 0])));have t2:ft (upd (upd H' a1 (.tup [V.int 0])) a2 (.tup ([x,y,z].map iN++[V.int 0]))) a2 [x,y,z,0]:=af
    refine⟨_,sa _ _ W,aX (by rw[ze]; omega),cs++[a2],_,rfl,(sm.trans sa).upd hF _,by rw[af]; simp,?_,by simp; omega⟩
    unfold fm;rw[be,G0,show [[x,y,z]].filter (fun ts=>decide (ts.length=3)&&bj (ts.getD 0 0) (aC r 2)&&bj (ts.getD 1 0) (aC r 3))=[[x,y,z]] by simp[c4,c5],zP]
    exact wh.updL (sa _ _ W) ((U.same sa).snoc t2)
   ·rintro σ H' ⟨cs,o5,rfl,sm,W,U,bt⟩
    rw[ze,hT.1,tx]at U
    exact O _ _ ⟨F,cs,o5,o6,rfl,sm,hF,W,U⟩
  ·have e0:fm (aC r 2) (aC r 3) J=[]:=by
    unfold fm;rw[List.map_eq_nil_iff,List.filter_eq_nil_iff];intro ts dc
    cases hA ts dc with
    | h1 n k _ _=>simp
    | one n z | two n m o z | tie n m o k z=>exact absurd z c2
   rw[e0]; exact wh.nil _
 rintro σ3 H6 ⟨F,cs,o5,o6,rfl,s6,hF,W,cB⟩
 walk_at "n";exact nJ W cB (rJ rl r J h7) (t_ rl r J) fun l2 H' ca dl sm cc e2 ad c0 hm dn=>q l2 H' ca dl (s6.trans sm) (s6.free cc) e2 ad c0 hm
theorem vG(ns:List Nat):∀ x∈ns.map iN,bM x=true:=fun x hx=>by obtain⟨n,_,rfl⟩:=Hk.mp hx; rfl
theorem jL{H:Hp}{a b:Addr}{cs ds:List Addr}{F:List (List Nat)}(W:H a=some (.lst (cs.map V.ref)))(Y:H b=some (.lst (ds.map V.ref)))(h1:wh H cs F)(h2:wh H ds F):Eo K H 2 (.ref a) (.ref b) true:=by
 refine Eo.seq (.inl ⟨ud.of W,ud.of Y⟩) (by rw[ze,ze,h1.1,h2.1]) (fun i x y O J=>?_)
 have hi:i<cs.length:=by have:=(Hd.mp O).1; simpa using this
 have S:i<ds.length:=by have:=(Hd.mp J).1; simpa using this
 have U:i<F.length:=by rw[← h1.1]; exact hi
 rw[zy,zg hi]at O
 rw[zy,zg S]at J
 cases O
 cases J;exact Eo.seqFlat (.inr ⟨vr.of (h1.2 i _ _ (zg hi) (zg U)),vr.of (h2.2 i _ _ (zg S) (zg U))⟩) (vG _)
theorem wh.app{H:Hp}{bs cs:List Addr}{J F:List (List Nat)}(h:wh H bs J)(g:wh H cs F):wh H (bs++cs) (J++F):=by
 refine⟨by rw[zr,zr,h.1,g.1],fun i b ts h1 h2=>?_⟩
 rcases vA i bs.length with z | z
 ·rw[vX z]at h1
  rw[vX (by rw[← h.1]; exact z)]at h2
  exact h.2 i b ts h1 h2
 ·rw[vw z]at h1
  rw[vw (by rw[← h.1]; exact z),← h.1]at h2
  exact g.2 _ b ts h1 h2
theorem wh.take{H:Hp}{bs:List Addr}{F:List (List Nat)}(h:wh H bs F)(n:Nat):wh H (bs.take n) (F.take n):=by
 refine⟨by rw[vW,vW,h.1],fun i b ts h1 h2=>?_⟩
 rw[List.getElem?_take]at h1 h2
 split at h1
 ·rename_i c; rw[Hf c]at h2; exact h.2 i b ts h1 h2
 ·cases h1
theorem wh.rev{H:Hp}{bs:List Addr}{F:List (List Nat)}(h:wh H bs F):wh H bs.reverse F.reverse:=by
 refine⟨by rw[zaX,zaX,h.1],fun i b ts h1 h2=>?_⟩
 have hi:i<bs.length:=by have:=(Hd.mp h1).1; simpa using this
 rw[List.getElem?_reverse hi]at h1
 rw[List.getElem?_reverse (by rw[← h.1]; exact hi),← h.1]at h2
 exact h.2 _ b ts h1 h2
theorem yK{F:List (List Nat)}(k:List Nat):k∈F++F.take 1 ↔ k∈F:=by
 rw[Hj];exact⟨fun h=>h.elim id List.mem_of_mem_take,.inl⟩
noncomputable def nM:Sp:=fun vs H Q _=>∃ (c p L:Addr) (R:List bD) (rl:Rl) (r:bD) (i N:Nat) (bs:List Addr) (tss:List (List Nat)),vs=[.ref c,.ref p,.int (i:Int),.ref L]∧C3 H c R∧R[i]? = some r∧Ej H p rl∧gX rl∧Ey N r∧N≤9000∧H L=some (.lst (bs.map V.ref))∧wh H bs tss∧tss.length≤6∧(∀ ts∈tss,jh rl.s rl.rs.length ts)∧∀ H':Hp,rm H H'→Q (.bl true) H'
theorem vB(D:Ab K mg "_law_right" aN) (O:mg "isinstance" = none) (bp:mg "list" = none) (a8:mg "tuple" = none) (cd:mg "len" = none) (W:aH P w K mg base 3 "_law_due" ["_law_rule_here", "_law_row", "_law_tokens_here"] sI) (J:aH P w K mg base 3 "begins_at" ["code", "rule", "at", "tokens"] xj) (S:aH P w K mg base 1 "_law_whole" ["_law_found"] CZ):aH P w K mg base 4 "_law_right" ["_law_code_here", "_law_rule_here", "_law_at", "_law_tokens_here"] nM:=by
 refine D.cal (k:=3) D6 (fun _ _ _ _ _ _ us hl=>by obtain⟨_,_,_,_,rfl⟩:=zu4 us hl;rfl) (fun vs H Q E h=>by obtain⟨_,_,_,_,_,_,_,_,_,_,rfl,_⟩:=h; rfl) (fun f eo A outer s0 H vs Q E hr h=>?_)
 obtain⟨c,p,L,R,rl,r,i,N,bs,Z,rfl,hC,bg,hR,ok,hk,hN,hL,hT,h6,hA,q⟩:=h
 refine⟨_,(ai (ar 4 D6.nd (ak az (pv 3) (dW (kB K) (pv 3) fC (er ae))))
   (ai (ar 5 D6.nd (ay W hr (aa (pv 1) (aa (ao (aw K) (pv 0) (pv 2) (fun _ _=>rfl)) (aa (pv 3) ac)))))
   (ai (ar 6 D6.nd (ay J hr (aa (pv 0) (aa (pv 1) (aa (pv 2) (aa (pv 4) ac))))))
   (ai (bC (PW.pt' (oH (jp (dU (bi iO O eL (aa (pv 6) (aa (li bp gn) ac))))) (oH (aB (mF K hr) (pv 6) (pv 5) (aF _)) (pB (aB (mF K hr) (pv 4) (ak az (pv 3) (dW (kB K) (pv 3) fC (er ae))) (aF _)))))) (aj (aJ fP)) bz)
   (ai (b6 wG rfl (ci K (pv 6)) (ba 7 D6.nd) (aj (bC (PW.pt' (oH (jp (dU (bi iO O eL (aa (pv 7) (aa (li a8 pC) ac))))) (pB (aB la (bi (aV K) cd bK (aa (fI (El.to (fsc:=(rd aN)) (N:=["_law_code_here", "_law_rule_here", "_law_at", "_law_tokens_here", "_law_handed", "_law_due_here", "_law_found", "_law_token"]) (N0:=["_law_code_here", "_law_rule_here", "_law_at", "_law_tokens_here", "_law_handed", "_law_due_here", "_law_found", "_law_token"]) (T:=["_law_part"]) ⟨by decide +kernel,by decide +kernel,by decide +kernel,by decide +kernel,by decide +kernel,by decide +kernel,by decide +kernel⟩ rfl rfl) rfl ((ia K) (pv 7)) (fun _ _ _ _=>(ba 8 (show (["_law_code_here", "_law_rule_here", "_law_at", "_law_tokens_here", "_law_handed", "_law_due_here", "_law_found", "_law_token", "_law_part"]:List Str).Nodup from by decide +kernel) (hx:=(hJ (rd aN) (by decide +kernel))) (hf:=jW (rd aN) (by decide +kernel)))) (df (show (["_law_code_here", "_law_rule_here", "_law_at", "_law_tokens_here", "_law_handed", "_law_due_here", "_law_found", "_law_token"]:List Str).length≤8 from by decide)) (fun _ _ _ _=>(iD (jp (dU (ay S hr (aa (pv 8 (hv:=(cQ (rd aN) (by decide +kernel)))) ac) (hg:=(n5 (rd aN) (by decide +kernel)))))))) (fun _ _ _ _=>(pv 8 (hv:=(cQ (rd aN) (by decide +kernel)))))) ac)) ae (aF _))))) (aj (aJ fP)) bz)))
   (ai (bc (l8 K qL F.slot_list_clear F.type_list_clear xy (pv 6)))
   (ai (bc (l8 K qL F.slot_list_reverse F.type_list_reverse sg (pv 4)))
   (aj (aJ (lI (cY (h9 K hr) (ay J hr (aa (pv 0) (aa (pv 1) (aa (pv 2) (aa (pv 4) ac))))) (pv 5) (aF _)) (oV (cY (h9 K hr) (ay J hr (aa (pv 0) (aa (pv 1) (aa (pv 2) (aa (pv 3) ac))))) (pv 5) (aF _))))))))))))),?_⟩
 obtain⟨as,b,a1,al,ab,hb⟩:=xH hC bg
 have ec:cJ (as.map V.ref) (i:Int)=some (.ref b):=av (by rw[zy,ab]; rfl)
 walk_at "r";refine⟨_,ud.of hL,fun x hx=>?_⟩
 have eg:=hT.1;have b2:de (bs.map V.ref) none (some 1)=(bs.take 1).map V.ref:=by cases bs <;> rfl
 rw[b2];have s1:=ah hx (.lst ((bs.take 1).map V.ref));have e1:upd H x (.lst ((bs.take 1).map V.ref)) x=some (.lst ((bs.take 1).map V.ref)):=af
 generalize upd H x (.lst ((bs.take 1).map V.ref))=H1 at s1 e1 ⊢;refine⟨_,_,s1 _ _ hL,e1,by rw[ze,ze,vW]; exact aX (by omega),fun hd c1=>?_⟩
 rw[← zP];have s2:=s1.trans (ah c1 (.lst ((bs++bs.take 1).map V.ref)));have e2:upd H1 hd (.lst ((bs++bs.take 1).map V.ref)) hd=some (.lst ((bs++bs.take 1).map V.ref)):=af
 have b3:H hd=none:=s1.free c1
 generalize upd H1 hd (.lst ((bs++bs.take 1).map V.ref))=H2 at s2 e2 ⊢;walk_at "n";refine⟨_,_,.inl (ud.of (s2 _ _ a1)),ec,?_⟩
 refine⟨p,b,L,rl,r,N,bs,Z,rfl,hR.mono s2,ok,s2 _ _ hb,hk,hN,s2 _ _ hL,hT.same s2,by omega,hA,fun Du H3 ds d2 s3 cl be c0 ed c5=>?_⟩
 have a3:=s2.trans s3;walk_at "n";have a9:wh H (bs++bs.take 1) (Z++Z.take 1):=hT.app (hT.take 1)
 have da:(Z++Z.take 1).length≤7:=by rw[zr,vW]; omega
 refine⟨c,p,hd,R,rl,r,i,N,_,_,rfl,hC.mono a3,bg,hk,hN,hR.mono a3,ok,s3 _ _ e2,a9.same a3,da,fun Fo H4 fs U s4 ag bt cc cB c2 _=>?_⟩
 have cA:=a3.trans s4;obtain rfl:U=d2:=iE cB ed fun k=>(c2 k).trans ((rR yK k).trans (c5 k).symm)
 walk_at "n";refine⟨"list", by simp[cI,show H4 Fo=_ from bt],by decide,?_⟩
 rw[He (by decide)]
 refine⟨1,true,by decide,jL bt (s4 _ _ be) cc (c0.same s4),?_⟩
 rw[He (by decide)]
 have cv:=(s3.trans s4) _ _ e2;refine⟨_,ud.of (cA _ _ hL),fun y hy=>?_⟩
 rw[b2];have s5:=ah hy (.lst ((bs.take 1).map V.ref));have e5:upd H4 y (.lst ((bs.take 1).map V.ref)) y=some (.lst ((bs.take 1).map V.ref)):=af
 generalize upd H4 y (.lst ((bs.take 1).map V.ref))=H5 at s5 e5 ⊢;have dn:=cA.trans s5;refine⟨_,_,dn _ _ hL,e5,by rw[ze,ze,vW]; exact aX (by omega),fun z hz=>?_⟩
 rw[← zP];have s6:=s5.trans (ah hz (.lst ((bs++bs.take 1).map V.ref)));have e6:upd H5 z (.lst ((bs++bs.take 1).map V.ref)) z=some (.lst ((bs++bs.take 1).map V.ref)):=af
 generalize upd H5 z (.lst ((bs++bs.take 1).map V.ref))=H6 at s6 e6 ⊢;have cq:=cA.trans s6;refine⟨1,true,by decide,jL (s6 _ _ cv) e6 (a9.same cq) (a9.same cq),?_⟩
 rw[He (by decide)]
 have cb:=cc.same s6;have a4:=s6 _ _ bt;have dl:=(s4.trans s6) _ _ be;have c3:=c0.same (s4.trans s6);have dc:=s6 _ _ cv;have d6:Fo≠Du:=fun z=>by rw[z,be]at ag; cases ag
 have d4:Fo≠hd:=fun z=>by rw[z,s3 _ _ e2]at ag; cases ag
 have ea:hd≠Du:=fun z=>by rw[← z,e2]at cl; cases cl
 have b0:H Fo=none:=a3.free ag
 have eq:H Du=none:=s2.free cl
 clear s5 dn e5 cv e6 hy hz hx c1 s1 e1 s4 s3 bt be cc c0 e2;walk_at "n";refine⟨⟨_,ud.of a4⟩,?_⟩
 refine cw (xs:=fs.map V.ref) (fun j σ H'=>∃ o7:Option V,σ=[some (.ref c),some (.ref p),some (.int (i:Int)),some (.ref L),some (.ref hd),some (.ref Du),some (.ref Fo),o7]∧rm H6 H') ⟨none,rfl,fun _ _ z=>z⟩ (fun j σ H' _ hh=>by obtain⟨_,_,z⟩:=hh; exact ud.of (z _ _ a4)) ?_ ?_
 ·rintro j v σ H' hv ⟨o7,rfl,sm⟩
  have hj:j<fs.length:=by have:=(Hd.mp hv).1; simpa using this
  rw[zy,zg hj]at hv
  cases hv;have d1:j<U.length:=by rw[← cb.1]; exact hj
  have a5:H' fs[j]=some (.tup (U[j].map iN)):=sm _ _ (cb.2 j _ _ (zg hj) (zg d1))
  generalize U[j]=ts at a5;generalize fs[j]=u at a5 ⊢;walk_at "r";refine⟨"tuple", by simp[cI,a5],by decide,?_⟩
  rw[He (by decide)]
  refine⟨⟨_,vr.of a5⟩,fun M hM=>?_⟩
  refine xq (xs:=ts.map iN) (fun i ys H2=>rm H' H2∧H2 M=some (.lst ys)∧ys=[]) ⟨ah hM _,af,rfl⟩ (fun i ys H2 _ hh=>vr.of (hh.1 _ _ a5)) ?_ ?_
  ·rintro k ys H2 v hv hi ⟨s9,hl,rfl⟩
   rw[ze]at hi
   rw[zy,zg hi]at hv
   cases hv;walk_at "r";refine⟨_,rfl,_,rfl,?_⟩
   rw[He (by decide)]
   exact oI (by rw[ze]; exact hi) ⟨s9,hl,rfl⟩
  rintro ys H2 ⟨s9,hl,rfl⟩
  walk_at "r";refine⟨_,.inl (ud.of hl),?_⟩
  rw[He (by simp)]
  exact⟨_,rfl,sm.trans s9⟩
 rintro σ H7 ⟨o7,rfl,s7⟩
 have ee:=cq.trans s7;walk_at "n";have a7:=s7 _ _ a4;have dm:=s7 _ _ dl;have c9:=s7 _ _ dc;have c4:=c3.same s7;have ek:L≠Fo:=aA hL b0
 have ei:L≠hd:=aA hL b3
 refine⟨⟨_,ud.of a7⟩,Fo,_,rfl,rfl,a7,?_⟩
 have s8:=ee.upd b0 (.lst []);have b4:upd H7 Fo (.lst []) Du=some (.lst (ds.map V.ref)):=by rw[au d6.symm]; exact dm
 have Y:upd H7 Fo (.lst []) hd=some (.lst ((bs++bs.take 1).map V.ref)):=by rw[au d4.symm]; exact c9
 have b1:wh (upd H7 Fo (.lst [])) ds U:=c4.updL a7
 generalize upd H7 Fo (.lst [])=H8 at s8 b4 Y b1 ⊢;walk_at "n";refine⟨⟨_,ud.of Y⟩,hd,_,rfl,rfl,Y,?_⟩
 have s9:=s8.upd b3 (.lst ((bs++bs.take 1).map V.ref).reverse);have a6:upd H8 hd (.lst ((bs++bs.take 1).map V.ref).reverse) Du=some (.lst (ds.map V.ref)):=by rw[au ea.symm]; exact b4
 have ca:upd H8 hd (.lst ((bs++bs.take 1).map V.ref).reverse) hd=some (.lst ((bs++bs.take 1).reverse.map V.ref)):=by rw[af,List.map_reverse]
 have an:wh (upd H8 hd (.lst ((bs++bs.take 1).map V.ref).reverse)) ds U:=b1.updL Y
 generalize upd H8 hd (.lst ((bs++bs.take 1).map V.ref).reverse)=H9 at s9 a6 ca an ⊢;walk_at "n";refine⟨c,p,hd,R,rl,r,i,N,_,_,rfl,hC.mono s9,bg,hk,hN,hR.mono s9,ok,ca,(a9.same s9).rev,by rw[zaX]; exact da,fun Fa Ha ga d9 sa em d7 eb d3 dV _=>?_⟩
 obtain rfl:U=d9:=iE cB d3 fun k=>(c2 k).trans ((rR (fun k=>List.mem_reverse.symm) k).trans (dV k).symm)
 walk_at "r";refine⟨1,true,by decide,jL d7 (sa _ _ a6) eb (an.same sa),?_⟩
 rw[Hf rfl];have ad:=s9.trans sa;refine⟨c,p,L,R,rl,r,i,N,bs,Z,rfl,hC.mono ad,bg,hk,hN,hR.mono ad,ok,ad _ _ hL,hT.same ad,by omega,fun Fb Hb gb d5 sb ej dt dP d8 du _=>?_⟩
 obtain rfl:U=d5:=iE cB d8 fun k=>(c5 k).trans (du k).symm
 walk_at "r";exact⟨1,true,by decide,jL dt ((sa.trans sb) _ _ a6) dP (an.same (sa.trans sb)),q Hb (ad.trans sb)⟩
theorem tD{H:Hp}{Z:Nat}{sd:Int}:∀ {bs:List Addr},(∀ b∈bs,∃ ts,ft H b ts∧jh sd Z ts∧BF ts)→∃ F,wh H bs F∧∀ ts∈F,jh sd Z ts
 | [],_=>⟨[],wh.nil H,fun _ h=>nomatch h⟩
 | b::bs,h=>by
  obtain⟨F,h1,h2⟩:=tD fun x hx=>h x (zO _ hx)
  obtain⟨ts,t1,t2,_⟩:=h b zI
  refine⟨ts::F,⟨by rw[zx,zx,h1.1],fun i c S O J=>?_⟩,fun S U=>?_⟩
  ·cases i with
   | zero=>
    rw[List.getElem?_cons_zero]at O J
    cases O
    cases J;exact t1
   | succ i=>
    rw[G1]at O J
    exact h1.2 i c S O J
  ·rcases Hi.mp U with z | z
   ·rw[z]; exact t2
   ·exact h2 S z
theorem DA{f:Addr}{fd:FuncData}(F:GL K "law" "law" aZ f fd) (a4:mg "len" = none) (ab:mg "range" = none) (Y:mg "list" = none) (b1:mg "int" = none) (J:aH P w K mg base 1 "_law_cell_at" ["_law_script", "_law_k"] (oU K)) (W:aH P w K mg base 1 "_law_words" ["_law_cell", "_law_many"] ms) (ag:aH P w K mg base 1 "_law_rule" ["_law_cells", "_law_sides", "_law_words_here", "_law_most"] qU) (ad:aH P w K mg base 36 "_law_code" ["_law_script", "_law_start", "_law_lends", "_law_deep"] (nG K)) (U:aH P w K mg base 1 "_law_slots" ["_law_code_here"] o_) (Z:aH P w K mg base 4 "_law_right" ["_law_code_here", "_law_rule_here", "_law_at", "_law_tokens_here"] nM) (S:aH P w K mg base 2 "_law_tokens" ["_law_cell", "_law_rule_here", "_law_slots_here"] yZ):EK P w K mg base jB 37 f fd ["_law_script"] (oP K):=by
 refine F.ok En (fun vs H Q E h=>by obtain⟨a,ns,rfl,_⟩:=h; rfl) (fun eN A outer s H vs Q E hr h=>?_)
 obtain⟨a,ns,rfl,hS,hn,q⟩:=h
 refine⟨_,(ai (ar 1 En.nd (ay J hr (aa (pv 0 (hv:=pH)) (aa ae ac))))
   (ai (ar 2 En.nd (ak az (ay W hr (aa (ak cK (pv 1) ae) (aa ae ac))) (aY (aa ax (aa ax (aa ax (aa ax ac)))))))
   (ai (lC (El.to (fsc:=(rd aZ)) (N:=["_law_script", "_law_second", "_law_words_here", "_law_cells", "_law_sides", "_law_rule_here", "_law_code_here", "_law_kept", "_law_slots_here", "_law_at", "_law_cell"]) (N0:=["_law_script", "_law_second", "_law_words_here", "_law_cells", "_law_sides", "_law_rule_here", "_law_code_here", "_law_kept", "_law_slots_here", "_law_at", "_law_cell"]) (T:=["_law_k"]) ⟨by decide +kernel,by decide +kernel,by decide +kernel,by decide +kernel,by decide +kernel,by decide +kernel,by decide +kernel⟩ rfl rfl) rfl En.nd (i:=3) rfl Ld (cZ EN ab (aa ae ac)) (fun _ _ _ _=>(ba 11 (show (["_law_script", "_law_second", "_law_words_here", "_law_cells", "_law_sides", "_law_rule_here", "_law_code_here", "_law_kept", "_law_slots_here", "_law_at", "_law_cell", "_law_k"]:List Str).Nodup from by decide +kernel) (hx:=(hJ (rd aZ) (by decide +kernel))) (hf:=jW (rd aZ) (by decide +kernel)))) (df (show (["_law_script", "_law_second", "_law_words_here", "_law_cells", "_law_sides", "_law_rule_here", "_law_code_here", "_law_kept", "_law_slots_here", "_law_at", "_law_cell"]:List Str).length≤11 from by decide)) (fun _ _ _ _=>gE) (fun _ _ _ _=>(ay J hr (aa (pv 0 (hv:=(cQ (rd aZ) (by decide +kernel)))) (aa (ak az ae (pv 11 (hv:=(cQ (rd aZ) (by decide +kernel))))) ac)) (hg:=(n5 (rd aZ) (by decide +kernel))))))
   (ai (ar 4 En.nd (ak az ae (ak bq (ak cK (ao (aw K) (pv 3) ae (fun _ _=>rfl)) ae) ae)))
   (ai (ar 5 En.nd (ay ag hr (aa (pv 3) (aa (pv 4) (aa (pv 2) (aa (ao (aw K) (aY (aa ae (aa ae ac))) (cM eT b1 gw (aa (cY bb (ak bq (ak cK (ao (aw K) (pv 3) ae (fun _ _=>rfl)) ae) ae) ae (aF _)) ac)) (fun _ _=>rfl)) ac))))))
   (ai (ar 6 En.nd (ay ad hr (aa (pv 0 (hv:=pH)) (aa ae (aa ae (aa ae ac))))))
   (ai (ar 7 En.nd (aY (aa (cM (iL K) Y gn (aa (pv 6) ac)) (aa (cM (iL K) Y gn (aa (ao (aw K) (pv 5) ae (fun _ _=>rfl)) ac)) (aa (fI (El.to (fsc:=(rd aZ)) (N:=["_law_script", "_law_second", "_law_words_here", "_law_cells", "_law_sides", "_law_rule_here", "_law_code_here", "_law_kept", "_law_slots_here", "_law_at", "_law_cell"]) (N0:=["_law_script", "_law_second", "_law_words_here", "_law_cells", "_law_sides", "_law_rule_here", "_law_code_here", "_law_kept", "_law_slots_here", "_law_at", "_law_cell"]) (T:=["_law_room"]) ⟨by decide +kernel,by decide +kernel,by decide +kernel,by decide +kernel,by decide +kernel,by decide +kernel,by decide +kernel⟩ rfl rfl) rfl (ci K (ao (aw K) (pv 5) ae (fun _ _=>rfl))) (fun _ _ _ _=>(ba 11 (show (["_law_script", "_law_second", "_law_words_here", "_law_cells", "_law_sides", "_law_rule_here", "_law_code_here", "_law_kept", "_law_slots_here", "_law_at", "_law_cell", "_law_room"]:List Str).Nodup from by decide +kernel) (hx:=(hJ (rd aZ) (by decide +kernel))) (hf:=jW (rd aZ) (by decide +kernel)))) (df (show (["_law_script", "_law_second", "_law_words_here", "_law_cells", "_law_sides", "_law_rule_here", "_law_code_here", "_law_kept", "_law_slots_here", "_law_at", "_law_cell"]:List Str).length≤11 from by decide)) (fun _ _ _ _=>gE) (fun _ _ _ _=>(cM (iL K) Y gn (aa (pv 11 (hv:=(cQ (rd aZ) (by decide +kernel)))) ac) (hg:=(n5 (rd aZ) (by decide +kernel)))))) ac)))))
   (ai (ar 8 En.nd (ay U hr (aa (pv 6) ac)))
   (ai (b6 wG rfl (cZ EN ab (aa (bi (aV K) a4 bK (aa (ao (aw K) (pv 7) ae (fun _ _=>rfl)) ac)) ac)) (ba 9 En.nd) (ai (ar 10 En.nd (kD (aB (mF K hr) (pv 0 (hv:=pH)) (aY ac) (aF _)) (ao (aw K) (pv 0 (hv:=pH)) (ak bq (ak cz (pv 9) ae) (bi (aV K) a4 bK (aa (pv 0 (hv:=pH)) ac))) (fun _ _=>rfl)) (pv 9)))
   (aj (bC (jp (dU (ay Z hr (aa (pv 6) (aa (pv 5) (aa (pv 9) (aa (ay S hr (aa (ak cK (pv 10) ae) (aa (pv 5) (aa (pv 8) ac)))) ac))))))) (aj (aJ fP)) bz))))
   (aj (aJ (lI (cY (h9 K hr) (pv 6) (ao (aw K) (pv 7) ae (fun _ _=>rfl)) (aF _)) (lI (cY (h9 K hr) (ao (aw K) (pv 5) ae (fun _ _=>rfl)) (ao (aw K) (pv 7) ae (fun _ _=>rfl)) (aF _)) (oV (cY (h9 K hr) (ao (aw K) (pv 5) ae (fun _ _=>rfl)) (ao (aw K) (pv 7) ae (fun _ _=>rfl)) (aF _)))))))))))))))),?_⟩
 walk_at "r";refine⟨a,ns,1,rfl,hS,by decide,?_⟩
 generalize ns.getD (Int.toNat 1) 0=c1
 walk_at "n";refine⟨⟨by decide,by decide⟩,?_⟩
 refine⟨c1 / 2,2,rfl,by decide,fun wp ws H2 s2 eA e2 cd dn=>?_⟩
 walk_at "r";refine⟨by decide,fun x4 ek=>?_⟩
 have s3:=ah ek (.lst [V.str "open", .str "lend", .str "back", .str "end"]);have e3:upd H2 x4 (.lst [V.str "open", .str "lend", .str "back", .str "end"]) x4=some (.lst ((["open", "lend", "back", "end"]:List Str).map V.str)):=af
 generalize upd H2 x4 (.lst [V.str "open", .str "lend", .str "back", .str "end"])=H3 at s3 e3 ⊢;refine⟨_,_,s3 _ _ e2,e3,by rw[ze,ze,cd]; exact aX (by simp),fun wq d2=>?_⟩
 have s4:=ah d2 (.lst (ws.map V.str++(["open", "lend", "back", "end"]:List Str).map V.str));have e4:upd H3 wq (.lst (ws.map V.str++(["open", "lend", "back", "end"]:List Str).map V.str)) wq=some (.lst ((ws++(["open", "lend", "back", "end"]:List Str)).map V.str)):=by rw[af,zP]
 generalize upd H3 wq (.lst (ws.map V.str++(["open", "lend", "back", "end"]:List Str).map V.str))=H4 at s4 e4 ⊢;have a7:∀ x∈ws++(["open", "lend", "back", "end"]:List Str),dR x:=Bc dn
 have bt:(ws++(["open", "lend", "back", "end"]:List Str)).length=6:=by rw[zr,cd]; rfl
 generalize ws++(["open", "lend", "back", "end"]:List Str)=d6 at e4 a7 bt;have O:=(s2.trans s3).trans s4;clear s2 s3 s4 e3 e2 cd dn;have dc:=O.seq hS;walk_at "n";refine⟨by decide,by decide,fun L hL=>?_⟩
 rw[show Int.toNat 6=6 from rfl];refine jV (fun j ys H'=>rm H4 H'∧H' L=some (.lst ys)∧∃ cs:List Int,ys=cs.map V.int∧cs.length=j) ⟨ah hL _,af,[],rfl,rfl⟩ ?_ ?_
 ·rintro j ys H' hj ⟨sm,hl,cs,rfl,a6⟩
  walk_at "r";refine⟨a,ns,2+(0+(j:Int)),rfl,sm.seq dc,by omega,?_⟩
  refine kY hj (by rw[ze]; exact a6) (aX (by omega)) hl ⟨sm.upd hL _,af,cs++[ns.getD (2+(0+(j:Int))).toNat 0],q_ _ _,kq a6⟩
 rintro ys H5 ⟨s5,e5,cs,rfl,a6⟩
 have ev:H L=none:=O.free hL
 have eu:=O.trans s5;walk_at "n";obtain⟨k1,bp⟩ : ∃ k1:Int,(cs.map V.int)[1]? = some (.int k1):=⟨_,by rw[zy,zg (show 1<cs.length by omega)]; rfl⟩
 refine⟨_,_,.inl (ud.of e5),av (j:=1) bp,?_⟩
 walk_at "r";have c4:∃ sd:Int,1+k1 / 2048 % 2=sd∧(sd=1∨sd=2):=⟨_,rfl,by omega⟩
 obtain⟨sd,eg,ew⟩:=c4
 refine⟨⟨by decide,by decide⟩,by decide,?_⟩
 rw[eg];walk_at "n";refine⟨by decide,fun yp c3=>?_⟩
 have s6:=ah c3 (.lst [V.int 4,V.int 60]);have e6:upd H5 yp (.lst [V.int 4,V.int 60]) yp=some (.lst [V.int 4,V.int 60]):=af
 generalize upd H5 yp (.lst [V.int 4,V.int 60])=H6 at s6 e6 ⊢;refine⟨_,_,.inl (ud.of (s6 _ _ e5)),av (j:=1) bp,?_⟩
 walk_at "r"
 have hm:∃ m:Nat,cJ [V.int 4,V.int 60] (if k1 / 256 % 8=5 then 1 else 0)=some (.int (m:Int))∧1≤m∧m≤60:=by
  split
  ·exact⟨60,rfl,by decide,by decide⟩
  ·exact⟨4,rfl,by decide,by decide⟩
 obtain⟨m,hm,m0,m1⟩:=hm
 refine⟨⟨by decide,by decide⟩,by decide,_,_,.inl (ud.of e6),hm,?_⟩
 have cl:=s5.trans s6;refine⟨L,wq,cs,d6,m,sd,rfl,ew,s6 _ _ e5,a6,cl _ _ e4,by omega,fun x hx=>(a7 x hx).1,m0,m1,fun p H7 rl s7 hp hR ok eF=>?_⟩
 have b3:=(O.trans cl).trans s7;clear hm e6 c3 e5 a6 hL ev e4 a7 bt;walk_at "n";refine⟨a,ns,rfl,b3.seq hS,fun cq H8 R N s8 eE hC cv hN eS=>?_⟩
 have b4:=hR.mono s8;have du:=b3.trans s8;clear hR hp s7 cl s6 eu O s5 dc;obtain⟨as,ea,eb⟩:=id hC
 have hl:=aI eb;obtain⟨pw,pr,bs,r1,r2,r3⟩:=id b4
 walk_at "n";refine⟨_,.inl (ud.of ea),fun k0 dl=>?_⟩
 have s9:=ah dl (.lst (as.map V.ref));have e9:upd H8 k0 (.lst (as.map V.ref)) k0=some (.lst (as.map V.ref)):=af
 generalize upd H8 k0 (.lst (as.map V.ref))=H9 at s9 e9 ⊢;refine⟨_,_,.inr (vr.of (s9 _ _ r1)),rfl,?_⟩
 walk_at "r";refine⟨_,.inl (ud.of (s9 _ _ r2)),fun al da=>?_⟩
 have be:=ah da (.lst (rl.ws.map V.str));have ca:upd H9 al (.lst (rl.ws.map V.str)) al=some (.lst (rl.ws.map V.str)):=af
 generalize upd H9 al (.lst (rl.ws.map V.str))=ey at be ca ⊢;have a9:=s9.trans be;have b0:=r3.mono a9;refine⟨_,_,.inr (vr.of (a9 _ _ r1)),rfl,?_⟩
 walk_at "r";refine⟨⟨_,ud.of b0.1⟩,fun M hM=>?_⟩
 refine vZ b0 ok.n1 hM (fun a xs H' C z1 z2=>?_) (fun c9 ds dV hB _ _=>?_)
 ·walk_at "r"
  exact⟨_,.inl (ud.of z1),z2⟩
 walk_at "r";refine⟨by decide,fun kp dP=>?_⟩
 have bg:=ah dP (.lst [.ref k0,.ref al,.ref M]);have a8:upd c9 kp (.lst [.ref k0,.ref al,.ref M]) kp=some (.lst [.ref k0,.ref al,.ref M]):=af
 generalize upd c9 kp (.lst [.ref k0,.ref al,.ref M])=cB at bg a8 ⊢;have d5:=hB.mono bg;have sb:=dV.trans bg;have c5:=(be.trans sb) _ _ e9;have dm:=sb _ _ ca;have a3:=a9.trans sb;have dt:=hC.mono a3;have cb:=b4.mono a3;have c0:=du.trans a3;have b2:=c0.seq hS;have ee:=a3 _ _ ea;have eq:Paired (bh cB) as R:=Paired.imp' (fun _ _ z=>a3 _ _ z) eb
 clear hB b0 b4 s9 be dV bg e9 ca hC ea eb a3 a9 sb b3 du c0 r3 r2 r1 hM da dl dP;obtain⟨pw,pr,bs,r1,r2,r3⟩:=id cb
 walk_at "n";refine⟨cq,R,N,rfl,dt,cv,fun Ms e7 cc e0=>?_⟩
 walk_at "n";refine⟨_,_,.inl (ud.of (cc _ _ a8)),rfl,?_⟩
 walk_at "r";refine⟨_,.inl (ud.of (cc _ _ c5)),?_⟩
 rw[ze,hl];refine⟨by omega,by omega,?_⟩
 rw[vO];refine dy (fun i σ H'=>∃ o9 cA:Option V,σ=[some (.ref a),some (.int c1),some (.ref wq),some (.ref L),some (.int sd),some (.ref p),some (.ref cq),some (.ref kp),some (.int (Ms:Int)),o9,cA]∧rm cB H') ⟨_,_,rfl,cc⟩ ?_ ?_
 ·rintro i σ H' hi ⟨o9,cA,rfl,sm⟩
  have em:=zg hi;have d8:=cv _ (v5 hi);rw[zaE];refine fY (fun σ' H'=>∃ cell:Int,σ'=[some (.ref a),some (.int c1),some (.ref wq),some (.ref L),some (.int sd),some (.ref p),some (.ref cq),some (.ref kp),some (.int (Ms:Int)),some (.int (i:Int)),some (.int cell)]∧rm cB H') (fun k hk=>?_) ?_
  ·walk_at "r"
   refine⟨by decide,fun ep d7=>?_⟩
   have O:=ah d7 (.lst []);refine⟨0,_,by decide,Eo.ints (ts:=[]) ((sm.trans O).seq b2) (ud.of af),?_⟩
   generalize upd H' ep (.lst [])=ec at O ⊢;have an:=sm.trans O;refine bd (fun c=>?_) (fun c=>?_)
   ·have ez:0<ns.length:=by
     cases ns with
     | nil=>exact absurd c (by decide)
     | cons _ _=>simp
    refine⟨.inr ⟨by decide,by decide⟩,_,.inl (an.seq b2),?_⟩
    rw[ze];obtain⟨v,hv,_⟩:=yN (xs:=ns) (i:=(i:Int) * 5 % (ns.length:Int)) (rD _ (by omega)) (lY _ (by omega))
    refine⟨by omega,_,_,.inl (an.seq b2),je (rD _ (by omega)) hv,?_⟩
    exact hk _ _ ⟨v,rfl,an⟩
   ·exact hk _ _ ⟨_,rfl,an⟩
  rintro σ' ec ⟨cell,rfl,O⟩
  walk_at "n";refine⟨⟨by decide,by decide⟩,?_⟩
  refine⟨cell / 3,p,rl,Ms,rfl,by omega,cb.mono O,ok,fun T1 eH bs eo eB ej d1 d4=>?_⟩
  obtain⟨ei,hT,hA⟩:=tD d4
  have a5:=O.trans eo;refine⟨cq,p,T1,R,rl,R[i],i,N,bs,ei,rfl,dt.mono a5,em,cb.mono a5,ok,d8,hN,ej,hT,by rw[← hT.1]; exact d1,hA,fun eM d9=>⟨_,rfl,?_⟩⟩
  rw[He (by decide)]
  exact⟨_,_,rfl,a5.trans d9⟩
 ·rintro σ H' ⟨o9,cA,rfl,sm⟩
  walk_at "n";refine⟨_,_,.inl (ud.of (sm _ _ a8)),rfl,?_⟩
  walk_at "r";have et:=sm _ _ ee;have d3:Paired (bh H') as R:=Paired.imp' (fun _ _ z=>sm _ _ z) eq
  refine⟨1,true,by decide,Eo.seq (.inl ⟨ud.of et,ud.of (sm _ _ c5)⟩) rfl (fun i x y e1 e2=>?_),?_⟩
  ·rw[e1]at e2
   cases e2;have hi:i<as.length:=by have:=(Hd.mp e1).1; simpa using this
   rw[zy,zg hi]at e1
   cases e1;obtain⟨r,ed,c2⟩:=b8 d3 (zg hi)
   exact Eo.seqFlat (.inr ⟨vr.of c2,vr.of c2⟩) (cv r (vx ed)).flat
  rw[Hf rfl];refine⟨_,_,.inr (vr.of (sm _ _ r1)),rfl,_,_,.inl (ud.of (sm _ _ a8)),rfl,?_⟩
  walk_at "r";refine⟨0,true,by decide,Eo.seqFlat (.inl ⟨ud.of (sm _ _ r2),ud.of (sm _ _ dm)⟩) (yn _),?_⟩
  rw[Hf rfl];refine⟨_,_,.inr (vr.of (sm _ _ r1)),rfl,_,_,.inl (ud.of (sm _ _ a8)),rfl,?_⟩
  walk_at "r";exact⟨1,true,by decide,AG (r3.mono sm) (d5.mono sm),q H'⟩
end
theorem zL{K:W.Frag}{a0 a1 a2 F S U O J:Addr}(Z:∀ H:Hp,vr K H a0 [.str "name"]) (q1:∀ H:Hp,vr K H a1 [.str "word", .str "name"]) (Y:∀ H:Hp,vr K H a2 [.str "name", .str "name"]) (q3:∀ H:Hp,vr K H F [.str "name"]) (q4:∀ H:Hp,vr K H S [.str "name", .str "name"]) (q5:∀ H:Hp,vr K H U [.str "name", .str "name", .str "steps"]) (q6:∀ H:Hp,vr K H O [.str "bound", .str "steps", .str "steps"]) (q7:∀ H:Hp,vr K H J [.str "bound", .str "steps"]) :
  ∀ kind ks,(kind,ks)∈dE→∃ a,cf [(("open" : Str),V.ref a0),(("do" : Str),V.ref a1),(("copy" : Str),V.ref a2),(("drop" : Str),V.ref F),(("tie" : Str),V.ref S),(("lend" : Str),V.ref U),(("if" : Str),V.ref O),(("while" : Str),V.ref J)] kind=some (.ref a)∧∀ H:Hp,vr K H a (ks.map V.str):=by
 intro kind ks h
 simp only[dE,zK,Prod.mk.injEq,ma,or_false]at h
 rcases h with ⟨rfl,rfl⟩ | ⟨rfl,rfl⟩ | ⟨rfl,rfl⟩ | ⟨rfl,rfl⟩ | ⟨rfl,rfl⟩ | ⟨rfl,rfl⟩ | ⟨rfl,rfl⟩ | ⟨rfl,rfl⟩
 ·exact⟨a0,rfl,Z⟩
 ·exact⟨a1,rfl,q1⟩
 ·exact⟨a2,rfl,Y⟩
 ·exact⟨F,rfl,q3⟩
 ·exact⟨S,rfl,q4⟩
 ·exact⟨U,rfl,q5⟩
 ·exact⟨O,rfl,q6⟩
 ·exact⟨J,rfl,q7⟩
def b7(K:W.Frag)(x:Str)(st:Stmt):Prop:=∃ (f:Addr) (od an:Option Addr) (sl:Array (Option Value)) (oc kV dc pm cd ct:Value),W.nsIn K mainGlobals x=some (some (.ref f))∧K.lookup f=some ⟨oc,od,.func (W.fnOf x x (DM st) (Dq st) (rd st) .none kV dc pm an cd ct),sl⟩∧W.codeIn K cd x=true∧W.keepIn K (.ref f)=true
theorem dfe_mk{K:W.Frag}{x:Str}{st:Stmt}{f:Addr}{U O:Option Addr}{J:Array (Option Value)}{Y kV S pm F ct:Value}(a:W.nsIn K mainGlobals x=some (some (.ref f)))(l:K.lookup f=some ⟨Y,U,.func (W.fnOf x x (DM st) (Dq st) (rd st) .none kV S pm O F ct),J⟩)(c:W.codeIn K F x=true)(k:W.keepIn K (.ref f)=true):b7 K x st:=⟨f,U,O,J,Y,kV,S,pm,F,ct,a,l,c,k⟩
theorem aW{K:W.Frag}{h:Heap}{mg:Str→Option Value}{x:Str}{st:Stmt}(X:K.In h)(G:h.Ns mainGlobals mg)(e:b7 K x st):Ab K mg x st:=by
 obtain⟨f,U,J,F,Y,kV,S,pm,O,ct,a,l,c,k⟩:=e
 exact⟨f,_,qg (st:=st) l c k,zaL X G a⟩
theorem all_mk{l:W.OpenLaw}{w:World}{K:W.Frag}{h:Heap}{mg:Str→Option Value}{fa:Addr}(X:K.In h)(G:h.Ns mainGlobals mg)(na:mg "law" = some (.ref fa))
  {J:Addr} {O:Addr} {cl cb:Option Addr} {b3:Array (Option Value)} {ca b4 cd cc U cq:Value} {c4:Addr} {hs:Nat} {eE:Tok} {an:Addr} {hL:Option Addr} {ko:Nat} {hS:Array (Option Value)} {ha:Tok} {eN:Tok} {b2:Addr} {hY:Option Addr} {j2:Nat} {hn:Array (Option Value)} {g4:Tok} {g8:Tok} {eS:Tok} {bt:Addr} {il:Option Addr} {i6:Nat} {hu:Array (Option Value)} {hc:Tok} {gc:Tok} {eH:Tok} {b1:Addr} {hD:Option Addr} {j3:Nat} {hR:Array (Option Value)} {gy:Tok} {e2:Tok} {bp:Addr} {hA:Option Addr} {le:Nat} {hB:Array (Option Value)} {gI:Tok} {ge:Tok} {eA:Tok} {be:Addr} {ht:Option Addr} {kb:Nat} {hF:Array (Option Value)} {g1:Tok} {g9:Tok} {gt:Tok} {eM:Tok} {ag:Addr} {hN:Option Addr} {kw:Nat} {h4:Array (Option Value)} {gz:Tok} {g2:Tok} {hm:Tok} {e0:Tok} {as:Addr} {hW:Option Addr} {i5:Nat} {hr:Array (Option Value)} {ga:Tok} {gh:Tok} {al:Addr} {eF:Nat} {dt:Tok} {ab:Addr} {ff:Option Addr} {hj:Nat} {e7:Array (Option Value)} {ev:Tok} {dl:Tok} {Y:Addr} {e6:Option Addr} {gl:Nat} {fx:Array (Option Value)} {eB:Tok} {e1:Tok} {dc:Tok} {ad:Addr} {f2:Option Addr} {gd:Nat} {f4:Array (Option Value)} {ez:Tok}
  (a0:b7 K "next_room" cO)
  (a1:b7 K "is_in" ic)
  (a2:b7 K "without" fU)
  (a3:b7 K "begun_by_open" aQ)
  (a4:b7 K "begun_by_tie" aL)
  (a5:b7 K "begins_at" bO)
  (a6:b7 K "closers_of" dY)
  (a7:b7 K "head_of" eU)
  (a8:b7 K "blocks_of" dG)
  (a9:b7 K "steps_within" bJ)
  (nq:b7 K "names_in" bV)
  (oD:b7 K "lines_of" bn)
  (nh:b7 K "names_of" d_)
  (n2:b7 K "line_behind" cV)
  (o5:b7 K "numbered_step" aP)
  (od:b7 K "numbered_steps" bF)
  (oc:b7 K "lend_lines" bR)
  (oe:b7 K "slots_of" b_)
  (pk:b7 K "simple_row" bL)
  (oi:b7 K "lend_rows" aS)
  (ow:b7 K "if_rows" bG)
  (on:b7 K "loop_rows" bZ)
  (ov:b7 K "while_rows" bv)
  (o4:b7 K "rows_of" bP)
  (m5:b7 K "rows_and_end" bQ)
  (oa:b7 K "code_of" fR)
  (nL:b7 K "turned_code" dB)
  (n4:b7 K "_law_whole" c_)
  (pf:b7 K "_law_cell_at" cW)
  (o7:b7 K "_law_words" aO)
  (nz:b7 K "_law_step" bN)
  (o3:b7 K "_law_put" fW)
  (ol:b7 K "_law_close" b9)
  (np:b7 K "_law_program" aU)
  (o1:b7 K "_law_rule" aM)
  (o2:b7 K "_law_slots" cH)
  (n3:b7 K "_law_has" fT)
  (pb:b7 K "_law_sum_behind" bU)
  (nb:b7 K "_law_next" ef)
  (o9:b7 K "_law_code" bm)
  (pw:b7 K "_law_pair" bS)
  (oL:b7 K "_law_tokens" a_)
  (nf:b7 K "_law_due" bH)
  (o6:b7 K "_law_right" aN)
  (pr:b7 K "law" aZ)
  (fz:W.nsIn K mainGlobals "isinstance" = some none)
  (m0:W.nsIn K mainGlobals "str" = some none)
  (mz:W.nsIn K mainGlobals "int" = some none)
  (mp:W.nsIn K mainGlobals "bool" = some none)
  (l3:W.nsIn K mainGlobals "tuple" = some none)
  (m1:W.nsIn K mainGlobals "len" = some none)
  (l6:W.nsIn K mainGlobals "range" = some none)
  (mm:W.nsIn K mainGlobals "list" = some none)
  (m4:W.nsIn K mainGlobals "zip" = some none)
  (hk:W.nsIn K mainGlobals "enumerate" = some none)
  (ls:W.nsIn K mainGlobals "sorted" = some none)
  (mx:W.nsIn K mainGlobals "set" = some none)
  (mu:W.nsIn K mainGlobals "max" = some none)
  (et:W.nsIn K mainGlobals "NumberedStep" = some (some (.ref J))) (dP:W.plainGet K J Str.empty=true) (ei:W.hasDictIn K J=true) (ee:W.plainOver K J=true) (dV:W.findIn K (.ref J) "__setattr__" = some (some (.builtin "object.__setattr__"))) (eg:W.makesIn K J=true) (ed:W.keepIn K (.ref J)=true)
  (mb:W.findIn K (.ref J) "kind" = some none)
  (lA:W.findIn K (.ref J) "parts" = some none)
  (lE:W.findIn K (.ref J) "lines" = some none)
  (ld:W.findIn K (.ref J) "blocks" = some none)
  (cv:W.findIn K (.ref J) "__init__" = some (some (.ref O))) (cB:W.isFn K (.ref O)=true) (cA:K.lookup O=some ⟨ca,cl,.func (W.fnOf "__init__" "NumberedStep.__init__" (DM aR) (Dq aR) (rd aR) .none b4 cd cc cb U cq),b3⟩) (c0:W.codeIn K U "NumberedStep.__init__" = true) (c2:W.keepIn K (.ref O)=true)
  (l1:W.nsIn K mainGlobals "PARTS" = some (some (.ref c4)))
  (lq:K.lookup c4=some ⟨.type "dict", none,.dict #[⟨PyData.keyHash w.params "open", .str "open" eE,.ref an⟩,⟨PyData.keyHash w.params "do", .str "do" eN,.ref b2⟩,⟨PyData.keyHash w.params "copy", .str "copy" eS,.ref bt⟩,⟨PyData.keyHash w.params "drop", .str "drop" eH,.ref b1⟩,⟨PyData.keyHash w.params "tie", .str "tie" e2,.ref bp⟩,⟨PyData.keyHash w.params "lend", .str "lend" eA,.ref be⟩,⟨PyData.keyHash w.params "if", .str "if" eM,.ref ag⟩,⟨PyData.keyHash w.params "while", .str "while" e0,.ref as⟩] hs,#[]⟩)
  (h3:K.lookup an=some ⟨.type "tuple", hL,.seq #[.str "name" ha] ko,hS⟩)
  (hM:K.lookup b2=some ⟨.type "tuple", hY,.seq #[.str "word" g4,.str "name" g8] j2,hn⟩)
  (hw:K.lookup bt=some ⟨.type "tuple", il,.seq #[.str "name" hc,.str "name" gc] i6,hu⟩)
  (hH:K.lookup b1=some ⟨.type "tuple", hD,.seq #[.str "name" gy] j3,hR⟩)
  (hp:K.lookup bp=some ⟨.type "tuple", hA,.seq #[.str "name" gI,.str "name" ge] le,hB⟩)
  (hP:K.lookup be=some ⟨.type "tuple", ht,.seq #[.str "name" g1,.str "name" g9,.str "steps" gt] kb,hF⟩)
  (hq:K.lookup ag=some ⟨.type "tuple", hN,.seq #[.str "bound" gz,.str "steps" g2,.str "steps" hm] kw,h4⟩)
  (hT:K.lookup as=some ⟨.type "tuple", hW,.seq #[.str "bound" ga,.str "steps" gh] i5,hr⟩)
  (lB:(c4 == sysModules)=false)
  (kx:W.nsIn K mainGlobals "CLOSERS" = some (some (.ref al)))
  (h5:K.lookup al=some ⟨.type "dict", none,.dict #[⟨PyData.keyHash w.params "lend", .str "lend" dt,.ref ab⟩,⟨PyData.keyHash w.params "if", .str "if" dl,.ref Y⟩,⟨PyData.keyHash w.params "while", .str "while" dc,.ref ad⟩] eF,#[]⟩)
  (e8:K.lookup ab=some ⟨.type "tuple", ff,.seq #[.str "back" ev] hj,e7⟩)
  (f1:K.lookup Y=some ⟨.type "tuple", e6,.seq #[.str "else" eB,.str "fi" e1] gl,fx⟩)
  (e9:K.lookup ad=some ⟨.type "tuple", f2,.seq #[.str "done" ez] gd,f4⟩)
  (hG:(al == sysModules)=false) :
  ∃ fd:FuncData,(∀ (s:Shared) (v:Value),BindsTo s fd ⟨[v],[]⟩ [("_law_script", v)])∧∀ base:Heap,K.In base→base.Ns mainGlobals mg→EK l.prog w K mg base jB 37 fa fd ["_law_script"] (oP K):=by
 obtain⟨f9,px,pp,p0,py,m8,n7,pi,pl,ob,ot,l9,c9,k9⟩:=pr
 have e:=na.symm.trans (zaL X G ot)
 cases e;have f8:=aW X G a0;have mc:=aW X G a1;have j1:=aW X G a2;have ej:=aW X G a3;have ek:=aW X G a4;have he:=aW X G a5;have fl:=aW X G a6;have k3:=aW X G a7;have gs:=aW X G a8;have eo:=aW X G a9;have hQ:=aW X G nq;have hK:=aW X G oD;have hO:=aW X G nh;have e5:=aW X G n2;have ec:=aW X G o5;have dm:=aW X G od;have fy:=aW X G oc;have hy:=aW X G oe;have fb:=aW X G pk;have g6:=aW X G oi;have kX:=aW X G ow;have gr:=aW X G on;have f3:=aW X G ov;have kj:=aW X G o4;have em:=aW X G m5;have ka:=aW X G oa;have ew:=aW X G nL;have gp:=aW X G n4;have e4:=aW X G pf;have g7:=aW X G o7;have hE:=aW X G nz;have ky:=aW X G o3;have gb:=aW X G ol;have ey:=aW X G np;have hI:=aW X G o1;have g5:=aW X G o2;have kl:=aW X G n3;have da:=aW X G pb;have h0:=aW X G nb;have ho:=aW X G o9;have h6:=aW X G pw;have f0:=aW X G oL;have io:=aW X G nf;have g3:=aW X G o6;have c5:mg "isinstance" = none:=ml X G fz
 have m3:mg "str" = none:=ml X G m0
 have ea:mg "int" = none:=ml X G mz
 have mt:mg "bool" = none:=ml X G mp
 have h7:mg "tuple" = none:=ml X G l3
 have Z:mg "len" = none:=ml X G m1
 have c3:mg "range" = none:=ml X G l6
 have eu:mg "list" = none:=ml X G mm
 have l0:mg "zip" = none:=ml X G m4
 have dn:mg "enumerate" = none:=ml X G hk
 have eb:mg "sorted" = none:=ml X G ls
 have i3:mg "set" = none:=ml X G mx
 have m2:mg "max" = none:=ml X G mu
 have S:GY K J:=⟨dP,ei,ee,dV⟩
 have lp:Fl K J "kind" := ⟨S,mb⟩
 have hC:Fl K J "parts" := ⟨S,lA⟩
 have e3:Fl K J "lines" := ⟨S,lE⟩
 have f5:Fl K J "blocks" := ⟨S,ld⟩
 have eq:Ff K mg "NumberedStep" J "NumberedStep.__init__" aR:=⟨O,_,qg (st:=aR) cA c0 c2,⟨eg,cv,cB,ed⟩,zaL X G et⟩
 have l4:mg "PARTS" = some (.ref c4):=zaL X G l1
 have l2:E8 w K c4 [("open", .ref an),("do", .ref b2),("copy", .ref bt),("drop", .ref b1),("tie", .ref bp),("lend", .ref be),("if", .ref ag),("while", .ref as)]:=⟨lB,(show (["open", "do", "copy", "drop", "tie", "lend", "if", "while"]:List Str).Nodup from by decide),_,[⟨PyData.keyHash w.params "open", .str "open" eE,.ref an⟩,⟨PyData.keyHash w.params "do", .str "do" eN,.ref b2⟩,⟨PyData.keyHash w.params "copy", .str "copy" eS,.ref bt⟩,⟨PyData.keyHash w.params "drop", .str "drop" eH,.ref b1⟩,⟨PyData.keyHash w.params "tie", .str "tie" e2,.ref bp⟩,⟨PyData.keyHash w.params "lend", .str "lend" eA,.ref be⟩,⟨PyData.keyHash w.params "if", .str "if" eM,.ref ag⟩,⟨PyData.keyHash w.params "while", .str "while" e0,.ref as⟩],hs,lq,⟨rfl,rfl,rfl⟩,rfl,.cons rfl (.cons rfl (.cons rfl (.cons rfl (.cons rfl (.cons rfl (.cons rfl (.cons rfl (.nil))))))))⟩
 have lk:∀ H:Hp,vr K H an [.str "name"]:=fun H=>.inr ⟨_,_,_,h3,rfl,rfl,aX (show 1≤1000000 from by decide),.cons ⟨_,rfl⟩ (.nil)⟩
 have ll:∀ H:Hp,vr K H b2 [.str "word", .str "name"]:=fun H=>.inr ⟨_,_,_,hM,rfl,rfl,aX (show 2≤1000000 from by decide),.cons ⟨_,rfl⟩ (.cons ⟨_,rfl⟩ (.nil))⟩
 have i4:∀ H:Hp,vr K H bt [.str "name", .str "name"]:=fun H=>.inr ⟨_,_,_,hw,rfl,rfl,aX (show 2≤1000000 from by decide),.cons ⟨_,rfl⟩ (.cons ⟨_,rfl⟩ (.nil))⟩
 have ki:∀ H:Hp,vr K H b1 [.str "name"]:=fun H=>.inr ⟨_,_,_,hH,rfl,rfl,aX (show 1≤1000000 from by decide),.cons ⟨_,rfl⟩ (.nil)⟩
 have j0:∀ H:Hp,vr K H bp [.str "name", .str "name"]:=fun H=>.inr ⟨_,_,_,hp,rfl,rfl,aX (show 2≤1000000 from by decide),.cons ⟨_,rfl⟩ (.cons ⟨_,rfl⟩ (.nil))⟩
 have iv:∀ H:Hp,vr K H be [.str "name", .str "name", .str "steps"]:=fun H=>.inr ⟨_,_,_,hP,rfl,rfl,aX (show 3≤1000000 from by decide),.cons ⟨_,rfl⟩ (.cons ⟨_,rfl⟩ (.cons ⟨_,rfl⟩ (.nil)))⟩
 have k4:∀ H:Hp,vr K H ag [.str "bound", .str "steps", .str "steps"]:=fun H=>.inr ⟨_,_,_,hq,rfl,rfl,aX (show 3≤1000000 from by decide),.cons ⟨_,rfl⟩ (.cons ⟨_,rfl⟩ (.cons ⟨_,rfl⟩ (.nil)))⟩
 have kN:∀ H:Hp,vr K H as [.str "bound", .str "steps"]:=fun H=>.inr ⟨_,_,_,hT,rfl,rfl,aX (show 2≤1000000 from by decide),.cons ⟨_,rfl⟩ (.cons ⟨_,rfl⟩ (.nil))⟩
 have k6:mg "CLOSERS" = some (.ref al):=zaL X G kx
 have kt:E8 w K al [("lend", .ref ab),("if", .ref Y),("while", .ref ad)]:=⟨hG,(show (["lend", "if", "while"]:List Str).Nodup from by decide),_,[⟨PyData.keyHash w.params "lend", .str "lend" dt,.ref ab⟩,⟨PyData.keyHash w.params "if", .str "if" dl,.ref Y⟩,⟨PyData.keyHash w.params "while", .str "while" dc,.ref ad⟩],eF,h5,⟨rfl,rfl,rfl⟩,rfl,.cons rfl (.cons rfl (.cons rfl (.nil)))⟩
 have hb:∀ H:Hp,vr K H ab [.str "back"]:=fun H=>.inr ⟨_,_,_,e8,rfl,rfl,aX (show 1≤1000000 from by decide),.cons ⟨_,rfl⟩ (.nil)⟩
 have gO:∀ H:Hp,vr K H Y [.str "else", .str "fi"]:=fun H=>.inr ⟨_,_,_,f1,rfl,rfl,aX (show 2≤1000000 from by decide),.cons ⟨_,rfl⟩ (.cons ⟨_,rfl⟩ (.nil))⟩
 have gx:∀ H:Hp,vr K H ad [.str "done"]:=fun H=>.inr ⟨_,_,_,e9,rfl,rfl,aX (show 1≤1000000 from by decide),.cons ⟨_,rfl⟩ (.nil)⟩
 have F:=qg (st:=aZ) l9 c9 k9;refine⟨W.fnOf "law" "law" (DM aZ) (Dq aZ) (rd aZ) .none m8 n7 pi pp pl ob,fun s v=>.of_eq rfl,fun base _ _=>?_⟩
 have c1:=B2 (P:=l.prog) (w:=w) (base:=base) e4 Z;have d1:=u9 (P:=l.prog) (w:=w) (base:=base) fl k6 kt hb gO gx;have d2:=Cu k3 Z d1;have d3:=wZ gs Z d2;have d4:=mT eo d3 10;have d5:=uS (P:=l.prog) (w:=w) (base:=base) hQ l0 eu l4 l2 (zL lk ll i4 ki j0 iv k4 kN);have d6:=AJ (vh hO d5 d4);have d7:=pz hK m3 l0 d1 d2 d3 10;have d8:=oR fy dn d7;have d9:=y7 (NO:=FK) FK.mono hy dn (w4 d6 (k:=15) (by decide)) d8
 have k0:=AH (P:=l.prog) (w:=w) (base:=base) eq lp hC e3 f5;have b0:=yR (P:=l.prog) (w:=w) (base:=base) e5 Z e3;have n0:=uk ec dm d2 d3 b0 k0 10;have r0:=tj (P:=l.prog) (w:=w) (base:=base) kj g6 kX gr f3 fb Z h7 lp hC e3 f5 10;have r1:=wg (NO:=FK) (d:=10) (k:=33) FK.mono em (by decide) n0 r0 (w4 d9 (by decide)) b0 (by decide) (by decide)
 have r2:=yk ew r1;have r3:=BX ka r1;have pu:=Fu (P:=l.prog) (w:=w) (base:=base) ky;have pg:=wL ey Z ea (Ca hE Z) pu (zu gb pu);have ii:=CJ (P:=l.prog) (w:=w) (base:=base) mc;have nr:=CD (P:=l.prog) (w:=w) (base:=base) f8;have bg:=B0 he i3 eb (Cy ej Z nr (vb j1)) (CC ek Z ii);have lh:=Cj (P:=l.prog) (w:=w) (base:=base) kl;have ln:=Ao (P:=l.prog) (w:=w) (base:=base) h0;have du:=zc io Z i3 eb ln (E4 da ea lh) lh;have rg:=vB g3 c5 eu h7 Z du bg (FL gp c5 ea mt);have wd:=zj (P:=l.prog) (w:=w) (base:=base) g7 c3 ea;have pa:=BV (P:=l.prog) (w:=w) (base:=base) h6 ea c3;exact DA F Z c3 eu ea c1 wd (yH hI c3 Z eb i3) (Ak ho c1 wd pg r3 r2) (yr g5 m2) rg (Ce f0 c3 Z eu pa)
theorem walk{l:W.OpenLaw}{q:Program}{loose:List Str}{XP:(Str→Option Value)→Heap→Prop}{YP:World→Heap→Prop}{d:DefRec}{K:Params→W.Frag}(S:l.most=some 63)(J:d.params.defaults=[])
  (O:∀ (w:World) (h:Heap),YP w h→(K w.params).In h)
  (F:∀ (w:World) (mg:Str→Option Value) (fa:Addr) (h:Heap),(K w.params).In h→h.Ns mainGlobals mg→mg d.name=some (.ref fa)→
   ∃ fd:FuncData,(∀ (s:Shared) (u:Value),BindsTo s fd ⟨[u],[]⟩ [("_law_script", u)])∧∀ base:Heap,(K w.params).In base→base.Ns mainGlobals mg→EK l.prog w (K w.params) mg base jB 37 fa fd ["_law_script"] (oP (K w.params))) :
  W.WalkO q loose XP YP l.row.toRowW d [] (fun f vs=>PySem.call f vs):=
 L2.Fp (n:=63) (k:=37) (x := "_law_script") (CX:=fun _=>jB) (sp:=fun w=>oP (K w.params)) S (by decide) J ⟨rfl,by decide,by decide⟩ O F (fun _ _ a ns hl _ U=>⟨a,ns,rfl,U,hl,fun _=>rfl⟩) fun _ _ _ _ _ z=>z
end K53
end
open PySem PySem.W PyProof.Rows
set_option maxRecDepth 100000 in
set_option maxHeartbeats 0 in
theorem PySem.Challenge.cw_usewarden_k53_what_begins_holds : PySem.Challenge.rw_usewarden_k53_what_begins.Holds := by
 w_on
 refine holds_law (by decide +kernel) fun said=>?_
 refine holds_open (q:=K53.qq) (loose:=K53.loo) (Xt:=K53.xt) (XP:=XL K53.qq []) (Yf:=Hook.obs (kHook K53.KK K53.kk K53.kk_eq)) (Ya:=Hook.val (kHook K53.KK K53.kk K53.kk_eq)) (YP:=Hook.says (kHook K53.KK K53.kk K53.kk_eq)) (N:=3964) K53.hl (Hook.of (kHook K53.KK K53.kk K53.kk_eq)) (Hook.keeps (kHook K53.KK K53.kk K53.kk_eq)) (fun s e=>xl_of s (Bool.and_eq_true_iff.mp e).1) XL.keeps (by rfl) (by rfl) (by rfl) (fun s e=>recFacts_of (Bool.and_eq_true_iff.mp e).2) (by rfl) said (by decide +kernel) ⟨rfl,rfl,rfl,rfl,rfl,by decide +kernel⟩ ?hw ?hc
 (case hw=>w_witness2)
 k_fill
 refine K53.walk (l:=PySem.Challenge.rw_usewarden_k53_what_begins) rfl rfl (fun w h Y=>PySem.W.kIn_of Y) ?F
 case F=>
  intro w mg fa h KX G hmg
  refine' K53.all_mk KX G hmg ?_ ?_ ?_ ?_ ?_ ?_ ?_ ?_ ?_ ?_ ?_ ?_ ?_ ?_ ?_ ?_ ?_ ?_ ?_ ?_ ?_ ?_ ?_ ?_ ?_ ?_ ?_ ?_ ?_ ?_ ?_ ?_ ?_ ?_ ?_ ?_ ?_ ?_ ?_ ?_ ?_ ?_ ?_ ?_ ?_ ?_ ?_ ?_ ?_ ?_ ?_ ?_ ?_ ?_ ?_ ?_ ?_ ?_ ?_ ?_ ?_ ?_ ?_ ?_ ?_ ?_ ?_ ?_ ?_ ?_ ?_ ?_ ?_ ?_ ?_ ?_ ?_ ?_ ?_ ?_ ?_ ?_ ?_ ?_ ?_ ?_ ?_ ?_ ?_ ?_ ?_
  all_goals first | (refine' K53.dfe_mk ?a ?l ?c ?k; (case a=>k_is); (case l=>k_is); (case c=>k_is); (case k=>k_is)) | k_is | exact⟨_,by k_is⟩ | kernel_rfl | skip
#print axioms PySem.Challenge.cw_usewarden_k53_what_begins_holds
