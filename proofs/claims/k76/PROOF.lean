import PyProof.Rows.All
import Wide.All
import OpenK.AllK
import Wide.FinOn
import Lean
import PyProof.EqAt
import PyProof.EqKinds
import PyProof.TupleCall
import PyProof.SetScanFacts
import PyProof.SetKind
import PyProof.SetRoads
import PyProof.Rows.SetFrom
import PyProof.FactsBase
import PyProof.TableTree
import PyProof.FactsTree
import PyProof.PlainAttrs
import PyProof.FactsAll.set_1
import PyProof.CollectIter
import PyProof.FactsAll.set
import PyProof.ZipIter
import PyProof.EnumIter
import PyProof.TupleIter
import KE.KRevIter
import KE.KDictList
import PyProof.Rows.SumAny
import KE.KIntText
import PyProof.StrLawsTight
import PyProof.StrLawsChain
import PyProof.Rows.SortStr
import PyProof.Rows.StrNews2
import PyProof.StrLawsFirst
import PyProof.AutoSeq1
import OpenK.KOwn
import PyProof.Rows.CatchOwn
import KE.KDictOf
import PyProof.DictItems
import PyProof.NeKinds
import KE.KPairComp
import PyProof.FactsAll.tuple_2
import PyProof.FactsAll.tuple_3
import KE.KDictLaws
import PyProof.FactsAll.dict_3
import PyProof.MinMaxWalk
import PyProof.WalkInts
import PyProof.Cells
import KE.KUnpack
import PySem.Challenge.RW_usewarden_k76_whole_laid_is_joined
set_option Elab.async false
set_option linter.all false
set_option maxRecDepth 100000
set_option maxHeartbeats 4000000
namespace L2
open PySem
abbrev HG:=@PySem.wpAny_bind
abbrev HI:=@PySem.wpAny_pure
abbrev HL:=@List.getElem?_eq_some_iff
abbrev HM:=@List.idxOf_lt_length_iff
abbrev HN:=@List.mem_iff_getElem
abbrev HP:=@_root_.if_neg
abbrev HQ:=@List.mem_singleton
abbrev HR:=@List.mem_map
abbrev HS:=@_root_.if_pos
abbrev HV:=@List.mem_range
abbrev HW:=@List.mem_cons
abbrev HX:=@List.mem_append
abbrev HY:=@List.nodup_cons
abbrev HZ:=@List.pairwise_map
abbrev Ia:=@List.mem_filter
abbrev Ib:=@Option.map_eq_some_iff
abbrev Ie:=@List.nodup_append
abbrev Ig:=@List.getElem?_eq_none_iff
abbrev Ih:=@List.pairwise_iff_getElem
abbrev Ii:=@Option.isSome_iff_exists
abbrev Ik:=@List.mem_filterMap
abbrev Il:=@PySem.F.args_zip_next_1
abbrev Im:=@List.all_eq_true
abbrev Io:=@PySem.F.entry_zip_next
abbrev Iq:=@List.mem_flatMap
abbrev za:=@List.getElem?_eq_getElem
abbrev zc:=@List.length_map
abbrev ze:=@List.getElem?_map
abbrev zg:=@Nat.le_refl
abbrev zl:=@List.getElem_mem
abbrev zp:=@List.getD_eq_getElem?_getD
abbrev zA:=@Heap.lt_size
abbrev zB:=@Ne.symm
abbrev zD:=@Heap.get?_push_of_some
abbrev zM:=@Nat.ne_of_lt
abbrev zU:=@List.mem_cons_of_mem
abbrev zV:=@List.length_append
abbrev zX:=@List.mem_of_getElem?
abbrev z9:=@List.map_append
abbrev wd:=@Heap.get?_push_size
abbrev wZ:=@List.mem_cons_self
abbrev va:=@Nat.lt_of_lt_of_le
abbrev vc:=@List.length_take
abbrev vg:=@Nat.le_trans
abbrev vn:=@Bool.false_ne_true
abbrev vt:=@List.getElem?_append_left
abbrev vx:=@List.size_toArray
abbrev vy:=@List.take_add_one
abbrev vB:=@List.mem_cons
abbrev vR:=@List.length_cons
abbrev yS:=@List.getElem?_append_right
abbrev yT:=@Nat.zero_le
abbrev y0:=@Array.length_toList
abbrev y6:=@List.mem_append_right
abbrev xq:=@List.map_cons
abbrev x6:=@Nat.lt_or_ge
abbrev gV:=@List.getElem_idxOf
abbrev ph:=@List.lookup_cons
abbrev mW:=@List.mem_append_left
abbrev uT:=@Int.toNat_natCast
abbrev uV:=@Nat.le_of_lt
abbrev u3:=@Heap.size_push
abbrev oQ:=@List.getElem?_eq_none
abbrev rB:=@Heap.SameBut.update
abbrev rG:=@PassesOwn.never
abbrev rP:=@List.take_length
abbrev su:=@Nat.ne_of_gt
abbrev sG:=@Bool.and_eq_true
abbrev sT:=@Bool.false_eq_true
abbrev iO:=@Classical.byContradiction
abbrev iP:=@List.length_range
abbrev FZ:=@F.plainAttrs_list
abbrev F9:=@List.map_map
abbrev F6:=@W.mg_none_of
abbrev Gb:=@Heap.get?_update_self
abbrev Gh:=@Nat.le_add_right
abbrev Gd:=@List.take_of_length_le
abbrev Gp:=@List.append_nil
abbrev Gn:=@List.getElem?_range
abbrev Gq:=@Nat.zero_add
abbrev Gv:=@W.kia_one
abbrev Gu:=@List.mem_nil_iff
abbrev Gz:=@List.range_succ
abbrev Gy:=@F.slot_list_append
abbrev Gw:=@F.type_list_append
abbrev GC:=@List.append_assoc
abbrev GG:=@Bool.not_true
abbrev GD:=@Array.getElem?_eq_getElem
abbrev GL:=@List.length_drop
abbrev GH:=@Nat.lt_trans
abbrev GP:=@W.mg_of
abbrev GN:=@List.map_congr_left
abbrev GS:=@List.map_nil
abbrev GW:=@Bool.or_eq_true
abbrev GQ:=@List.nodup_nil
abbrev GV:=@List.idxOf_append
abbrev GT:=@List.take_append_drop
abbrev GU:=@List.mem_of_mem_take
abbrev Hc:=@Nat.lt_irrefl
abbrev Hg:=@Bool.eq_iff_iff
abbrev Hi:=@List.getElem?_replicate
abbrev Ha:=@Heap.get?_update_other
abbrev He:=@List.length_nil
abbrev GZ:=@Nat.le_succ
abbrev G0:=@Nat.not_lt_zero
abbrev Hb:=@List.getElem?_cons_succ
abbrev Hj:=@List.filterMap_cons_some
abbrev Hz:=@List.getElem_inj
abbrev HF:=@List.replicate_succ
abbrev Hq:=@List.length_singleton
abbrev Hn:=@List.nil_append
abbrev HA:=@List.forIn_cons
abbrev Hl:=@List.any_eq_true
abbrev Hx:=@Around.under_plainId
abbrev Hk:=@List.not_mem_nil
abbrev Hw:=@List.filterMap_cons_none
abbrev Hu:=@List.getElem_map
abbrev Ho:=@Int.zero_add
abbrev zaV:=@Paired.length
abbrev zaW:=@PyProof.Rows.callWith_type1
abbrev zaX:=@List.any_cons
abbrev zaY:=@List.foldl_cons
abbrev zaZ:=@Nat.add_comm
abbrev za0:=@List.find?_cons
abbrev za1:=@List.cons_append
abbrev za2:=@List.all_eq_true
abbrev za3:=@List.ext_getElem?
abbrev za4:=@List.idxOf_cons
abbrev za5:=@Bool.not_false
abbrev za6:=@Heap.SameBut.refl
abbrev za7:=@Obj.data_mapFields
abbrev za8:=@F.plain_extend_loop
abbrev za9:=@List.forIn_nil
abbrev zba:=@Array.getD_eq_getD_getElem?
abbrev zbb:=@List.Perm.refl
abbrev zbc:=@List.map_take
abbrev zbd:=@Nat.mod_eq_of_lt
abbrev zbe:=@List.getElem?_zipWith
abbrev zbf:=@W.hideAll_get
abbrev zbg:=@PySem.mem_of_lookup
abbrev zbh:=@Option.isSome_map
abbrev zbi:=@Nat.le_of_not_lt
abbrev zbj:=@F.slot_list_index
abbrev zbk:=@List.mem_singleton
abbrev zbl:=@Array.getElem?_toList
abbrev zbm:=@Obj.isFreed_of_fields
abbrev zbn:=@List.ext_getElem
abbrev zbo:=@Nat.lt_succ_of_lt
abbrev zbp:=@List.Pairwise.imp_of_mem
abbrev zbq:=@List.getElem?_cons_zero
abbrev zbr:=@List.set_cons_zero
abbrev zbs:=@List.set_cons_succ
abbrev zbt:=@Int.emod_nonneg
abbrev zbu:=@List.getElem_take
abbrev zbv:=@List.length_zipWith
abbrev zbw:=@List.filterMap_cons
abbrev zbx:=@List.mem_append
abbrev zby:=@List.getElem?_set_ne
abbrev zbz:=@List.any_eq_false
abbrev zbA:=@List.take_sublist
abbrev zbB:=@List.length_replicate
abbrev zbC:=@Calls.evalArgs_plain
abbrev zbD:=@List.flatten_cons
abbrev zbE:=@List.getElem?_zip_eq_some
abbrev zbF:=@Nat.lt_succ_self
abbrev zbG:=@Array.forIn_toList
abbrev zbH:=@List.pairwise_lt_range
abbrev zbI:=@Obj.cls_mapFields
abbrev zbJ:=@F.slot_tuple_iterator_next
abbrev zbK:=@List.foldl_append
abbrev zbL:=@F.slot_zip_next
abbrev zbM:=@Int.emod_lt_of_pos
abbrev zbN:=@List.getElem?_eq_none_iff
abbrev zbO:=@List.getElem?_set_self
abbrev zbP:=@List.nodup_cons
abbrev zbQ:=@List.getElem?_take_of_lt
abbrev zbR:=@Calls.callWith_builtin
abbrev zbS:=@Array.getElem?_eq_none
abbrev zbT:=@List.drop_eq_nil_of_le
abbrev zbU:=@PyProof.Rows.F.plain_set_update_loop
abbrev zbV:=@List.nodup_append
abbrev zbW:=@F.type_list_index
def inClass(s:Stmt)(j:Nat):Stmt:=match s with
 | .ClassDef _ _ _ body _ _ _ _ _ _ _=>body.getD j (.Pass ⟨0,0,0,0⟩)
 | _=>.Pass ⟨0,0,0,0⟩
def DX(s:Stmt):Arguments:=match s with
 | .FunctionDef _ a _ _ _ _ _ _ _ _=>a
 | _=>{ posonlyargs:=[],args:=[],vararg:=none,kwonlyargs:=[],kw_defaults:=[],kwarg:=none,defaults:=[] }
def Dn(s:Stmt):List Stmt:=match s with
 | .FunctionDef _ _ b _ _ _ _ _ _ _=>b
 | _=>[]
def h8(s:Stmt):Scope:=match s with
 | .FunctionDef _ _ _ _ _ _ sc _ _ _=>sc
 | _=>{ kind:=.function,names:=[],isGenerator:=false,isCoroutine:=false }
end L2
namespace K76
open PySem PySem.W
def top (i:Nat):Stmt:=PySem.Challenge.pw_usewarden_k76_whole_laid_is_joined.main.body.getD i (.Pass ⟨0,0,0,0⟩)
abbrev CS(x:Array Value):Obj:=⟨.type "tuple", none,.seq x 0,#[]⟩
abbrev Fa(n:Str)(a b c:Nat)(l g:Int)(p q r s u:Addr)(i:Int)(d:Nat):Obj:=⟨.type "code", none,.fields #[.str n a,.str n b,.str "/claim/cut.py" c,.int l 0,.int g 0,.int 0 0,.int 0 0,.int 3 0,.ref p,.bool true,.int 181 0,.ref q,.none,.ref r,.ref s,.ref u,.int i 0,.int l 0,.str "/claim/cut.py" d],#[]⟩
abbrev EG(n:Str)(i:Nat)(m:Str)(a:Nat)(c:Addr):Obj:=⟨.type "function", none,.func ⟨n,n,L2.DX (top i),.stmts (L2.Dn (top i)),L2.h8 (top i),3,[],.none,.none,.none,.str m a,none,.ref c,.none,0⟩,#[]⟩
noncomputable def KK(P:Params):Frag:=
 (nat_lit 2,⟨.none,none,.dict #[] 0,#[]⟩) ::
 (nat_lit 3,⟨.type "dict", none,.dict #[⟨PyData.keyHash P "__name__", .str "__name__" 165,.str "law_usewarden_k76_whole_laid_is_joined" 509⟩,⟨PyData.keyHash P "__doc__", .str "__doc__" 166,.none⟩,⟨PyData.keyHash P "__package__", .str "__package__" 167,.none⟩,⟨PyData.keyHash P "__loader__", .str "__loader__" 168,.builtin "__main__.__loader__#opaque"⟩,⟨PyData.keyHash P "__spec__", .str "__spec__" 169,.none⟩,⟨PyData.keyHash P "__annotations__", .str "__annotations__" 170,.ref 6⟩,⟨PyData.keyHash P "__builtins__", .str "__builtins__" 171,.ref 4⟩,⟨PyData.keyHash P "__file__", .str "__file__" 173,.str "/claim/cut.py" 172⟩,⟨PyData.keyHash P "__cached__", .str "__cached__" 174,.none⟩,⟨PyData.keyHash P "UseError", .str "UseError" 206,.ref 24⟩,⟨PyData.keyHash P "NoRule", .str "NoRule" 222,.ref 37⟩,⟨PyData.keyHash P "NoText", .str "NoText" 238,.ref 49⟩,⟨PyData.keyHash P "NoFit", .str "NoFit" 254,.ref 61⟩,⟨PyData.keyHash P "TooGreat", .str "TooGreat" 270,.ref 73⟩,⟨PyData.keyHash P "Breach", .str "Breach" 303,.ref 92⟩,⟨PyData.keyHash P "refuse_unlike", .str "refuse_unlike" 313,.ref 101⟩,⟨PyData.keyHash P "words_of_both", .str "words_of_both" 321,.ref 108⟩,⟨PyData.keyHash P "ways_for", .str "ways_for" 327,.ref 113⟩,⟨PyData.keyHash P "ways_by_room", .str "ways_by_room" 333,.ref 118⟩,⟨PyData.keyHash P "pairs_behind", .str "pairs_behind" 342,.ref 125⟩,⟨PyData.keyHash P "MOST_WORDS", .str "MOST_WORDS" 344,.int 16 343⟩,⟨PyData.keyHash P "MOST_ROOMS", .str "MOST_ROOMS" 346,.int 60 345⟩,⟨PyData.keyHash P "words_of_all", .str "words_of_all" 357,.ref 132⟩,⟨PyData.keyHash P "rooms_behind", .str "rooms_behind" 363,.ref 137⟩,⟨PyData.keyHash P "blame_of", .str "blame_of" 370,.ref 144⟩,⟨PyData.keyHash P "laid_by", .str "laid_by" 376,.ref 149⟩,⟨PyData.keyHash P "laid_rules", .str "laid_rules" 382,.ref 154⟩,⟨PyData.keyHash P "ways_by", .str "ways_by" 390,.ref 159⟩,⟨PyData.keyHash P "finer_kinds", .str "finer_kinds" 403,.ref 166⟩,⟨PyData.keyHash P "kinds_upto", .str "kinds_upto" 409,.ref 171⟩,⟨PyData.keyHash P "merged_rooms", .str "merged_rooms" 420,.ref 178⟩,⟨PyData.keyHash P "rooms_led_to", .str "rooms_led_to" 432,.ref 185⟩,⟨PyData.keyHash P "numbered_rooms", .str "numbered_rooms" 438,.ref 190⟩,⟨PyData.keyHash P "does_something", .str "does_something" 444,.ref 195⟩,⟨PyData.keyHash P "picked", .str "picked" 450,.ref 200⟩,⟨PyData.keyHash P "least_upto", .str "least_upto" 456,.ref 205⟩,⟨PyData.keyHash P "least_rule", .str "least_rule" 463,.ref 212⟩,⟨PyData.keyHash P "breaks_one", .str "breaks_one" 472,.ref 219⟩,⟨PyData.keyHash P "rule_of_pairs", .str "rule_of_pairs" 490,.ref 226⟩,⟨PyData.keyHash P "least_of_pairs", .str "least_of_pairs" 500,.ref 233⟩,⟨PyData.keyHash P "joined_rule", .str "joined_rule" 508,.ref 240⟩,⟨PyData.keyHash P "_law_cell_at", .str "_law_cell_at" 518,.ref 247⟩,⟨PyData.keyHash P "_law_mixed", .str "_law_mixed" 529,.ref 254⟩,⟨PyData.keyHash P "_law_words", .str "_law_words" 546,.ref 261⟩,⟨PyData.keyHash P "_law_way", .str "_law_way" 555,.ref 268⟩,⟨PyData.keyHash P "_law_rooms", .str "_law_rooms" 561,.ref 273⟩,⟨PyData.keyHash P "_law_rules", .str "_law_rules" 578,.ref 280⟩,⟨PyData.keyHash P "_law_counter", .str "_law_counter" 584,.ref 285⟩,⟨PyData.keyHash P "_law_great", .str "_law_great" 598,.ref 292⟩,⟨PyData.keyHash P "_law_to", .str "_law_to" 607,.ref 299⟩,⟨PyData.keyHash P "_law_walked", .str "_law_walked" 613,.ref 304⟩,⟨PyData.keyHash P "_law_joined", .str "_law_joined" 624,.ref 311⟩,⟨PyData.keyHash P "_law_refused", .str "_law_refused" 634,.ref 318⟩,⟨PyData.keyHash P "law", .str "law" 640,.ref 323⟩] 54,#[]⟩) ::
 (nat_lit 15,CS #[.type "ValueError"]) ::
 (nat_lit 22,CS #[]) ::
 (nat_lit 23,⟨.type "dict", none,.dict #[⟨PyData.keyHash P "__module__", .str "__module__" 196,.str "usewarden.errors" 187⟩,⟨PyData.keyHash P "__firstlineno__", .str "__firstlineno__" 200,.int 2 199⟩,⟨PyData.keyHash P "__static_attributes__", .str "__static_attributes__" 201,.ref 22⟩,⟨PyData.keyHash P "__weakref__", .str "__weakref__" 203,.ref 25⟩,⟨PyData.keyHash P "__doc__", .str "__doc__" 204,.none⟩] 3,#[]⟩) ::
 (nat_lit 24,⟨.type "type", none,.cls ⟨"UseError", [.type "ValueError"],[.ref 24,.type "ValueError", .type "Exception", .type "BaseException", .type "object"],23, "UseError", true,[],[.ref 37,.ref 49,.ref 61,.ref 73,.ref 92],false,none,false⟩,#[some (.ref 15),none,some (.str "UseError" 189),some (.str "UseError" 197),some (.builtin "ValueError.__new__"),some (.bool true)]⟩) ::
 (nat_lit 25,⟨.type "getset_descriptor", none,.fields #[.str "__weakref__" 202,.ref 24,.builtin "ExceptionGroup.__weakref__", .none],#[]⟩) ::
 (nat_lit 28,CS #[.ref 24]) ::
 (nat_lit 35,CS #[]) ::
 (nat_lit 36,⟨.type "dict", none,.dict #[⟨PyData.keyHash P "__module__", .str "__module__" 214,.str "usewarden.errors" 187⟩,⟨PyData.keyHash P "__firstlineno__", .str "__firstlineno__" 218,.int 4 217⟩,⟨PyData.keyHash P "__static_attributes__", .str "__static_attributes__" 219,.ref 35⟩,⟨PyData.keyHash P "__doc__", .str "__doc__" 220,.none⟩] 2,#[]⟩) ::
 (nat_lit 37,⟨.type "type", none,.cls ⟨"NoRule", [.ref 24],[.ref 37,.ref 24,.type "ValueError", .type "Exception", .type "BaseException", .type "object"],36, "NoRule", true,[],[],false,none,false⟩,#[some (.ref 28),none,some (.str "NoRule" 207),some (.str "NoRule" 215),some (.builtin "ValueError.__new__"),some (.bool true)]⟩) ::
 (nat_lit 40,CS #[.ref 24]) ::
 (nat_lit 47,CS #[]) ::
 (nat_lit 48,⟨.type "dict", none,.dict #[⟨PyData.keyHash P "__module__", .str "__module__" 230,.str "usewarden.errors" 187⟩,⟨PyData.keyHash P "__firstlineno__", .str "__firstlineno__" 234,.int 6 233⟩,⟨PyData.keyHash P "__static_attributes__", .str "__static_attributes__" 235,.ref 47⟩,⟨PyData.keyHash P "__doc__", .str "__doc__" 236,.none⟩] 2,#[]⟩) ::
 (nat_lit 49,⟨.type "type", none,.cls ⟨"NoText", [.ref 24],[.ref 49,.ref 24,.type "ValueError", .type "Exception", .type "BaseException", .type "object"],48, "NoText", true,[],[],false,none,false⟩,#[some (.ref 40),none,some (.str "NoText" 223),some (.str "NoText" 231),some (.builtin "ValueError.__new__"),some (.bool true)]⟩) ::
 (nat_lit 52,CS #[.ref 24]) ::
 (nat_lit 59,CS #[]) ::
 (nat_lit 60,⟨.type "dict", none,.dict #[⟨PyData.keyHash P "__module__", .str "__module__" 246,.str "usewarden.errors" 187⟩,⟨PyData.keyHash P "__firstlineno__", .str "__firstlineno__" 250,.int 8 249⟩,⟨PyData.keyHash P "__static_attributes__", .str "__static_attributes__" 251,.ref 59⟩,⟨PyData.keyHash P "__doc__", .str "__doc__" 252,.none⟩] 2,#[]⟩) ::
 (nat_lit 61,⟨.type "type", none,.cls ⟨"NoFit", [.ref 24],[.ref 61,.ref 24,.type "ValueError", .type "Exception", .type "BaseException", .type "object"],60, "NoFit", true,[],[],false,none,false⟩,#[some (.ref 52),none,some (.str "NoFit" 239),some (.str "NoFit" 247),some (.builtin "ValueError.__new__"),some (.bool true)]⟩) ::
 (nat_lit 64,CS #[.ref 24]) ::
 (nat_lit 71,CS #[]) ::
 (nat_lit 72,⟨.type "dict", none,.dict #[⟨PyData.keyHash P "__module__", .str "__module__" 262,.str "usewarden.errors" 187⟩,⟨PyData.keyHash P "__firstlineno__", .str "__firstlineno__" 266,.int 10 265⟩,⟨PyData.keyHash P "__static_attributes__", .str "__static_attributes__" 267,.ref 71⟩,⟨PyData.keyHash P "__doc__", .str "__doc__" 268,.none⟩] 2,#[]⟩) ::
 (nat_lit 73,⟨.type "type", none,.cls ⟨"TooGreat", [.ref 24],[.ref 73,.ref 24,.type "ValueError", .type "Exception", .type "BaseException", .type "object"],72, "TooGreat", true,[],[],false,none,false⟩,#[some (.ref 64),none,some (.str "TooGreat" 255),some (.str "TooGreat" 263),some (.builtin "ValueError.__new__"),some (.bool true)]⟩) ::
 (nat_lit 76,CS #[.ref 24]) ::
 (nat_lit 83,CS #[]) ::
 (nat_lit 85,CS #[.str "self" 286,.str "rule" 287,.str "line" 288,.str "handles" 289,.str "row" 290,.str "log" 291]) ::
 (nat_lit 86,CS #[]) ::
 (nat_lit 88,⟨.type "code", none,.fields #[.str "__init__" 283,.str "Breach.__init__" 284,.str "/claim/cut.py" 285,.int 14 0,.int 6 0,.int 0 0,.int 0 0,.int 3 0,.ref 83,.bool true,.int 181 0,.ref 84,.none,.ref 85,.ref 86,.ref 87,.int 292 0,.int 14 0,.str "/claim/cut.py" 293],#[]⟩) ::
 (nat_lit 89,⟨.type "function", none,.func ⟨"__init__", "Breach.__init__", L2.DX (L2.inClass (top 6) 0),.stmts (L2.Dn (L2.inClass (top 6) 0)),L2.h8 (L2.inClass (top 6) 0),3,[],.none,.none,.none,.str "usewarden.errors" 187,none,.ref 88,.none,0⟩,#[]⟩) ::
 (nat_lit 90,CS #[.str "handles" 295,.str "line" 296,.str "log" 297,.str "row" 298,.str "rule" 299]) ::
 (nat_lit 91,⟨.type "dict", none,.dict #[⟨PyData.keyHash P "__module__", .str "__module__" 278,.str "usewarden.errors" 187⟩,⟨PyData.keyHash P "__firstlineno__", .str "__firstlineno__" 282,.int 12 281⟩,⟨PyData.keyHash P "__init__", .str "__init__" 294,.ref 89⟩,⟨PyData.keyHash P "__static_attributes__", .str "__static_attributes__" 300,.ref 90⟩,⟨PyData.keyHash P "__doc__", .str "__doc__" 301,.none⟩] 2,#[]⟩) ::
 (nat_lit 92,⟨.type "type", none,.cls ⟨"Breach", [.ref 24],[.ref 92,.ref 24,.type "ValueError", .type "Exception", .type "BaseException", .type "object"],91, "Breach", true,[],[],false,none,false⟩,#[some (.ref 76),none,some (.str "Breach" 271),some (.str "Breach" 279),some (.builtin "ValueError.__new__"),some (.bool true)]⟩) ::
 (nat_lit 95,CS #[]) ::
 (nat_lit 97,CS #[.str "one" 309,.str "other" 310]) ::
 (nat_lit 98,CS #[]) ::
 (nat_lit 100,Fa "refuse_unlike" 306 307 308 22 2 95 96 97 98 99 311 312) ::
 (nat_lit 101,EG "refuse_unlike" 8 "usewarden.pairs" 304 100) ::
 (nat_lit 102,CS #[]) ::
 (nat_lit 104,CS #[.str "one" 317,.str "other" 318]) ::
 (nat_lit 105,CS #[]) ::
 (nat_lit 107,Fa "words_of_both" 314 315 316 25 2 102 103 104 105 106 319 320) ::
 (nat_lit 108,EG "words_of_both" 9 "usewarden.pairs" 304 107) ::
 (nat_lit 109,CS #[]) ::
 (nat_lit 112,⟨.type "code", none,.fields #[.str "ways_for" 322,.str "ways_for" 323,.str "/claim/cut.py" 324,.int 27 0,.int 4 0,.int 0 0,.int 0 0,.int 3 0,.ref 109,.bool true,.int 181 0,.ref 110,.none,.none,.none,.ref 111,.int 325 0,.int 27 0,.str "/claim/cut.py" 326],#[]⟩) ::
 (nat_lit 113,EG "ways_for" 10 "usewarden.pairs" 304 112) ::
 (nat_lit 114,CS #[]) ::
 (nat_lit 117,⟨.type "code", none,.fields #[.str "ways_by_room" 328,.str "ways_by_room" 329,.str "/claim/cut.py" 330,.int 29 0,.int 2 0,.int 0 0,.int 0 0,.int 3 0,.ref 114,.bool true,.int 181 0,.ref 115,.none,.none,.none,.ref 116,.int 331 0,.int 29 0,.str "/claim/cut.py" 332],#[]⟩) ::
 (nat_lit 118,EG "ways_by_room" 11 "usewarden.pairs" 304 117) ::
 (nat_lit 119,CS #[]) ::
 (nat_lit 121,CS #[.str "ones" 337,.str "others" 338,.str "pair" 339]) ::
 (nat_lit 122,CS #[]) ::
 (nat_lit 124,Fa "pairs_behind" 334 335 336 38 3 119 120 121 122 123 340 341) ::
 (nat_lit 125,EG "pairs_behind" 12 "usewarden.pairs" 304 124) ::
 (nat_lit 126,CS #[]) ::
 (nat_lit 128,CS #[.str "rules" 352,.str "words" 353,.str "rule" 354]) ::
 (nat_lit 129,CS #[]) ::
 (nat_lit 131,Fa "words_of_all" 349 350 351 43 1 126 127 128 129 130 355 356) ::
 (nat_lit 132,EG "words_of_all" 16 "usewarden.laid" 347 131) ::
 (nat_lit 133,CS #[]) ::
 (nat_lit 136,⟨.type "code", none,.fields #[.str "rooms_behind" 358,.str "rooms_behind" 359,.str "/claim/cut.py" 360,.int 48 0,.int 3 0,.int 0 0,.int 0 0,.int 3 0,.ref 133,.bool true,.int 181 0,.ref 134,.none,.none,.none,.ref 135,.int 361 0,.int 48 0,.str "/claim/cut.py" 362],#[]⟩) ::
 (nat_lit 137,EG "rooms_behind" 17 "usewarden.laid" 347 136) ::
 (nat_lit 138,CS #[]) ::
 (nat_lit 140,CS #[.str "rooms" 367]) ::
 (nat_lit 141,CS #[]) ::
 (nat_lit 143,Fa "blame_of" 364 365 366 50 1 138 139 140 141 142 368 369) ::
 (nat_lit 144,EG "blame_of" 18 "usewarden.laid" 347 143) ::
 (nat_lit 145,CS #[]) ::
 (nat_lit 148,⟨.type "code", none,.fields #[.str "laid_by" 371,.str "laid_by" 372,.str "/claim/cut.py" 373,.int 52 0,.int 2 0,.int 0 0,.int 0 0,.int 3 0,.ref 145,.bool true,.int 181 0,.ref 146,.none,.none,.none,.ref 147,.int 374 0,.int 52 0,.str "/claim/cut.py" 375],#[]⟩) ::
 (nat_lit 149,EG "laid_by" 19 "usewarden.laid" 347 148) ::
 (nat_lit 150,CS #[]) ::
 (nat_lit 153,⟨.type "code", none,.fields #[.str "laid_rules" 377,.str "laid_rules" 378,.str "/claim/cut.py" 379,.int 69 0,.int 1 0,.int 0 0,.int 0 0,.int 3 0,.ref 150,.bool true,.int 181 0,.ref 151,.none,.none,.none,.ref 152,.int 380 0,.int 69 0,.str "/claim/cut.py" 381],#[]⟩) ::
 (nat_lit 154,EG "laid_rules" 20 "usewarden.laid" 347 153) ::
 (nat_lit 155,CS #[]) ::
 (nat_lit 158,⟨.type "code", none,.fields #[.str "ways_by" 385,.str "ways_by" 386,.str "/claim/cut.py" 387,.int 79 0,.int 2 0,.int 0 0,.int 0 0,.int 3 0,.ref 155,.bool true,.int 181 0,.ref 156,.none,.none,.none,.ref 157,.int 388 0,.int 79 0,.str "/claim/cut.py" 389],#[]⟩) ::
 (nat_lit 159,EG "ways_by" 22 "usewarden.leastrules" 383 158) ::
 (nat_lit 160,CS #[]) ::
 (nat_lit 162,CS #[.str "rooms" 394,.str "kinds" 395,.str "seen" 396,.str "finer" 397,.str "at" 398,.str "room" 399,.str "mark" 400]) ::
 (nat_lit 163,CS #[]) ::
 (nat_lit 165,Fa "finer_kinds" 391 392 393 81 2 160 161 162 163 164 401 402) ::
 (nat_lit 166,EG "finer_kinds" 23 "usewarden.leastrules" 383 165) ::
 (nat_lit 167,CS #[]) ::
 (nat_lit 170,⟨.type "code", none,.fields #[.str "kinds_upto" 404,.str "kinds_upto" 405,.str "/claim/cut.py" 406,.int 90 0,.int 2 0,.int 0 0,.int 0 0,.int 3 0,.ref 167,.bool true,.int 181 0,.ref 168,.none,.none,.none,.ref 169,.int 407 0,.int 90 0,.str "/claim/cut.py" 408],#[]⟩) ::
 (nat_lit 171,EG "kinds_upto" 24 "usewarden.leastrules" 383 170) ::
 (nat_lit 172,CS #[]) ::
 (nat_lit 174,CS #[.str "rooms" 413,.str "kinds" 414,.str "merged" 415,.str "at" 416,.str "room" 417]) ::
 (nat_lit 175,CS #[]) ::
 (nat_lit 177,Fa "merged_rooms" 410 411 412 99 2 172 173 174 175 176 418 419) ::
 (nat_lit 178,EG "merged_rooms" 25 "usewarden.leastrules" 383 177) ::
 (nat_lit 179,CS #[]) ::
 (nat_lit 181,CS #[.str "rooms" 424,.str "order" 425,.str "met" 426,.str "at" 427,.str "room" 428,.str "way" 429]) ::
 (nat_lit 182,CS #[]) ::
 (nat_lit 184,Fa "rooms_led_to" 421 422 423 105 1 179 180 181 182 183 430 431) ::
 (nat_lit 185,EG "rooms_led_to" 26 "usewarden.leastrules" 383 184) ::
 (nat_lit 186,CS #[]) ::
 (nat_lit 189,⟨.type "code", none,.fields #[.str "numbered_rooms" 433,.str "numbered_rooms" 434,.str "/claim/cut.py" 435,.int 117 0,.int 1 0,.int 0 0,.int 0 0,.int 3 0,.ref 186,.bool true,.int 181 0,.ref 187,.none,.none,.none,.ref 188,.int 436 0,.int 117 0,.str "/claim/cut.py" 437],#[]⟩) ::
 (nat_lit 190,EG "numbered_rooms" 27 "usewarden.leastrules" 383 189) ::
 (nat_lit 191,CS #[]) ::
 (nat_lit 194,⟨.type "code", none,.fields #[.str "does_something" 439,.str "does_something" 440,.str "/claim/cut.py" 441,.int 123 0,.int 2 0,.int 0 0,.int 0 0,.int 3 0,.ref 191,.bool true,.int 181 0,.ref 192,.none,.none,.none,.ref 193,.int 442 0,.int 123 0,.str "/claim/cut.py" 443],#[]⟩) ::
 (nat_lit 195,EG "does_something" 28 "usewarden.leastrules" 383 194) ::
 (nat_lit 196,CS #[]) ::
 (nat_lit 199,⟨.type "code", none,.fields #[.str "picked" 445,.str "picked" 446,.str "/claim/cut.py" 447,.int 125 0,.int 2 0,.int 0 0,.int 0 0,.int 3 0,.ref 196,.bool true,.int 181 0,.ref 197,.none,.none,.none,.ref 198,.int 448 0,.int 125 0,.str "/claim/cut.py" 449],#[]⟩) ::
 (nat_lit 200,EG "picked" 29 "usewarden.leastrules" 383 199) ::
 (nat_lit 201,CS #[]) ::
 (nat_lit 204,⟨.type "code", none,.fields #[.str "least_upto" 451,.str "least_upto" 452,.str "/claim/cut.py" 453,.int 127 0,.int 2 0,.int 0 0,.int 0 0,.int 3 0,.ref 201,.bool true,.int 181 0,.ref 202,.none,.none,.none,.ref 203,.int 454 0,.int 127 0,.str "/claim/cut.py" 455],#[]⟩) ::
 (nat_lit 205,EG "least_upto" 30 "usewarden.leastrules" 383 204) ::
 (nat_lit 206,CS #[]) ::
 (nat_lit 208,CS #[.str "rule" 460]) ::
 (nat_lit 209,CS #[]) ::
 (nat_lit 211,Fa "least_rule" 457 458 459 135 1 206 207 208 209 210 461 462) ::
 (nat_lit 212,EG "least_rule" 31 "usewarden.leastrules" 383 211) ::
 (nat_lit 213,CS #[]) ::
 (nat_lit 215,CS #[.str "pair" 469]) ::
 (nat_lit 216,CS #[]) ::
 (nat_lit 218,Fa "breaks_one" 466 467 468 138 1 213 214 215 216 217 470 471) ::
 (nat_lit 219,EG "breaks_one" 33 "usewarden.joins" 464 218) ::
 (nat_lit 220,CS #[]) ::
 (nat_lit 222,CS #[.str "one" 476,.str "other" 477,.str "breaks" 478,.str "words" 479,.str "ones" 480,.str "others" 481,.str "order" 482,.str "numbers" 483,.str "rooms" 484,.str "here" 485,.str "room" 486,.str "pair" 487]) ::
 (nat_lit 223,CS #[]) ::
 (nat_lit 225,Fa "rule_of_pairs" 473 474 475 140 3 220 221 222 223 224 488 489) ::
 (nat_lit 226,EG "rule_of_pairs" 34 "usewarden.joins" 464 225) ::
 (nat_lit 227,CS #[]) ::
 (nat_lit 229,CS #[.str "one" 494,.str "other" 495,.str "breaks" 496,.str "least" 497]) ::
 (nat_lit 230,CS #[]) ::
 (nat_lit 232,Fa "least_of_pairs" 491 492 493 157 3 227 228 229 230 231 498 499) ::
 (nat_lit 233,EG "least_of_pairs" 35 "usewarden.joins" 464 232) ::
 (nat_lit 234,CS #[]) ::
 (nat_lit 236,CS #[.str "one" 504,.str "other" 505]) ::
 (nat_lit 237,CS #[]) ::
 (nat_lit 239,Fa "joined_rule" 501 502 503 163 2 234 235 236 237 238 506 507) ::
 (nat_lit 240,EG "joined_rule" 36 "usewarden.joins" 464 239) ::
 (nat_lit 241,CS #[]) ::
 (nat_lit 243,CS #[.str "_law_script" 514,.str "_law_k" 515]) ::
 (nat_lit 244,CS #[]) ::
 (nat_lit 246,Fa "_law_cell_at" 511 512 513 166 2 241 242 243 244 245 516 517) ::
 (nat_lit 247,EG "_law_cell_at" 38 "law_usewarden_k76_whole_laid_is_joined" 509 246) ::
 (nat_lit 248,CS #[]) ::
 (nat_lit 250,CS #[.str "_law_cell" 522,.str "_law_many" 523,.str "_law_number" 524,.str "_law_found" 525,.str "_law_k" 526]) ::
 (nat_lit 251,CS #[]) ::
 (nat_lit 253,Fa "_law_mixed" 519 520 521 170 2 248 249 250 251 252 527 528) ::
 (nat_lit 254,EG "_law_mixed" 39 "law_usewarden_k76_whole_laid_is_joined" 509 253) ::
 (nat_lit 255,CS #[]) ::
 (nat_lit 257,CS #[.str "_law_cell" 533,.str "_law_many" 534,.str "_law_sides" 535,.str "_law_letters" 536,.str "_law_xs" 537,.str "_law_size" 538,.str "_law_at" 539,.str "_law_words_here" 540,.str "_law_k" 541,.str "_law_word" 542,.str "_law_j" 543]) ::
 (nat_lit 258,CS #[]) ::
 (nat_lit 260,Fa "_law_words" 530 531 532 177 3 255 256 257 258 259 544 545) ::
 (nat_lit 261,EG "_law_words" 40 "law_usewarden_k76_whole_laid_is_joined" 509 260) ::
 (nat_lit 262,CS #[]) ::
 (nat_lit 264,CS #[.str "_law_number" 550,.str "_law_share" 551,.str "_law_many" 552]) ::
 (nat_lit 265,CS #[]) ::
 (nat_lit 267,Fa "_law_way" 547 548 549 191 3 262 263 264 265 266 553 554) ::
 (nat_lit 268,EG "_law_way" 41 "law_usewarden_k76_whole_laid_is_joined" 509 267) ::
 (nat_lit 269,CS #[]) ::
 (nat_lit 272,⟨.type "code", none,.fields #[.str "_law_rooms" 556,.str "_law_rooms" 557,.str "/claim/cut.py" 558,.int 195 0,.int 4 0,.int 0 0,.int 0 0,.int 3 0,.ref 269,.bool true,.int 181 0,.ref 270,.none,.none,.none,.ref 271,.int 559 0,.int 195 0,.str "/claim/cut.py" 560],#[]⟩) ::
 (nat_lit 273,EG "_law_rooms" 42 "law_usewarden_k76_whole_laid_is_joined" 509 272) ::
 (nat_lit 274,CS #[]) ::
 (nat_lit 276,CS #[.str "_law_script" 565,.str "_law_words_here" 566,.str "_law_sides" 567,.str "_law_many" 568,.str "_law_rules_here" 569,.str "_law_k" 570,.str "_law_head" 571,.str "_law_step" 572,.str "_law_some" 573,.str "_law_size" 574,.str "_law_rooms_here" 575]) ::
 (nat_lit 277,CS #[]) ::
 (nat_lit 279,Fa "_law_rules" 562 563 564 201 3 274 275 276 277 278 576 577) ::
 (nat_lit 280,EG "_law_rules" 43 "law_usewarden_k76_whole_laid_is_joined" 509 279) ::
 (nat_lit 281,CS #[]) ::
 (nat_lit 284,⟨.type "code", none,.fields #[.str "_law_counter" 579,.str "_law_counter" 580,.str "/claim/cut.py" 581,.int 212 0,.int 3 0,.int 0 0,.int 0 0,.int 3 0,.ref 281,.bool true,.int 181 0,.ref 282,.none,.none,.none,.ref 283,.int 582 0,.int 212 0,.str "/claim/cut.py" 583],#[]⟩) ::
 (nat_lit 285,EG "_law_counter" 44 "law_usewarden_k76_whole_laid_is_joined" 509 284) ::
 (nat_lit 286,CS #[]) ::
 (nat_lit 288,CS #[.str "_law_script" 588,.str "_law_words_here" 589,.str "_law_sides" 590,.str "_law_more" 591,.str "_law_one" 592,.str "_law_other" 593,.str "_law_cut" 594,.str "_law_some" 595]) ::
 (nat_lit 289,CS #[]) ::
 (nat_lit 291,Fa "_law_great" 585 586 587 214 4 286 287 288 289 290 596 597) ::
 (nat_lit 292,EG "_law_great" 45 "law_usewarden_k76_whole_laid_is_joined" 509 291) ::
 (nat_lit 293,CS #[]) ::
 (nat_lit 295,CS #[.str "_law_rule" 602,.str "_law_room" 603,.str "_law_word" 604]) ::
 (nat_lit 296,CS #[]) ::
 (nat_lit 298,Fa "_law_to" 599 600 601 225 3 293 294 295 296 297 605 606) ::
 (nat_lit 299,EG "_law_to" 46 "law_usewarden_k76_whole_laid_is_joined" 509 298) ::
 (nat_lit 300,CS #[]) ::
 (nat_lit 303,⟨.type "code", none,.fields #[.str "_law_walked" 608,.str "_law_walked" 609,.str "/claim/cut.py" 610,.int 229 0,.int 3 0,.int 0 0,.int 0 0,.int 3 0,.ref 300,.bool true,.int 181 0,.ref 301,.none,.none,.none,.ref 302,.int 611 0,.int 229 0,.str "/claim/cut.py" 612],#[]⟩) ::
 (nat_lit 304,EG "_law_walked" 47 "law_usewarden_k76_whole_laid_is_joined" 509 303) ::
 (nat_lit 305,CS #[]) ::
 (nat_lit 307,CS #[.str "_law_found" 617,.str "_law_rules_here" 618,.str "_law_due" 619,.str "_law_name" 620,.str "_law_rule" 621]) ::
 (nat_lit 308,CS #[]) ::
 (nat_lit 310,Fa "_law_joined" 614 615 616 247 2 305 306 307 308 309 622 623) ::
 (nat_lit 311,EG "_law_joined" 48 "law_usewarden_k76_whole_laid_is_joined" 509 310) ::
 (nat_lit 312,CS #[]) ::
 (nat_lit 314,CS #[.str "_law_rules_here" 628,.str "_law_told" 629,.str "_law_other" 630,.str "e" 631]) ::
 (nat_lit 315,CS #[]) ::
 (nat_lit 317,Fa "_law_refused" 625 626 627 252 1 312 313 314 315 316 632 633) ::
 (nat_lit 318,EG "_law_refused" 49 "law_usewarden_k76_whole_laid_is_joined" 509 317) ::
 (nat_lit 319,CS #[]) ::
 (nat_lit 322,⟨.type "code", none,.fields #[.str "law" 635,.str "law" 636,.str "/claim/cut.py" 637,.int 268 0,.int 1 0,.int 0 0,.int 0 0,.int 3 0,.ref 319,.bool true,.int 181 0,.ref 320,.none,.none,.none,.ref 321,.int 638 0,.int 268 0,.str "/claim/cut.py" 639],#[]⟩) ::
 (nat_lit 323,EG "law" 50 "law_usewarden_k76_whole_laid_is_joined" 509 322)::[]
def kk:List Addr:=[2,3,15,22,23,24,25,28,35,36,37,40,47,48,49,52,59,60,61,64,71,72,73,76,83,85,86,88,89,90,91,92,95,97,98,100,101,102,104,105,107,108,109,112,113,114,117,118,119,121,122,124,125,126,128,129,131,132,133,136,137,138,140,141,143,144,145,148,149,150,153,154,155,158,159,160,162,163,165,166,167,170,171,172,174,175,177,178,179,181,182,184,185,186,189,190,191,194,195,196,199,200,201,204,205,206,208,209,211,212,213,215,216,218,219,220,222,223,225,226,227,229,230,232,233,234,236,237,239,240,241,243,244,246,247,248,250,251,253,254,255,257,258,260,261,262,264,265,267,268,269,272,273,274,276,277,279,280,281,284,285,286,288,289,291,292,293,295,296,298,299,300,303,304,305,307,308,310,311,312,314,315,317,318,319,322,323]
theorem kk_eq:∀ P,kk=(KK P).map (·.1):=fun _=>by kernel_rfl
noncomputable abbrev HH:Hook:=kHook KK kk kk_eq
def qq:Program:=view PySem.Challenge.pw_usewarden_k76_whole_laid_is_joined [1,2,3,4,5,6,8,9,10,11,12,13,14,16,17,18,19,20,22,23,24,25,26,27,28,29,30,31,33,34,35,36,38,39,40,41,42,43,44,45,46,47,48,49,50]
def loo:List Str:=[]
noncomputable def xt(s:Shared):Bool:=xlAt qq [] s&&recOk (RowW.records (OpenRow.toRowW (OpenLaw.row PySem.Challenge.rw_usewarden_k76_whole_laid_is_joined))) s
def FR(w:World):Prop:=(openEnds treeTable PySem.Challenge.pw_usewarden_k76_whole_laid_is_joined w 5066).map (fun s=>openSeen qq loo (importedModules (Program.main PySem.Challenge.pw_usewarden_k76_whole_laid_is_joined).body) xt true s)=some (openGood qq loo)
def FI(w:World):Prop:=(openEnds treeTable PySem.Challenge.pw_usewarden_k76_whole_laid_is_joined w 5066).map (fun s=>Hook.obs HH s)=some (Hook.val HH w)
set_option maxRecDepth 1000000 in
theorem Ge(w:World):FR w:=by unfold FR; kernel_rfl
set_option maxRecDepth 1000000 in
theorem Ic(w:World):FI w:=by unfold FI; kernel_rfl
theorem Ae{α β γ : Type}{o:Option α}{f:α→β}{g:α→γ}{a:β}{b:γ}(h1:o.map f=some a)(h2:o.map g=some b):o.map (fun s=>(f s,g s))=some (a,b):=by
 cases o with
 | none=>cases h1
 | some s=>cases h1; cases h2; rfl
theorem hl(w:World):(openEnds treeTable PySem.Challenge.pw_usewarden_k76_whole_laid_is_joined w 5066).map (fun s=>(openSeen qq loo (importedModules (Program.main PySem.Challenge.pw_usewarden_k76_whole_laid_is_joined).body) xt true s,Hook.obs HH s))=some (openGood qq loo,Hook.val HH w):=Ae (Ge w) (Ic w)
end K76
-- CHANGE: your row's module here, as the last of these rows
namespace L2
open PySem PySem.Spec PyProof.Rows
abbrev bM:=Sum Int Str
def l_:bM→Value→Bool
 | .inl k,v=>Value.isInt k v
 | .inr x,v=>Value.isStrOf x v
def IF(w:World):bM→Int
 | .inl k=>hashInt k
 | .inr x=>hashStr w x
theorem di:∀ {k:bM} {v:Value},l_ k v=true→(∃ i t,k=Sum.inl i∧v=Value.int i t)∨(∃ x t,k=Sum.inr x∧v=Value.str x t)
 | .inl i,v,h=>by
  obtain⟨t,e⟩:=Value.isInt_shape (k:=i) (v:=v) h
  exact .inl ⟨i,t,rfl,e⟩
 | .inr x,v,h=>by
  obtain⟨t,e⟩:=Value.isStrOf_shape (x:=x) (v:=v) h
  exact .inr ⟨x,t,rfl,e⟩
theorem yw(i:Int)(t:Tok):l_ (.inl i) (.int i t)=true:=by simp[l_,Value.isInt]
theorem xY(x:Str)(t:Tok):l_ (.inr x) (.str x t)=true:=by simp[l_,Value.isStrOf]
theorem Dh(a b:Int):decide ((Sum.inl a:bM)=Sum.inl b)=(a == b):=by
 by_cases e:a=b
 ·subst e; simp
 ·have h:¬ (Sum.inl a:bM)=Sum.inl b:=fun q=>e (Sum.inl.inj q)
  rw[decide_eq_false h];exact(beq_eq_false_iff_ne.mpr e).symm
theorem Dw(a b:Str):decide ((Sum.inr a:bM)=Sum.inr b)=decide (a=b):=by
 by_cases e:a=b
 ·subst e; simp
 ·have h:¬ (Sum.inr a:bM)=Sum.inr b:=fun q=>e (Sum.inr.inj q)
  rw[decide_eq_false h,decide_eq_false e]
theorem DI(a:Int)(b:Str):decide ((Sum.inl a:bM)=Sum.inr b)=false:=decide_eq_false (fun q=>nomatch q)
theorem C4(a:Str)(b:Int):decide ((Sum.inr a:bM)=Sum.inl b)=false:=decide_eq_false (fun q=>nomatch q)
def de(prog:Program)(w:World):PySem.KeyKind prog w bM where
 is:=l_
 hash:=IF w
 inj:=fun v a b ha hb=>by
  rcases di ha with ⟨i,t,rfl,rfl⟩ | ⟨x,t,rfl,rfl⟩
  ·rcases di hb with ⟨j,u,rfl,e⟩ | ⟨y,u,rfl,e⟩
   ·injection e with e1 _; rw[e1]
   ·exact nomatch e
  ·rcases di hb with ⟨j,u,rfl,e⟩ | ⟨y,u,rfl,e⟩
   ·exact nomatch e
   ·injection e with e1 _; rw[e1]
 byValue:=fun k v h=>by
  rcases di h with ⟨i,t,rfl,rfl⟩ | ⟨x,t,rfl,rfl⟩ <;> rfl
 pyHash:=fun hv h=>by
  rcases di hv with ⟨i,t,rfl,rfl⟩ | ⟨x,t,rfl,rfl⟩
  ·exact wpAny_pyHash_int h
  ·exact wpAny_pyHash_str h
 eqBool:=fun hu hv h=>by
  rcases di hu with ⟨i,t,rfl,rfl⟩ | ⟨x,t,rfl,rfl⟩
  ·rcases di hv with ⟨j,u,rfl,rfl⟩ | ⟨y,u,rfl,rfl⟩
   ·rw[Dh]at h; exact wpAny_eqBool_int h
   ·rw[DI]at h; exact SeqAt.EqAt.int_str i t y u _ _ _ _ h
  ·rcases di hv with ⟨j,u,rfl,rfl⟩ | ⟨y,u,rfl,rfl⟩
   ·rw[C4]at h; exact SeqAt.EqAt.str_int x t j u _ _ _ _ h
   ·rw[Dw]at h; exact wpAny_eqBool_str h
 «strs»:=fun k x t v h=>by
  rcases di h with ⟨i,u,rfl,e⟩ | ⟨y,u,rfl,e⟩
  ·exact nomatch e
  ·injection e with e1 _
   subst e1
   cases v <;> rfl
theorem tU(prog:Program)(w:World)(i:Int)(t:Tok):(de prog w).is (.inl i) (.int i t)=true:=yw i t
theorem tG(prog:Program)(w:World)(x:Str)(t:Tok):(de prog w).is (.inr x) (.str x t)=true:=xY x t
set_option genSizeOf false in
inductive V where
 | non | bl (b:Bool) | int (i:Int) | str (x:Str) | byt (b:Array UInt8) | flt (b:UInt64) | ref (a:Addr) | ty (n:String)
 deriving DecidableEq
def RelV:V→Value→Prop
 | .non,u=>u=Value.none
 | .bl b,u=>u=Value.bool b
 | .int i,u=>∃ t,u=Value.int i t
 | .str x,u=>∃ t,u=Value.str x t
 | .byt b,u=>∃ t,u=Value.bytes b t
 | .flt b,u=>∃ t,u=Value.float b t
 | .ref a,u=>u=Value.ref a
 | .ty n,u=>u=Value.type n
abbrev wh:List V→List Value→Prop:=Paired RelV
theorem wh.length{xs:List V}{us:List Value}(r:wh xs us):xs.length=us.length:=zaV r
theorem wh.get:∀ {xs:List V} {us:List Value} {i:Nat} {x:V},wh xs us→xs[i]? = some x→∃ u,us[i]? = some u∧RelV x u
 | _,_,_,_,.nil,e=>by simp at e
 | _,_,0,_,.cons r _,e=>by simp at e; subst e; exact⟨_,rfl,r⟩
 | _,_,i+1,x,.cons _ t,e=>by
  obtain⟨u,h1,h2⟩:=wh.get (i:=i) (x:=x) t (by simpa using e)
  exact⟨u,by simpa using h1,h2⟩
theorem wh.set{x:V}{u:Value}(r:RelV x u):∀ {xs:List V} {us:List Value} (i:Nat),wh xs us→wh (xs.set i x) (us.set i u)
 | _,_,_,.nil=>.nil
 | _,_,0,.cons _ t=>.cons r t
 | _,_,i+1,.cons q t=>.cons q (wh.set r i t)
theorem wh.append:∀ {xs ys:List V} {us ws:List Value},wh xs us→wh ys ws→wh (xs++ys) (us++ws)
 | _,_,_,_,.nil,s=>s
 | _,_,_,_,.cons r t,s=>.cons r (wh.append t s)
theorem wh.take:∀ {xs:List V} {us:List Value} (n:Nat),wh xs us→wh (xs.take n) (us.take n)
 | _,_,0,_=>.nil
 | _,_,_+1,.nil=>.nil
 | _,_,n+1,.cons r t=>.cons r (wh.take n t)
theorem wh.drop:∀ {xs:List V} {us:List Value} (n:Nat),wh xs us→wh (xs.drop n) (us.drop n)
 | _,_,0,r=>r
 | _,_,_+1,.nil=>.nil
 | _,_,n+1,.cons _ t=>wh.drop n t
theorem wh.none_of:∀ {xs:List V} {us:List Value} {i:Nat},wh xs us→xs[i]? = none→us[i]? = none:=fun {xs us i} r e=>by
 have h1:=r.length;have h2:xs.length≤i:=Ig.mp e
 exact Ig.mpr (by omega)
def EU:Option V→Option Value→Prop
 | some v,some u=>RelV v u
 | none,none=>True
 | _,_=>False
def KV{κ : Type}:List (κ × V)→List (κ × Value)→Prop:=Paired fun (p:κ × V) (q:κ × Value)=>p.1=q.1∧RelV p.2 q.2
def kV:bM→V
 | .inl i=>.int i
 | .inr x=>.str x
set_option genSizeOf false in
inductive HO where
 /-- a list -/
 | lst (xs:List V)
 /-- a tuple (never changes) -/
 | tup (xs:List V)
 /-- a dict whose keys are ints and texts; one whose keys are tuples of ints and texts (the empty one is both) -/
 | dK (kvs:List (bM × V)) | dT (kvs:List (List bM × V))
 /-- a set of ints: its members, its size -/
 | set (S:Int→Bool) (n:Nat)
 /-- an instance of the class at C, its dict at dx, its attributes -/
 | ins (C dx:Addr) (fs:List (Str × V))
 /-- the dict of the instance at x -/
 | own (x:Addr)
 /-- the dict of an exception -/
 | xd (fs:List (Str × V))
 /-- a bound method, f of x -/
 | met (f x:Addr)
 /-- a range object lo, lo+1, .. below hi -/
 | rng (lo hi:Int)
 /-- a thing that is known to the object (the script; a dict while a loop walks it): read, never written while it is so -/
 | frz (o:Obj) (u:HO)
 /-- a code object's table -/
 | tbl (ps:Array Value)
 /-- any other thing, by what is true of its one object (a def of one's own: SetO a S n := HO.ext fun h => ..) -/
 | ext (φ : Heap→Prop)
abbrev Hp:=Addr→Option HO
def upd(H:Hp)(a:Addr)(o:HO):Hp:=fun b=>if b=a then some o else H b
theorem ak{H:Hp}{a:Addr}{o:HO}:upd H a o a=some o:=by unfold upd; rw[HS rfl]
theorem al{H:Hp}{a b:Addr}{o:HO}(h:b≠a):upd H a o b=H b:=by unfold upd; rw[HP h]
theorem Cu{H:Hp}{a:Addr}{o u:HO}:upd (upd H a o) a u=upd H a u:=by
 funext b; unfold upd; split <;> rfl
theorem iY{H:Hp}{a b:Addr}{o u:HO}(h:H a=some o)(h':H b=some u)(d:o≠u):a≠b:=by
 intro e; subst e; rw[h]at h'; exact d (Option.some.inj h')
theorem au{H:Hp}{a b:Addr}{o:HO}(h:H a=some o)(h':H b=none):a≠b:=by
 intro e; subst e; rw[h]at h'; cases h'
def Ez(h:Heap)(a:Addr)(items:Array Value):Prop:=∃ o,h.get? a=some o∧o.cls = .type "tuple" ∧ o.dict=none∧∃ n,o.data = .seq items n
theorem Ez.tup{h:Heap}{a:Addr}{F:Array Value}(x:Ez h a F):IsTup h a F:=let ⟨o,e,c,_,d⟩:=x; ⟨o,e,c,d⟩
theorem Ez.lt{h:Heap}{a:Addr}{F:Array Value}(x:Ez h a F):a<h.objs.size:=let ⟨_,e,_⟩:=x; zA e
theorem Ez.new(h:Heap)(F:Array Value):Ez (h.push { cls:=.type "tuple", data:=.seq F }) h.objs.size F:=⟨_,wd _ rfl,rfl,rfl,_,rfl⟩
section
variable(P:Program)(w:World)
def Ax(H:Hp)(h:Heap)(a:Addr):HO→Prop
 | .lst xs=>xs.length≤sizeLine∧∃ (its:List Value) (n:Nat),wh xs its∧h.get? a=some { cls:=.type "list", data:=.seq its.toArray n }
 | .tup xs=>xs.length≤sizeLine∧∃ its:List Value,wh xs its∧Ez h a its.toArray
 | .dK kvs=>kvs.length≤sizeLine∧(a == sysModules)=false∧∃ vs,KV kvs vs∧h.DictOf (de P w) a vs
 | .dT kvs=>kvs.length≤sizeLine∧(a == sysModules)=false∧∃ xs:List (List bM × Addr × Value),
   Paired (fun (p:List bM × V) (q:List bM × Addr × Value)=>p.1=q.1∧H q.2.1=some (.tup (p.1.map kV))∧RelV p.2 q.2.2) kvs xs∧
   ∃ o es ep,h.get? a=some o∧o.ExactDict∧o.data = .dict es ep∧es.toList=xs.map (entryOfKey (tupleKind (de P w)))∧(xs.map (·.1)).Nodup
 | .set S n=>h.SetOf (intKind P w) a S n
 | .ins C dx fs=>H dx=some (.own a)∧fs.length≤1000∧dx≠a∧h.get? a=some (W.instObj C dx)∧
   ∃ mA,h.Ns1 dx mA∧(∀ f,EU (fs.lookup f) (mA f))∧PySem.Within mA (fs.map (·.1))
 | .own _=>∃ o,h.get? a=some o
 | .xd fs=>∃ mA,h.Ns1 a mA∧∀ f,EU (fs.lookup f) (mA f)
 | .rng lo hi=>∃ t u v,h.get? a=some { cls:=.type "range", data:=.fields #[.int lo t,.int hi u,.int 1 v] }
 | .frz o u=>h.get? a=some o∧Ax H h a u
 | .tbl ps=>h.get? a=some { cls:=.none,data:=.fields ps }
 | .met f x=>h.get? a=some (W.methodObj (.ref f) (.ref x))
 | .ext φ=>φ h∧(∃ o,h.get? a=some o)∧∀ h1 h2:Heap,φ h1→(∀ o,h1.get? a=some o→h2.get? a=some o)→φ h2
def EM(H:Hp)(h:Heap):Prop:=∀ a o,H a=some o→Ax P w H h a o
end
section
variable{P:Program}{w:World}{H H':Hp}{h h':Heap}{a:Addr}{o:HO}
theorem Ax.lt(x:Ax P w H h a o):a<h.objs.size:=by
 cases o with
 | lst xs=>obtain⟨_,_,_,_,e⟩:=x; exact zA e
 | tup xs=>obtain⟨_,_,_,p⟩:=x; exact p.lt
 | dK kvs=>obtain⟨_,_,_,_,o,_,_,e,_⟩:=x; exact zA e
 | dT kvs=>obtain⟨_,_,_,_,o,_,_,e,_⟩:=x; exact zA e
 | set S n=>obtain⟨o,_,_,_,e,_⟩:=x; exact zA e
 | ins C dx fs=>obtain⟨_,_,_,e,_⟩:=x; exact zA e
 | own y=>obtain⟨_,e⟩:=x; exact zA e
 | xd fs=>obtain⟨_,⟨_,_,_,e,_⟩,_⟩:=x; exact zA e
 | rng lo hi=>obtain⟨_,_,_,e⟩:=x; exact zA e
 | frz ob u=>obtain⟨e,_⟩:=x; exact zA e
 | tbl ps=>exact zA (show h.get? a=some _ from x)
 | met f y=>exact zA (show h.get? a=some _ from x)
 | ext φ=>obtain⟨_,⟨_,e⟩,_⟩:=x; exact zA e
theorem Paired.mapP{α β : Type}{F G:α→β→Prop}:∀ {l₁:List α} {l₂:List β},Paired F l₁ l₂→(∀ a b,F a b→G a b)→Paired G l₁ l₂
 | _,_,.nil,_=>.nil
 | _,_,.cons r t,f=>.cons (f _ _ r) (Paired.mapP t f)
theorem Paired.imp'{α β : Type}{F G:α→β→Prop}(f:∀ a b,F a b→G a b){l₁:List α}{l₂:List β}(r:Paired F l₁ l₂):Paired G l₁ l₂:=Paired.mapP r f
theorem Ax.stay(x:Ax P w H h a o)(k:∀ b u,(b=a∨H b=some (.own a))→h.get? b=some u→h'.get? b=some u)
  (ho:∀ b,H b=some (.own a)→H' b=some (.own a)) (ht:∀ b xs,H b=some (.tup xs)→H' b=some (.tup xs)):Ax P w H' h' a o:=by
 induction o with
 | lst xs=>obtain⟨z,J,n,r,e⟩:=x; exact⟨z,J,n,r,k _ _ (.inl rfl) e⟩
 | tup xs=>obtain⟨z,J,r,ob,e,c⟩:=x; exact⟨z,J,r,ob,k _ _ (.inl rfl) e,c⟩
 | dK kvs=>obtain⟨z,y,vs,r,ob,es,F,e,c⟩:=x; exact⟨z,y,vs,r,ob,es,F,k _ _ (.inl rfl) e,c⟩
 | dT kvs=>
  obtain⟨z,y,xs,r,ob,es,F,e,c⟩:=x
  exact⟨z,y,xs,Paired.mapP r fun p q z=>⟨z.1,ht _ _ z.2.1,z.2.2⟩,ob,es,F,k _ _ (.inl rfl) e,c⟩
 | set S n=>obtain⟨ob,es,F,t,e,c⟩:=x; exact⟨ob,es,F,t,k _ _ (.inl rfl) e,c⟩
 | ins C dx fs=>
  obtain⟨d,z,ne,e,Y,⟨O,es,F,Z,c⟩,r⟩:=x
  exact⟨ho _ d,z,ne,k _ _ (.inl rfl) e,Y,⟨O,es,F,k _ _ (.inr d) Z,c⟩,r⟩
 | own y=>obtain⟨ob,e⟩:=x; exact⟨ob,k _ _ (.inl rfl) e⟩
 | xd fs=>obtain⟨Y,⟨O,es,F,e,c⟩,r⟩:=x; exact⟨Y,⟨O,es,F,k _ _ (.inl rfl) e,c⟩,r⟩
 | rng lo hi=>obtain⟨t,u,v,e⟩:=x; exact⟨t,u,v,k _ _ (.inl rfl) e⟩
 | frz ob u ih=>obtain⟨e,q⟩:=x; exact⟨k _ _ (.inl rfl) e,ih q⟩
 | tbl ps=>
  have e:h.get? a=some { cls:=.none,data:=.fields ps }:=x
  show h'.get? a=some { cls:=.none,data:=.fields ps }
  exact k a _ (.inl rfl) e
 | met f y=>
  have e:h.get? a=some (W.methodObj (.ref f) (.ref y)):=x
  show h'.get? a=some (W.methodObj (.ref f) (.ref y))
  exact k a _ (.inl rfl) e
 | ext φ=>obtain⟨p,⟨o,e⟩,st⟩:=x; exact⟨st _ _ p fun o q=>k _ _ (.inl rfl) q,⟨o,k _ _ (.inl rfl) e⟩,st⟩
theorem EM.lt(x:EM P w H h)(e:H a=some o):a<h.objs.size:=(x a o e).lt
theorem EM.fresh(x:EM P w H h)(e:h.objs.size≤a):H a=none:=by
 cases q:H a with
 | none=>rfl
 | some u=>exact absurd (va (x.lt q) e) (Hc _)
theorem EM.kept(x:EM P w H h)(k:∀ b u,h.get? b=some u→h'.get? b=some u):EM P w H h':=fun a o e=>
 (x a o e).stay (fun b u _ q=>k b u q) (fun _ q=>q) fun _ _ q=>q
theorem EM.laid(x:EM P w H h)(k:∀ b u,h.get? b=some u→h'.get? b=some u)(hp:h.objs.size≤a)(new:Ax P w (upd H a o) h' a o):EM P w (upd H a o) h':=fun b u e=>by
 have F:=x.fresh hp
 by_cases hb:b=a
 ·subst hb; rw[ak]at e; cases e; exact new
 ·rw[al hb]at e
  exact(x b u e).stay (fun c v _ q=>k c v q) (fun c q=>by rw[al (au q F)]; exact q) fun c xs q=>by rw[al (au q F)]; exact q
end
def Rd(H:Hp)(a:Addr)(u:HO):Prop:=H a=some u∨∃ o,H a=some (.frz o u)
theorem Rd.ok{P:Program}{w:World}{H:Hp}{h:Heap}{a:Addr}{u:HO}(r:Rd H a u)(x:EM P w H h):Ax P w H h a u:=by
 rcases r with r | ⟨o,r⟩
 ·exact x a u r
 ·obtain⟨_,q⟩:=x a _ r
  exact q
def xH:Option HO→Prop
 | some (.lst _)=>True
 | some (.dK _)=>True
 | some (.dT _)=>True
 | some (.set _ _)=>True
 | some (.ins _ _ _)=>True
 | some (.ext _)=>True
 | _=>False
section
variable{P:Program}{w:World}{H:Hp}{h h':Heap}{x e:Addr}{o':HO}
theorem EM.write(ok:EM P w H h)(S:xH (H x))(Z:e=x∨H e=some (.own x))(k:∀ b u,b≠e→h.get? b=some u→h'.get? b=some u)(W:∃ u,h'.get? e=some u)
  (new:Ax P w (upd H x o') h' x o'):EM P w (upd H x o') h':=fun b u q=>by
 have F:∀ c y,H c=some (.own y)→c≠x:=fun c y r z=>by subst z; rw[r]at S; exact S
 have J:∀ c xs,H c=some (.tup xs)→c≠x:=fun c xs r z=>by subst z; rw[r]at S; exact S
 by_cases hb:b=x
 ·subst hb; rw[ak]at q; cases q; exact new
 ·rw[al hb]at q
  by_cases hbe:b=e
  ·have Y:H b=some (.own x):=by
    rcases Z with z | z
    ·exact absurd (hbe.trans z) hb
    ·rw[hbe]; exact z
   rw[q]at Y; cases Y
   obtain⟨v,hv⟩:=W
   exact⟨v,by rw[hbe]; exact hv⟩
  ·refine(ok b u q).stay (fun c v O r=>k c v ?_ r) (fun c r=>by rw[al (F c b r)]; exact r) fun c xs r=>by rw[al (J c xs r)]; exact r
   rcases O with rfl | O
   ·exact hbe
   ·rintro rfl
    rcases Z with z | z
    ·exact F c b O z
    ·rw[O]at z; cases z; exact hb rfl
end
structure Un (fs ex:List Addr) (H H':Hp) (h h':Heap):Prop where
 keep:∀ b o,h.get? b=some o→H b=none→b∉fs→b∉ex→h'.get? b=some o
 slot:∀ b o,h.get? b=some o→H b=none→b∈fs→b∉ex→∃ sl,h'.get? b=some { o with slots:=sl }
 free:∀ b o,h.get? b=some o→H b=none→b∉ex→H' b=none
 there:∀ b o,h.get? b=some o→b∉ex→∃ o',h'.get? b=some o'
 tups:∀ b xs,H b=some (.tup xs)→H' b=some (.tup xs)
 frzs:∀ b o u,H b=some (.frz o u)→H' b=some (.frz o u)
 tbls:∀ b ps,H b=some (.tbl ps)→∃ more,H' b=some (.tbl (ps++more))
section
variable{fs fs' ex ex':List Addr}{H H1 H2:Hp}{h h1 h2 h':Heap}{a x e:Addr}{o:HO}
theorem Un.any(u:Un fs ex H H1 h h1){b:Addr}{ob:Obj}(q:h.get? b=some ob)(n:H b=none)(hx:b∉ex):∃ sl,h1.get? b=some { ob with slots:=sl }:=by
 by_cases hb:b∈fs
 ·exact u.slot b ob q n hb hx
 ·exact⟨ob.slots,u.keep b ob q n hb hx⟩
theorem Un.kept(k:∀ b u,h.get? b=some u→h'.get? b=some u):Un fs ex H H h h':=
 ⟨fun b ob q _ _ _=>k b ob q,fun b ob q _ _ _=>⟨ob.slots,k b ob q⟩,fun _ _ _ n _=>n,fun b ob q _=>⟨ob,k b ob q⟩,fun _ _ q=>q,fun _ _ _ q=>q,fun _ ps q=>⟨#[],by rw[q]; simp⟩⟩
theorem Un.refl:Un fs ex H H h h:=Un.kept fun _ _ q=>q
theorem Un.laid(k:∀ b u,h.get? b=some u→h'.get? b=some u)(hp:h.objs.size≤a)(F:H a=none):Un fs ex H (upd H a o) h h' where
 keep:=fun b u q _ _ _=>k b u q
 slot:=fun b u q _ _ _=>⟨u.slots,k b u q⟩
 free:=fun b u q n _=>by rw[al (zM (va (zA q) hp))]; exact n
 there:=fun b u q _=>⟨u,k b u q⟩
 tups:=fun b xs q=>by rw[al (au q F)]; exact q
 frzs:=fun b u xs q=>by rw[al (au q F)]; exact q
 tbls:=fun b ps q=>⟨#[],by rw[al (au q F),q]; simp⟩
theorem Un.write(F:xH (H x))(W:e=x∨H e=some (.own x))(k:∀ b u,b≠e→h.get? b=some u→h'.get? b=some u)(O:∃ u,h'.get? e=some u):Un fs ex H (upd H x o) h h':=by
 have hx:∀ b,H b=none→b≠x:=fun b n z=>by subst z; rw[n]at F; exact F
 have S:∀ b,H b=none→b≠e:=fun b n z=>by
  subst z;rcases W with r | r
  ·exact hx b n r
  ·rw[n]at r; cases r
 have J:∀ b u,H b=some u→¬ xH (some u)→b≠x:=fun b u q nm z=>by subst z; rw[q]at F; exact nm F
 refine⟨fun b u q n _ _=>k b u (S b n) q,fun b u q n _ _=>⟨u.slots,k b u (S b n) q⟩,fun b u q n _=>by rw[al (hx b n)]; exact n,fun b u q _=>?_,
  fun b xs q=>by rw[al (J b _ q fun z=>z)]; exact q,fun b u xs q=>by rw[al (J b _ q fun z=>z)]; exact q,fun b ps q=>⟨#[],by rw[al (J b _ q fun z=>z),q]; simp⟩⟩
 by_cases hbe:b=e
 ·subst hbe; exact O
 ·exact⟨u,k b u hbe q⟩
end
def trk(h:Heap)(H:Hp):List Addr:=(List.range h.objs.size).filter fun a=>(H a).isSome
def kr(h:Heap)(H:Hp):Heap:=W.hideAll h (trk h H)
theorem wJ(h:Heap)(H:Hp):(kr h H).objs.size=h.objs.size:=W.hideAll_size _ _
theorem zH{h:Heap}{H:Hp}{b:Addr}{o:Obj}(e:h.get? b=some o)(n:H b=none):(kr h H).get? b=some o:=
 zbf _ e fun F=>by
  have q:(H b).isSome=true:=(Ia.mp F).2
  rw[n]at q; simp at q
theorem B9{h:Heap}{H:Hp}{b:Addr}{o:Obj}(e:(kr h H).get? b=some o):h.get? b=some o∧H b=none:=by
 have F:h.get? b=some o:=W.of_hideAll (trk h H) e
 refine⟨F,?_⟩
 cases q:H b with
 | none=>rfl
 | some x=>
  have J:b∈trk h H:=Ia.mpr ⟨HV.mpr (zA F),by simp[q]⟩
  have z:(kr h H).get? b=none:=W.hideAll_none (trk h H) J
  rw[z]at e; cases e
def Cb(g h:Heap)(L:Addr):List (Addr × Obj):=(List.range h.objs.size).filterMap fun a=>if a=L∨(g.get? a).isSome=true then none else (h.get? a).map fun o=>(a,o)
def Dk(g h:Heap)(L d:Addr):List (Addr × Obj):=(Cb g h L).filter fun p=>decide (p.1≠d)
structure Mod (K:W.Frag) (mg:Str→Option Value) (base:Heap):Prop where
 kin:K.In base
 glob:base.Ns mainGlobals mg
 blt:∃ mb,base.Ns builtinsNs mb∧∀ x:Str,x ≠ "__name__" → mb x=bootBuiltins x
 nolimit:base.NoLimit
set_option genInjectivity false in
set_option genSizeOf false in
structure Cx where
 prog:Program
 w:World
 K:W.Frag
 mg:Str→Option Value
 base:Heap
 A:Around
 N:List Str
 s₀ : Shared
 H₀ : Hp
 env:Env
 outer:List Env
 stack:List Env
 ex:List Addr
 fn:Str→Bool
 calm:Bool
 pn:List (Addr × Obj)
 xe:Value→Shared→Prop
def eO(l:List Env):List Addr:=l.filterMap (·.frame)
abbrev Cx.fs (X:Cx):List Addr:=eO X.outer
def aq(sc:Scope)(x:Str):Prop:=sc.names.lookup x=some .local∨sc.names.lookup x=some .cell∨sc.names.lookup x=some .free
def aQ(sc:Scope)(x:Str):Prop:=sc.names.lookup x=some .local∨sc.names.lookup x=some .cell
def Ea(env:Env)(h:Heap)(m:Str→Option Value)(x:Str)(u:Value):Prop:=
 (env.kindOf x=some .local∧m x=some u)∨((env.kindOf x=some .cell∨env.kindOf x=some .free)∧∃ c,env.cells.lookup x=some c∧h.IsCell c (some u))
structure Cx.Ok (X:Cx):Prop where
 mod:Mod X.K X.mg X.base
 kind:X.env.scope.kind = .function
 glob:X.env.globals=mainGlobals
 blt:X.env.builtins=builtinsNs
 above:X.s₀.heap.objs.size≤X.env.locals
 inj:∀ x y c,X.env.cells.lookup x=some c→X.env.cells.lookup y=some c→x=y
 has:∀ x,(X.env.kindOf x=some .cell∨X.env.kindOf x=some .free)→∃ c,X.env.cells.lookup x=some c
 cab:∀ x c,X.fn x=true→X.env.cells.lookup x=some c→X.s₀.heap.objs.size≤c
 hd:X.calm=true→X.A.handled=none
 frames:X.A.frames=some X.stack
 stk:X.stack=X.outer∨(X.stack=X.env::X.outer∧X.env.frame=some X.env.locals)
 exf:∀ b∈X.ex,b≠X.env.locals∧∀ x c,X.env.cells.lookup x=some c→c≠b
 bs:∀ b o,X.base.get? b=some o→X.s₀.heap.get? b=some o∧X.H₀ b=none
 bsz:X.base.objs.size≤X.s₀.heap.objs.size
 noex:∀ b o,X.base.get? b=some o→b∉X.ex
 exfs:∀ b∈X.ex,b∉X.fs
 funs:X.s₀.heap.FunFrames X.base X.outer
 frf:∀ b∈X.fs,X.H₀ b=none
structure Inv (X:Cx) (pins:List (Addr × Obj)) (σ : List (Option V)) (H:Hp) (s:Shared):Prop where
 ok:X.Ok
 os:s.os=X.s₀.os
 bare:AllBare s.gens
 base:Un X.fs X.ex X.H₀ H X.s₀.heap s.heap
 loc:∃ m,s.heap.Ns X.env.locals m∧∀ (i:Nat) (x:Str) (v:V),X.N[i]? = some x→σ[i]? = some (some v)→aq X.env.scope x→∃ u,RelV v u∧Ea X.env s.heap m x u
 cell:∀ x c,X.env.cells.lookup x=some c→∃ v,s.heap.IsCell c v
 free:H X.env.locals=none
 freeC:∀ x c,X.env.cells.lookup x=some c→H c=none
 pin:∀ p∈X.pn++pins,s.heap.get? p.1=some p.2∧H p.1=none∧p.1≠X.env.locals∧p.1∉X.fs∧∀ v,p.2.data ≠ .cell v
 hok:EM X.prog X.w H s.heap
 len:σ.length=X.N.length
section
variable{X:Cx}{pins:List (Addr × Obj)}{σ : List (Option V)}{H H':Hp}{s:Shared}{h':Heap}
theorem Cx.Ok.nofr(ok:X.Ok){b:Addr}{o:Obj}(e:X.base.get? b=some o):b∉X.fs:=fun F=>by
 have:=(ok.funs.mem F).1
 rw[e]at this; cases this
theorem Inv.bs(I:Inv X pins σ H s):∀ b o,X.base.get? b=some o→s.heap.get? b=some o∧H b=none:=fun b o e=>
 ⟨I.base.keep b o (I.ok.bs b o e).1 (I.ok.bs b o e).2 (I.ok.nofr e) (I.ok.noex b o e),I.base.free b o (I.ok.bs b o e).1 (I.ok.bs b o e).2 (I.ok.noex b o e)⟩
theorem Inv.bk(I:Inv X pins σ H s):∀ b o,X.base.get? b=some o→s.heap.get? b=some o:=fun b o e=>(I.bs b o e).1
theorem Inv.mod(I:Inv X pins σ H s):Mod X.K X.mg X.base:=I.ok.mod
theorem Inv.kIn(I:Inv X pins σ H s):X.K.In s.heap:=I.ok.mod.kin.keeps I.bk
theorem Inv.lt(I:Inv X pins σ H s):X.env.locals<s.heap.objs.size:=let ⟨_,hn,_⟩:=I.loc; hn.lt
theorem Inv.sz(I:Inv X pins σ H s):X.s₀.heap.objs.size≤s.heap.objs.size:=vg I.ok.above (uV I.lt)
theorem Inv.nofs(I:Inv X pins σ H s){a:Addr}(h:s.heap.objs.size≤a):a∉X.fs:=fun J=>by
 obtain⟨_,o,F,_⟩:=I.ok.funs.mem J
 exact absurd (va (zA F) (vg I.sz h)) (Hc _)
theorem Inv.cne(I:Inv X pins σ H s):∀ x c,X.env.cells.lookup x=some c→c≠X.env.locals:=fun x c e z=>by
 obtain⟨v,o,O,hd⟩:=I.cell x c e
 obtain⟨m,⟨o',es,S,J,F,_⟩,_⟩:=I.loc
 rw[z,J]at O; cases O; rw[F]at hd; cases hd
theorem Inv.funs(I:Inv X pins σ H s):s.heap.FunFrames X.base X.outer:=by
 have all:∀ (l:List Env),(∀ b∈eO l,b∈X.fs)→X.s₀.heap.FunFrames X.base l→s.heap.FunFrames X.base l:=by
  intro l
  induction l with
  | nil=>intro _ _; trivial
  | cons env r ih=>
   intro O hl
   obtain⟨S,⟨L,o,hf,W,Y,hd⟩,hr⟩:=hl
   have F:L∈X.fs:=O L (by unfold eO; rw[zbw,hf]; exact wZ)
   obtain⟨Z,e⟩:=I.base.slot L o Y (I.ok.frf L F) F fun z=>I.ok.exfs L z F
   exact⟨S,⟨L,_,hf,W,e,hd⟩,ih (fun b J=>O b (by unfold eO; rw[zbw,hf]; exact zU _ J)) hr⟩
 exact all X.outer (fun _ J=>J) I.ok.funs
theorem Inv.stack(I:Inv X pins σ H s):s.heap.FunFrames X.base X.stack:=by
 rcases I.ok.stk with e | ⟨e,hf⟩
 ·rw[e]; exact I.funs
 ·rw[e]
  obtain⟨m,F,_⟩:=I.loc
  refine .cons (by rw[I.ok.kind]; decide) hf F ?_ I.funs
  exact Heap.get?_none_of_le (vg I.ok.bsz I.ok.above)
theorem Inv.stkSub(I:Inv X pins σ H s):∀ b∈eO X.stack,b∈X.env.locals::X.fs:=fun b F=>by
 rcases I.ok.stk with e | ⟨e,hf⟩
 ·rw[e]at F; exact zU _ F
 ·rw[e]at F
  unfold eO at F;rw[zbw,hf]at F
  exact F
theorem Inv.stkFree(I:Inv X pins σ H s):∀ b∈eO X.stack,H b=none:=fun b F=>by
 rcases HW.mp (I.stkSub b F) with e | F
 ·rw[e]; exact I.free
 ·obtain⟨_,o,J,_⟩:=I.ok.funs.mem F
  exact I.base.free b o J (I.ok.frf b F) fun z=>I.ok.exfs b z F
theorem Inv.step{g':Array GenState}{t':Nat}{d':Drawn}{ch:List Addr}(I:Inv X pins σ H s)
  (O:∀ b∈ch,(b∈X.ex∨X.s₀.heap.objs.size≤b)∧b≠X.env.locals∧(∀ x c,X.env.cells.lookup x=some c→c≠b)∧∀ p∈X.pn++pins,p.1≠b)
  (keep:∀ b o,b≠X.env.locals→b∉X.fs→b∉ch→s.heap.get? b=some o→H b=none→h'.get? b=some o)
  (slot:∀ b o,b≠X.env.locals→b∈X.fs→b∉ch→s.heap.get? b=some o→H b=none→∃ sl,h'.get? b=some { o with slots:=sl }) (free:∀ b o,b∉ch→s.heap.get? b=some o→H b=none→H' b=none)
  (there:∀ b o,b∉ch→s.heap.get? b=some o→∃ o',h'.get? b=some o')
  (tups:∀ b xs,H b=some (.tup xs)→H' b=some (.tup xs)) (frzs:∀ b o u,H b=some (.frz o u)→H' b=some (.frz o u)) (tbls:∀ b ps,H b=some (.tbl ps)→∃ more,H' b=some (.tbl (ps++more)))
  (ns:∀ m,s.heap.Ns X.env.locals m→h'.Ns X.env.locals m) (hok:EM X.prog X.w H' h') (hg:AllBare g') :
  Inv X pins σ H' { s with heap:=h',gens:=g',drawn:=d',toks:=t' }:=by
 have aa:∀ b o,X.s₀.heap.get? b=some o→b≠X.env.locals:=fun b o e=>zM (va (zA e) I.ok.above)
 have S:∀ b o,X.s₀.heap.get? b=some o→b∉X.ex→b∉ch:=fun b o e hx Y=>by
  rcases(O b Y).1 with z | z
  ·exact hx z
  ·exact absurd (va (zA e) z) (Hc _)
 have F:∀ x c,X.env.cells.lookup x=some c→∀ v,s.heap.IsCell c v→h'.IsCell c v:=fun x c e v ⟨o,Z,hd⟩=>by
  have J:c∉ch:=fun z=>(O c z).2.2.1 x c e rfl
  by_cases hc:c∈X.fs
  ·obtain⟨sl,q⟩:=slot c o (I.cne x c e) hc J Z (I.freeC x c e)
   exact⟨_,q,hd⟩
  ·exact⟨o,keep c o (I.cne x c e) hc J Z (I.freeC x c e),hd⟩
 refine⟨I.ok,I.os,hg,⟨fun b o e n Y hx=>?_,fun b o e n Y hx=>?_,fun b o e n hx=>?_,fun b o e hx=>?_,fun b xs e=>tups b xs (I.base.tups b xs e),fun b o xs e=>frzs b o xs (I.base.frzs b o xs e),fun b ps e=>?_⟩,?_,fun x c e=>?_,?_,fun x c e=>?_,fun p hp=>?_,hok,I.len⟩
 ·exact keep b o (aa b o e) Y (S b o e hx) (I.base.keep b o e n Y hx) (I.base.free b o e n hx)
 ·obtain⟨sl,W⟩:=I.base.slot b o e n Y hx
  obtain⟨ad,e2⟩:=slot b _ (aa b o e) Y (S b o e hx) W (I.base.free b o e n hx)
  exact⟨ad,e2⟩
 ·obtain⟨o',W⟩:=I.base.there b o e hx
  exact free b o' (S b o e hx) W (I.base.free b o e n hx)
 ·obtain⟨o',W⟩:=I.base.there b o e hx
  exact there b o' (S b o e hx) W
 ·obtain⟨m1,W⟩:=I.base.tbls b ps e
  obtain⟨m2,e2⟩:=tbls b _ W
  exact⟨m1++m2,by rw[e2,Array.append_assoc]⟩
 ·obtain⟨m,hn,hl⟩:=I.loc
  refine⟨m,ns m hn,fun i x v W e2 e3=>?_⟩
  obtain⟨u,r,l⟩:=hl i x v W e2 e3
  refine⟨u,r,?_⟩
  rcases l with l | ⟨k,c,e,z⟩
  ·exact .inl l
  ·exact .inr ⟨k,c,e,F x c e _ z⟩
 ·obtain⟨v,z⟩:=I.cell x c e
  exact⟨v,F x c e v z⟩
 ·obtain⟨m,⟨o,_,_,Z,_⟩,_⟩:=I.loc
  exact free _ o (fun z=>(O _ z).2.1 rfl) Z I.free
 ·obtain⟨v,o,Z,hd⟩:=I.cell x c e
  exact free c o (fun z=>(O c z).2.2.1 x c e rfl) Z (I.freeC x c e)
 ·obtain⟨e,n,ne,nf,d⟩:=I.pin p hp
  have J:p.1∉ch:=fun z=>(O p.1 z).2.2.2 p hp rfl
  exact⟨keep p.1 p.2 ne nf J e n,free p.1 p.2 J e n,ne,nf,d⟩
theorem Inv.un{t':Nat}(I:Inv X pins σ H s)(u:Un X.fs [] H H' s.heap h')(hok:EM X.prog X.w H' h'):Inv X pins σ H' { s with heap:=h',toks:=t' }:=by
 obtain⟨m,⟨o,es,Z,O,r⟩,_⟩:=id I.loc
 obtain⟨sl,S⟩:=u.any O I.free (by simp)
 exact I.step (g':=s.gens) (d':=s.drawn) (ch:=[]) (fun _ z=>nomatch z) (fun b o _ J _ e n=>u.keep b o e n J (by simp)) (fun b o _ J _ e n=>u.slot b o e n J (by simp)) (fun b o _ e n=>u.free b o e n (by simp)) (fun b o _ e=>u.there b o e (by simp)) u.tups u.frzs u.tbls (fun m' W=>by
  obtain⟨o',es',ep',F,Y⟩:=W
  rw[O]at F; cases F
  exact⟨_,es',ep',S,Y⟩) hok I.bare
theorem Inv.call{g':Array GenState}{t':Nat}{d':Drawn}{ch:List Addr}(I:Inv X pins σ H s)(u:Un (eO X.stack) ch H H' s.heap h')(hok:EM X.prog X.w H' h')(hg:AllBare g')
  (O:∀ b∈ch,(b∈X.ex∨X.s₀.heap.objs.size≤b)∧b≠X.env.locals∧(∀ x c,X.env.cells.lookup x=some c→c≠b)∧∀ p∈X.pn++pins,p.1≠b) :
  Inv X pins σ H' { s with heap:=h',gens:=g',drawn:=d',toks:=t' }:=by
 obtain⟨m,⟨o,es,ep,W,r⟩,_⟩:=id I.loc
 obtain⟨sl,S⟩:=u.any W I.free fun z=>(O _ z).2.1 rfl
 exact I.step (ch:=ch) O (fun b o S Z F e n=>u.keep b o e n (fun z=>(HW.mp (I.stkSub b z)).elim S Z) F) (fun b o _ _ F e n=>u.any e n F) (fun b o F e n=>u.free b o e n F) (fun b o F e=>u.there b o e F) u.tups u.frzs u.tbls (fun m' Y=>by
  obtain⟨o',es',ep',J,r'⟩:=Y
  rw[W]at J; cases J
  exact⟨_,es',ep',S,r'⟩) hok hg
theorem Inv.turned{t':Nat}{it:Addr}(I:Inv X pins σ H s)(k:∀ b o,b≠it→s.heap.get? b=some o→h'.get? b=some o)(S:H it=none)(O:it≠X.env.locals)
  (h1:it∈X.ex∨X.s₀.heap.objs.size≤it) (h2:∀ x c,X.env.cells.lookup x=some c→c≠it) (Z:∀ p∈X.pn++pins,p.1≠it):Inv X pins σ H { s with heap:=h',toks:=t' }:=by
 have J:∀ b u,H b=some u→b≠it:=fun b u e z=>by rw[z,S]at e; cases e
 refine I.step (g':=s.gens) (d':=s.drawn) (ch:=[it]) (fun b hb=>?_) (fun b o _ _ F e _=>k b o (fun z=>F (by simp[z])) e) (fun b o _ _ F e _=>⟨o.slots,k b o (fun z=>F (by simp[z])) e⟩) (fun _ _ _ _ n=>n)
  (fun b o F e=>⟨o,k b o (fun z=>F (by simp[z])) e⟩) (fun _ _ e=>e) (fun _ _ _ e=>e) (fun b ps e=>⟨#[],by rw[e]; simp⟩) (fun m W=>?_) (fun b u e=>?_) I.bare
 ·have e:b=it:=by simpa using hb
  subst e;exact⟨h1,O,h2,Z⟩
 ·obtain⟨o,es,Y,ho,r⟩:=W
  exact⟨o,es,Y,k _ o (zB O) ho,r⟩
 ·refine(I.hok b u e).stay (fun c v F q=>k c v ?_ q) (fun _ q=>q) fun _ _ q=>q
  rcases F with z | z
  ·rw[z]; exact J b u e
  ·exact J c _ z
theorem Inv.tok(I:Inv X pins σ H s)(t:Nat):Inv X pins σ H { s with toks:=t }:=I.un (h':=s.heap) (t':=t) Un.refl I.hok
theorem Inv.kept{t':Nat}(I:Inv X pins σ H s)(k:∀ b u,s.heap.get? b=some u→h'.get? b=some u):Inv X pins σ H { s with heap:=h',toks:=t' }:=I.un (Un.kept k) (I.hok.kept k)
theorem Inv.laid{a:Addr}{o:HO}{t':Nat}(I:Inv X pins σ H s)(k:∀ b u,s.heap.get? b=some u→h'.get? b=some u)(hp:s.heap.objs.size≤a)(new:Ax X.prog X.w (upd H a o) h' a o) :
  Inv X pins σ (upd H a o) { s with heap:=h',toks:=t' }:=I.un (Un.laid k hp (I.hok.fresh hp)) (I.hok.laid k hp new)
theorem Inv.write{x e:Addr}{o:HO}{t':Nat}(I:Inv X pins σ H s)(J:xH (H x))(O:e=x∨H e=some (.own x))(k:∀ b u,b≠e→s.heap.get? b=some u→h'.get? b=some u)(F:∃ u,h'.get? e=some u)
  (new:Ax X.prog X.w (upd H x o) h' x o):Inv X pins σ (upd H x o) { s with heap:=h',toks:=t' }:=I.un (Un.write J O k F) (I.hok.write J O k F new)
theorem Inv.weak{σ':List (Option V)}(I:Inv X pins σ H s)(hl:σ'.length=σ.length)(w:∀ (i:Nat) v,σ'[i]? = some (some v)→σ[i]? = some (some v)):Inv X pins σ' H s:=
 ⟨I.ok,I.os,I.bare,I.base,let ⟨m,hn,hl'⟩:=I.loc; ⟨m,hn,fun i x v F J O=>hl' i x v F (w i v J) O⟩,I.cell,I.free,I.freeC,I.pin,I.hok,hl.trans I.len⟩
theorem Inv.pins_of{F:List (Addr × Obj)}(I:Inv X pins σ H s)(h:∀ p∈F,s.heap.get? p.1=some p.2∧H p.1=none∧p.1≠X.env.locals∧p.1∉X.fs∧∀ v,p.2.data ≠ .cell v):Inv X F σ H s:=
 ⟨I.ok,I.os,I.bare,I.base,I.loc,I.cell,I.free,I.freeC,fun p hp=>(HX.mp hp).elim (fun z=>I.pin p (mW _ z)) (h p),I.hok,I.len⟩
theorem mT{N:List Str}(F:N.Nodup){i j:Nat}{x:Str}(a:N[i]? = some x)(b:N[j]? = some x):i=j:=by
 obtain⟨h1,O⟩:=HL.mp a
 obtain⟨h2,J⟩:=HL.mp b
 exact(Hz F).mp (O.trans J.symm)
theorem pJ{M:Model}{A:Around}{E:Value→Shared→Prop}{i:Nat}{x:Str}{v:V}{u:Value}{Q:Unit→Shared→Prop}(I:Inv X pins σ H s)(hN:X.N.Nodup)(hi:X.N[i]? = some x)(hx:aQ X.env.scope x)(r:RelV v u)
  (h:∀ s',Inv X pins (σ.set i (some v)) H s'→(∃ a,Heap.SameBut a s.heap s'.heap∧(a=X.env.locals∨X.env.cells.lookup x=some a))→Q () s') (hf:X.fn x=true∨X.env.scope.names.lookup x=some .local:=by first | exact .inl rfl | exact .inr rfl | assumption):wpAny M A (storeName X.env x u) Q E s:=by
 obtain⟨m,hn,hl⟩:=id I.loc
 have ag:(X.env.scope.kind == .class||(X.env.scope.kind == .module&&X.env.locals != X.env.globals))=false:=by rw[I.ok.kind]; rfl
 have an : i<σ.length:=by rw[I.len]; exact(HL.mp hi).1
 have cne:=I.cne
 have J:∀ {a:Addr} {h':Heap},(∃ o,s.heap.get? a=some o∧H a=none)→Heap.SameBut a s.heap h'→EM X.prog X.w H h':=fun {a h'} ha F b ob e=>by
  obtain⟨_,_,W⟩:=ha
  refine(I.hok b ob e).stay (fun c w' S q=>(F.2 c ?_).trans q) (fun _ q=>q) fun _ _ q=>q
  rintro rfl
  rcases S with rfl | S
  ·rw[W]at e; cases e
  ·rw[W]at S; cases S
 rcases hx with Z | Z
 ·refine wpAny_storeName_local Z hn (fun h' a2 F=>?_) ag
  obtain⟨oL,_,_,a1,_⟩:=id hn
  refine h _ ⟨I.ok,I.os,I.bare,⟨fun b o e n hb hx=>?_,fun b o e n hb hx=>?_,I.base.free,fun b o e hx=>?_,I.base.tups,I.base.frzs,I.base.tbls⟩,⟨_,a2,fun j y v' O Y e3=>?_⟩,fun y c e=>?_,I.free,I.freeC,fun p hp=>?_,J ⟨oL,a1,I.free⟩ F,by simpa using I.len⟩ ⟨_,F,.inl rfl⟩
  ·exact(F.2 b (zM (va (zA e) I.ok.above))).trans (I.base.keep b o e n hb hx)
  ·obtain⟨sl,O⟩:=I.base.slot b o e n hb hx
   exact⟨sl,(F.2 b (zM (va (zA e) I.ok.above))).trans O⟩
  ·obtain⟨o',O⟩:=I.base.there b o e hx
   exact⟨o',(F.2 b (zM (va (zA e) I.ok.above))).trans O⟩
  ·by_cases hj:j=i
   ·subst hj
    rw[hi]at O; cases O
    rw[zbO an]at Y
    cases Y;exact⟨u,r,.inl ⟨Z,by simp⟩⟩
   ·rw[zby (zB hj)]at Y
    obtain⟨u',r',q⟩:=hl j y v' O Y e3
    refine⟨u',r',?_⟩
    rcases q with ⟨k,e⟩ | ⟨k,c,e,z⟩
    ·refine .inl ⟨k,?_⟩
     have:y≠x:=fun e=>hj (mT hN O (e ▸ hi))
     simp[this,e]
    ·exact .inr ⟨k,c,e,z.sameBut F (cne y c e)⟩
  ·obtain⟨w',z⟩:=I.cell y c e
   exact⟨w',z.sameBut F (cne y c e)⟩
  ·obtain⟨e,n,ne,nf,d⟩:=I.pin p hp
   exact⟨(F.2 p.1 ne).trans e,n,ne,nf,d⟩
 ·have aa:X.fn x=true:=by
   rcases hf with z | z
   ·exact z
   ·rw[z]at Z; cases Z
  obtain⟨c,S⟩:=I.ok.has x (.inl Z)
  obtain⟨w',z⟩:=I.cell x c S
  refine wpAny_storeName_cell I.ok.kind Z S z (fun h' ad F=>?_)
  obtain⟨oc,as,a0⟩:=id z
  refine h { s with heap:=h' } ⟨I.ok,I.os,I.bare,⟨fun b o e n hb hx=>?_,fun b o e n hb hx=>?_,I.base.free,fun b o e hx=>?_,I.base.tups,I.base.frzs,I.base.tbls⟩,⟨m,hn.sameBut F (zB (cne x c S)),fun j y v' O Y e3=>?_⟩,fun y c' e=>?_,I.free,I.freeC,fun p hp=>?_,J ⟨oc,as,I.freeC x c S⟩ F,by simpa using I.len⟩ ⟨c,F,.inr S⟩
  ·exact(F.2 b (zM (va (zA e) (I.ok.cab x c aa S)))).trans (I.base.keep b o e n hb hx)
  ·obtain⟨sl,O⟩:=I.base.slot b o e n hb hx
   exact⟨sl,(F.2 b (zM (va (zA e) (I.ok.cab x c aa S)))).trans O⟩
  ·obtain⟨o',O⟩:=I.base.there b o e hx
   exact⟨o',(F.2 b (zM (va (zA e) (I.ok.cab x c aa S)))).trans O⟩
  ·by_cases hj:j=i
   ·subst hj
    rw[hi]at O; cases O
    rw[zbO an]at Y
    cases Y;exact⟨u,r,.inr ⟨.inl Z,c,S,ad⟩⟩
   ·rw[zby (zB hj)]at Y
    obtain⟨u',r',q⟩:=hl j y v' O Y e3
    refine⟨u',r',?_⟩
    rcases q with q | ⟨k,c',e,z'⟩
    ·exact .inl q
    ·refine .inr ⟨k,c',e,z'.sameBut F ?_⟩
     rintro rfl
     exact hj (mT hN O (I.ok.inj _ _ _ e S ▸ hi))
  ·by_cases hcc:c'=c
   ·subst hcc; exact⟨_,ad⟩
   ·obtain⟨w2,z2⟩:=I.cell y c' e
    exact⟨w2,z2.sameBut F hcc⟩
  ·obtain⟨e,n,ne,nf,d⟩:=I.pin p hp
   refine⟨(F.2 p.1 ?_).trans e,n,ne,nf,d⟩
   intro q
   rw[q,as]at e
   have q':oc=p.2:=Option.some.inj e
   exact d w' (by rw[← q']; exact a0)
theorem kq{M:Model}{A:Around}{E:Value→Shared→Prop}{i:Nat}{x:Str}{v:V}{u:Value}{Q:Unit→Shared→Prop}(I:Inv X pins σ H s)(F:X.N.Nodup)(hi:X.N[i]? = some x)(hx:aQ X.env.scope x)(r:RelV v u)
  (h:∀ s',Inv X pins (σ.set i (some v)) H s'→Q () s') (hf:X.fn x=true∨X.env.scope.names.lookup x=some .local:=by first | exact .inl rfl | exact .inr rfl | assumption):wpAny M A (storeName X.env x u) Q E s:=
 pJ I F hi hx r (fun s' J _=>h s' J) hf
theorem Inv.call'{s':Shared}{ch:List Addr}(I:Inv X pins σ H s)(J:s'.os=s.os)(u:Un (eO X.stack) ch H H' s.heap s'.heap)(hok:EM X.prog X.w H' s'.heap)(hg:AllBare s'.gens)
  (F:∀ b∈ch,(b∈X.ex∨X.s₀.heap.objs.size≤b)∧b≠X.env.locals∧(∀ x c,X.env.cells.lookup x=some c→c≠b)∧∀ p∈X.pn++pins,p.1≠b):Inv X pins σ H' s':=by
 obtain⟨h',g',d',t',o'⟩:=s'
 have e:o'=s.os:=J
 subst e;exact I.call (g':=g') (t':=t') (d':=d') u hok hg F
end
abbrev XK:=Value→Option Addr→Hp→Prop
abbrev St:=List (Option V)
abbrev VK:=V→Hp→Prop
abbrev TE:=St→Hp→VK→Prop
abbrev TT:=St→Hp→(Bool→Hp→Prop)→Prop
abbrev TA:=St→Hp→(List V→Hp→Prop)→Prop
set_option genInjectivity false in
set_option genSizeOf false in
structure dH where
 nx:St→Hp→Prop
 rt:VK
 bk:St→Hp→Prop:=fun _ _=>False
 ct:St→Hp→Prop:=fun _ _=>False
abbrev TS:=dH→St→Hp→Prop
def EP(X:Cx)(pins:List (Addr × Obj))(σ : St)(Q:VK)(u:Value)(s':Shared):Prop:=∃ v H',Inv X pins σ H' s'∧RelV v u∧Q v H'
def TP(X:Cx)(pins:List (Addr × Obj))(σ : St)(Q:Bool→Hp→Prop)(b:Bool)(s':Shared):Prop:=∃ H',Inv X pins σ H' s'∧Q b H'
def AP(X:Cx)(pins:List (Addr × Obj))(σ : St)(Q:List V→Hp→Prop)(us:List Value)(s':Shared):Prop:=∃ vs H',Inv X pins σ H' s'∧wh vs us∧Q vs H'
def SP(X:Cx)(pins:List (Addr × Obj))(D:dH)(f:Flow)(s':Shared):Prop:=
 match f with
 | .next=>∃ σ' H',Inv X pins σ' H' s'∧D.nx σ' H'
 | .brk=>∃ σ' H',Inv X pins σ' H' s'∧D.bk σ' H'
 | .cont=>∃ σ' H',Inv X pins σ' H' s'∧D.ct σ' H'
 | .ret u=>∃ v σ' H',Inv X pins σ' H' s'∧RelV v u∧D.rt v H'
def PE(X:Cx)(e:Expr)(t:TE):Prop:=
 ∀ (pins:List (Addr × Obj)) (s:Shared) (σ : St) (H:Hp) (Q:VK),Inv X pins σ H s→t σ H Q→wpAny (model X.prog X.w) X.A (eval e X.env) (EP X pins σ Q) X.xe s
def PT(X:Cx)(e:Expr)(t:TT):Prop:=
 ∀ (pins:List (Addr × Obj)) (s:Shared) (σ : St) (H:Hp) (Q:Bool→Hp→Prop),Inv X pins σ H s→t σ H Q→wpAny (model X.prog X.w) X.A (isTrue e X.env (eval e X.env)) (TP X pins σ Q) X.xe s
def PW(X:Cx)(e:Expr)(t:TT):Prop:=
 ∀ (whole:Sem Value) (pins:List (Addr × Obj)) (s:Shared) (σ : St) (H:Hp) (Q:Bool→Hp→Prop),Inv X pins σ H s→t σ H Q→wpAny (model X.prog X.w) X.A (isTrue e X.env whole) (TP X pins σ Q) X.xe s
theorem PW.pt{X:Cx}{e:Expr}{t:TT}(h:PW X e t):PT X e t:=h _
def PA(X:Cx)(es:List Expr)(t:TA):Prop:=
 ∀ (pos:Pos) (pins:List (Addr × Obj)) (s:Shared) (σ : St) (H:Hp) (Q:List V→Hp→Prop),Inv X pins σ H s→t σ H Q→wpAny (model X.prog X.w) X.A (spliced (backTo pos (starEach es X.env))) (AP X pins σ Q) X.xe s
def PS(X:Cx)(st:Stmt)(t:TS):Prop:=
 ∀ (pins:List (Addr × Obj)) (s:Shared) (σ : St) (H:Hp) (D:dH),Inv X pins σ H s→t D σ H→wpAny (model X.prog X.w) X.A (exec st X.env) (SP X pins D) X.xe s
def FP(X:Cx)(st:List Stmt)(t:TS):Prop:=
 ∀ (pins:List (Addr × Obj)) (s:Shared) (σ : St) (H:Hp) (D:dH),Inv X pins σ H s→t D σ H→wpAny (model X.prog X.w) X.A (execs st X.env) (SP X pins D) X.xe s
theorem bc{α : Type}{t:Sem α}{Q F:α→Shared→Prop}{M:Model}{A:Around}{E:Value→Shared→Prop}{s:Shared}(h:wpAny M A t Q E s)(J:∀ a s,Q a s→F a s):wpAny M A t F E s:=wpAny_mono h J fun _ _ x=>x
section
variable{X:Cx}
def pe(i:Nat):TE:=fun σ H Q=>∃ v,σ[i]? = some (some v)∧Q v H
def tC(v:V):TE:=fun _ H Q=>Q v H
theorem ym{i:Nat}{x:Str}{pos:Pos}(Z:X.N[i]? = some x)(hv:aq X.env.scope x)(hd:(x == ("__debug__" : Str))=false:=by decide) (hcd:(x == ("__classdict__" : Str))=false:=by decide):PE X (.Name x pos) (pe i):=by
 intro pins s σ H Q I h
 obtain⟨v,e,h⟩:=h
 obtain⟨m,W,hl⟩:=I.loc
 obtain⟨u,r,l⟩:=hl i x v Z e hv
 have O:EP X pins σ Q u s:=⟨v,H,I,r,h⟩
 rcases l with ⟨J,Y⟩ | ⟨J,c,S,F⟩
 ·exact wpAny_Name (wpAny_loadName_local I.ok.kind J W Y O) hd
 ·rcases J with J | J
  ·exact wpAny_Name (wpAny_loadName_cell I.ok.kind J S F O) hd
  ·exact wpAny_Name (wpAny_loadName_free I.ok.kind J S F O hcd) hd
theorem ah{i j pos}:PE X (.Constant (.int i) j pos) (tC (.int i)):=fun _ _ _ H _ I h=>wpAny_Constant_int ⟨.int i,H,I.tok _,⟨_,rfl⟩,h⟩
theorem iD{b j pos}:PE X (.Constant (.bool b) j pos) (tC (.bl b)):=fun _ _ _ H _ I h=>Constant_bool ⟨.bl b,H,I,rfl,h⟩
theorem ck{j pos}:PE X (.Constant .none j pos) (tC .non):=fun _ _ _ H _ I h=>Constant_none ⟨.non,H,I,rfl,h⟩
theorem cI{x j pos}:PE X (.Constant (.str x) j pos) (tC (.str x)):=fun _ _ _ H _ I h=>Calls.Constant_str ⟨.str x,H,I.tok _,⟨_,rfl⟩,h⟩
def Gl(X:Cx)(x:Str):Prop:=X.env.kindOf x=some .globalImplicit
theorem vSs{s:Stmt}{x:Str}(h:(L2.h8 s).names.lookup x=some .local):aq (L2.h8 s) x:=Or.inl h
theorem vLl{s:Stmt}{x:Str}(h:(L2.h8 s).names.lookup x=some .local):aQ (L2.h8 s) x:=Or.inl h
theorem Gx{s:Stmt}{x:Str}(h:(L2.h8 s).names.lookup x=some .globalImplicit):(L2.h8 s).names.lookup x=some .globalImplicit:=h
theorem jc{E:Value→Shared→Prop}{pins:List (Addr × Obj)}{s:Shared}{σ : St}{H:Hp}{x:Str}{u:Value}{pos:Pos}{Q:Value→Shared→Prop}(I:Inv X pins σ H s)(hg:Gl X x)(F:X.mg x=some u)(h:Q u s)
  (hd:(x == ("__debug__" : Str))=false:=by decide):wpAny (model X.prog X.w) X.A (eval (.Name x pos) X.env) Q E s:=
 Calls.Name_function_global I.ok.kind hg (Calls.loadGlobal_global (by rw[I.ok.glob]; exact I.mod.glob.keeps I.bk) F h) hd
theorem iI{E:Value→Shared→Prop}{pins:List (Addr × Obj)}{s:Shared}{σ : St}{H:Hp}{x:Str}{u:Value}{pos:Pos}{Q:Value→Shared→Prop}(I:Inv X pins σ H s)(hg:Gl X x)(J:X.mg x=none)(hv:bootBuiltins x=some u)(h:Q u s)
  (F:x ≠ "__name__" := by decide) (hd:(x == ("__debug__" : Str))=false:=by decide):wpAny (model X.prog X.w) X.A (eval (.Name x pos) X.env) Q E s:=by
 obtain⟨O,h1,h2⟩:=I.mod.blt
 exact Calls.Name_function_global I.ok.kind hg (Calls.loadGlobal_builtin (by rw[I.ok.glob]; exact I.mod.glob.keeps I.bk) J (by rw[I.ok.blt]; exact h1.keeps I.bk) ((h2 x F).trans hv) h) hd
theorem oN{x:Str}{v:V}{u:Value}{pos:Pos}(hg:Gl X x)(F:X.mg x=some u)(r:RelV v u)(hd:(x == ("__debug__" : Str))=false:=by decide):PE X (.Name x pos) (tC v):=
 fun _ _ _ H _ I h=>jc I hg F ⟨v,H,I,r,h⟩ hd
theorem Ct{x:Str}{v:V}{u:Value}{pos:Pos}(hg:Gl X x)(J:X.mg x=none)(hv:bootBuiltins x=some u)(r:RelV v u)(F:x ≠ "__name__" := by decide) (hd:(x == ("__debug__" : Str))=false:=by decide):PE X (.Name x pos) (tC v):=
 fun _ _ _ H _ I h=>iI I hg J hv ⟨v,H,I,r,h⟩ F hd
variable{a b:Expr}{ta tb:TE}{pos:Pos}
def tB(t:TE):TT:=fun σ H Q=>t σ H fun x H1=>∃ c,x = .bl c∧Q c H1
theorem oz{e:Expr}{t:TE}(h:PE X e t)(W:∀ whole,isTrue e X.env whole=(do let v ← whole; standAt e.pos; holding [v] (truthy v)):=by intro _; rfl):PT X e (tB t):=by
 intro pins s σ H Q I S
 refine isTrue_plain (bc (h pins s σ H _ I S) fun v s1 ⟨x,H1,O,F,J⟩=>?_) (W _)
 obtain⟨d,rfl,q⟩:=J
 cases F;exact wpAny_truthy_bool ⟨H1,O,q⟩
variable{tA tB':TT}{Dk:List Expr}
def E3(t u:TT):TT:=fun σ H Q=>t σ H fun c H1=>if c=true then u σ H1 Q else Q false H1
def F7(t u:TT):TT:=fun σ H Q=>t σ H fun c H1=>if c=true then Q true H1 else u σ H1 Q
def CI(t:TT):TT:=fun σ H Q=>t σ H fun c H1=>Q (!c) H1
theorem j8(F:PT X a tA):PW X (.BoolOp .And [a] pos) tA:=by
 intro J pins s σ H Q I h
 refine isTrue_and (bc (F pins s σ H Q I h) fun c s1 e=>?_)
 cases c with
 | true=>exact isTrue_and_nil e
 | false=>exact e
theorem qV(F:PT X a tA):PW X (.BoolOp .Or [a] pos) tA:=by
 intro J pins s σ H Q I h
 refine isTrue_or (bc (F pins s σ H Q I h) fun c s1 e=>?_)
 cases c with
 | false=>exact isTrue_or_nil e
 | true=>exact e
theorem li(S:PT X a tA)(W:PW X (.BoolOp .And (b::Dk) pos) tB'):PW X (.BoolOp .And (a::b::Dk) pos) (E3 tA tB'):=by
 intro O pins s σ H Q I h
 refine isTrue_and (bc (S pins s σ H _ I h) fun c s1 ⟨H1,J,F⟩=>?_)
 cases c with
 | true=>exact W O pins s1 σ H1 Q J F
 | false=>exact⟨H1,J,F⟩
theorem vD(S:PT X a tA)(W:PW X (.BoolOp .Or (b::Dk) pos) tB'):PW X (.BoolOp .Or (a::b::Dk) pos) (F7 tA tB'):=by
 intro O pins s σ H Q I h
 refine isTrue_or (bc (S pins s σ H _ I h) fun c s1 ⟨H1,J,F⟩=>?_)
 cases c with
 | true=>exact⟨H1,J,F⟩
 | false=>exact W O pins s1 σ H1 Q J F
theorem xx(F:PT X a tA):PT X (.UnaryOp .Not a pos) (CI tA):=by
 intro pins s σ H Q I h
 exact isTrue_not (F pins s σ H (fun c H1=>Q (!c) H1) I h)
def Bk(ta tb:TE):TE:=fun σ H Q=>ta σ H fun x H1=>∃ c,x = .bl c∧if c=true then tb σ H1 Q else Q (.bl false) H1
def DT(ta tb:TE):TE:=fun σ H Q=>ta σ H fun x H1=>∃ c,x = .bl c∧if c=true then Q (.bl true) H1 else tb σ H1 Q
def Bl(ta:TE):TE:=fun σ H Q=>ta σ H fun x H1=>∃ c,x = .bl c∧Q (.bl (!c)) H1
theorem j_{op}{t:TE}(h:PE X a t):PE X (.BoolOp op [a] pos) t:=fun pins s σ H Q I F=>BoolOp_one (h pins s σ H Q I F)
theorem DK(S:PE X a ta)(W:PE X (.BoolOp .And (b::Dk) pos) tb):PE X (.BoolOp .And (a::b::Dk) pos) (Bk ta tb):=by
 intro pins s σ H Q I h
 refine BoolOp_and (bc (S pins s σ H _ I h) fun v s1 ⟨x,H1,J,O,F⟩=>?_)
 obtain⟨c,rfl,F⟩:=F
 cases O;refine wpAny_truthy_bool ?_
 cases c with
 | true=>exact W pins s1 σ H1 Q J F
 | false=>exact⟨.bl false,H1,J,rfl,F⟩
theorem gj(S:PE X a ta)(W:PE X (.BoolOp .Or (b::Dk) pos) tb):PE X (.BoolOp .Or (a::b::Dk) pos) (DT ta tb):=by
 intro pins s σ H Q I h
 refine BoolOp_or (bc (S pins s σ H _ I h) fun v s1 ⟨x,H1,J,O,F⟩=>?_)
 obtain⟨c,rfl,F⟩:=F
 cases O;refine wpAny_truthy_bool ?_
 cases c with
 | false=>exact W pins s1 σ H1 Q J F
 | true=>exact⟨.bl true,H1,J,rfl,F⟩
theorem nC(J:PE X a ta):PE X (.UnaryOp .Not a pos) (Bl ta):=by
 intro pins s σ H Q I h
 refine UnaryOp_ (bc (J pins s σ H _ I h) fun v s1 ⟨x,H1,S,O,F⟩=>?_)
 obtain⟨c,rfl,F⟩:=F
 cases O;exact not_of (wpAny_truthy_bool ⟨.bl (!c),H1,S,rfl,F⟩)
def F0(t:TT)(ta tb:TE):TE:=fun σ H Q=>t σ H fun c H1=>if c=true then ta σ H1 Q else tb σ H1 Q
theorem mU{c:Expr}(O:PT X c tA)(S:PE X a ta)(W:PE X b tb):PE X (.IfExp c a b pos) (F0 tA ta tb):=by
 intro pins s σ H Q I h
 refine wpAny_IfExp (bc (O pins s σ H _ I h) fun d s1 ⟨H1,J,F⟩=>?_)
 cases d with
 | true=>exact S pins s1 σ H1 Q J F
 | false=>exact W pins s1 σ H1 Q J F
end
def rd(K:W.Frag)(H:Hp)(a:Addr)(xs:List V):Prop:=
 Rd H a (.lst xs)∨
  ∃ (o:Obj) (its:Array Value) (n:Nat),K.lookup a=some o∧o.cls = .type "list" ∧ o.dict=none∧o.data = .seq its n∧its.size≤sizeLine∧wh xs its.toList
def C3(K:W.Frag)(H:Hp)(a:Addr)(xs:List V):Prop:=
 Rd H a (.tup xs)∨
  ∃ (o:Obj) (its:Array Value) (n:Nat),K.lookup a=some o∧o.cls = .type "tuple" ∧ o.data = .seq its n∧its.size≤sizeLine∧wh xs its.toList
def GO:Value→Option V
 | .none=>some .non
 | .bool b=>some (.bl b)
 | .int i _=>some (.int i)
 | .str x _=>some (.str x)
 | .bytes b _=>some (.byt b)
 | .float b _=>some (.flt b)
 | .ref a=>some (.ref a)
 | .type n=>some (.ty n)
 | _=>none
theorem RelV.abs{x:V}{u:Value}(r:RelV x u):GO u=some x:=by
 cases x with
 | non=>cases r; rfl
 | bl _=>cases r; rfl
 | int _=>obtain⟨t,rfl⟩:=r; rfl
 | str _=>obtain⟨t,rfl⟩:=r; rfl
 | byt _=>obtain⟨t,rfl⟩:=r; rfl
 | flt _=>obtain⟨t,rfl⟩:=r; rfl
 | ref _=>cases r; rfl
 | ty _=>cases r; rfl
theorem RelV.inj{x y:V}{u:Value}(r:RelV x u)(q:RelV y u):x=y:=Option.some.inj (r.abs.symm.trans q.abs)
theorem wh.inj:∀ {xs ys:List V} {us:List Value},wh xs us→wh ys us→xs=ys
 | _,_,_,.nil,.nil=>rfl
 | _,_,_,.cons r t,.cons r' t'=>by rw[r.inj r',wh.inj t t']
section
variable{X:Cx}{pins:List (Addr × Obj)}{σ : St}{H:Hp}{s:Shared}{a:Addr}{xs ys:List V}
theorem rd.of{K:W.Frag}(h:H a=some (.lst xs)):rd K H a xs:=.inl (.inl h)
theorem C3.of{K:W.Frag}(h:H a=some (.tup xs)):C3 K H a xs:=.inl (.inl h)
theorem Inv.list(I:Inv X pins σ H s)(h:rd X.K H a xs):∃ F:List Value,wh xs F∧PlainL s.heap a F.toArray∧xs.length≤sizeLine:=by
 rcases h with h | ⟨o,F,n,O,S,hd,J,hz,r⟩
 ·obtain⟨z,F,n,r,e⟩:=h.ok I.hok
  exact⟨F,r,⟨_,n,e,rfl,rfl,rfl⟩,z⟩
 ·refine⟨F.toList,r,⟨o,n,I.kIn a o O,S,hd,by simpa using J⟩,?_⟩
  have e:=r.length;simp only[y0]at e
  omega
theorem Inv.tuple(I:Inv X pins σ H s)(h:C3 X.K H a xs):∃ F:List Value,wh xs F∧IsTup s.heap a F.toArray∧xs.length≤sizeLine:=by
 rcases h with h | ⟨o,F,n,O,S,J,hz,r⟩
 ·obtain⟨z,F,r,p⟩:=h.ok I.hok
  exact⟨F,r,p.tup,z⟩
 ·refine⟨F.toList,r,⟨o,I.kIn a o O,S,n,by simpa using J⟩,?_⟩
  have e:=r.length;simp only[y0]at e
  omega
theorem Inv.list_inj(I:Inv X pins σ H s)(h:rd X.K H a xs)(h':rd X.K H a ys):xs=ys:=by
 obtain⟨F,r,⟨o,n,e,_,_,d⟩,_⟩:=I.list h
 obtain⟨its',O,⟨o',n',J,_,_,d'⟩,_⟩:=I.list h'
 rw[e]at J; cases J
 rw[d]at d'
 injection d' with d1 _
 have:F=its':=by simpa using congrArg Array.toList d1
 subst this;exact r.inj O
theorem Inv.tuple_inj(I:Inv X pins σ H s)(h:C3 X.K H a xs)(h':C3 X.K H a ys):xs=ys:=by
 obtain⟨F,r,⟨o,e,_,n,d⟩,_⟩:=I.tuple h
 obtain⟨its',O,⟨o',J,_,n',d'⟩,_⟩:=I.tuple h'
 rw[e]at J; cases J
 rw[d]at d'
 injection d' with d1 _
 have:F=its':=by simpa using congrArg Array.toList d1
 subst this;exact r.inj O
end
abbrev Cx.wish (X:Cx) (E:Value→Shared→Prop):Cx:={ X with xe:=E }
abbrev Cx.nox (X:Cx):Cx:=X.wish fun _ _=>False
theorem Cx.Ok.wish{X:Cx}(ok:X.Ok)(E:Value→Shared→Prop):(X.wish E).Ok:=
 ⟨ok.mod,ok.kind,ok.glob,ok.blt,ok.above,ok.inj,ok.has,ok.cab,ok.hd,ok.frames,ok.stk,ok.exf,ok.bs,ok.bsz,ok.noex,ok.exfs,ok.funs,ok.frf⟩
theorem Cx.Ok.unwish{X:Cx}{E:Value→Shared→Prop}(ok:(X.wish E).Ok):X.Ok:=
 ⟨ok.mod,ok.kind,ok.glob,ok.blt,ok.above,ok.inj,ok.has,ok.cab,ok.hd,ok.frames,ok.stk,ok.exf,ok.bs,ok.bsz,ok.noex,ok.exfs,ok.funs,ok.frf⟩
section
variable{X:Cx}{pins:List (Addr × Obj)}{σ : St}{H:Hp}{s:Shared}{E:Value→Shared→Prop}
theorem Inv.wish(I:Inv X pins σ H s)(E:Value→Shared→Prop):Inv (X.wish E) pins σ H s:=⟨I.ok.wish E,I.os,I.bare,I.base,I.loc,I.cell,I.free,I.freeC,I.pin,I.hok,I.len⟩
theorem Inv.unwish(I:Inv (X.wish E) pins σ H s):Inv X pins σ H s:=⟨I.ok.unwish,I.os,I.bare,I.base,I.loc,I.cell,I.free,I.freeC,I.pin,I.hok,I.len⟩
theorem SP.unwish{D:dH}{f:Flow}{s':Shared}(h:SP (X.wish E) pins D f s'):SP X pins D f s':=by
 cases f with
 | next=>obtain⟨F,H',I,q⟩:=h; exact⟨F,H',I.unwish,q⟩
 | brk=>obtain⟨F,H',I,q⟩:=h; exact⟨F,H',I.unwish,q⟩
 | cont=>obtain⟨F,H',I,q⟩:=h; exact⟨F,H',I.unwish,q⟩
 | ret u=>obtain⟨v,F,H',I,r,q⟩:=h; exact⟨v,F,H',I.unwish,r,q⟩
theorem FP.nox{st:List Stmt}{t:TS}(h:FP X.nox st t):FP X st t:=fun pins s σ H D I F=>
 wpAny_mono (h pins s σ H D (I.wish _) F) (fun _ _ q=>q.unwish) fun _ _ z=>False.elim z
end
section
variable{X:Cx}{st:Stmt}{Dk:List Stmt}{t u:TS}{e:Expr}{te:TE}{pos:Pos}
def Bg:TS:=fun D σ H=>D.nx σ H
def zE(t u:TS):TS:=fun D σ H=>t { D with nx:=u D } σ H
theorem bI:FP X [] Bg:=fun _ _ σ H _ I h=>wpAny_execs_nil ⟨σ,H,I,h⟩
theorem af(h1:PS X st t)(h2:FP X Dk u):FP X (st::Dk) (zE t u):=by
 intro pins s σ H D I h
 refine wpAny_execs_cons (bc (h1 pins s σ H { D with nx:=u D } I h) fun f s1 q=>?_)
 cases f with
 | next=>
  obtain⟨F,H',J,q⟩:=q
  exact h2 pins s1 F H' D J q
 | ret v=>exact q
 | brk=>exact q
 | cont=>exact q
theorem am(h1:PS X st t):FP X [st] t:=by
 intro pins s σ H D I h
 refine wpAny_execs_cons (bc (h1 pins s σ H D I h) fun f s1 q=>?_)
 cases f with
 | next=>exact wpAny_execs_nil q
 | ret v=>exact q
 | brk=>exact q
 | cont=>exact q
theorem Inv.quiet{pins:List (Addr × Obj)}{σ : St}{H:Hp}{s:Shared}(I:Inv X pins σ H s):interactive X.env=false:=by simp[interactive,I.ok.kind]
def vE(te:TE):TS:=fun D σ H=>te σ H fun _ H1=>D.nx σ H1
theorem c8(S:PE X e te)(F:swapsWith e none pos.line X.env=pure false:=by rfl):PS X (.Expr e pos) (vE te):=by
 intro pins s σ H D I h
 exact wpAny_Expr_any (bc (S pins s σ H _ I h) fun v s1 ⟨x,H1,O,W,J⟩=>⟨σ,H1,O,J⟩) I.quiet F
def Dt(te:TE):TS:=fun D σ H=>te σ H D.rt
theorem aV(S:PE X e te):PS X (.Return (some e) pos) (Dt te):=by
 intro pins s σ H D I h
 exact wpAny_Return_some (bc (S pins s σ H _ I h) fun v s1 ⟨x,H1,O,F,J⟩=>⟨x,σ,H1,O,F,J⟩)
def EW(c:TT)(t u:TS):TS:=fun D σ H=>c σ H fun b H1=>if b=true then t D σ H1 else u D σ H1
theorem cC{c:Expr}{a b:List Stmt}{tc:TT}(O:PT X c tc)(S:FP X a t)(W:FP X b u):PS X (.If c a b pos) (EW tc t u):=by
 intro pins s σ H D I h
 refine wpAny_If (bc (O pins s σ H _ I h) fun d s1 ⟨H1,J,F⟩=>?_)
 cases d with
 | true=>exact S pins s1 σ H1 D J F
 | false=>exact W pins s1 σ H1 D J F
def EI:TS:=fun _ _ _=>False
theorem zN:PS X st EI:=fun _ _ _ _ _ _ h=>h.elim
end
abbrev TG:=V→St→Hp→(St→Hp→Prop)→Prop
abbrev jA:=List V→St→Hp→(St→Hp→Prop)→Prop
def PG(X:Cx)(target:Expr)(t:TG):Prop:=
 ∀ (pins:List (Addr × Obj)) (s:Shared) (σ : St) (H:Hp) (v:V) (u:Value) (Q:St→Hp→Prop),Inv X pins σ H s→RelV v u→t v σ H Q→
  wpAny (model X.prog X.w) X.A (assign target X.env u) (fun _ s'=>∃ σ' H',Inv X pins σ' H' s'∧Q σ' H') X.xe s
def PGs(X:Cx)(ts:List Expr)(t:jA):Prop:=
 ∀ (pins:List (Addr × Obj)) (s:Shared) (σ : St) (H:Hp) (vs:List V) (us:List Value) (Q:St→Hp→Prop),Inv X pins σ H s→wh vs us→t vs σ H Q→
  wpAny (model X.prog X.w) X.A (assignInOrder ((assignEach ts X.env).map (·.2)) us) (fun _ s'=>∃ σ' H',Inv X pins σ' H' s'∧Q σ' H') X.xe s
abbrev lm:=V→V→V→Hp→(Hp→Prop)→Prop
def FH(X:Cx)(t:lm):Prop:=
 ∀ (pins:List (Addr × Obj)) (s:Shared) (σ : St) (H:Hp) (o i v:V) (ov iv u:Value) (Q:Hp→Prop),Inv X pins σ H s→RelV o ov→RelV i iv→RelV v u→t o i v H Q→
  wpAny (model X.prog X.w) X.A (setItem ov iv u) (fun _ s'=>∃ H',Inv X pins σ H' s'∧Q H') X.xe s
section
variable{X:Cx}{pos:Pos}
def iU(i:Nat):TG:=fun v σ H Q=>Q (σ.set i (some v)) H
theorem Ci{i:Nat}{x:Str}(F:X.N.Nodup)(hi:X.N[i]? = some x)(hx:aQ X.env.scope x)(hf:X.fn x=true∨X.env.scope.names.lookup x=some .local:=by first | exact .inl rfl | exact .inr rfl | assumption):PG X (.Name x pos) (iU i):=by
 intro pins s σ H v u Q I r h
 exact wpAny_assign_Name (kq I F hi hx r (fun s' J=>⟨_,H,J,h⟩) hf)
def uW:jA:=fun vs σ H Q=>vs=[]∧Q σ H
def qS(t:TG)(u:jA):jA:=fun vs σ H Q=>∃ v r,vs=v::r∧t v σ H fun σ' H'=>u r σ' H' Q
theorem fc:PGs X [] uW:=by
 intro pins s σ H F us Q I r h
 obtain⟨e,h⟩:=h
 subst e
 cases r;exact assignInOrder_nil ⟨σ,H,I,h⟩
theorem cA{e:Expr}{es:List Expr}{t:TG}{u:jA}(h1:PG X e t)(h2:PGs X es u)
  (F:(assignEach (e::es) X.env).map (·.2)=assign e X.env::(assignEach es X.env).map (·.2):=by rfl):PGs X (e::es) (qS t u):=by
 intro pins s σ H Y us Q I r h
 obtain⟨v,Z,W,h⟩:=h
 subst W
 cases r with
 | cons r rr=>
  rw[F];refine assignInOrder_cons (bc (h1 pins s σ H _ _ _ I r h) fun _ s1 ⟨S,H1,O,J⟩=>?_)
  exact h2 pins s1 S H1 _ _ Q O rr J
def vm(K:W.Frag)(n:Nat)(t:jA):TG:=fun v σ H Q=>∃ a xs,v = .ref a∧C3 K H a xs∧xs.length=n∧t xs σ H Q
theorem DR{es:List Expr}{k:Nat}{t:jA}{n:Nat}(S:X.calm=true)(h:PGs X es t)
  (O:(assignEach es X.env).length=n:=by rfl) (hst:(assignEach es X.env).findIdx? (·.1)=none:=by rfl):PG X (.Tuple es k pos) (vm X.K n t):=by
 intro pins s σ H v u Q I r F
 obtain⟨a,xs,e1,Y,hl,F⟩:=F
 subst e1
 cases r;obtain⟨Z,J,ht,hz⟩:=I.tuple Y
 refine assign_Tuple_tuple (I.ok.hd S) ht (by simp[O,← hl,J.length]) hst fun h' hx=>?_
 have W:Inv X pins σ H { s with heap:=h' }:=I.kept (t':=s.toks) fun b o e=>hx b o (zM (zA e)) e
 exact h pins _ σ H xs _ Q W (by simpa using J) F
def Ed(to ti:TE)(t:lm):TG:=fun v σ H Q=>to σ H fun o H1=>ti σ H1 fun i H2=>t o i v H2 fun H3=>Q σ H3
theorem gk{o i:Expr}{to O:TE}{t:lm}(ho:PE X o to)(hi:PE X i O)(S:FH X t)
  (ha:∀ v,assign (.Subscript o i pos) X.env v=(do
   let F ← holding [v] (eval o X.env)
   let J ← holding [v,F] (eval i X.env)
   standAt pos
   holding [v,F,J] (setItem F J v)
   release [v,F,J] []):=by intro _; rfl):PG X (.Subscript o i pos) (Ed to O t):=by
 intro pins s σ H v u Q I r h
 rw[ha];refine HG (wpAny_holding (bc (ho pins s σ H _ I h) fun F s1 ⟨x,H1,I1,W,Y⟩=>?_))
 refine HG (wpAny_holding (bc (hi pins s1 σ H1 _ I1 Y) fun J s2 ⟨y,H2,I2,r2,Z⟩=>?_))
 refine HG (wpAny_standAt (HG (wpAny_holding (bc (S pins s2 σ H2 x y v F J u _ I2 W r2 r Z) fun _ s3 ⟨H3,I3,q3⟩=>?_))))
 exact wpAny_release ⟨σ,H3,I3,q3⟩
def oO(te:TE)(g:TG):TS:=fun D σ H=>te σ H fun x H1=>g x σ H1 D.nx
theorem fu{tg e:Expr}{te:TE}{g:TG}(W:PE X e te)(hg:PG X tg g)(F:swapsWithSole [tg] e pos.line X.env=pure false:=by rfl)(hw:swappedStores [tg] e X.env=pure none:=by rfl)
  (h1:(assignEach [tg] X.env).map (·.2)=[assign tg X.env]:=by rfl):PS X (.Assign [tg] e pos) (oO te g):=by
 intro pins s σ H D I h
 refine wpAny_Assign_stores (bc (W pins s σ H _ I h) fun v s1 ⟨x,H1,S,J,O⟩=>?_) F hw
 rw[h1];exact bc (hg pins s1 σ H1 x v _ S J O) fun _ Y q=>q
theorem CJ{i:Nat}{x:Str}{e:Expr}{te:TE}{F:Pos}(Z:X.N.Nodup)(hi:X.N[i]? = some x)(hx:aQ X.env.scope x)(he:PE X e te)(J:swapsWith e (some (.Name x F)) pos.line X.env=pure false:=by rfl)(hf:X.fn x=true∨X.env.scope.names.lookup x=some .local:=by first | exact .inl rfl | exact .inr rfl | assumption) :
  PS X (.Assign [.Name x F] e pos) (oO te (iU i)):=by
 intro pins s σ H D I h
 refine wpAny_Assign_Name (bc (he pins s σ H _ I h) fun v s1 ⟨y,H1,W,O,S⟩=>?_) J
 exact kq W Z hi hx O (fun s2 Y=>⟨_,H1,Y,S⟩) hf
end
section
variable{X:Cx}{pos:Pos}
def EO(c:TT)(tb:TS):TS:=fun D σ H=>∃ W:Nat→St→Hp→Prop,(∃ m,W m σ H)∧∀ m σ H,W m σ H→
 c σ H fun b H1=>if b=true then ∃ N:St→Hp→Prop,(∀ σ' H',N σ' H'→∃ m',m'<m∧W m' σ' H')∧tb { D with nx:=N,ct:=N,bk:=D.nx } σ H1 else D.nx σ H1
theorem kQ{c:Expr}{body:List Stmt}{tc:TT}{tb:TS}(hp:PassesOwn (model X.prog X.w) X.A X.env X.xe)(hc:PT X c tc)(hb:FP X body tb):PS X (.While c body [] pos) (EO tc tb):=by
 intro pins s σ H D I h
 obtain⟨W,⟨m0,w0⟩,J⟩:=h
 refine wpAny_While (codeAny_whileLoop (fun n s'=>∃ σ' H',Inv X pins σ' H' s'∧W n σ' H') ?_ m0 ⟨σ,H,I,w0⟩)
 rintro n s1 ⟨Y,H1,I1,w1⟩
 refine wpAny_passesOwn hp (bc (hc pins s1 Y H1 _ I1 (J n Y H1 w1)) fun b s2 ⟨H2,I2,S⟩=>?_)
 cases b with
 | true=>
  obtain⟨N,hN,S⟩:=S
  rw[HS rfl];refine wpAny_passesOwn hp (bc (hb pins s2 Y H2 _ I2 S) fun f s3 Z=>?_)
  cases f with
  | next=>
   obtain⟨O,F,I3,n3⟩:=Z
   obtain⟨m',hm,w3⟩:=hN O F n3
   exact⟨m',hm,O,F,I3,w3⟩
  | cont=>
   obtain⟨O,F,I3,n3⟩:=Z
   obtain⟨m',hm,w3⟩:=hN O F n3
   exact⟨m',hm,O,F,I3,w3⟩
  | brk=>exact Z
  | ret v=>exact Z
 | false=>
  rw[HP vn];exact wpAny_execs_nil ⟨Y,H2,I2,S⟩
end
set_option genInjectivity false in
set_option genSizeOf false in
structure It where
 go:Nat→Hp→Prop
 yld:Nat→Hp→V→Hp→Prop
 stop:Nat→Hp→Prop
def iA(X:Cx)(pins:List (Addr × Obj))(H:Hp)(b:Addr):Prop:=
 H b=none∧b≠X.env.locals∧b∉X.fs∧(b∈X.ex∨X.s₀.heap.objs.size≤b)∧(∀ x c,X.env.cells.lookup x=some c→c≠b)∧∀ p∈X.pn++pins,p.1≠b
theorem Inv.fpOk{X:Cx}{pins:List (Addr × Obj)}{σ : St}{H H':Hp}{s:Shared}{b:Addr}(I:Inv X pins σ H s)(F:s.heap.objs.size≤b)(J:H' b=none):iA X pins H' b:=by
 refine⟨J,su (va I.lt F),I.nofs F,.inr (vg I.sz F),fun x c e z=>?_,fun p hp z=>?_⟩
 ·obtain⟨v,q⟩:=I.cell x c e
  exact absurd (va q.lt (by rw[z]; exact F)) (Hc _)
 ·exact absurd (va (zA (I.pin p hp).1) (by rw[z]; exact F)) (Hc _)
structure mP (P:Program) (w:World) (K:W.Frag) (tg:Expr) (J:It) (fp:List Addr) (it:Addr) (tn:Nat→Heap→Prop):Prop where
 mem:it∈fp
 obj:∀ i h,tn i h→∀ b∈fp,∃ o,h.get? b=some o∧∀ v,o.data ≠ .cell v
 keep:∀ i h h',tn i h→(∀ b∈fp,∀ o,h.get? b=some o→h'.get? b=some o)→tn i h'
 item:∀ (X:Cx),X.prog=P→X.w=w→X.K=K→X.calm=true→∀ (i:Nat) (pins:List (Addr × Obj)) (s:Shared) (σ : St) (H:Hp) (E:Value→Shared→Prop),Inv X pins σ H s→(∀ b∈fp,iA X pins H b)→tn i s.heap→J.go i H→
  wpAny (model P w) X.A (pyNext (.ref it)) (fun r s1=>∃ u,r=some u∧
   wpAny (model P w) X.A (letOwnedTupleGo tg (.ref it) u) (fun _ s2=>∃ x H',Inv X pins σ H' s2∧RelV x u∧J.yld i H x H'∧tn (i+1) s2.heap∧∀ b∈fp,H' b=none) E s1) E s
 done:∀ (X:Cx),X.prog=P→X.w=w→X.K=K→X.calm=true→∀ (i:Nat) (pins:List (Addr × Obj)) (s:Shared) (σ : St) (H:Hp) (E:Value→Shared→Prop),Inv X pins σ H s→(∀ b∈fp,iA X pins H b)→tn i s.heap→J.stop i H→
  wpAny (model P w) X.A (pyNext (.ref it)) (fun r s1=>r=none∧Inv X pins σ H s1) E s
 self:∀ (A:Around) (i:Nat) (s:Shared) (Q:Value→Shared→Prop) (E:Value→Shared→Prop),tn i s.heap→Q (.ref it) s→wpAny (model P w) A (pyIter (.ref it)) Q E s
abbrev TI:=St→Hp→(It→Hp→Prop)→Prop
def FT(X:Cx)(pins:List (Addr × Obj))(σ : St)(tg:Expr)(R:It→Hp→Prop)(itv:Value)(s2:Shared):Prop:=
 ∃ (it:Addr) (fp:List Addr) (tn:Nat→Heap→Prop) (J:It) (H':Hp),itv = .ref it∧Inv X pins σ H' s2∧mP X.prog X.w X.K tg J fp it tn∧tn 0 s2.heap∧(∀ b∈fp,iA X pins H' b)∧R J H'
def PI(X:Cx)(tg Ai:Expr)(wi:TI):Prop:=
 ∀ (pins:List (Addr × Obj)) (s:Shared) (σ : St) (H:Hp) (R:It→Hp→Prop),Inv X pins σ H s→wi σ H R→
  wpAny (model X.prog X.w) X.A (eval Ai X.env) (fun v s1=>wpAny (model X.prog X.w) X.A (pyIter v) (FT X pins σ tg R) X.xe s1) X.xe s
theorem A9{M:Model}{A:Around}{E:Value→Shared→Prop}{s:Shared}{tg:Expr}{it:Addr}{u:Value}{o:Obj}{n:String}{J:Array Value}{Q:Unit→Shared→Prop}(W:s.heap.get? it=some o)(S:o.cls = .type n)(hd:o.data = .fields J)
    (O:["enumerate", "zip", "dict_itemiterator", "dict_reverseitemiterator", "odict_iterator", "itertools.zip_longest", "itertools.pairwise"].contains n=false) (F:Q () s):wpAny M A (letOwnedTupleGo tg (.ref it) u) Q E s:=by
  unfold letOwnedTupleGo
  cases tg <;> first
    | exact HI F
    | (cases u <;> first
        | exact HI F
        | (refine HG (wpAny_load W ?_)
           rw[S,hd];show wpAny M A (if (["enumerate", "zip", "dict_itemiterator", "dict_reverseitemiterator", "odict_iterator", "itertools.zip_longest", "itertools.pairwise"].contains n&&J[0]? == some (rawInt _))=true then _ else _) Q E s
           rw[HP (by intro h; rw[O,Bool.false_and]at h; cases h)]
           exact HI F))
def pN(K:W.Frag)(a:Addr):It:=
 ⟨fun i H=>∃ xs x,rd K H a xs∧xs[i]? = some x,fun i H x H'=>H'=H∧∀ xs,rd K H a xs→xs[i]? = some x,fun i H=>∃ xs,rd K H a xs∧xs.length≤i⟩
def mJ(lo:Int)(n:Nat):It:=⟨fun i _=>i<n,fun i H x H'=>H'=H∧x = .int (lo+i),fun i _=>n≤i⟩
theorem wM{P:Program}{w:World}{K:W.Frag}{tg:Expr}(a it:Addr):mP P w K tg (pN K a) [it] it (fun i h=>h.IsListIter it a i) where
 mem:=by simp
 obj:=fun i h st b F=>by
  have e:b=it:=by simpa using F
  subst e;obtain⟨o,e,c,d⟩:=st
  exact⟨o,e,fun v z=>by rw[d]at z; cases z⟩
 keep:=fun i h h' st k=>st.at fun o e=>k it (by simp) o e
 item:=by
  intro X S hw Y hc i pins s σ H E I hf st hg
  subst S hw Y;obtain⟨xs,x,O,hx⟩:=hg
  obtain⟨Z,rv,p,hz⟩:=I.list O
  obtain⟨u,hu,ru⟩:=rv.get hx
  obtain⟨f0,f1,f2,f3,f4,f5⟩:=hf it (by simp)
  refine wpAny_pyNext_list_item st p.isList (x:=u) (by simpa using hu) fun h' J sb=>?_
  have I1:Inv X pins σ H { s with heap:=h' }:=I.turned (t':=s.toks) (fun b o F e=>(sb.2 b F).trans e) f0 f1 f3 f4 f5
  obtain⟨o,e,c,d⟩:=id J
  exact⟨u,rfl,A9 (s:={ s with heap:=h' }) e c d (by decide) ⟨x,H,I1,ru,⟨rfl,fun ys hy=>by rw[I.list_inj hy O]; exact hx⟩,J,fun b F=>(hf b F).1⟩⟩
 done:=by
  intro X S hw Y hc i pins s σ H E I hf st hg
  subst S hw Y;obtain⟨xs,O,hx⟩:=hg
  obtain⟨Z,rv,p,hz⟩:=I.list O
  obtain⟨f0,f1,f2,f3,f4,f5⟩:=hf it (by simp)
  have hl:=rv.length;exact wpAny_pyNext_list_end (I.ok.hd hc) st p.isList (by simp; omega) fun h' eb=>⟨rfl,I.turned (t':=s.toks) (fun b o F e=>eb b o F e) f0 f1 f3 f4 f5⟩
 self:=fun _ _ _ _ _ st h=>wpAny_pyIter_listiter st h
theorem uZ{P:Program}{w:World}{K:PySem.W.Frag}{tg:Expr}(it:Addr)(lo:Int)(n:Nat):mP P w K tg (mJ lo n) [it] it (fun i h=>IsRangeIter h it (lo+(i:Nat) * 1) ((n:Int) - (i:Nat)) 1) where
 mem:=by simp
 obj:=fun i h st b F=>by
  have e:b=it:=by simpa using F
  subst e
  exact⟨_,st,fun v z=>by
   have z':Data.fields _=Data.cell v:=z
   cases z'⟩
 keep:=fun i h h' st k=>k it (by simp) _ st
 item:=by
  intro X hP hw O Y i pins s σ H E I hf st hg
  subst hP hw O;obtain⟨f0,S,f2,f3,f4,Z⟩:=hf it (by simp)
  have W:=Walks.range (prog:=X.prog) (w:=X.w) (I.ok.hd Y) it lo 1 n;refine W.item i s _ _ hg st fun v h' tk hv J kk=>?_
  obtain⟨t,rfl⟩:=hv
  have I1:Inv X pins σ H { s with heap:=h',toks:=tk }:=I.turned (fun b o F e=>kk b o (by simpa using F) e) f0 S f3 f4 Z
  refine⟨_,rfl,A9 (s:={ s with heap:=h',toks:=tk }) (n := "range_iterator") J rfl rfl (by decide) ⟨.int (lo+i),H,I1,⟨t,?_⟩,⟨rfl,rfl⟩,J,fun b F=>(hf b F).1⟩⟩
  rw[Int.mul_one]
 done:=by
  intro X hP hw O Y i pins s σ H E I hf st hg
  subst hP hw O;obtain⟨f0,S,f2,f3,f4,Z⟩:=hf it (by simp)
  exact wpAny_pyNext_range_end (I.ok.hd Y) st (by have:n≤i:=hg; omega) fun h' eb=>⟨rfl,I.turned (t':=s.toks) (fun b o F e=>eb b o F e) f0 S f3 f4 Z⟩
 self:=fun _ _ _ _ _ st h=>wpAny_pyIter_rangeiter st h
section
variable{X:Cx}{tg:Expr}
def ve(K:W.Frag)(tl:TE):TI:=fun σ H R=>tl σ H fun x H1=>∃ a,x = .ref a∧(∃ xs,rd K H1 a xs)∧R (pN K a) H1
theorem BH{l:Expr}{tl:TE}(hl:PE X l tl):PI X tg l (ve X.K tl):=by
 intro pins s σ H R I h
 refine bc (hl pins s σ H _ I h) fun v s1 ⟨x,H1,F,J,O⟩=>?_
 obtain⟨a,e,⟨xs,S⟩,q⟩:=O
 subst e
 cases J;obtain⟨W,Z,p,hz⟩:=F.list S
 refine wpAny_pyIter_list p.isList ?_
 refine⟨s1.heap.objs.size,[s1.heap.objs.size],_,_,H1,rfl,F.kept (t':=s1.toks) fun b o e=>zD _ e,wM a _,⟨_,wd _ rfl,rfl,rfl⟩,fun b Y=>?_,q⟩
 have e:b=s1.heap.objs.size:=by simpa using Y
 subst e;exact F.fpOk (zg _) (F.hok.fresh (zg _))
theorem zf{pins:List (Addr × Obj)}{σ : St}{H:Hp}{s:Shared}{R:It→Hp→Prop}{E:Value→Shared→Prop}{lo hi:Int}{t u v:Tok}{J:Nat}(I:Inv X pins σ H s)(h1:-(2 ^ 62)≤lo)(h2:lo<2 ^ 62)(S:-(2 ^ 62)≤hi)(Z:hi<2 ^ 62)
  (q:R (mJ lo (hi - lo).toNat) H):wpAny (model X.prog X.w) X.A (pyIter (.ref s.heap.objs.size)) (FT X pins σ tg R) E { s with heap:=s.heap.push { cls:=.type "range", data:=.fields #[.int lo t,.int hi u,.int 1 v] },toks:=J }:=by
 refine wpAny_pyIter_range (IsRange.new ..) (small_one h1 h2 S Z) ?_
 have F:Inv X pins σ H { s with heap:=s.heap.push { cls:=.type "range", data:=.fields #[.int lo t,.int hi u,.int 1 v] },toks:=J }:=I.kept fun b o e=>zD _ e
 refine⟨(s.heap.push { cls:=.type "range", data:=.fields #[.int lo t,.int hi u,.int 1 v] }).objs.size,[(s.heap.push { cls:=.type "range", data:=.fields #[.int lo t,.int hi u,.int 1 v] }).objs.size],_,_,H,rfl,
  F.kept (t':=J) fun b o e=>zD _ e,uZ _ lo (hi - lo).toNat,?_,fun b W=>?_,q⟩
 ·have Y:lo+((0:Nat):Int) * 1=lo:=by simp
  have O:(((hi - lo).toNat:Nat):Int) - ((0:Nat):Int)=Builtin.Range.rangeSize lo hi 1:=by rw[rangeSize_one]; split <;> omega
  show IsRangeIter _ _ (lo+((0:Nat):Int) * 1) ((((hi - lo).toNat:Nat):Int) - ((0:Nat):Int)) 1
  rw[Y,O];exact wd _ rfl
 ·have e:b=(s.heap.push { cls:=.type "range", data:=.fields #[.int lo t,.int hi u,.int 1 v] }).objs.size:=by simpa using W
  subst e;exact F.fpOk (zg _) (F.hok.fresh (zg _))
def Bj(ta:TA):TI:=fun σ H R=>ta σ H fun vs H1=>∃ j:Int,vs=[.int j]∧-(2 ^ 62)≤j∧j<2 ^ 62∧R (mJ 0 j.toNat) H1
theorem dk{a:Expr}{ta:TA}{p pos:Pos}(hg:Gl X "range") (Y:X.mg "range" = none) (Z:PA X [a] ta) (J:starEach [a] X.env=[(false,eval a X.env)]:=by rfl):PI X tg (.Call (.Name "range" p) [a] [] pos) (Bj ta):=by
 intro pins s σ H R I h
 refine Call_ (iI I hg Y boot_range (zaW (bc (Z pos pins s σ H _ I h) fun us s1 ⟨vs,H1,W,O,F⟩=>?_) J rfl))
 obtain⟨j,e,F,S,q⟩:=F
 subst e
 cases O with
 | cons r rr=>
  cases rr;obtain⟨t,rfl⟩:=r
  exact call_range_1 (zf W (by omega) (by omega) F S (by simpa using q))
def EL(wi:TI)(g:TG)(tb:TS):TS:=fun D σ H=>wi σ H fun J H1=>∃ W:Nat→Nat→St→Hp→Prop,(∃ m,W 0 m σ H1)∧∀ i m σ H,W i m σ H→
 (J.stop i H∧D.nx σ H)∨(J.go i H∧∃ N:St→Hp→Prop,(∀ σ' H',N σ' H'→∃ m',m'<m∧W (i+1) m' σ' H')∧∀ x H',J.yld i H x H'→g x σ H' fun σ2 H2=>tb { D with nx:=N,ct:=N,bk:=D.nx } σ2 H2)
def j0(fp:List Addr)(h:Heap):List (Addr × Obj):=fp.filterMap fun b=>(h.get? b).map fun o=>(b,o)
theorem eZ{fp:List Addr}{h:Heap}{b:Addr}{o:Obj}(F:b∈fp)(e:h.get? b=some o):(b,o)∈j0 fp h:=Ik.mpr ⟨b,F,by rw[e]; rfl⟩
theorem wg{fp:List Addr}{h:Heap}{p:Addr × Obj}(hp:p∈j0 fp h):p.1∈fp∧h.get? p.1=some p.2:=by
 obtain⟨b,J,e⟩:=Ik.mp hp
 cases q:h.get? b with
 | none=>rw[q]at e; cases e
 | some o=>
  rw[q]at e
  have F:(b,o)=p:=Option.some.inj e
  subst F;exact⟨J,q⟩
theorem Inv.pinned{pins:List (Addr × Obj)}{σ : St}{H:Hp}{s:Shared}{fp:List Addr}(I:Inv X pins σ H s)(hf:∀ b∈fp,iA X pins H b)(O:∀ b∈fp,∃ o,s.heap.get? b=some o∧∀ v,o.data ≠ .cell v):Inv X (pins++j0 fp s.heap) σ H s:=
 I.pins_of fun p hp=>(HX.mp hp).elim (fun z=>I.pin p (y6 _ z)) fun z=>by
  obtain⟨J,e⟩:=wg z
  obtain⟨S,Y,W,_⟩:=hf p.1 J
  obtain⟨o,F,d⟩:=O p.1 J
  rw[e]at F; cases F
  exact⟨e,S,Y,W,d⟩
theorem Inv.unpinned{pins F:List (Addr × Obj)}{σ : St}{H:Hp}{s:Shared}(I:Inv X (pins++F) σ H s):Inv X pins σ H s:=I.pins_of fun p hp=>I.pin p (y6 _ (mW _ hp))
theorem dj{Ai:Expr}{body:List Stmt}{wi:TI}{g:TG}{tb:TS}{pos:Pos}(hp:PassesOwn (model X.prog X.w) X.A X.env X.xe)(hc:X.calm=true)(hi:PI X tg Ai wi)(hg:PG X tg g)(Z:FP X body tb)
  (hs:∀ x,foldedSetIterable Ai X.env x=pure x:=by intro _; rfl):PS X (.For tg Ai body [] pos) (EL wi g tb):=by
 intro pins s σ H D I h
 refine wpAny_For (bc (hi pins s σ H _ I h) fun v s1 h1=>bc h1 fun a2 s2 h2=>?_) hs
 obtain⟨it,fp,tn,J,H2,e,I2,T,as,f2,W,⟨m0,w0⟩,an⟩:=h2
 subst e
 -- what stays true of the iterator's objects through the loop
 have S:∀ {H':Hp},(∀ b∈fp,H' b=none)→∀ b∈fp,iA X pins H' b:=fun hn b Z=>⟨hn b Z,(f2 b Z).2⟩
 refine codeAny_forLoop_any (fun n s'=>∃ i σ' H',Inv X pins σ' H' s'∧tn i s'.heap∧(∀ b∈fp,H' b=none)∧W i n σ' H') ?_ m0 ⟨0,σ,H2,I2,as,fun b Z=>(f2 b Z).1,w0⟩
 rintro n s3 ⟨i,σ3,H3,I3,ad,ag,w3⟩
 rcases an i n σ3 H3 w3 with ⟨stop,qn⟩ | ⟨go,N,hN,step⟩
 ·refine wpAny_passesOwn hp (bc (T.done X rfl rfl rfl hc i pins s3 σ3 H3 X.xe I3 (S ag) ad stop) fun r s4 ⟨hr,I4⟩=>?_)
  subst hr;exact wpAny_execs_nil ⟨σ3,H3,I4,qn⟩
 ·refine wpAny_passesOwn hp (bc (T.item X rfl rfl rfl hc i pins s3 σ3 H3 X.xe I3 (S ag) ad go) fun r s4 ⟨u,hr,h4⟩=>?_)
  subst hr;refine wpAny_passesOwn hp (bc h4 fun _ s5 ⟨x,H5,I5,r5,y5,aa,a1⟩=>?_)
  have a0:=I5.pinned (S a1) (T.obj _ _ aa);refine wpAny_passesOwn hp (bc (hg _ s5 σ3 H5 x u _ a0 r5 (step x H5 y5)) fun _ s6 ⟨σ6,H6,I6,q6⟩=>?_)
  refine wpAny_passesOwn hp (bc (Z _ s6 σ6 H6 _ I6 q6) fun f s7 q7=>?_)
  have again:∀ {O:St} {F:Hp},Inv X (pins++j0 fp s5.heap) O F s7→N O F→∃ m,m<n∧∃ i σ' H',Inv X pins σ' H' s7∧tn i s7.heap∧(∀ b∈fp,H' b=none)∧W i m σ' H':=fun {O F} Y n7=>by
   obtain⟨m',hm,w7⟩:=hN O F n7
   refine⟨m',hm,i+1,O,F,Y.unpinned,T.keep _ _ _ aa fun b Z o e=>(Y.pin (b,o) (y6 _ (y6 _ (eZ Z e)))).1,fun b Z=>?_,w7⟩
   obtain⟨o,e,d⟩:=T.obj _ _ aa b Z
   exact(Y.pin (b,o) (y6 _ (y6 _ (eZ Z e)))).2.1
  cases f with
  | next=>obtain⟨O,F,Y,n7⟩:=q7; exact again Y n7
  | cont=>obtain⟨O,F,Y,n7⟩:=q7; exact again Y n7
  | brk=>obtain⟨O,F,Y,q7⟩:=q7; exact⟨O,F,Y.unpinned,q7⟩
  | ret v=>obtain⟨x7,O,F,Y,r7,q7⟩:=q7; exact⟨x7,O,F,Y.unpinned,r7,q7⟩
end
theorem Ak{K:PySem.W.Frag}{a:Addr}{xs:List V}{g:TG}{tb:TS}{D:dH}{σ : St}{H:Hp}(F:Nat→St→Hp→Prop)(Y:F 0 σ H)(hl:∀ i σ H,i≤xs.length→F i σ H→rd K H a xs)
  (S:∀ i x σ H,xs[i]? = some x→F i σ H→g x σ H fun J H2=>tb { D with nx:=F (i+1),ct:=F (i+1),bk:=D.nx } J H2) (hd:∀ σ H,F xs.length σ H→D.nx σ H) :
  ∃ W:Nat→Nat→St→Hp→Prop,(∃ m,W 0 m σ H)∧∀ i m σ H,W i m σ H→
   ((pN K a).stop i H∧D.nx σ H)∨((pN K a).go i H∧∃ N:St→Hp→Prop,(∀ O H',N O H'→∃ m',m'<m∧W (i+1) m' O H')∧∀ x H',(pN K a).yld i H x H'→g x σ H' fun J H2=>tb { D with nx:=N,ct:=N,bk:=D.nx } J H2):=by
 refine⟨fun i m σ H=>m=xs.length - i∧i≤xs.length∧F i σ H,⟨xs.length,by simp,yT _,Y⟩,?_⟩
 rintro i m σ H ⟨rfl,hi,p⟩
 have q:=hl i σ H hi p
 by_cases hlt:i<xs.length
 ·refine .inr ⟨⟨xs,xs[i],q,by simp[hlt]⟩,F (i+1),fun O H' Z=>⟨xs.length - (i+1),by omega,rfl,hlt,Z⟩,fun x H' y=>?_⟩
  obtain⟨e,y⟩:=y
  subst e;exact S i x σ _ (y xs q) p
 ·have e:i=xs.length:=by omega
  subst e;exact .inl ⟨⟨xs,q,zg _⟩,hd σ H p⟩
theorem yr{lo:Int}{n:Nat}{g:TG}{tb:TS}{D:dH}{σ : St}{H:Hp}(F:Nat→St→Hp→Prop)(Y:F 0 σ H)
  (S:∀ i σ H,i<n→F i σ H→g (.int (lo+i)) σ H fun J H2=>tb { D with nx:=F (i+1),ct:=F (i+1),bk:=D.nx } J H2) (hd:∀ σ H,F n σ H→D.nx σ H) :
  ∃ W:Nat→Nat→St→Hp→Prop,(∃ m,W 0 m σ H)∧∀ i m σ H,W i m σ H→
   ((mJ lo n).stop i H∧D.nx σ H)∨((mJ lo n).go i H∧∃ N:St→Hp→Prop,(∀ O H',N O H'→∃ m',m'<m∧W (i+1) m' O H')∧∀ x H',(mJ lo n).yld i H x H'→g x σ H' fun J H2=>tb { D with nx:=N,ct:=N,bk:=D.nx } J H2):=by
 refine⟨fun i m σ H=>m=n - i∧i≤n∧F i σ H,⟨n,by simp,yT _,Y⟩,?_⟩
 rintro i m σ H ⟨rfl,hi,p⟩
 by_cases hlt:i<n
 ·refine .inr ⟨hlt,F (i+1),fun O H' Z=>⟨n - (i+1),by omega,rfl,hlt,Z⟩,fun x H' y=>?_⟩
  obtain⟨e,y⟩:=y
  subst e y;exact S i σ _ hlt p
 ·have e:i=n:=by omega
  subst e;exact .inl ⟨zg _,hd σ H p⟩
abbrev R2:=V→V→Hp→VK→Prop
def D0(X:Cx)(f:Value→Value→Sem Value)(r:R2):Prop:=
 ∀ (pins:List (Addr × Obj)) (s:Shared) (σ : St) (H:Hp) (x y:V) (v u:Value) (Q:VK),Inv X pins σ H s→RelV x v→RelV y u→r x y H Q→
  wpAny (model X.prog X.w) X.A (f v u) (EP X pins σ Q) X.xe s
def UnR(X:Cx)(f:Value→Sem Value)(r:V→Hp→VK→Prop):Prop:=
 ∀ (pins:List (Addr × Obj)) (s:Shared) (σ : St) (H:Hp) (x:V) (v:Value) (Q:VK),Inv X pins σ H s→RelV x v→r x H Q→
  wpAny (model X.prog X.w) X.A (f v) (EP X pins σ Q) X.xe s
def CV(X:Cx)(f:Value)(r:List V→Hp→VK→Prop):Prop:=
 ∀ (pins:List (Addr × Obj)) (s:Shared) (σ : St) (H:Hp) (xs:List V) (us:List Value) (Q:VK),Inv X pins σ H s→wh xs us→r xs H Q→
  wpAny (model X.prog X.w) X.A (call f us) (EP X pins σ Q) X.xe s
def ww(r:R2)(ta tb:TE):TE:=fun σ H Q=>ta σ H fun x H1=>tb σ H1 fun y H2=>r x y H2 Q
def rI(C:Int→Int→Prop)(g:Int→Int→V):R2:=fun x y H Q=>∃ i j,x = .int i∧y = .int j∧C i j∧Q (g i j) H
def qu(g:Int→Int→V):R2:=fun x y H Q=>∃ i j,x = .int i∧y = .int j∧Q (g i j) H
section
variable{X:Cx}{a b c:Expr}{ta tb tc:TE}{pos:Pos}
theorem zw(ha:PE X a ta)(hb:PE X b tb){pins:List (Addr × Obj)}{s:Shared}{σ : St}{H:Hp}{R:V→V→Hp→Prop}(I:Inv X pins σ H s)
  (h:ta σ H fun x H1=>tb σ H1 fun y H2=>R x y H2) {Q:Value→Shared→Prop} {f:Value→Value→Sem Value}
  (hf:∀ v u F x y H2,Inv X pins σ H2 F→RelV x v→RelV y u→R x y H2→wpAny (model X.prog X.w) X.A (f v u) Q X.xe F) :
  wpAny (model X.prog X.w) X.A (eval a X.env) (fun v s₁=>wpAny (model X.prog X.w) X.A (eval b X.env) (fun u Y=>wpAny (model X.prog X.w) X.A (f v u) Q X.xe Y) X.xe s₁) X.xe s:=by
 refine bc (ha pins s σ H _ I h) fun v s1 ⟨x,H1,W,J,O⟩=>?_
 refine bc (hb pins s1 σ H1 _ W O) fun u F ⟨y,H2,Z,r2,S⟩=>?_
 exact hf v u F x y H2 Z J r2 S
theorem aB{op:Operator}{r:R2}(W:D0 X (binaryOp op) r)(S:PE X a ta)(Y:PE X b tb):PE X (.BinOp a op b pos) (ww r ta tb):=by
 intro pins s σ H Q I h
 exact wpAny_BinOp (zw S Y I h fun v u Z x y H2 F O J q=>W pins Z σ H2 x y v u Q F O J q)
theorem De{f:Value→Value→Sem Value}{C:Int→Int→Prop}{g:Int→Int→Int}
  (rule:∀ (i j:Int) (t u:Tok) (s:Shared) (Q:Value→Shared→Prop) (E:Value→Shared→Prop),C i j→Q (.int (g i j) s.toks) { s with toks:=s.toks+1 }→wpAny (model X.prog X.w) X.A (f (.int i t) (.int j u)) Q E s) :
  D0 X f (rI C fun i j=>.int (g i j)):=by
 intro pins s σ H x y v u Q I F O h
 obtain⟨i,j,rfl,rfl,J,q⟩:=h
 obtain⟨t,rfl⟩:=F
 obtain⟨t',rfl⟩:=O
 exact rule i j t t' s _ _ J ⟨.int (g i j),H,I.tok _,⟨_,rfl⟩,q⟩
theorem DE{f:Value→Value→Sem Value}{g:Int→Int→Int}
  (rule:∀ (i j:Int) (t u:Tok) (s:Shared) (Q:Value→Shared→Prop) (E:Value→Shared→Prop),Q (.int (g i j) s.toks) { s with toks:=s.toks+1 }→wpAny (model X.prog X.w) X.A (f (.int i t) (.int j u)) Q E s) :
  D0 X f (qu fun i j=>.int (g i j)):=by
 intro pins s σ H x y v u Q I F J h
 obtain⟨i,j,rfl,rfl,q⟩:=h
 obtain⟨t,rfl⟩:=F
 obtain⟨t',rfl⟩:=J
 exact rule i j t t' s _ _ ⟨.int (g i j),H,I.tok _,⟨_,rfl⟩,q⟩
theorem y8{f:Value→Value→Sem Value}{g:Int→Int→Bool}
  (rule:∀ (i j:Int) (t u:Tok) (s:Shared) (Q:Value→Shared→Prop) (E:Value→Shared→Prop),Q (.bool (g i j)) s→wpAny (model X.prog X.w) X.A (f (.int i t) (.int j u)) Q E s) :
  D0 X f (qu fun i j=>.bl (g i j)):=by
 intro pins s σ H x y v u Q I F J h
 obtain⟨i,j,rfl,rfl,q⟩:=h
 obtain⟨t,rfl⟩:=F
 obtain⟨t',rfl⟩:=J
 exact rule i j t t' s _ _ ⟨.bl (g i j),H,I,rfl,q⟩
def GK(i j:Int):Prop:=0<j∧j<1073741824
def GF(i j:Int):Prop:=(-(2 ^ 64)<i∧i<2 ^ 64)∨(-(2 ^ 64)<j∧j<2 ^ 64)
theorem GF.ok{i j:Int}(h:GF i j):IntMulOk i j:=by
 rcases h with ⟨h1,h2⟩ | ⟨h1,h2⟩
 ·exact .of_left (intBits_le_64 h1 h2)
 ·exact .of_right (intBits_le_64 h1 h2)
theorem Eu:D0 X (binaryOp .Add) (qu fun i j=>.int (i+j)):=DE fun _ _ _ _ _ _ _ q=>add_int q
theorem xB:D0 X (binaryOp .Sub) (qu fun i j=>.int (i - j)):=DE fun _ _ _ _ _ _ _ q=>sub_int q
theorem EY:D0 X (binaryOp .Mult) (rI GF fun i j=>.int (i * j)):=De fun _ _ _ _ _ _ _ F q=>mul_int q F.ok
theorem dJ:D0 X (binaryOp .FloorDiv) (rI GK fun i j=>.int (i / j)):=De fun i j _ _ _ _ _ F q=>by
 have h1:(0:Int)<j:=F.1
 have h2:j<1073741824:=F.2
 exact floordiv_int (by omega) (by rw[Int.fdiv_eq_ediv_of_nonneg i (by omega)]; exact q) (.inl (PyProof.noPylong_small (by omega)))
theorem cx:D0 X (binaryOp .Mod) (rI (fun _ j=>0<j) fun i j=>.int (i % j)):=De fun i j _ _ _ _ _ F q=>by
 have h1:(0:Int)<j:=F
 exact mod_int' (by omega) (by rw[Int.fmod_eq_emod_of_nonneg i (by omega)]; exact q)
end
def se:V→V→Bool
 | .non,.non=>true | .non,.int _=>true | .int _,.non=>true | .non,.bl _=>true | .bl _,.non=>true | .non,.str _=>true | .str _,.non=>true
 | .int _,.int _=>true | .bl _,.bl _=>true | .str _,.str _=>true | .byt _,.byt _=>true
 | .int _,.str _=>true | .str _,.int _=>true | .bl _,.str _=>true | .str _,.bl _=>true
 | _,_=>false
def FO:R2:=fun x y H Q=>se x y=true∧Q (.bl (decide (x=y))) H
def F8:R2:=fun x y H Q=>se x y=true∧Q (.bl (!decide (x=y))) H
theorem uG{i j:Int}:decide (V.int i=V.int j)=(i == j):=by
 rw[Hg];simp
theorem rX{i j:Bool}:decide (V.bl i=V.bl j)=(i == j):=by
 rw[Hg];simp
theorem t4{i j:Str}:decide (V.str i=V.str j)=(i == j):=by
 rw[Hg];simp
theorem uC{i j:Array UInt8}:decide (V.byt i=V.byt j)=(i.toList == j.toList):=by
 rw[Hg]
 cases i
 cases j;simp
section
variable{X:Cx}{a b c:Expr}{ta tb tc:TE}{pos:Pos}
theorem bF{pins:List (Addr × Obj)}{σ : St}{H:Hp}{s:Shared}{Q:VK}{k F:Bool}(I:Inv X pins σ H s)(q:Q (.bl k) H)(e:k=F):EP X pins σ Q (.bool F) s:=by
 subst e;exact⟨.bl k,H,I,rfl,q⟩
theorem FC:D0 X (compareOp .Eq) FO:=by
 intro pins s σ H x y v u Q I O F h
 obtain⟨J,q⟩:=h
 cases x with
 | non=>
  cases O
  cases y with
  | non=>cases F; exact EqNone.eq_none_none (bF I q (by simp))
  | bl j=>cases F; exact EqNone.eq_none_bool (bF I q (by simp))
  | int j=>obtain⟨t',rfl⟩:=F; exact EqNone.eq_none_int (bF I q (by simp))
  | str j=>obtain⟨t',rfl⟩:=F; exact EqNone.eq_none_str (bF I q (by simp))
  | _=>exact absurd (show false=true from J) vn
 | bl i=>
  cases O
  cases y with
  | non=>cases F; exact EqNone.eq_bool_none (bF I q (by simp))
  | bl j=>cases F; exact eq_bool (bF I q rX)
  | str j=>obtain⟨t',rfl⟩:=F; exact EqMixed.eq_bool_str (bF I q (by simp))
  | _=>exact absurd (show false=true from J) vn
 | int i=>
  obtain⟨t,rfl⟩:=O
  cases y with
  | non=>cases F; exact EqNone.eq_int_none (bF I q (by simp))
  | int j=>obtain⟨t',rfl⟩:=F; exact eq_int (bF I q uG)
  | str j=>obtain⟨t',rfl⟩:=F; exact EqMixed.eq_int_str (bF I q (by simp))
  | _=>exact absurd (show false=true from J) vn
 | str i=>
  obtain⟨t,rfl⟩:=O
  cases y with
  | non=>cases F; exact EqNone.eq_str_none (bF I q (by simp))
  | bl j=>cases F; exact EqMixed.eq_str_bool (bF I q (by simp))
  | int j=>obtain⟨t',rfl⟩:=F; exact EqMixed.eq_str_int (bF I q (by simp))
  | str j=>obtain⟨t',rfl⟩:=F; exact eq_str (bF I q t4)
  | _=>exact absurd (show false=true from J) vn
 | byt i=>
  obtain⟨t,rfl⟩:=O
  cases y with
  | byt j=>obtain⟨t',rfl⟩:=F; exact W.eq_bytes (bF I q uC)
  | _=>exact absurd (show false=true from J) vn
 | _=>cases y <;> exact absurd (show false=true from J) vn
theorem Fm:D0 X (compareOp .NotEq) F8:=by
 intro pins s σ H x y v u Q I O F h
 obtain⟨J,q⟩:=h
 cases x with
 | non=>
  cases O
  cases y with
  | non=>cases F; exact EqNone.ne_none_none (bF I q (by simp))
  | bl j=>cases F; exact EqNone.ne_none_bool (bF I q (by simp))
  | int j=>obtain⟨t',rfl⟩:=F; exact EqNone.ne_none_int (bF I q (by simp))
  | str j=>obtain⟨t',rfl⟩:=F; exact EqNone.ne_none_str (bF I q (by simp))
  | _=>exact absurd (show false=true from J) vn
 | bl i=>
  cases O
  cases y with
  | non=>cases F; exact EqNone.ne_bool_none (bF I q (by simp))
  | bl j=>cases F; exact ne_bool (bF I q (congrArg not rX))
  | str j=>obtain⟨t',rfl⟩:=F; exact EqMixed.ne_bool_str (bF I q (by simp))
  | _=>exact absurd (show false=true from J) vn
 | int i=>
  obtain⟨t,rfl⟩:=O
  cases y with
  | non=>cases F; exact EqNone.ne_int_none (bF I q (by simp))
  | int j=>obtain⟨t',rfl⟩:=F; exact ne_int (bF I q (congrArg not uG))
  | str j=>obtain⟨t',rfl⟩:=F; exact EqMixed.ne_int_str (bF I q (by simp))
  | _=>exact absurd (show false=true from J) vn
 | str i=>
  obtain⟨t,rfl⟩:=O
  cases y with
  | non=>cases F; exact EqNone.ne_str_none (bF I q (by simp))
  | bl j=>cases F; exact EqMixed.ne_str_bool (bF I q (by simp))
  | int j=>obtain⟨t',rfl⟩:=F; exact EqMixed.ne_str_int (bF I q (by simp))
  | str j=>obtain⟨t',rfl⟩:=F; exact ne_str (bF I q (congrArg not t4))
  | _=>exact absurd (show false=true from J) vn
 | byt i=>
  obtain⟨t,rfl⟩:=O
  cases y with
  | byt j=>obtain⟨t',rfl⟩:=F; exact W.ne_bytes (bF I q (congrArg not uC))
  | _=>exact absurd (show false=true from J) vn
 | _=>cases y <;> exact absurd (show false=true from J) vn
theorem Fq:D0 X (compareOp .Lt) (qu fun i j=>.bl (decide (i<j))):=y8 fun _ _ _ _ _ _ _ q=>lt_int q
theorem qL:D0 X (compareOp .Gt) (qu fun i j=>.bl (decide (j<i))):=y8 fun _ _ _ _ _ _ _ q=>gt_int q
theorem Fn:D0 X (compareOp .GtE) (qu fun i j=>.bl (decide (j≤i))):=y8 fun _ _ _ _ _ _ _ q=>ge_int q
theorem xl:D0 X (compareOp .Lt) (fun x y H Q=>∃ i j,x = .str i∧y = .str j∧Q (.bl (decide (i.cps.toList<j.cps.toList))) H):=by
 intro pins s σ H x y v u Q I F J h
 obtain⟨i,j,rfl,rfl,q⟩:=h
 obtain⟨t,rfl⟩:=F
 obtain⟨t',rfl⟩:=J
 exact lt_str (bF I q rfl)
theorem yp:D0 X (compareOp .In) (fun x y H Q=>∃ i j,x = .str i∧y = .str j∧Q (.bl (!(Builtin.Str.occurrences j i 0 j.length 1).isEmpty)) H):=by
 intro pins s σ H x y v u Q I F J h
 obtain⟨i,j,rfl,rfl,q⟩:=h
 obtain⟨t,rfl⟩:=F
 obtain⟨t',rfl⟩:=J
 exact in_str (bF I q rfl)
theorem CF:D0 X (compareOp .Is) (fun x y H Q=>y = .non∧Q (.bl (decide (x = .non))) H):=by
 intro pins s σ H x y v u Q I F J h
 obtain⟨rfl,q⟩:=h
 cases J;refine is_none_gen (bF I q ?_)
 cases x <;> first
  | (cases F; rfl)
  | (obtain⟨t,rfl⟩:=F; rfl)
theorem BX:D0 X (compareOp .IsNot) (fun x y H Q=>y = .non∧Q (.bl (!decide (x = .non))) H):=by
 intro pins s σ H x y v u Q I F J h
 obtain⟨rfl,q⟩:=h
 cases J;refine isnot_none_gen (bF I q ?_)
 cases x <;> first
  | (cases F; rfl)
  | (obtain⟨t,rfl⟩:=F; rfl)
theorem sf:D0 X (compareOp .NotIn) (fun x y H Q=>∃ i j,x = .str i∧y = .str j∧Q (.bl (!(!(Builtin.Str.occurrences j i 0 j.length 1).isEmpty))) H):=by
 intro pins s σ H x y v u Q I F J h
 obtain⟨i,j,rfl,rfl,q⟩:=h
 obtain⟨t,rfl⟩:=F
 obtain⟨t',rfl⟩:=J
 exact notIn_str (bF I q rfl)
theorem bt(b:Expr){op:CmpOp}(h:op ≠ .In:=by decide)(h2:op ≠ .NotIn:=by decide):behindInMarks op b=false:=by
 have J:(op == CmpOp.In)=false:=by cases op <;> first | rfl | exact absurd rfl h
 have F:(op == CmpOp.NotIn)=false:=by cases op <;> first | rfl | exact absurd rfl h2
 cases b <;> simp[behindInMarks,J,F]
theorem ip{op:CmpOp}{r:R2}(Y:D0 X (compareOp op) r)(W:PE X a ta)(Z:PE X b tb)(J:behindInMarks op b=false):PE X (.Compare a [op] [b] pos) (ww r ta tb):=by
 intro pins s σ H Q I h
 exact wpAny_Compare1 (zw W Z I h fun v u s2 x y H2 F S O q=>Y pins s2 σ H2 x y v u Q F S O q) J
def Bu(t:TE):TT:=fun σ H Q=>t σ H fun x H'=>∃ k,x = .bl k∧Q k H'
theorem ba{op:CmpOp}{r:R2}(ho:D0 X (compareOp op) r)(ha:PE X a ta)(hb:PE X b tb)(Y:behindInMarks op b=false):PT X (.Compare a [op] [b] pos) (Bu (ww r ta tb)):=by
 intro pins s σ H Q I h
 refine wpAny_isTrue_Compare1 (bc (ha pins s σ H _ I h) fun v s1 ⟨x,H1,S,F,J⟩=>bc (hb pins s1 σ H1 _ S J) fun u s2 ⟨y,H2,W,r2,O⟩=>
  bc (ho pins s2 σ H2 x y v u _ W F r2 O) fun c s3 ⟨z,H3,Z,r3,k,e,q3⟩=>?_) Y
 subst e
 cases r3;exact wpAny_truthy_bool ⟨H3,Z,q3⟩
theorem kg:(sizeLine:Nat)<2 ^ 63:=by rw[sizeLine_eq]; decide
theorem vq:D0 X (binaryOp .Add) (fun x y H Q=>∃ i j,x = .str i∧y = .str j∧i.length+j.length≤sizeLine∧Q (.str (i++j)) H):=by
 intro pins s σ H x y v u Q I F J h
 obtain⟨i,j,rfl,rfl,hz,q⟩:=h
 obtain⟨t,rfl⟩:=F
 obtain⟨t',rfl⟩:=J
 exact add_str (fun t' O=>⟨.str (i++j),H,I.tok _,⟨_,rfl⟩,q⟩) hz
theorem dU{x:V}{us:List Value}(r:wh [x] us):∃ u,us=[u]∧RelV x u:=by
 cases r with
 | cons r1 r2=>cases r2; exact⟨_,rfl,r1⟩
theorem l7{x y:V}{us:List Value}(r:wh [x,y] us):∃ u w',us=[u,w']∧RelV x u∧RelV y w':=by
 cases r with
 | cons r1 r2=>
  cases r2 with
  | cons r3 r4=>cases r4; exact⟨_,_,rfl,r1,r3⟩
theorem yN(F:X.calm=true):CV X (.builtin "min") (fun xs H Q=>∃ i j,xs=[.int i,.int j]∧Q (.int (if j<i then j else i)) H):=by
 intro pins s σ H xs us Q I r h
 obtain⟨i,j,rfl,q⟩:=h
 obtain⟨u,J,rfl,⟨t,rfl⟩,⟨t',rfl⟩⟩:=l7 r
 refine min_two_ints (I.ok.hd F) fun h' O k=>⟨_,H,I.kept k,?_,q⟩
 by_cases hj:j<i
 ·rw[HS hj,HS hj]; exact⟨_,rfl⟩
 ·rw[HP hj,HP hj]; exact⟨_,rfl⟩
theorem xk:CV X (.type "int") (fun xs H Q=>(∃ i,xs=[.int i]∧Q (.int i) H)∨∃ k,xs=[.bl k]∧Q (.int (if k then 1 else 0)) H):=by
 intro pins s σ H xs us Q I r h
 rcases h with ⟨i,rfl,q⟩ | ⟨k,rfl,q⟩
 ·obtain⟨u,rfl,t,rfl⟩:=dU r
  exact call_int_int ⟨.int i,H,I,⟨_,rfl⟩,q⟩
 ·obtain⟨u,rfl,F⟩:=dU r
  cases F;exact call_int_bool ⟨.int (if k then 1 else 0),H,I.tok _,⟨_,rfl⟩,q⟩
theorem sQ:CV X (.type "str") (fun xs H Q=>∃ i,xs=[.int i]∧i.natAbs.log2<1920∧Q (.str (toString i)) H):=by
 intro pins s σ H xs us Q I r h
 obtain⟨i,rfl,hz,q⟩:=h
 obtain⟨u,rfl,t,rfl⟩:=dU r
 exact P.str_of_int hz ⟨.str _,H,I.tok _,⟨_,rfl⟩,q⟩
end
structure HC (h:Heap) (x dx C:Addr) (mA:Str→Option Value):Prop where
 obj:h.get? x=some (W.instObj C dx)
 ns:h.Ns1 dx mA
 ne:dx≠x
theorem xb{h:Heap}{dx:Addr}{J:Str→Option Value}(n:h.Ns1 dx J):∃ od,h.get? dx=some od∧∀ name,W.lookIn name od=some (J name):=by
 obtain⟨o,es,ep,ho,hd,O,_,Y⟩:=n
 refine⟨o,ho,fun name=>?_⟩
 have e:=Y name;unfold nsFind findBy at e;rw[← Array.find?_toList]at e
 unfold W.lookIn;rw[hd]
 dsimp only
 split
 ·rename_i y q
  rw[q]at e
  exact congrArg some e
 ·rename_i q
  rw[q]at e
  have a:es.toList.any (·.refKey)=false:=by
   rw[zbz];intro y Z
   obtain⟨z,t,F⟩:=O y (Array.mem_toList_iff.mp Z)
   simp[DictEntry.refKey,F]
  have S:¬ es.toList.any (·.refKey)=true:=by rw[a]; exact vn
  rw[HP S];exact congrArg some e
theorem HC.look{h:Heap}{x dx C:Addr}{F:Str→Option Value}(I:HC h x dx C F):∃ od,W.InstAt h x (W.instObj C dx) C (some od)∧∀ name,W.lookIn name od=some (F name):=
 let ⟨od,ho,hl⟩:=xb I.ns
 ⟨od,⟨I.obj,rfl,rfl,ho⟩,hl⟩
def CC(f:Str)(v:V):List (Str × V)→List (Str × V)
 | []=>[(f,v)]
 | (g,x)::r=>if g=f then (g,v)::r else (g,x)::CC f v r
theorem EU.some_of{v:V}{o:Option Value}(r:EU (some v) o):∃ u,o=some u∧RelV v u:=by
 cases o with
 | none=>exact(show False from r).elim
 | some u=>exact⟨u,rfl,r⟩
section
variable{P:Program}{w:World}{H H':Hp}{h h':Heap}{a C dx:Addr}{fs fs':List (Str × V)}
theorem lT(hok:EM P w H h)(e:H a=some (.ins C dx fs)):∃ F,HC h a dx C F∧(∀ f,EU (fs.lookup f) (F f))∧PySem.Within F (fs.map (·.1))∧fs.length≤1000∧H dx=some (.own a):=by
 obtain⟨d,z,ne,ob,F,n,r,q⟩:=(show Ax P w H h a (.ins C dx fs) from hok a _ e)
 exact⟨F,⟨ob,n,ne⟩,r,q,z,d⟩
end
structure Cls (K:W.Frag) (C:Addr):Prop where
 pg:W.plainGet K C Str.empty=true
 hd:W.hasDictIn K C=true
 po:W.plainOver K C=true
 sa:W.findIn K (.ref C) "__setattr__" = some (some (.builtin "object.__setattr__"))
theorem Cls.get{K:W.Frag}{C:Addr}(c:Cls K C)(f:Str):W.plainGet K C f=true:=c.pg
section
variable{X:Cx}{pins:List (Addr × Obj)}{σ : St}{H:Hp}{s:Shared}{A:Around}{E:Value→Shared→Prop}{Q:Value→Shared→Prop}{c:Value}{b:Bool}
inductive gR (K:PySem.W.Frag) (H:Hp):V→Value→Prop where
 | non:gR K H .non (.type "NoneType")
 | bl (x:Bool):gR K H (.bl x) (.type "bool")
 | int (i:Int):gR K H (.int i) (.type "int")
 | str (x:Str):gR K H (.str x) (.type "str")
 | flt (x:UInt64):gR K H (.flt x) (.type "float")
 | lst {a:Addr} {xs:List V} (e:H a=some (.lst xs)):gR K H (.ref a) (.type "list")
 | frz {a:Addr} {o:Obj} {xs:List V} (e:H a=some (.frz o (.lst xs))):gR K H (.ref a) (.type "list")
 | tup {a:Addr} {xs:List V} (e:H a=some (.tup xs)):gR K H (.ref a) (.type "tuple")
 | dK {a:Addr} {kvs:List (bM × V)} (e:H a=some (.dK kvs)):gR K H (.ref a) (.type "dict")
 | dT {a:Addr} {kvs:List (List bM × V)} (e:H a=some (.dT kvs)):gR K H (.ref a) (.type "dict")
 | ins {a C dx:Addr} {fs:List (Str × V)} (e:H a=some (.ins C dx fs)) (cl:Cls K C) (ha:PySem.W.findIn K (.ref C) "__class__" = some (some (.builtin "object.__class__")))
   (hn:PySem.W.specialIn K (.builtin "object.__class__") "__get__" = some (some (.builtin "getset_descriptor.__get__"))) (htk:PySem.W.takesIn K (.builtin "object.__class__")=some true)
   (hm:PySem.W.mroIn K C (.type "object")=some true):gR K H (.ref a) (.ref C)
theorem xX{x:V}{u t:Value}(I:Inv X pins σ H s)(F:RelV x u)(ty:gR X.K H x t)(e:W.kitOne X.K t c=some b)(h:∀ tk,Q (.bool b) { s with toks:=tk }) :
  wpAny (model X.prog X.w) A (call (.builtin "isinstance") [u,c]) Q E s:=by
 cases ty with
 | non=>cases (show u=Value.none from F); exact Gv W.kitx_none I.kIn True.intro e (fun z=>nomatch z) h
 | bl y=>cases (show u=Value.bool y from F); exact Gv W.kitx_bool I.kIn True.intro e (fun z=>nomatch z) h
 | int i=>obtain⟨t,q⟩:=(show ∃ t,u=Value.int i t from F); cases q; exact Gv W.kitx_int I.kIn True.intro e (fun z=>nomatch z) h
 | str y=>obtain⟨t,q⟩:=(show ∃ t,u=Value.str y t from F); cases q; exact Gv W.kitx_str I.kIn True.intro e (fun z=>nomatch z) h
 | flt y=>obtain⟨t,q⟩:=(show ∃ t,u=Value.float y t from F); cases q; exact Gv W.kitx_float I.kIn True.intro e (fun z=>nomatch z) h
 | @lst a xs ea=>
  cases (show u=Value.ref a from F)
  obtain⟨_,_,n,_,h1⟩:=(show Ax X.prog X.w H s.heap a (.lst xs) from I.hok a _ ea)
  exact Gv W.kitx_list I.kIn ⟨_,h1,rfl⟩ e (fun z=>nomatch z) h
 | @frz a ob xs ea=>
  cases (show u=Value.ref a from F)
  obtain⟨_,_,_,n,_,h1⟩:=(show Ax X.prog X.w H s.heap a (.frz ob (.lst xs)) from I.hok a _ ea)
  exact Gv W.kitx_list I.kIn ⟨_,h1,rfl⟩ e (fun z=>nomatch z) h
 | @tup a xs ea=>
  cases (show u=Value.ref a from F)
  obtain⟨_,_,_,p⟩:=(show Ax X.prog X.w H s.heap a (.tup xs) from I.hok a _ ea)
  obtain⟨o,h1,h2,_⟩:=p
  exact Gv W.kitx_tuple I.kIn ⟨o,h1,h2⟩ e (fun z=>nomatch z) h
 | @dK a kvs ea=>
  cases (show u=Value.ref a from F)
  obtain⟨_,_,Y,_,p⟩:=(show Ax X.prog X.w H s.heap a (.dK kvs) from I.hok a _ ea)
  obtain⟨o,es,S,h1,h2,_⟩:=p
  exact Gv W.kitx_dict I.kIn ⟨o,h1,h2.1⟩ e (fun z=>nomatch z) h
 | @dT a kvs ea=>
  cases (show u=Value.ref a from F)
  obtain⟨_,_,xs,_,o,es,S,h1,h2,_⟩:=(show Ax X.prog X.w H s.heap a (.dT kvs) from I.hok a _ ea)
  exact Gv W.kitx_dict I.kIn ⟨o,h1,h2.1⟩ e (fun z=>nomatch z) h
 | @ins a C dx fs ea cl ha hn htk hm=>
  cases (show u=Value.ref a from F)
  obtain⟨mA,O,_⟩:=lT I.hok ea
  obtain⟨Z,J,_⟩:=O.look
  exact Gv (W.kitx_own (cl.get _) cl.hd ha hn htk hm) I.kIn J e (fun z=>nomatch z) h
end
structure Di (k:Nat) (A:Around):Prop where
 hd:A.handled=none
 dp:A.depth+3 * k+5<recursionLimit
 un:A.units+16 * k+200<cLine
theorem Di.mono{j k:Nat}{A:Around}(r:Di k A)(h:j≤k):Di j A:=⟨r.hd,by have:=r.dp; omega,by have:=r.un; omega⟩
theorem Di.deeper{k:Nat}{A:Around}(r:Di (k+1) A)(env:Env):Di k (A.deeper env):=
 ⟨r.hd,by have:=r.dp; show A.depth+1+3 * k+5<_; omega,by have:=r.un; show A.units+3+16 * k+200<_; omega⟩
theorem Di.depth{k:Nat}{A:Around}(r:Di k A):A.depth<recursionLimit:=by have:=r.dp; omega
def zI:TA:=fun _ H Q=>Q [] H
def vf(ta:TE)(tr:TA):TA:=fun σ H Q=>ta σ H fun x H1=>tr σ H1 fun xs H2=>Q (x::xs) H2
section
variable{X:Cx}{e:Expr}{es:List Expr}{te:TE}{t:TA}{pos:Pos}
theorem ae:PA X [] zI:=fun _ _ _ _ H Q I h=>Calls.spliced_nil ⟨[],H,I,.nil,h⟩
theorem ac(ha:PE X e te)(hr:PA X es t)(F:starEach (e::es) X.env=(false,eval e X.env)::starEach es X.env:=by rfl):PA X (e::es) (vf te t):=by
 intro pos pins s σ H Q I h
 rw[F];show wpAny _ _ (spliced ((false,eval e X.env)::backTo pos (starEach es X.env))) _ _ s
 refine Calls.spliced_cons (bc (ha pins s σ H _ I h) fun u s1 ⟨x,H1,W,J,O⟩=>?_)
 exact bc (hr pos pins s1 σ H1 _ W O) fun us s2 ⟨xs,H2,Y,Z,S⟩=>⟨x::xs,H2,Y,.cons J Z,S⟩
def Ec(t:TA):TE:=fun σ H Q=>t σ H fun xs H1=>xs.length≤sizeLine∧∀ p,H1 p=none→Q (.ref p) (upd H1 p (.tup xs))
def Eg(t:TA):TE:=fun σ H Q=>t σ H fun xs H1=>xs.length≤sizeLine∧∀ p,H1 p=none→Q (.ref p) (upd H1 p (.lst xs))
theorem cU{x1}(h:PA X es t):PE X (.Tuple es x1 pos) (Ec t):=by
 intro pins s σ H Q I J
 refine wpAny_Tuple_spliced (bc (h pos pins s σ H _ I J) fun us s1 ⟨xs,H1,F,r,z,q⟩=>⟨by rw[← r.length]; exact z,?_⟩)
 have hf:H1 s1.heap.objs.size=none:=F.hok.fresh (zg _)
 refine⟨.ref s1.heap.objs.size,upd H1 s1.heap.objs.size (.tup xs),F.laid (t':=s1.toks) (fun b u e=>zD _ e) (zg _) ?_,rfl,q _ hf⟩
 exact⟨z,us,r,⟨_,wd _ rfl,rfl,rfl,_,rfl⟩⟩
theorem bu(h:PA X es t):PE X (.List es pos) (Eg t):=by
 intro pins s σ H Q I J
 refine wpAny_List_spliced (bc (h pos pins s σ H _ I J) fun us s1 ⟨xs,H1,F,r,z,q⟩=>⟨by rw[← r.length]; exact z,?_⟩)
 have hf:H1 s1.heap.objs.size=none:=F.hok.fresh (zg _)
 refine⟨.ref s1.heap.objs.size,upd H1 s1.heap.objs.size (.lst xs),F.laid (t':=s1.toks) (fun b u e=>zD _ e) (zg _) ?_,rfl,q _ hf⟩
 exact⟨z,us,0,r,wd _ rfl⟩
end
abbrev Sp:=List V→Hp→VK→XK→Prop
abbrev kf:=List Env→Hp→Shared→XK→Value→Shared→Prop
structure u_ (P:Program) (w:World) (K:W.Frag) (mg:Str→Option Value) (base:Heap) (A:Around) (outer:List Env) (s:Shared) (H:Hp):Prop where
 frames:A.frames=some outer
 mod:Mod K mg base
 bs:∀ b o,base.get? b=some o→s.heap.get? b=some o∧H b=none
 bsz:base.objs.size≤s.heap.objs.size
 funs:s.heap.FunFrames base outer
 frf:∀ b∈eO outer,H b=none
 hok:EM P w H s.heap
 bare:AllBare s.gens
def CE(outer:List Env)(P:Program)(w:World)(H:Hp)(s:Shared)(Q:VK)(u:Value)(s':Shared):Prop:=
 ∃ v H',s'.os=s.os∧AllBare s'.gens∧Un (eO outer) [] H H' s.heap s'.heap∧EM P w H' s'.heap∧RelV v u∧Q v H'
def CR(CX:kf)(outer:List Env)(P:Program)(w:World)(H:Hp)(s:Shared)(Q:VK)(E:XK)(r:Result)(s':Shared):Prop:=
 match r with
 | .ok (.ret u)=>CE outer P w H s Q u s'
 | .ok _=>False
 | .error e=>CX outer H s E e s'
structure EV (P:Program) (w:World) (K:W.Frag) (mg:Str→Option Value) (base:Heap) (CX:kf) (k:Nat) (f:Addr) (fd:FuncData) (ps:List Str) (sp:Sp):Prop where
 len:∀ vs H Q E,sp vs H Q E→vs.length=ps.length
 run:∀ (A:Around) (outer:List Env) (s:Shared) (H:Hp) (args:Args) (us:List Value) (vs:List V) (Q:VK) (E:XK),Di k A→u_ P w K mg base A outer s H→BindsTo s fd args (ps.zip us)→wh vs us→sp vs H Q E→
  codeAny (model P w) A (.call (.ref f) args) (CR CX outer P w H s Q E) s
theorem EV.imp{P:Program}{w:World}{K:W.Frag}{mg:Str→Option Value}{base:Heap}{CX:kf}{k:Nat}{f:Addr}{fd:FuncData}{ps:List Str}{sp O:Sp}(F:EV P w K mg base CX k f fd ps sp)
  (h:∀ J H Q E,O J H Q E→sp J H Q E):EV P w K mg base CX k f fd ps O:=
 ⟨fun J H Q E q=>F.len J H Q E (h _ _ _ _ q),fun A outer s H args us J Q E hr Y Z hv S=>F.run A outer s H args us J Q E hr Y Z hv (h _ _ _ _ S)⟩
section
variable{X:Cx}{pins:List (Addr × Obj)}{σ : St}{H:Hp}{s s':Shared}
theorem Inv.env0(I:Inv X pins σ H s):u_ X.prog X.w X.K X.mg X.base X.A X.stack s H:=
 ⟨I.ok.frames,I.ok.mod,I.bs,vg I.ok.bsz I.sz,I.stack,I.stkFree,I.hok,I.bare⟩
theorem Inv.after{Q:VK}{u:Value}(I:Inv X pins σ H s)(h:CE X.stack X.prog X.w H s Q u s'):EP X pins σ Q u s':=by
 obtain⟨v,H',os,bare,un,hok,r,q⟩:=h
 obtain⟨hh,g,d,t,F⟩:=s'
 obtain rfl:F=s.os:=os
 exact⟨v,H',I.call (h':=hh) (g':=g) (d':=d) (t':=t) (ch:=[]) un hok bare (fun b z=>absurd z (by simp)),r,q⟩
end
def mf(sp:Sp)(dvs:List V)(E:XK)(t:TA):TE:=fun σ H Q=>t σ H fun vs H1=>sp (vs++dvs) H1 Q E
def Binds(K:W.Frag)(fd:FuncData)(ps:List Str)(ds:List Value):Prop:=
 ∀ (s:Shared) (us:List Value),K.In s.heap→(us++ds).length=ps.length→BindsTo s fd ⟨us,[]⟩ (ps.zip (us++ds))
theorem Binds.all{K:W.Frag}{fd:FuncData}{ps:List Str}(h:∀ us:List Value,us.length=ps.length→bindArgs fd ⟨us,[]⟩=pure (ps.zip us)):Binds K fd ps []:=fun s us _ hl=>by
 rw[Gp]at hl ⊢
 exact .of_eq (h us hl)
def nI(CX:kf)(X:Cx)(E:XK):Prop:=∀ (pins:List (Addr × Obj)) (σ : St) (H:Hp) (s:Shared) (e:Value) (s':Shared),Inv X pins σ H s→CX X.stack H s E e s'→X.xe e s'
section
variable{X:Cx}{CX:kf}{k:Nat}{f C:Addr}{fd:FuncData}{ps:List Str}{sp:Sp}{dvs:List V}{ds:List Value}{E:XK}{x m:Str}{p pos apos:Pos}{e o:Expr}{es:List Expr}{ta:TE}{t:TA}
theorem wQ{pins:List (Addr × Obj)}{σ : St}{H:Hp}{s:Shared}{Q:VK}{us:List Value}{O:List V}(F:EV X.prog X.w X.K X.mg X.base CX k f fd ps sp)(hr:Di k X.A)(W:Binds X.K fd ps ds)(hd:wh dvs ds)(hx:nI CX X E)
  (I:Inv X pins σ H s) (r:wh O us) (h:sp (O++dvs) H Q E):wpAny (model X.prog X.w) X.A (call (.ref f) us) (EP X pins σ Q) X.xe s:=by
 have S:wh (O++dvs) (us++ds):=r.append hd
 have hl:(us++ds).length=ps.length:=by rw[← S.length]; exact F.len _ _ _ _ h
 refine wpAny_call (codeAny_mono (F.run X.A X.stack s H ⟨us,[]⟩ (us++ds) (O++dvs) Q E hr I.env0 (W s us I.kIn hl) S h) fun r s' J=>?_)
 cases r with
 | error e=>exact hx pins σ H s e s' I J
 | ok fl=>
  cases fl with
  | ret u=>exact I.after J
  | next=>exact False.elim J
  | brk=>exact False.elim J
  | cont=>exact False.elim J
theorem uv(F:EV X.prog X.w X.K X.mg X.base CX k f fd ps sp)(hr:Di k X.A)(hg:Gl X x)(Y:X.mg x=some (.ref f))(S:W.keepIn X.K (.ref f)=true)(hb:Binds X.K fd ps ds)(hd:wh dvs ds)(hx:nI CX X E)
  (Z:PA X (e::es) t) (J:(x == ("__debug__" : Str))=false:=by decide) (he:starEach (e::es) X.env=(false,eval e X.env)::starEach es X.env:=by rfl) (hpl:(backTo pos (starEach es X.env)).any (·.1)=false:=by rfl) :
  PE X (.Call (.Name x p) (e::es) [] pos) (mf sp dvs E t):=by
 intro pins s σ H Q I h
 refine wpAny_Call_Name_kw (jc I hg Y ?_ J)
 refine W.callWith_K (h₀:=X.base) I.ok.mod.kin S (bc (Z pos pins s σ H _ I h) fun us s1 ⟨vs,H1,O,r,q⟩=>⟨O.kIn,?_⟩) he hpl
 exact wQ F hr hb hd hx O r q
end
structure aT (N P:List Str) (sc:Scope):Prop where
 kind:sc.kind = .function
 co:sc.isCoroutine=false
 gen:sc.isGenerator=false
 nd:N.Nodup
 pre:N.take P.length=P
 par:∀ x∈P,sc.names.lookup x=some .local∨sc.names.lookup x=some .cell
 nofree:∀ y∈sc.names,y.2 ≠ .free
theorem EH{N P:List Str}{s:Stmt}(h1:(L2.h8 s).kind = .function:=by rfl)(h2:(L2.h8 s).isCoroutine=false:=by rfl)(h3:(L2.h8 s).isGenerator=false:=by rfl)(h4:N.Nodup:=by decide +kernel)(h5:N.take P.length=P:=by rfl)(h6:∀ x∈P,(L2.h8 s).names.lookup x=some .local∨(L2.h8 s).names.lookup x=some .cell:=by decide +kernel)(h7:∀ y∈(L2.h8 s).names,y.2 ≠ .free:=by decide +kernel):aT N P (L2.h8 s):=⟨h1,h2,h3,h4,h5,h6,h7⟩
theorem pQ{kindOf:Str→Option NameKind}{x:Str}:∀ {binds:List (Str × Value)} {m:Str→Option Value},(∀ v,(x,v)∉binds)→bindL kindOf binds m x=m x
 | [],_,_=>rfl
 | (n,v)::r,m,h=>by
  unfold bindL;rw[pQ fun w F=>h w (zU _ F)]
  split
  ·have:x≠n:=by rintro rfl; exact h v wZ
   simp[this]
  ·rfl
theorem p0{kindOf:Str→Option NameKind}{x:Str}:∀ {binds:List (Str × Value)} {m:Str→Option Value},(∀ v,(x,v)∉binds)→bindC kindOf binds m x=m x
 | [],_,_=>rfl
 | (n,v)::r,m,h=>by
  unfold bindC;rw[p0 fun w F=>h w (zU _ F)]
  split
  ·rfl
  ·have:x≠n:=by rintro rfl; exact h v wZ
   simp[this]
theorem p9{kindOf:Str→Option NameKind}{x:Str}{v:Value}:∀ {P:List Str} {F:List Value} {i:Nat} {m:Str→Option Value},P.Nodup→P[i]? = some x→F[i]? = some v→kindOf x=some .local→
  bindL kindOf (P.zip F) m x=some v
 | [],_,_,_,_,h,_,_=>by simp at h
 | _::_,[],_,_,_,_,h,_=>by simp at h
 | p::P,w::F,0,m,nd,h1,h2,hk=>by
  simp at h1 h2; subst h1; subst h2
  show bindL kindOf ((p,w)::P.zip F) m p=_
  unfold bindL;rw[pQ fun v hv=>(HY.mp nd).1 (List.of_mem_zip hv).1,HS hk]
  simp
 | p::P,w::F,i+1,m,nd,h1,h2,hk=>by
  show bindL kindOf ((p,w)::P.zip F) m x=_
  unfold bindL;exact p9 (i:=i) (HY.mp nd).2 (by simpa using h1) (by simpa using h2) hk
theorem p6{kindOf:Str→Option NameKind}{x:Str}{v:Value}:∀ {P:List Str} {F:List Value} {i:Nat} {m:Str→Option Value},P.Nodup→P[i]? = some x→F[i]? = some v→kindOf x≠some .local→
  bindC kindOf (P.zip F) m x=some v
 | [],_,_,_,_,h,_,_=>by simp at h
 | _::_,[],_,_,_,_,h,_=>by simp at h
 | p::P,w::F,0,m,nd,h1,h2,hk=>by
  simp at h1 h2; subst h1; subst h2
  show bindC kindOf ((p,w)::P.zip F) m p=_
  unfold bindC;rw[p0 fun v hv=>(HY.mp nd).1 (List.of_mem_zip hv).1,HP hk]
  simp
 | p::P,w::F,i+1,m,nd,h1,h2,hk=>by
  show bindC kindOf ((p,w)::P.zip F) m x=_
  unfold bindC;exact p6 (i:=i) (HY.mp nd).2 (by simpa using h1) (by simpa using h2) hk
def start(N:List Str)(vs:List V):St:=vs.map some++List.replicate (N.length - vs.length) none
def kC(CX:kf)(P:Program)(w:World)(K:W.Frag)(mg:Str→Option Value)(base:Heap)(N:List Str)(qual:Str)(scope:Scope)(f:Addr)(cd:Value)(A:Around)(outer:List Env)(s:Shared)(H:Hp)(E:XK):Cx where
 prog:=P
 w:=w
 K:=K
 mg:=mg
 base:=base
 A:=A.deeper (envOfC qual scope s.heap.objs.size f cd)
 N:=N
 s₀:=s
 H₀:=H
 env:=envOfC qual scope s.heap.objs.size f cd
 outer:=outer
 stack:=envOfC qual scope s.heap.objs.size f cd::outer
 ex:=[]
 calm:=true
 fn:=fun _=>true
 pn:=[]
 xe:=fun e s'=>wpAny (model P w) (A.deeper (envOfC qual scope s.heap.objs.size f cd)) (leaving (envOfC qual scope s.heap.objs.size f cd) e) (fun _ s''=>CX outer H s E e s'') (fun e' s''=>CX outer H s E e' s'') s'
theorem rK{F:Scope}{n:Nat}{x:Str}(h:F.names.lookup x=some .cell):∃ c,(cellsFrom n F.names []).lookup x=some c:=by
 have q:=W.cellsFrom_some F.names n [] (.inl h);exact Ii.mp q
theorem yt{CX:kf}{P:Program}{w:World}{K:W.Frag}{mg:Str→Option Value}{base:Heap}{N ps:List Str}{F:Str}{scope:Scope}{f:Addr}{cd:Value}{A:Around}{outer:List Env}{s s1:Shared}{H:Hp}{E:XK}{us:List Value}{O:List V}
  (S:aT N ps scope) (hd:A.handled=none) (J:u_ P w K mg base A outer s H) (hl:O.length=ps.length) (r:wh O us)
  (x:InCallC s s.heap.objs.size (bindL (envOfC F scope s.heap.objs.size f cd).kindOf (ps.zip us) fun _=>none) (cellsFrom (s.heap.objs.size+1) scope.names []) (bindC (envOfC F scope s.heap.objs.size f cd).kindOf (ps.zip us) fun _=>none) s1) :
  Inv (kC CX P w K mg base N F scope f cd A outer s H E) [] (start N O) H s1:=by
 have ad:ps.length≤N.length:=by have:=congrArg List.length S.pre; rw[vc]at this; omega
 obtain⟨h1,tk,rfl,hk⟩:=x.done
 have Y:∀ b:Addr,b∉(kC CX P w K mg base N F scope f cd A outer s H E).ex:=fun b z=>absurd (show b∈([]:List Addr) from z) (by simp)
 refine⟨⟨J.mod,S.kind,rfl,rfl,zg _,fun y z c h1 h2=>?_,fun y Z=>?_,fun y c _ h=>?_,fun _=>hd,Around.frames_deeper J.frames,.inr ⟨rfl,rfl⟩,fun b z=>absurd z (Y b),J.bs,J.bsz,fun b _ _=>Y b,fun b z=>absurd z (Y b),J.funs,J.frf⟩,
  rfl,J.bare,Un.kept hk,⟨_,x.toInCall.ns,fun i y v h1 h2 h3=>?_⟩,fun y c h=>⟨_,x.cell y c h⟩,J.hok.fresh (zg _),fun y c h=>?_,fun p hp=>absurd (show p∈([]:List (Addr × Obj)) from hp) (by simp),J.hok.kept hk,?_⟩
 ·exact name_of_addr x.apart (zbg h1) (zbg h2)
 ·have Z:scope.names.lookup y=some .cell∨scope.names.lookup y=some .free:=Z
  rcases Z with Z | Z
  ·exact rK Z
  ·exact absurd rfl (S.nofree _ (zbg Z))
 ·exact uV (x.above y c (zbg h))
 ·have hi:i<O.length:=by
   unfold start at h2
   by_cases hi:i<O.length
   ·exact hi
   ·rw[yS (by simpa using hi)]at h2
    rw[Hi]at h2
    split at h2 <;> cases h2
  have ha:O[i]? = some v:=by
   unfold start at h2;rw[vt (by simpa using hi),ze]at h2
   cases e:O[i]? with
   | none=>rw[e]at h2; cases h2
   | some a=>rw[e]at h2; cases h2; rfl
  obtain⟨u,hu,rv⟩:=r.get ha
  have hp:ps[i]? = some y:=by
   rw[← S.pre,zbQ (by omega)]; exact h1
  have aa:ps.Nodup:=by rw[← S.pre]; exact S.nd.sublist (zbA _ _)
  refine⟨u,rv,?_⟩
  rcases S.par y (zX hp) with k | k
  ·exact .inl ⟨k,p9 aa hp hu k⟩
  ·obtain⟨c,e⟩:=rK (n:=s.heap.objs.size+1) k
   refine .inr ⟨.inl k,c,e,?_⟩
   have q:=x.cell y c e;rw[p6 aa hp hu (by show scope.names.lookup y≠_; rw[k]; decide)]at q
   exact q
 ·exact J.hok.fresh (uV (x.above y c (zbg h)))
 ·unfold start
  show _=N.length
  rw[zV,zc,zbB];omega
theorem AW{CX:kf}{P:Program}{w:World}{K:W.Frag}{mg:Str→Option Value}{base:Heap}{k:Nat}{f:Addr}{name F:Str}{Y:Arguments}{body:List Stmt}{scope:Scope}{dV kV a0 pm O ct oc:Value}{an od:Option Addr}
  {a3:Array (Option Value)} {N ps:List Str} {sp:Sp} (lk:K.lookup f=some ⟨oc,od,.func (W.fnOf name F Y body scope dV kV a0 pm an O ct),a3⟩) (a2:W.codeIn K O F=true) (S:aT N ps scope)
  (len:∀ Z H Q E,sp Z H Q E→Z.length=ps.length)
  (ad:∀ (A:Around) (outer:List Env) (s:Shared) (H:Hp) (Z:List V) (Q:VK) (E:XK),Di k (A.deeper (envOfC F scope s.heap.objs.size f O))→sp Z H Q E→
   ∃ t,FP (kC CX P w K mg base N F scope f O A outer s H E) body t∧t { nx:=fun _ H'=>Q .non H',rt:=Q } (start N Z) H) :
  EV P w K mg base CX (k+1) f (W.fnOf name F Y body scope dV kV a0 pm an O ct) ps sp:=by
 refine⟨len,fun A outer s H args us Z Q E hr e0 hb r as=>?_⟩
 have hl:=len _ _ _ _ as;have KX:K.In s.heap:=e0.mod.kin.keeps fun b o e=>(e0.bs b o e).1
 have a1:s.heap.NoLimit:=e0.mod.nolimit.keeps fun b o e=>(e0.bs b o e).1
 have aa:∀ y∈ps.zip us,scope.names.lookup y.1=some .local∨(scope.names.lookup y.1=some .cell∧((cellsFrom (s.heap.objs.size+1) scope.names []).lookup y.1).isSome=true):=fun ⟨n,v⟩ hy=>by
  rcases S.par n (List.of_mem_zip hy).1 with q | q
  ·exact .inl q
  ·exact .inr ⟨q,W.cellsFrom_some _ _ _ (.inl q)⟩
 refine codeAny_call_function hr.depth (KX _ _ lk) rfl S.co S.gen rfl (W.codeRec_of KX a2) (hb _ _ _ _ ?_)
 refine wpAny_newFunctionEnv_cells S.kind aa fun env he s1 x=>?_
 subst he;refine⟨a1.keeps x.toInCall.keep,codeAny_func ?_⟩
 obtain⟨t,ht,hq⟩:=ad A outer s H Z Q E (hr.deeper _) as
 have I:Inv (kC CX P w K mg base N F scope f O A outer s H E) [] (start N Z) H s1:=yt S hr.hd e0 hl r x
 refine wpAny_mono (ht [] s1 (start N Z) H _ I hq) (fun fl s' hs=>?_) fun e s' hs=>hs
 have ag:∀ {σ':St} {H':Hp} {v:V} {u:Value},Inv (kC CX P w K mg base N F scope f O A outer s H E) [] σ' H' s'→RelV v u→Q v H'→CE outer P w H s Q u s':=
  fun {σ' H' v u} J rv q=>⟨v,H',J.os,J.bare,J.base,J.hok,rv,q⟩
 cases fl with
 | ret u=>
  obtain⟨v,σ',H',J,rv,q⟩:=hs
  exact ag J rv q
 | next=>
  obtain⟨σ',H',J,q⟩:=hs
  exact ag (v:=V.non) (u:=Value.none) J rfl q
 | brk=>
  obtain⟨_,_,_,q⟩:=hs
  exact False.elim q
 | cont=>
  obtain⟨_,_,_,q⟩:=hs
  exact False.elim q
section
variable{X:Cx}{x:Str}{p pos:Pos}{e:Expr}{es:List Expr}{t:TA}{id T:String}{r:List V→Hp→VK→Prop}
def yA(r:List V→Hp→VK→Prop)(t:TA):TE:=fun σ H Q=>t σ H fun vs H1=>r vs H1 Q
theorem Aj(S:CV X (.builtin id) r)(hg:Gl X x)(Z:X.mg x=none)(hv:bootBuiltins x=some (.builtin id))(ha:PA X (e::es) t)(J:x ≠ "__name__" := by decide) (hdb:(x == ("__debug__" : Str))=false:=by decide)
  (he:starEach (e::es) X.env=(false,eval e X.env)::starEach es X.env:=by rfl) (hpl:(backTo pos (starEach es X.env)).any (·.1)=false:=by rfl):PE X (.Call (.Name x p) (e::es) [] pos) (yA r t):=by
 intro pins s σ H Q I h
 refine wpAny_Call_Name_kw (iI I hg Z hv ?_ J hdb)
 exact PyProof.Rows.callWith_builtin1 (bc (ha pos pins s σ H _ I h) fun us s1 ⟨Y,H1,W,F,O⟩=>S pins s1 σ H1 Y us Q W F O) he hpl
theorem yC(S:CV X (.type T) r)(hg:Gl X x)(Z:X.mg x=none)(hv:bootBuiltins x=some (.type T))(ha:PA X (e::es) t)(J:x ≠ "__name__" := by decide) (hdb:(x == ("__debug__" : Str))=false:=by decide)
  (he:starEach (e::es) X.env=(false,eval e X.env)::starEach es X.env:=by rfl) (hpl:(backTo pos (starEach es X.env)).any (·.1)=false:=by rfl):PE X (.Call (.Name x p) (e::es) [] pos) (yA r t):=by
 intro pins s σ H Q I h
 refine wpAny_Call_Name_kw (iI I hg Z hv ?_ J hdb)
 exact zaW (bc (ha pos pins s σ H _ I h) fun us s1 ⟨Y,H1,W,F,O⟩=>S pins s1 σ H1 Y us Q W F O) he hpl
end
end L2
namespace HT
open PySem PyProof.Rows
section
variable{prog:Program}{w:World}{A:Around}{E:Value→Shared→Prop}{s:Shared}
def sIx(n d:Nat):Option Int→Nat
 | none=>d
 | some v=>if v<0 then (v+(n:Int)).toNat else min v.toNat n
theorem sIx_none(n d:Nat):sIx n d none=d:=rfl
theorem sIx_nat(n d k:Nat):sIx n d (some (k:Int))=min k n:=by
 show (if (k:Int)<0 then ((k:Int)+(n:Int)).toNat else min (k:Int).toNat n)=min k n
 rw[if_neg (by omega),Int.toNat_natCast]
end
end HT
namespace L2
open PySem PySem.Spec PyProof.Rows
abbrev TO:=St→Hp→(Option Int→Hp→Prop)→Prop
def PO(X:Cx)(e:Option Expr)(t:TO):Prop:=
 ∀ (pins:List (Addr × Obj)) (s:Shared) (σ : St) (H:Hp) (Q:Option Int→Hp→Prop),Inv X pins σ H s→t σ H Q→
  wpAny (model X.prog X.w) X.A (evalPart e X.env) (fun u s'=>∃ o H',Inv X pins σ H' s'∧IsPart u o∧Q o H') X.xe s
def uo:TO:=fun _ H Q=>Q none H
def AX(t:TE):TO:=fun σ H Q=>t σ H fun x H1=>∃ i,x = .int i∧Q (some i) H1
theorem vj{ns:List Int}:∀ {us:List Value},wh (ns.map V.int) us→IntsAre us ns:=by
 induction ns with
 | nil=>intro us r; rw[GS]at r; cases r; exact .nil
 | cons n ns ih=>
  intro us r
  rw[xq]at r
  cases r with
  | cons r1 r2=>
   obtain⟨t,e⟩:=r1
   subst e;exact .cons n t (ih r2)
section
variable{X:Cx}{e:Expr}{te:TE}{lo hi:Option Expr}{tl th:TO}{pos p2:Pos}
theorem fV:PO X none uo:=by
 intro pins s σ H Q I h
 rw[evalPart_none];exact HI ⟨none,H,I,.none,h⟩
theorem cM(h:PE X e te):PO X (some e) (AX te):=by
 intro pins s σ H Q I O
 rw[evalPart_some];refine bc (h pins s σ H _ I O) fun u s1 ⟨x,H1,S,F,J⟩=>?_
 obtain⟨i,rfl,q⟩:=J
 obtain⟨t,rfl⟩:=F
 exact⟨some i,H1,S,.int i t,q⟩
def SlR(X:Cx)(r:V→Option Int→Option Int→Hp→VK→Prop):Prop:=
 ∀ (pins:List (Addr × Obj)) (s:Shared) (σ : St) (H:Hp) (x:V) (v vl vu:Value) (lo hi:Option Int) (sl:Addr) (Q:VK),Inv X pins σ H s→RelV x v→s.heap.IsSliceOf sl vl vu .none→IsPart vl lo→IsPart vu hi→r x lo hi H Q→
  ∃ T id,typeLookup (.type T) "__getitem__" = pure (some (.builtin id))∧s.TypeIs v T∧wpAny (model X.prog X.w) X.A (getItem v (.ref sl)) (EP X pins σ Q) X.xe s
def F1(r:V→Option Int→Option Int→Hp→VK→Prop)(te:TE)(tl th:TO):TE:=fun σ H Q=>te σ H fun x H1=>tl σ H1 fun l H2=>th σ H2 fun u H3=>r x l u H3 Q
theorem dC{r:V→Option Int→Option Int→Hp→VK→Prop}(hr:SlR X r)(he:PE X e te)(hl:PO X lo tl)(Y:PO X hi th):PE X (.Subscript e (.Slice lo hi none p2) pos) (F1 r te tl th):=by
 intro pins s σ H Q I h
 refine Subscript_ (bc (he pins s σ H _ I h) fun v s1 ⟨x,H1,I1,r1,q1⟩=>?_)
 refine wpAny_Slice (bc (hl pins s1 σ H1 _ I1 q1) fun J s2 ⟨l,H2,I2,pl,W⟩=>bc (Y pins s2 σ H2 _ I2 W) fun O F ⟨u,S,I3,pu,q3⟩=>?_)
 rw[evalPart_none];refine HI ?_
 have I4:Inv X pins σ S { F with heap:=F.heap.push { cls:=.type "slice", data:=.fields #[J,O,.none] } }:=I3.kept (t':=F.toks) fun b ob q=>zD _ q
 obtain⟨T,id,hT,Z,hg⟩:=hr pins { F with heap:=F.heap.push { cls:=.type "slice", data:=.fields #[J,O,.none] } } σ S x v J O l u F.heap.objs.size Q I4 r1 (Heap.IsSliceOf.new ..) pl pu q3
 show wpAny (model X.prog X.w) X.A (subscriptTail e (.Slice lo hi none p2) v (.ref F.heap.objs.size)) (EP X pins σ Q) X.xe { F with heap:=F.heap.push { cls:=.type "slice", data:=.fields #[J,O,.none] } }
 exact tail_any (ops:=[.ref F.heap.objs.size,v]) Z hT hg (by with_unfolding_all rfl)
def dP(xs:List V)(lo hi:Option Int):List V:=(xs.drop (HT.sIx xs.length 0 lo)).take (HT.sIx xs.length xs.length hi - HT.sIx xs.length 0 lo)
theorem tK(xs:List V)(lo hi:Option Int):(dP xs lo hi).length≤xs.length:=by
 unfold dP;rw[vc,GL];omega
end
def mH(n:Nat)(i:Int):Option Nat:=if 0≤i then (if i<n then some i.toNat else none) else if -(n:Int)≤i then some (i+n).toNat else none
def eK{α : Type}(xs:List α)(i:Int):Option α:=(mH xs.length i).bind fun j=>xs[j]?
theorem uq{n:Nat}{i:Int}{j:Nat}(h:mH n i=some j):seqIndex? i n=some j∧j<n∧-(n:Int)≤i∧i<n:=by
 unfold mH at h
 by_cases h0:0≤i
 ·rw[HS h0]at h
  by_cases h1:i<n
  ·rw[HS h1]at h
   have e:i.toNat=j:=Option.some.inj h
   exact⟨by rw[seqIndex_of h0 h1,e],by omega,by omega,h1⟩
  ·rw[HP h1]at h; cases h
 ·rw[HP h0]at h
  by_cases h1:-(n:Int)≤i
  ·rw[HS h1]at h
   have e:(i+n).toNat=j:=Option.some.inj h
   exact⟨by rw[seqIndex_neg (by omega) h1,e],by omega,h1,by omega⟩
  ·rw[HP h1]at h; cases h
theorem oP{α : Type}{xs:List α}{i:Int}{v:α}(h:eK xs i=some v):∃ j,seqIndex? i xs.length=some j∧xs[j]? = some v∧j<xs.length∧-(xs.length:Int)≤i∧i<xs.length:=by
 unfold eK at h
 cases e:mH xs.length i with
 | none=>rw[e]at h; cases h
 | some j=>
  rw[e]at h
  obtain⟨h1,h2,F,J⟩:=uq e
  exact⟨j,h1,h,h2,F,J⟩
theorem aE{α : Type}{xs:List α}{j:Nat}{v:α}(h:xs[j]? = some v):eK xs (j:Int)=some v:=by
 have F:j<xs.length:=(HL.mp h).1
 have e:mH xs.length (j:Int)=some j:=by
  unfold mH;rw[HS (by omega),HS (by omega)]; simp
 unfold eK; rw[e]; exact h
def BC(b:Expr):Prop:=∀ o i,subscripted b false o i=operate [o,i] (getItem o i)
def F2(X:Cx)(r:R2):Prop:=
 ∀ (value slice:Expr) (pins:List (Addr × Obj)) (s:Shared) (σ : St) (H:Hp) (x y:V) (v u:Value) (Q:VK),Inv X pins σ H s→RelV x v→RelV y u→r x y H Q→
  subscripted slice false v u=operate [v,u] (getItem v u)→wpAny (model X.prog X.w) X.A (subscriptTail value slice v u) (EP X pins σ Q) X.xe s
def GI(X:Cx)(id:String)(r:V→List V→Hp→VK→Prop):Prop:=
 ∀ (pins:List (Addr × Obj)) (s:Shared) (σ : St) (H:Hp) (x:V) (xs:List V) (v:Value) (us:List Value) (Q:VK),Inv X pins σ H s→RelV x v→wh xs us→r x xs H Q→
  wpAny (model X.prog X.w) X.A (call (.builtin id) (v::us)) (EP X pins σ Q) X.xe s
section
variable{X:Cx}{a b:Expr}{ta tb:TE}{pos:Pos}
theorem F2.or{r Y:R2}(h:F2 X r)(h':F2 X Y):F2 X (fun x y H Q=>r x y H Q∨Y x y H Q):=by
 intro J F pins s σ H x y v u Q I W S q O
 rcases q with q | q
 ·exact h J F pins s σ H x y v u Q I W S q O
 ·exact h' J F pins s σ H x y v u Q I W S q O
theorem aD{r:R2}(hr:F2 X r)(W:PE X a ta)(Z:PE X b tb)(F:BC b):PE X (.Subscript a b pos) (ww r ta tb):=by
 intro pins s σ H Q I h
 exact Subscript_ (zw W Z I h fun v u Y x y H2 J S O q=>hr a b pins Y σ H2 x y v u Q J S O q (F _ _))
def ET(K:W.Frag):R2:=fun x y H Q=>∃ p xs i v,x = .ref p∧y = .int i∧rd K H p xs∧eK xs i=some v∧Q v H
def D3(K:W.Frag):R2:=fun x y H Q=>∃ p xs i v,x = .ref p∧y = .int i∧C3 K H p xs∧eK xs i=some v∧Q v H
def CY:R2:=fun x y H Q=>∃ z i c,x = .str z∧y = .int i∧z.length≤sizeLine∧eK z.cps.toList i=some c∧Q (.str ⟨#[c]⟩) H
theorem GR:F2 X (ET X.K):=by
 intro W J pins s σ H x y v u Q I rx ry h hs
 obtain⟨p,xs,i,z,rfl,rfl,hq,he,q⟩:=h
 cases rx;obtain⟨t,rfl⟩:=ry
 obtain⟨S,r,Y,hz⟩:=I.list hq
 obtain⟨j,h1,h2,h3,h4,h5⟩:=oP he
 obtain⟨w,ew,Z⟩:=r.get h2
 have hl:=r.length;have hn:=kg;have F:EP X pins σ Q w s:=⟨z,H,I,Z,q⟩
 by_cases h0:0≤i
 ·have O:i.toNat=j:=by
   rw[seqIndex_of h0 h5]at h1
   exact Option.some.inj h1
  exact item_listR Y.isList h0 (by omega) (by rw[O]; simpa using ew) F hs
 ·have O:(i+(S.toArray.size:Int)).toNat=j:=by
   rw[seqIndex_neg (by omega) h4]at h1
   rw[vx,← hl];exact Option.some.inj h1
  exact subscriptTail_builtinR (x:=w) Y.isList.typeIs slot_list_getitem.lookup
   (wpAny_getItem_list_neg (Q:=fun r s'=>r=w∧EP X pins σ Q r s') Y.isList (by omega) (by rw[vx] <;> omega) (by omega) (by rw[O]; simpa using ew) ⟨rfl,F⟩) hs
theorem Hy:F2 X (D3 X.K):=by
 intro O J pins s σ H x y v u Q I rx ry h Y
 obtain⟨p,xs,i,z,rfl,rfl,Z,he,q⟩:=h
 cases rx;obtain⟨t,rfl⟩:=ry
 obtain⟨aa,r,W,hz⟩:=I.tuple Z
 obtain⟨j,h1,h2,h3,h4,h5⟩:=oP he
 obtain⟨w,ew,S⟩:=r.get h2
 have hl:=r.length;have hn:=kg;have F:EP X pins σ Q w s:=⟨z,H,I,S,q⟩
 exact subscriptTail_builtinR (x:=w) W.typeIs slot_tuple_getitem.lookup
  (getItem_tuple (j:=j) (Q:=fun r s'=>r=w∧EP X pins σ Q r s') W (by omega) (by omega) (by rw[vx,← hl]; exact h1) (by simpa using ew) ⟨rfl,F⟩) Y
theorem Dx:F2 X CY:=by
 intro J F pins s σ H x y v u Q I Z W h O
 obtain⟨z,i,c,rfl,rfl,hz,he,q⟩:=h
 obtain⟨t,rfl⟩:=Z
 obtain⟨t',rfl⟩:=W
 obtain⟨j,h1,h2,h3,h4,Y⟩:=oP he
 have hl:z.cps.toList.length=z.length:=by simp[Str.length]
 rw[hl]at h1 h4 Y
 have hn:=kg
 exact tail_any (typeIs_str s z t) slot_str_getitem.lookup (getItem_str (c:=c) (by
  have e1:decide (i < -(2 ^ 63:Int))=false:=decide_eq_false (by omega)
  have S:decide (i≥2 ^ 63)=false:=decide_eq_false (by omega)
  rw[e1,S,Bool.or_false]) (by rw[h1]; simpa using h2) ⟨.str ⟨#[c]⟩,H,I.tok _,⟨_,rfl⟩,q⟩) O
def JJ(K:W.Frag):R2:=fun x y H Q=>ET K x y H Q∨D3 K x y H Q∨CY x y H Q
theorem EJ:F2 X (JJ X.K):=GR.or (Hy.or Dx)
theorem u7(F:List Value)(n j:Nat)(u:Value):Obj.mapSeq (·.setIfInBounds j u) { cls:=.type "list", data:=.seq F.toArray n }={ cls:=.type "list", data:=.seq (F.set j u).toArray n }:=by
 simp[Obj.mapSeq]
theorem Inv.lst{pins:List (Addr × Obj)}{σ : St}{H:Hp}{s:Shared}{p:Addr}{xs:List V}(I:Inv X pins σ H s)(h:H p=some (.lst xs)) :
  ∃ (F:List Value) (n:Nat),wh xs F∧s.heap.get? p=some { cls:=.type "list", data:=.seq F.toArray n }∧xs.length≤sizeLine:=by
 obtain⟨z,F,n,r,e⟩:=I.hok p _ h
 exact⟨F,n,r,e,z⟩
theorem Inv.lstUpd{pins:List (Addr × Obj)}{σ : St}{H:Hp}{s:Shared}{p:Addr}{xs ys:List V}{F its':List Value}{n n':Nat}{f:Obj→Obj}(I:Inv X pins σ H s)(h:H p=some (.lst xs))
  (J:s.heap.get? p=some { cls:=.type "list", data:=.seq F.toArray n }) (hf:f { cls:=.type "list", data:=.seq F.toArray n }={ cls:=.type "list", data:=.seq its'.toArray n' }) (r:wh ys its') (hz:ys.length≤sizeLine) (t:Nat) :
  Inv X pins σ (upd H p (.lst ys)) { s with heap:=s.heap.update p f,toks:=t }:=by
 have e:(s.heap.update p f).get? p=some { cls:=.type "list", data:=.seq its'.toArray n' }:=by
  rw[Gb f J (by rw[hf] <;> rfl),hf]
 refine I.write (x:=p) (e:=p) (by rw[h]; trivial) (.inl rfl) (fun b u O q=>(Ha _ _ (zB O)).trans q) ⟨_,e⟩ ?_
 exact⟨hz,its',n',r,e⟩
def wf:V→V→V→Hp→(Hp→Prop)→Prop:=fun o i v H Q=>∃ p xs k j,o = .ref p∧i = .int k∧H p=some (.lst xs)∧mH xs.length k=some j∧Q (upd H p (.lst (xs.set j v)))
theorem Ao:FH X wf:=by
 intro pins s σ H o i v ov iv u Q I ro ri rv h
 obtain⟨p,xs,k,j,rfl,rfl,hp,hj,q⟩:=h
 cases ro;obtain⟨t,rfl⟩:=ri
 obtain⟨F,n,r,O,hz⟩:=I.lst hp
 obtain⟨h1,h2,Y,Z⟩:=uq hj
 have hl:=r.length;have hn:=kg
 have S:Inv X pins σ (upd H p (.lst (xs.set j v))) { s with heap:=s.heap.update p (Obj.mapSeq (·.setIfInBounds j u)) }:=
  I.lstUpd hp O (u7 F n j u) (r.set rv j) (by rw[List.length_set]; exact hz) s.toks
 by_cases h0:0≤k
 ·have J:k.toNat=j:=by
   rw[seqIndex_of h0 Z]at h1
   exact Option.some.inj h1
  exact W.ki_setAt O h0 (by omega) (by rw[vx,← hl]; exact Z) (by rw[J]; exact⟨_,S,q⟩)
 ·have J:(k+(F.toArray.size:Int)).toNat=j:=by
   rw[seqIndex_neg (by omega) Y]at h1
   rw[vx,← hl];exact Option.some.inj h1
  exact W.ki_setBack O (by omega) (by rw[vx,← hl]; exact Y) (by omega) (by rw[J]; exact⟨_,S,q⟩)
theorem si(lo hi:Option Int)(n:Nat):(sliceBounds lo hi none n).1=((HT.sIx n 0 lo:Nat):Int)∧(sliceBounds lo hi none n).2.1=((HT.sIx n n hi:Nat):Int)∧(sliceBounds lo hi none n).2.2=1:=by
 refine⟨?_,?_,rfl⟩
 ·cases lo with
  | none=>simp[sliceBounds,HT.sIx]
  | some i=>
   simp only[sliceBounds,HT.sIx,Option.getD_none,show (1:Int)>0 by decide,if_true]
   by_cases h:i<0
   ·simp only[h,if_true] <;> omega
   ·simp only[h,if_false] <;> omega
 ·cases hi with
  | none=>simp[sliceBounds,HT.sIx]
  | some i=>
   simp only[sliceBounds,HT.sIx,Option.getD_none,show (1:Int)>0 by decide,if_true]
   by_cases h:i<0
   ·simp only[h,if_true] <;> omega
   ·simp only[h,if_false] <;> omega
theorem qC(F:List Value)(lo hi:Option Int):slicePick F.toArray lo hi none=((F.drop (HT.sIx F.length 0 lo)).take (HT.sIx F.length F.length hi - HT.sIx F.length 0 lo)).toArray:=by
 obtain⟨h1,h2,J⟩:=si lo hi F.toArray.size
 unfold slicePick;rw[h1,h2,J];simp only[sliceRange_one,pick_run,vx] <;> rfl
def yY(K:W.Frag):V→Option Int→Option Int→Hp→VK→Prop:=fun x lo hi H Q=>∃ a xs,x = .ref a∧rd K H a xs∧∀ p,H p=none→Q (.ref p) (upd H p (.lst (dP xs lo hi)))
theorem Cc:SlR X (yY X.K):=by
 intro pins s σ H x v vl vu lo hi sl Q I W O Y Z h
 obtain⟨a,xs,rfl,hx,q⟩:=h
 cases W;obtain⟨S,r,J,hz⟩:=I.list hx
 have F:=r.length;refine⟨"list", _,slot_list_getitem.lookup,J.isList.typeIs,?_⟩
 refine wpAny_getItem_list_slice J.isList O Y Z .none (by simp) ?_ (by rw[vx] <;> omega)
 rw[qC,← F];refine⟨.ref s.heap.objs.size,_,I.laid (t':=s.toks) (o:=.lst (dP xs lo hi)) (fun b ob q=>zD _ q) (zg _) ?_,rfl,q _ (I.hok.fresh (zg _))⟩
 exact⟨vg (tK xs lo hi) hz,_,0,(r.drop (HT.sIx xs.length 0 lo)).take (HT.sIx xs.length xs.length hi - HT.sIx xs.length 0 lo),wd _ rfl⟩
def bW:V→Bool
 | .non=>true
 | .bl _=>true
 | .int _=>true
 | .str _=>true
 | _=>false
def iF:V→V→Bool
 | .non,.non=>true
 | .bl a,.bl b=>a == b
 | .bl a,.int b=>(if a then 1 else 0) == b
 | .int a,.bl b=>a == (if b then 1 else 0)
 | .int a,.int b=>a == b
 | .str a,.str b=>a == b
 | _,_=>false
theorem iH{A:Around}{s:Shared}{y x:V}{u v:Value}(O:RelV y u)(F:RelV x v)(S:bW y=true)(J:bW x=true):SeqAt.EqAt A s u v (iF y x):=by
 cases y with
 | non=>
  cases O
  cases x with
  | non=>cases F; exact SeqAt.EqAt.same _
  | bl b=>cases F; exact SeqAt.EqAt.none_bool b
  | int b=>obtain⟨t,rfl⟩:=F; exact SeqAt.EqAt.none_int b t
  | str b=>obtain⟨t,rfl⟩:=F; exact SeqAt.EqAt.none_str b t
  | _=>exact absurd (show false=true from J) vn
 | bl a=>
  cases O
  cases x with
  | non=>cases F; exact SeqAt.EqAt.bool_none a
  | bl b=>cases F; exact SeqAt.EqAt.bool_bool a b
  | int b=>obtain⟨t,rfl⟩:=F; exact SeqAt.EqAt.bool_int a b t
  | str b=>obtain⟨t,rfl⟩:=F; exact SeqAt.EqAt.bool_str a b t
  | _=>exact absurd (show false=true from J) vn
 | int a=>
  obtain⟨t',rfl⟩:=O
  cases x with
  | non=>cases F; exact SeqAt.EqAt.int_none a t'
  | bl b=>cases F; exact SeqAt.EqAt.int_bool a t' b
  | int b=>obtain⟨t,rfl⟩:=F; exact SeqAt.EqAt.int_int a t' b t
  | str b=>obtain⟨t,rfl⟩:=F; exact SeqAt.EqAt.int_str a t' b t
  | _=>exact absurd (show false=true from J) vn
 | str a=>
  obtain⟨t',rfl⟩:=O
  cases x with
  | non=>cases F; exact SeqAt.EqAt.str_none a t'
  | bl b=>cases F; exact SeqAt.EqAt.str_bool a t' b
  | int b=>obtain⟨t,rfl⟩:=F; exact SeqAt.EqAt.str_int a t' b t
  | str b=>obtain⟨t,rfl⟩:=F; exact SeqAt.EqAt.str_str a t' b t
  | _=>exact absurd (show false=true from J) vn
 | _=>exact absurd (show false=true from S) vn
def ef(x:V)(u:Value):Bool:=match u with
 | .none=>iF .non x
 | .bool b=>iF (.bl b) x
 | .int i _=>iF (.int i) x
 | .str z _=>iF (.str z) x
 | _=>false
theorem j9{x y:V}{u:Value}(r:RelV y u)(f:bW y=true):ef x u=iF y x:=by
 cases y with
 | non=>cases r; rfl
 | bl b=>cases r; rfl
 | int i=>obtain⟨t,rfl⟩:=r; rfl
 | str z=>obtain⟨t,rfl⟩:=r; rfl
 | _=>exact absurd (show false=true from f) vn
theorem kd{x:V}:∀ {xs:List V} {us:List Value},wh xs us→xs.all bW=true→us.any (ef x)=xs.any fun y=>iF y x
 | _,_,.nil,_=>rfl
 | y::xs,u::us,.cons r t,f=>by
  rw[List.all_cons,sG]at f
  rw[zaX,zaX,j9 r f.1,kd t f.2]
theorem jK{A:Around}{s:Shared}{x:V}{v:Value}(O:RelV x v)(J:bW x=true):∀ {xs:List V} {us:List Value},wh xs us→xs.all bW=true→∀ u∈us,SeqAt.EqAt A s u v (ef x u)
 | _,_,.nil,_=>fun u F=>by cases F
 | y::xs,u::us,.cons r t,f=>fun S F=>by
  rw[List.all_cons,sG]at f
  rcases HW.mp F with rfl | F
  ·rw[j9 r f.1]; exact iH r O f.1 J
  ·exact jK O J t f.2 S F
def k_(x:V)(xs:List V):Bool:=xs.any fun y=>iF y x
def FN(K:W.Frag)(neg:Bool):R2:=fun x y H Q=>∃ p xs,y = .ref p∧(rd K H p xs∨C3 K H p xs)∧bW x=true∧xs.all bW=true∧Q (.bl (if neg then !k_ x xs else k_ x xs)) H
theorem yB:D0 X (compareOp .In) (FN X.K false):=by
 intro pins s σ H x y v u Q I Y Z h
 obtain⟨p,xs,rfl,J,W,fs,q⟩:=h
 cases Z;rcases J with J | J
 ·obtain⟨F,r,O,hz⟩:=I.list J
  refine SeqAt.in_listAt (ef x) O.isList (fun w S=>jK Y W r fs w (by simpa using S)) ⟨.bl _,H,I,rfl,?_⟩
  rw[show F.toArray.any (ef x)=F.any (ef x) by simp,kd r fs]
  exact q
 ·obtain⟨F,r,O,hz⟩:=I.tuple J
  refine SeqAt.in_tupleAt (ef x) O (fun w S=>jK Y W r fs w (by simpa using S)) ⟨.bl _,H,I,rfl,?_⟩
  rw[show F.toArray.any (ef x)=F.any (ef x) by simp,kd r fs]
  exact q
theorem sE:D0 X (compareOp .NotIn) (FN X.K true):=by
 intro pins s σ H x y v u Q I Y Z h
 obtain⟨p,xs,rfl,J,W,fs,q⟩:=h
 cases Z;rcases J with J | J
 ·obtain⟨F,r,O,hz⟩:=I.list J
  refine SeqAt.notIn_listAt (ef x) O.isList (fun w S=>jK Y W r fs w (by simpa using S)) ⟨.bl _,H,I,rfl,?_⟩
  rw[show F.toArray.any (ef x)=F.any (ef x) by simp,kd r fs]
  exact q
 ·obtain⟨F,r,O,hz⟩:=I.tuple J
  refine SeqAt.notIn_tupleAt (ef x) O (fun w S=>jK Y W r fs w (by simpa using S)) ⟨.bl _,H,I,rfl,?_⟩
  rw[show F.toArray.any (ef x)=F.any (ef x) by simp,kd r fs]
  exact q
theorem rQ:CV X (.builtin "len") (fun xs H Q=>∃ p ys,xs=[.ref p]∧(rd X.K H p ys∨C3 X.K H p ys)∧Q (.int ys.length) H):=by
 intro pins s σ H xs us Q I r h
 obtain⟨p,ys,rfl,J,q⟩:=h
 obtain⟨u,rfl,Y⟩:=dU r
 cases Y;have Z:=kg;rcases J with J | J
 ·obtain⟨O,W,S,hz⟩:=I.list J
  have F:=W.length;exact Calls.call_len_list S.isList (by simp only[vx] <;> omega) ⟨.int ys.length,H,I.tok _,⟨s.toks+1,by rw[vx,F]⟩,q⟩
 ·obtain⟨O,W,S,hz⟩:=I.tuple J
  have F:=W.length;exact len_tuple S (by simp only[vx] <;> omega) ⟨.int ys.length,H,I.tok _,⟨s.toks+1,by rw[vx,F]⟩,q⟩
theorem rj:CV X (.builtin "len") (fun xs H Q=>∃ z,xs=[.str z]∧z.length≤sizeLine∧Q (.int z.length) H):=by
 intro pins s σ H xs us Q I r h
 obtain⟨z,rfl,hz,q⟩:=h
 obtain⟨u,rfl,t,rfl⟩:=dU r
 have F:=kg;exact len_str (by omega) ⟨.int z.length,H,I.tok _,⟨_,rfl⟩,q⟩
theorem qA:CV X (.type "tuple") (fun xs H Q=>∃ p ys,xs=[.ref p]∧((rd X.K H p ys∧∀ l,H l=none→Q (.ref l) (upd H l (.tup ys)))∨(C3 X.K H p ys∧Q (.ref p) H))):=by
 intro pins s σ H xs us Q I r h
 obtain⟨p,ys,rfl,h⟩:=h
 obtain⟨u,rfl,rx⟩:=dU r
 cases rx;rcases h with ⟨J,q⟩ | ⟨J,q⟩
 ·obtain⟨F,S,O,hz⟩:=I.list J
  have Y:=S.length;refine call_tuple_list O.isList (fun h' kp=>?_) (by simp only[vx] <;> omega)
  have W:Inv X pins σ H { s with heap:=h' }:=I.kept (t':=s.toks) kp
  have Z:Inv X pins σ (upd H h'.objs.size (.tup ys)) { s with heap:=h'.push { cls:=.type "tuple", data:=.seq F.toArray } }:=
   W.laid (t':=s.toks) (fun b o e=>zD _ e) (zg _) (show Ax X.prog X.w _ _ _ (.tup ys) from ⟨hz,F,S,Ez.new _ _⟩)
  exact⟨.ref h'.objs.size,_,Z,rfl,q _ (W.hok.fresh (zg _))⟩
 ·obtain⟨F,S,O,hz⟩:=I.tuple J
  exact call_tuple_same O ⟨.ref p,H,I,rfl,q⟩
def xK(K:W.Frag)(T:String)(x:V)(H:Hp):Prop:=match x with
 | .str _=>T = "str"
 | .int _=>T = "int"
 | .ref p=>(T = "list" ∧ ∃ xs,rd K H p xs)∨(T = "tuple" ∧ ∃ o,K.lookup p=some o∧o.cls = .type "tuple" ∧ o.dict=none)∨
   (T = "dict" ∧ ((∃ kvs,H p=some (.dK kvs))∨∃ kvs,H p=some (.dT kvs)))∨(T = "set" ∧ ∃ S n,H p=some (.set S n))
 | _=>False
theorem Dz{pins:List (Addr × Obj)}{σ : St}{H:Hp}{s:Shared}{T:String}{x:V}{v:Value}(I:Inv X pins σ H s)(r:RelV x v)(ty:xK X.K T x H) :
  s.TypeIs v T∧∀ a,v = .ref a→∃ ob,s.heap.get? a=some ob∧ob.dict=none:=by
 cases x with
 | str z=>
  obtain⟨t,rfl⟩:=r
  cases (show T = "str" from ty)
  exact⟨typeIs_str s z t,fun _ e=>nomatch e⟩
 | int i=>
  obtain⟨t,rfl⟩:=r
  cases (show T = "int" from ty)
  exact⟨typeIs_int s i t,fun _ e=>nomatch e⟩
 | ref p=>
  cases r;rcases ty with ⟨rfl,xs,Y⟩ | ⟨rfl,o,F,W,hd⟩ | ⟨rfl,F⟩ | ⟨rfl,S,n,F⟩
  ·obtain⟨Z,_,O,_⟩:=I.list Y
   refine⟨O.isList.typeIs,fun a e=>?_⟩
   cases e;obtain⟨o,n,e,c,hd,_⟩:=O
   exact⟨o,e,hd⟩
  ·refine⟨⟨o,I.kIn p o F,W⟩,fun a e=>?_⟩
   cases e;exact⟨o,I.kIn _ o F,hd⟩
  ·have z:∃ o,s.heap.get? p=some o∧o.ExactDict:=by
    rcases F with ⟨kvs,F⟩ | ⟨kvs,F⟩
    ·obtain⟨_,_,_,_,o,_,_,e,ex,_⟩:=I.hok p _ F
     exact⟨o,e,ex⟩
    ·obtain⟨_,_,_,_,o,_,_,e,ex,_⟩:=I.hok p _ F
     exact⟨o,e,ex⟩
   obtain⟨o,e,ex⟩:=z
   refine⟨⟨o,e,ex.1⟩,fun a J=>?_⟩
   cases J;exact⟨o,e,ex.2.1⟩
  ·obtain⟨o,_,_,_,e,ex,_⟩:=I.hok p _ F
   refine⟨⟨o,e,ex.1⟩,fun a J=>?_⟩
   cases J;exact⟨o,e,ex.2.1⟩
 | _=>exact False.elim ty
def Bp(K:W.Frag)(T:String)(r:V→List V→Hp→VK→Prop)(to:TE)(t:TA):TE:=fun σ H Q=>to σ H fun x H1=>xK K T x H1∧t σ H1 fun xs H2=>r x xs H2 Q
variable{o e:Expr}{es:List Expr}{to:TE}{t:TA}{name:Str}{apos cpos:Pos}{T id:String}{r:V→List V→Hp→VK→Prop}
theorem Fe(Y:PlainAttrs T)(slot:Slot T name id)(J:typeOf (.builtin id)=pure (.type "method_descriptor")) (hm:GI X id r) (ho:PE X o to) (ha:PA X (e::es) t)
  (F:attributeBase o name X.env (eval o X.env)=eval o X.env:=by rfl)
  (hfew:((backTo cpos (starEach (e::es) X.env)).all (fun x=>!x.1)&&(backToKw cpos (keywordEach [] X.env)).all (fun x=>x.1.isSome)
   && decide ((e::es).length+([]:List Keyword).length+(if ([]:List Keyword).isEmpty then 0 else 1)<30))=true:=by rfl)
  (hline:(apos.endLine == cpos.line)=true:=by rfl) (hs:starEach (e::es) X.env=(false,eval e X.env)::starEach es X.env:=by rfl) (hplain:(backTo cpos (starEach es X.env)).any (·.1)=false:=by rfl) :
  PE X (.Call (.Attribute o name apos) (e::es) [] cpos) (Bp X.K T r to t):=by
 intro pins s σ H Q I h
 refine wpAny_Call_method_late F hfew hline rfl (bc (ho pins s σ H _ I h) fun v s1 ⟨x,H1,S,O,ty,Z⟩=>?_)
 obtain⟨h1,h2⟩:=Dz S O ty
 refine⟨T,id,Y,slot,J,h1,h2,?_⟩
 have W:=ha cpos pins s1 σ H1 _ S Z;rw[hs]at W ⊢
 refine zbR (by show (false||(backTo cpos (starEach es X.env)).any (·.1))=false; rw[hplain] <;> rfl) (zbC ?_)
 exact bc W fun us s2 ⟨vs,H2,I2,r2,q2⟩=>hm pins s2 σ H2 x vs v us Q I2 O r2 q2
/- xs.append(e), list.index on a module's tuple .. are GI facts of 06m -/
end
def F4(X:Cx)(id:String)(r:V→List V→Hp→VK→Prop):Prop:=
 ∀ (pins:List (Addr × Obj)) (s:Shared) (σ : St) (H:Hp) (x:V) (xs:List V) (v:Value) (us:List Value) (Q:VK),Inv X pins σ H s→RelV x v→wh xs us→r x xs H Q→
  wpAny (model X.prog X.w) X.A (call (.builtin id) (v::us)) (EP X pins σ Q) X.xe s
theorem wh.one:∀ {x:V} {us:List Value},wh [x] us→∃ u,us=[u]∧RelV x u
 | _,_,.cons r .nil=>⟨_,rfl,r⟩
theorem wh.rep{xs:List V}{us:List Value}(h:wh xs us):∀ k:Nat,wh (List.replicate k xs).flatten (List.replicate k us).flatten
 | 0=>.nil
 | k+1=>by
  rw[HF,HF,zbD,zbD];exact wh.append h (wh.rep h k)
theorem pU(F:List Value):∀ (k:Nat) (acc:List Value),
  List.foldl (fun S O=>S++O) acc.toArray (List.replicate k F.toArray)=(acc++(List.replicate k F).flatten).toArray
 | 0,acc=>by simp
 | k+1,acc=>by
  have e:acc.toArray++F.toArray=(acc++F).toArray:=by simp
  have J:(acc++F)++(List.replicate k F).flatten=acc++(List.replicate (k+1) F).flatten:=by
   rw[HF,zbD,GC]
  rw[← J,← pU F k (acc++F),← e,HF,zaY]
section
variable{X:Cx}{pins:List (Addr × Obj)}{σ : St}{H:Hp}{s:Shared}{l b:Addr}{xs ys zs:List V}
theorem Inv.lset{F its':List Value}{n:Nat}{f:Array Value→Array Value}{t':Nat}(I:Inv X pins σ H s)(J:H l=some (.lst xs))
  (e:s.heap.get? l=some { cls:=.type "list", data:=.seq F.toArray n }) (hf:f F.toArray=its'.toArray) (hv:wh ys its') (hz:ys.length≤sizeLine) :
  Inv X pins σ (upd H l (.lst ys)) { s with heap:=s.heap.update l (Obj.mapSeq f),toks:=t' }:=by
 have q:=IsL.update e f;rw[hf]at q
 refine I.write (x:=l) (e:=l) (by rw[J]; exact trivial) (.inl rfl) (fun W u S O=>(Ha s.heap (Obj.mapSeq f) (zB S)).trans O) ⟨_,q⟩ ?_
 exact⟨hz,its',_,hv,q⟩
theorem Inv.lnew{F:List Value}{t':Nat}(I:Inv X pins σ H s)(hv:wh ys F)(hz:ys.length≤sizeLine) :
  Inv X pins σ (upd H s.heap.objs.size (.lst ys)) { s with heap:=s.heap.push { cls:=.type "list", data:=.seq F.toArray },toks:=t' }:=
 I.laid (fun _ _ q=>zD _ q) (zg _) ⟨hz,F,0,hv,wd _ rfl⟩
theorem Inv.fresh(I:Inv X pins σ H s):H s.heap.objs.size=none:=I.hok.fresh (zg _)
theorem Inv.lstM(I:Inv X pins σ H s)(J:H l=some (.lst xs)):xs.length≤sizeLine∧∃ (F:List Value) (n:Nat),wh xs F∧xs.length=F.length∧s.heap.get? l=some { cls:=.type "list", data:=.seq F.toArray n }:=by
 obtain⟨z,F,n,r,e⟩:=I.hok l _ J
 exact⟨z,F,n,r,r.length,e⟩
theorem sO{n:Nat}(h:n≤sizeLine):Builtin.List.listTooLong n=false:=by
 unfold Builtin.List.listTooLong;exact decide_eq_false (by omega)
end
section
variable{X:Cx}
def l3:V→List V→Hp→VK→Prop:=fun x vs H Q=>∃ l xs y,x = .ref l∧vs=[y]∧H l=some (.lst xs)∧xs.length<sizeLine∧Q .non (upd H l (.lst (xs++[y])))
theorem ll:F4 X "list.append" l3:=by
 intro pins s σ H x Z v us Q I W Y h
 obtain⟨l,xs,y,rfl,rfl,O,hz,q⟩:=h
 cases W;obtain⟨u,rfl,S⟩:=Y.one
 obtain⟨z,J,n,r,hl,e⟩:=I.lstM O
 refine call_meets F.slot_list_append ⟨_,e,rfl⟩ F.entry_list_append (F.args_list_append_2 _ _) (PySem.list_append l J.toArray n u (by rw[vx]; omega)) ⟨e,?_⟩
 refine⟨.non,_,I.lset (its':=J++[u]) O e (by simp) (r.append (.cons S .nil)) ?_,rfl,q⟩
 rw[zV,Hq];omega
def pc:V→List V→Hp→VK→Prop:=fun x vs H Q=>∃ l b xs zs,x = .ref l∧vs=[.ref b]∧H l=some (.lst xs)∧H b=some (.lst zs)∧xs.length+zs.length≤sizeLine∧Q .non (upd H l (.lst (xs++zs)))
theorem yI:F4 X "list.extend" pc:=by
 intro pins s σ H x vs v us Q I rx rv h
 obtain⟨l,b,xs,zs,rfl,rfl,W,hB,hz,q⟩:=h
 cases rx;obtain⟨u,rfl,Z⟩:=rv.one
 cases Z;obtain⟨z,O,n,r,hl,e⟩:=I.lstM W
 obtain⟨z2,J,n2,r2,aa,Y⟩:=I.lstM hB
 have hsz:O.toArray.size+J.toArray.size≤sizeLine:=by rw[vx,vx]; omega
 have S:¬ (!O.toArray.isEmpty&&Builtin.List.listTooLong (O.toArray.size+J.toArray.size))=true:=by
  rw[sO hsz,Bool.and_false];exact vn
 refine call_meets F.slot_list_extend ⟨_,e,rfl⟩ F.entry_list_extend (F.args_list_extend_2 _ _)
  (AutoSeq1.list_extend_list_list_0 l O.toArray n b J.toArray n2 S (by rw[vx]; omega) (by omega)) ⟨e,Y,?_⟩
 refine⟨.non,_,I.lset (its':=O++J) W e (by simp) (r.append r2) ?_,rfl,q⟩
 rw[zV];omega
def Iv:R2:=fun x y H Q=>∃ l b xs zs,x = .ref l∧y = .ref b∧H l=some (.lst xs)∧H b=some (.lst zs)∧xs.length+zs.length≤sizeLine∧∀ p,H p=none→Q (.ref p) (upd H p (.lst (xs++zs)))
theorem CK:D0 X (binaryOp .Add) Iv:=by
 intro pins s σ H x y v u Q I Z Y h
 obtain⟨l,b,xs,zs,rfl,rfl,W,hB,hz,q⟩:=h
 cases Z
 cases Y;obtain⟨z,J,n,r,hl,e⟩:=I.lstM W
 obtain⟨z2,F,n2,r2,aa,O⟩:=I.lstM hB
 refine P.add_list e O ?_ (by rw[vx,vx]; omega)
 have S:J.toArray++F.toArray=(J++F).toArray:=by simp
 rw[S];exact⟨.ref _,_,I.lnew (t':=s.toks) (r.append r2) (by rw[zV]; omega),rfl,q _ I.fresh⟩
def IN:R2:=fun x y H Q=>∃ l k xs,x = .ref l∧y = .int k∧H l=some (.lst xs)∧-(2 ^ 63)≤k∧k<2 ^ 63∧xs.length * k.toNat≤sizeLine∧
 ∀ p,H p=none→Q (.ref p) (upd H p (.lst (List.replicate k.toNat xs).flatten))
theorem Cs{α : Type}(xs:List α)(k:Nat):(List.replicate k xs).flatten.length=k * xs.length:=by
 induction k with
 | zero=>simp
 | succ k ih=>rw[HF,zbD,zV,ih,Nat.succ_mul,zaZ]
theorem wX:D0 X (binaryOp .Mult) IN:=by
 intro pins s σ H x y v u Q I rx ry h
 obtain⟨l,k,xs,rfl,rfl,hH,h1,h2,hz,q⟩:=h
 cases rx;obtain⟨t,rfl⟩:=ry
 obtain⟨z,J,n,r,hl,e⟩:=I.lstM hH
 have Y:J.toArray.size * k.toNat≤sizeLine:=by rw[vx,← hl]; exact hz
 have S:¬ J.toArray.size * k.toNat>(2 ^ 63 - 1) / 8:=by
  have:(sizeLine:Nat)≤(2 ^ 63 - 1) / 8:=by decide
  omega
 have Z:¬ (!Builtin.List.listFitsIndex k)=true:=by
  rw[fitsIndex_both h1 h2];exact vn
 have O:¬ Builtin.List.listTooLong (J.toArray.size * k.toNat)=true:=by
  rw[sO Y];exact vn
 have W:List.foldl (fun x1 x2=>x1++x2) #[] (List.replicate (if J.toArray.isEmpty=true then 0 else k.toNat) J.toArray)=(List.replicate k.toNat J).flatten.toArray:=by
  have f0:∀ m:Nat,List.foldl (fun x1 x2=>x1++x2) #[] (List.replicate m J.toArray)=(List.replicate m J).flatten.toArray:=fun m=>by
   have:=pU J m []
   rw[Hn]at this
   exact this
  rw[f0]
  cases J with
  | nil=>simp
  | cons a r'=>rw[HP (by simp)]
 refine wpAny_binaryOp_repeat_ref (T := "list") (U := "int") (by decide) ⟨_,e,rfl⟩ (fun s'=>typeIs_int s' k t) noFill_list_mul F.fills_int_mul F.slot_int_rmul repeat_list F.slot_int_index.lookup
  (call_meets F.slot_int_rmul (typeIs_int s k t) F.entry_int_rmul (F.args_int_rmul_2 _ _) (int___rmul___int_list k t l J.toArray n)
   ⟨e,rfl,⟨_,e,rfl⟩,call_meets F.slot_list_mul ⟨_,e,rfl⟩ F.entry_list_mul (F.args_list_mul_2 _ _) (AutoListH.list___mul___list_int_3 l J.toArray n k t Z S O) ⟨e,?_⟩⟩)
 rw[W];exact⟨.ref _,_,I.lnew (t':=s.toks) (r.rep k.toNat) (by rw[Cs,Nat.mul_comm]; exact hz),rfl,q _ I.fresh⟩
end
section
variable{κ : Type}[DecidableEq κ]
def aN(kvs:List (κ × V))(k:κ):Option V:=(kvs.find? fun kv=>decide (kv.1=k)).map (·.2)
def dz(kvs:List (κ × V))(k:κ)(v:V):List (κ × V):=
 if (kvs.any fun kv=>decide (kv.1=k))=true then kvs.map (fun kv=>if kv.1=k then (kv.1,v) else kv) else kvs++[(k,v)]
theorem c6{p:κ × V}{r:List (κ × V)}{k:κ}(e:p.1=k):aN (p::r) k=some p.2:=by simp[aN,za0,e]
theorem c_{p:κ × V}{r:List (κ × V)}{k:κ}(e:¬ p.1=k):aN (p::r) k=aN r k:=by simp[aN,za0,e]
theorem kO(k:κ):∀ kvs:List (κ × V),(kvs.any fun F=>decide (F.1=k))=(aN kvs k).isSome
 | []=>rfl
 | p::r=>by
  rw[zaX]
  by_cases e:p.1=k
  ·simp only[c6 e,decide_eq_true e,Bool.true_or,Option.isSome_some]
  ·rw[c_ e,decide_eq_false e,Bool.false_or]; exact kO k r
theorem qX(k j:κ)(y:V):∀ kvs:List (κ × V),aN (kvs.map fun F=>if F.1=k then (F.1,y) else F) j=(aN kvs j).map fun x=>if j=k then y else x
 | []=>rfl
 | p::r=>by
  have ih:=qX k j y r;rw[xq]
  by_cases h:p.1=k
  ·rw[HS h]
   by_cases e:p.1=j
   ·rw[c6 (p:=(p.1,y)) e,c6 e,Option.map_some,HS (e.symm.trans h)]
   ·rw[c_ (p:=(p.1,y)) e,c_ e,ih]
  ·rw[HP h]
   by_cases e:p.1=j
   ·rw[c6 (p:=p) e,c6 e,Option.map_some,HP (fun z=>h (e.trans z))]
   ·rw[c_ (p:=p) e,c_ e,ih]
theorem fW(k j:κ)(y:V):∀ kvs:List (κ × V),aN kvs k=none→aN (kvs++[(k,y)]) j=if j=k then some y else aN kvs j
 | [],_=>by
  by_cases e:k=j
  ·rw[HS e.symm]; exact c6 (p:=(k,y)) e
  ·rw[HP (fun z=>e z.symm)]; exact c_ (p:=(k,y)) e
 | p::r,hn=>by
  rw[za1];have F:¬ p.1=k:=fun z=>by rw[c6 z]at hn; cases hn
  rw[c_ F]at hn
  have ih:=fW k j y r hn
  by_cases e:p.1=j
  ·rw[c6 e,c6 e,HP (fun z=>F (e.trans z))]
  ·rw[c_ e,c_ e,ih]
theorem ik(kvs:List (κ × V))(k j:κ)(y:V):aN (dz kvs k y) j=if j=k then some y else aN kvs j:=by
 unfold dz
 by_cases a:(kvs.any fun F=>decide (F.1=k))=true
 ·rw[HS a,qX]
  rw[kO]at a
  by_cases e:j=k
  ·obtain⟨x,hx⟩:=Ii.mp a
   rw[HS e,e,hx,Option.map_some,HS rfl]
  ·rw[HP e]
   cases aN kvs j with
   | none=>rfl
   | some x=>rw[Option.map_some,HP e]
 ·rw[HP a]
  refine fW k j y kvs ?_
  rw[kO]at a
  cases q:aN kvs k with
  | none=>rfl
  | some x=>rw[q]at a; exact(a rfl).elim
theorem dQ(kvs:List (κ × V))(k:κ)(v:V):(dz kvs k v).length≤kvs.length+1:=by
 unfold dz;split
 ·rw[zc]; omega
 ·rw[zV,vR,He]; omega
theorem EU.isSome_eq{o:Option V}{u:Option Value}(r:EU o u):o.isSome=u.isSome:=by
 cases o with
 | none=>cases u with
  | none=>rfl
  | some _=>exact(show False from r).elim
 | some _=>cases u with
  | none=>exact(show False from r).elim
  | some _=>rfl
theorem EU.getD{o:Option V}{u:Option Value}{d:V}{d':Value}(r:EU o u)(F:RelV d d'):RelV (o.getD d) (u.getD d'):=by
 cases o with
 | none=>cases u with
  | none=>exact F
  | some _=>exact(show False from r).elim
 | some _=>cases u with
  | none=>exact(show False from r).elim
  | some _=>exact r
theorem KV.val{kvs:List (κ × V)}{J:List (κ × Value)}(r:KV kvs J)(k:κ):EU (aN kvs k) (valueAt J k):=by
 unfold KV at r
 induction r with
 | nil=>exact True.intro
 | @cons p q ps qs h t ih=>
  obtain⟨h1,h2⟩:=h
  by_cases e:p.1=k
  ·have F:q.1=k:=h1.symm.trans e
   have b:valueAt (q::qs) k=some q.2:=by simp[valueAt,za0,F]
   rw[c6 e,b]; exact h2
  ·have F:¬ q.1=k:=fun z=>e (h1.trans z)
   have b:valueAt (q::qs) k=valueAt qs k:=by simp[valueAt,za0,F]
   rw[c_ e,b]; exact ih
theorem KV.any{kvs:List (κ × V)}{J:List (κ × Value)}(r:KV kvs J)(k:κ):(kvs.any fun F=>decide (F.1=k))=J.any fun F=>decide (F.1=k):=by
 unfold KV at r
 induction r with
 | nil=>rfl
 | cons h t ih=>rw[zaX,zaX,ih,h.1]
theorem KV.repl{kvs:List (κ × V)}{J:List (κ × Value)}(r:KV kvs J)(k:κ){y:V}{u:Value}(O:RelV y u) :
  KV (kvs.map fun F=>if F.1=k then (F.1,y) else F) (J.map fun F=>if F.1=k then (F.1,u) else F):=by
 unfold KV at r ⊢
 induction r with
 | nil=>exact .nil
 | @cons p q ps qs h t ih=>
  rw[xq,xq];refine .cons ?_ ih
  obtain⟨h1,h2⟩:=h
  by_cases e:p.1=k
  ·rw[HS e,HS (h1.symm.trans e)]; exact⟨h1,O⟩
  ·rw[HP e,HP (fun z=>e (h1.trans z))]; exact⟨h1,h2⟩
theorem KV.put{kvs:List (κ × V)}{F:List (κ × Value)}(r:KV kvs F)(k:κ){y:V}{u:Value}(J:RelV y u):KV (dz kvs k y) (stored F k u):=by
 unfold dz stored;rw[r.any k]
 by_cases e:(F.any fun O=>decide (O.1=k))=true
 ·rw[HS e,HS e]; exact r.repl k J
 ·rw[HP e,HP e]; exact Paired.snoc r ⟨rfl,J⟩
theorem KV.length{kvs:List (κ × V)}{F:List (κ × Value)}(r:KV kvs F):kvs.length=F.length:=zaV r
end
theorem me{P:Program}{w:World}{k:bM}{u:Value}(r:RelV (kV k) u):(de P w).is k u=true:=by
 cases k with
 | inl i=>obtain⟨t,e⟩:=(show ∃ t,u=Value.int i t from r); subst e; exact tU P w i t
 | inr x=>obtain⟨t,e⟩:=(show ∃ t,u=Value.str x t from r); subst e; exact tG P w x t
theorem qv{P:Program}{w:World}:∀ {ks:List bM} {us:List Value},wh (ks.map kV) us→ItemsAre (de P w) ks us
 | [],_,r=>by rw[GS]at r; cases r; exact .nil
 | k::ks,_,r=>by
  rw[xq]at r
  cases r with
  | cons h t=>exact .cons (me h) (qv t)
abbrev KT (H:Hp):List (List bM × V)→List (List bM × Addr × Value)→Prop:=Paired fun p q=>p.1=q.1∧H q.2.1=some (.tup (p.1.map kV))∧RelV p.2 q.2.2
theorem KT.val{H:Hp}{kvs:List (List bM × V)}{xs:List (List bM × Addr × Value)}(r:KT H kvs xs)(k:List bM):EU (aN kvs k) ((atKey xs k).map (·.2)):=by
 induction r with
 | nil=>exact True.intro
 | @cons p q ps qs h t ih=>
  obtain⟨h1,_,h2⟩:=h
  by_cases e:p.1=k
  ·have F:q.1=k:=h1.symm.trans e
   have b:atKey (q::qs) k=some q.2:=by simp[atKey,za0,F]
   rw[c6 e,b]; exact h2
  ·have F:¬ q.1=k:=fun z=>e (h1.trans z)
   have b:atKey (q::qs) k=atKey qs k:=by simp[atKey,za0,F]
   rw[c_ e,b]; exact ih
theorem KT.repl{H:Hp}{kvs:List (List bM × V)}{xs:List (List bM × Addr × Value)}(r:KT H kvs xs)(k:List bM){y:V}{u:Value}(O:RelV y u) :
  KT H (kvs.map fun F=>if F.1=k then (F.1,y) else F) (xs.map (putAt k u)):=by
 induction r with
 | nil=>exact .nil
 | @cons p q ps qs h t ih=>
  rw[xq,xq];refine .cons ?_ ih
  obtain⟨h1,h2,J⟩:=h
  unfold putAt
  by_cases e:p.1=k
  ·rw[HS e,HS (h1.symm.trans e)]; exact⟨h1,h2,O⟩
  ·rw[HP e,HP (fun z=>e (h1.trans z))]; exact⟨h1,h2,J⟩
theorem KT.put{H:Hp}{kvs:List (List bM × V)}{xs:List (List bM × Addr × Value)}(r:KT H kvs xs)(k:List bM){b:Addr}{y:V}{u:Value}(O:H b=some (.tup (k.map kV)))(F:RelV y u) :
  KT H (dz kvs k y) (storedH xs k b u):=by
 have e:(kvs.any fun J=>decide (J.1=k))=(atKey xs k).isSome:=by
  rw[kO,(r.val k).isSome_eq,zbh]
 unfold dz storedH;rw[e]
 by_cases q:(atKey xs k).isSome=true
 ·rw[HS q,HS q]; exact r.repl k F
 ·rw[HP q,HP q]; exact Paired.snoc r ⟨rfl,O,F⟩
theorem KT.keeps{H H':Hp}{kvs:List (List bM × V)}{xs:List (List bM × Addr × Value)}(r:KT H kvs xs)(F:∀ b ys,H b=some (.tup ys)→H' b=some (.tup ys)):KT H' kvs xs:=
 Paired.mapP r fun _ _ z=>⟨z.1,F _ _ z.2.1,z.2.2⟩
section
variable{P:Program}{w:World}{H:Hp}{h:Heap}{a:Addr}
theorem Bt{u:HO}(ok:EM P w H h)(e:Rd H a u):Ax P w H h a u:=e.ok ok
theorem qK{kvs:List (bM × V)}(ok:EM P w H h)(e:Rd H a (.dK kvs)):kvs.length≤sizeLine∧(a == sysModules)=false∧∃ vs,KV kvs vs∧h.DictOf (de P w) a vs:=
 show Ax P w H h a (.dK kvs) from Bt ok e
theorem Bf{kvs:List (bM × V)}(ok:EM P w H h)(e:H a=some (.dK kvs)):kvs.length≤sizeLine∧(a == sysModules)=false∧∃ vs,KV kvs vs∧h.DictOf (de P w) a vs:=qK ok (.inl e)
theorem nF{ks:List bM}(ok:EM P w H h)(e:H a=some (.tup (ks.map kV))):(tupleKind (de P w)).is h ks a:=by
 obtain⟨_,F,r,o,h1,h2,_,n,J⟩:=(show Ax P w H h a (.tup (ks.map kV)) from ok a _ e)
 exact⟨o,F.toArray,n,h1,h2,J,by simpa using qv r⟩
theorem v5{kvs:List (List bM × V)}(ok:EM P w H h)(e:Rd H a (.dT kvs)):kvs.length≤sizeLine∧(a == sysModules)=false∧
  ∃ xs,KT H kvs xs∧h.DictOfH (tupleKind (de P w)) a xs:=by
 obtain⟨z,y,xs,r,o,es,F,h1,h2,O,S,J⟩:=(show Ax P w H h a (.dT kvs) from Bt ok e)
 refine⟨z,y,xs,r,o,es,F,h1,h2,O,S,fun x hx=>?_,J⟩
 have all:∀ {l:List (List bM × V)} {m:List (List bM × Addr × Value)},KT H l m→∀ x∈m,(tupleKind (de P w)).is h x.1 x.2.1:=by
  intro l m q
  induction q with
  | nil=>intro x hx; exact nomatch hx
  | @cons p q ps qs hq t ih=>
   intro x hx
   rcases HW.mp hx with e | hx
   ·subst e
    exact nF ok (by rw[← hq.1]; exact hq.2.1)
   ·exact ih x hx
 exact all r x hx
theorem Fy{kvs:List (List bM × V)}(ok:EM P w H h)(e:H a=some (.dT kvs)):kvs.length≤sizeLine∧(a == sysModules)=false∧
  ∃ xs,KT H kvs xs∧h.DictOfH (tupleKind (de P w)) a xs:=v5 ok (.inl e)
end
def Gr(H:Hp)(a:Addr)(y:V)(r:Option V):Prop:=
 (∃ kvs k,Rd H a (.dK kvs)∧y=kV k∧r=aN kvs k)∨∃ kvs k b,Rd H a (.dT kvs)∧y = .ref b∧H b=some (.tup (k.map kV))∧r=aN kvs k
def GY(H:Hp)(a:Addr)(y v:V)(H':Hp):Prop:=
 (∃ kvs k,H a=some (.dK kvs)∧y=kV k∧kvs.length<sizeLine∧H'=upd H a (.dK (dz kvs k v)))∨
 ∃ kvs k b,H a=some (.dT kvs)∧y = .ref b∧H b=some (.tup (k.map kV))∧kvs.length<sizeLine∧H'=upd H a (.dT (dz kvs k v))
theorem Gr.k{H:Hp}{a:Addr}{kvs:List (bM × V)}{k:bM}(e:H a=some (.dK kvs)):Gr H a (kV k) (aN kvs k):=.inl ⟨kvs,k,.inl e,rfl,rfl⟩
theorem GY.k{H:Hp}{a:Addr}{kvs:List (bM × V)}{k:bM}{v:V}(e:H a=some (.dK kvs))(hl:kvs.length<sizeLine):GY H a (kV k) v (upd H a (.dK (dz kvs k v))):=.inl ⟨kvs,k,e,rfl,hl,rfl⟩
section
variable{X:Cx}{pins:List (Addr × Obj)}{σ : St}{H:Hp}{s:Shared}{a:Addr}{y v:V}{u r:Value}{o:Option V}{A:Around}{E:Value→Shared→Prop}
theorem Inv.big(I:Inv X pins σ H s):sysModules<s.heap.objs.size:=by
 have h:mainGlobals<s.heap.objs.size:=(I.mod.glob.keeps I.bk).lt
 exact GH (by decide) h
theorem IZ{Q:Value→Shared→Prop}(W:A.units+1<cLine)(I:Inv X pins σ H s)(g:Gr H a y o)(O:RelV y u)(h:∀ s',Inv X pins σ H s'→Q (.bool o.isSome) s') :
  wpAny (model X.prog X.w) A (compareOp .In u (.ref a)) Q E s:=by
 rcases g with ⟨kvs,k,e,J,l⟩ | ⟨kvs,k,b,e,J,S,l⟩
 ·subst J
  obtain⟨z,hd,Y,F,dd⟩:=qK I.hok e
  refine wpAny_in_of (me O) hd dd.mapOf ?_
  rw[← (F.val k).isSome_eq,← l];exact h _ (I.tok _)
 ·subst J
  cases (show u=Value.ref b from O)
  obtain⟨z,hd,xs,F,dd⟩:=v5 I.hok e
  refine wpAny_in_heap (tupleKind_room_in1 W) (nF I.hok S) hd dd ?_
  have q:=(F.val k).isSome_eq;rw[zbh]at q
  rw[← q,← l];exact h _ (I.tok _)
theorem Bv{Q:Value→Shared→Prop}(W:A.units+1<cLine)(I:Inv X pins σ H s)(g:Gr H a y o)(O:RelV y u)(h:∀ s',Inv X pins σ H s'→Q (.bool (!o.isSome)) s') :
  wpAny (model X.prog X.w) A (compareOp .NotIn u (.ref a)) Q E s:=by
 rcases g with ⟨kvs,k,e,J,l⟩ | ⟨kvs,k,b,e,J,S,l⟩
 ·subst J
  obtain⟨z,hd,Y,F,dd⟩:=qK I.hok e
  refine wpAny_notIn_of (me O) hd dd.mapOf ?_
  rw[← (F.val k).isSome_eq,← l];exact h _ (I.tok _)
 ·subst J
  cases (show u=Value.ref b from O)
  obtain⟨z,hd,xs,F,dd⟩:=v5 I.hok e
  refine wpAny_notIn_heap (tupleKind_room_in1 W) (nF I.hok S) hd dd ?_
  have q:=(F.val k).isSome_eq;rw[zbh]at q
  rw[← q,← l];exact h _ (I.tok _)
theorem g_{h':Heap}{t':Nat}{ob:HO}(I:Inv X pins σ H s)(S:xH (H a))(F:Heap.SameBut a s.heap h')(J:∃ q,h'.get? a=some q)(new:Ax X.prog X.w (upd H a ob) h' a ob) :
  Inv X pins σ (upd H a ob) { s with heap:=h',toks:=t' }:=
 I.write (x:=a) (e:=a) S (.inl rfl) (fun b q O z=>(F.2 b O).trans z) J new
theorem yD{P:Program}{w:World}{H':Hp}{h':Heap}{kvs:List (bM × V)}{F:List (bM × Value)}(z:kvs.length≤sizeLine)(hd:(a == sysModules)=false)(J:KV kvs F)(dd:h'.DictOf (de P w) a F) :
  Ax P w H' h' a (.dK kvs):=⟨z,hd,F,J,dd⟩
theorem xF{H':Hp}{Q:Unit→Shared→Prop}(hu:A.units+1<cLine)(I:Inv X pins σ H s)(g:GY H a y v H')(ry:RelV y u)(rv:RelV v r)(h:∀ s',Inv X pins σ H' s'→Q () s') :
  wpAny (model X.prog X.w) A (setItem (.ref a) u r) Q E s:=by
 rcases g with ⟨kvs,k,e,Y,l,W⟩ | ⟨kvs,k,b,e,Y,eb,l,W⟩
 ·subst Y W
  obtain⟨z,hd,vs,F,dd⟩:=Bf I.hok e
  have hz:vs.length≤sizeLine:=by rw[← F.length]; exact z
  have hl:(dz kvs k v).length≤sizeLine:=by have:=dQ kvs k v; omega
  refine wpAny_setItem_pairs (hsz:=hz) (me ry) dd fun h' J S=>h _ ?_
  have he:∃ q,h'.get? a=some q:=let ⟨q,_,_,O,_⟩:=J; ⟨q,O⟩
  exact g_ I (by rw[e]; exact True.intro) S he (yD hl hd (F.put k rv) J)
 ·subst Y W
  cases (show u=Value.ref b from ry)
  obtain⟨z,hd,xs,F,dd⟩:=Fy I.hok e
  have hz:xs.length≤sizeLine:=by rw[← zaV F]; exact z
  have hl:(dz kvs k v).length≤sizeLine:=by have:=dQ kvs k v; omega
  refine wpAny_setItem_heap (hsz:=hz) (tupleKind_room_in1 hu) (nF I.hok eb) dd fun h' J S=>h _ ?_
  obtain⟨q,es,ep,O,h2,h3,h4,_,h5⟩:=J
  refine g_ I (by rw[e]; exact True.intro) S ⟨q,O⟩ ⟨hl,hd,_,(F.put k eb rv).keeps fun c ys Z=>?_,q,es,ep,O,h2,h3,h4,h5⟩
  rw[al (iY Z e (fun z=>nomatch z))]
  exact Z
end
theorem qU{P:Program}{w:World}{H:Hp}(h:Heap)(F:sysModules<h.objs.size):Ax P w H (h.push { cls:=.type "dict", data:=.dict #[] }) h.objs.size (.dK []):=
 ⟨yT _,beq_eq_false_iff_ne.mpr (zB (zM F)),[],.nil,Heap.DictOf.new h⟩
def CZ:TE:=fun _ H Q=>∀ p,H p=none→Q (.ref p) (upd H p (.dK []))
section
variable{X:Cx}{pos:Pos}
theorem rN:PE X (.Dict [] [] pos) CZ:=fun pins s σ H Q I h=>
 wpAny_Dict_empty ⟨.ref s.heap.objs.size,_,I.laid (a:=s.heap.objs.size) (o:=.dK []) (t':=s.toks) (fun _ _ q=>zD _ q) (zg _) (qU s.heap I.big),rfl,h _ (I.hok.fresh (zg _))⟩
end
def jI:List (TE × TE)→St→Hp→(List (V × V)→Hp→Prop)→Prop
 | [],_,H,Q=>Q [] H
 | (tk,tv)::r,σ,H,Q=>tk σ H fun x H1=>tv σ H1 fun y H2=>jI r σ H2 fun ps H3=>Q ((x,y)::ps) H3
abbrev VV:List (V × V)→List (Value × Value)→Prop:=Paired fun p q=>RelV p.1 q.1∧RelV p.2 q.2
def PPs(X:Cx)(pos:Pos)(keys:List (Option Expr))(values:List Expr)(trs:List (TE × TE)):Prop:=
 ∀ (pins:List (Addr × Obj)) (s:Shared) (σ : St) (H:Hp) (Q:List (V × V)→Hp→Prop),Inv X pins σ H s→jI trs σ H Q→
  wpAny (model X.prog X.w) X.A (evalPairs (pairTrees keys values X.env pos)) (fun vs s'=>∃ ps H',Inv X pins σ H' s'∧VV ps vs∧Q ps H') X.xe s
theorem BD{X:Cx}{pos:Pos}:PPs X pos [] [] []:=fun pins s σ H Q I h=>pairTrees_nil_walk ⟨[],H,I,.nil,h⟩
theorem zQ{X:Cx}{pos:Pos}{k v:Expr}{ks:List (Option Expr)}{S:List Expr}{W O:TE}{F:List (TE × TE)}(Z:PE X k W)(hv:PE X v O)(hr:PPs X pos ks S F) :
  PPs X pos (some k::ks) (v::S) ((W,O)::F):=fun pins s σ H Q I h=>
 pairTrees_cons_walk (bc (Z pins s σ H _ I h) fun u s1 ⟨x,H1,I1,rx,Y⟩=>bc (hv pins s1 σ H1 _ I1 Y) fun w2 s2 ⟨y,H2,I2,ry,q2⟩=>
  bc (hr pins s2 σ H2 _ I2 q2) fun ws s3 ⟨ps,H3,I3,J,q3⟩=>⟨(x,y)::ps,H3,I3,.cons ⟨rx,ry⟩ J,q3⟩)
def km(kvs more:List (bM × V)):List (bM × V):=more.foldl (fun acc kv=>dz acc kv.1 kv.2) kvs
theorem KV.merge:∀ {F:List (bM × V)} {rs:List (bM × Value)} {kvs:List (bM × V)} {J:List (bM × Value)},KV F rs→KV kvs J→KV (km kvs F) (merged J rs):=by
 intro F rs kvs J r
 unfold KV at r
 induction r generalizing kvs J with
 | nil=>intro q; exact q
 | @cons p q ps qs h t ih=>
  intro O
  have e:KV (dz kvs p.1 p.2) (stored J q.1 q.2):=by
   have:=O.put p.1 h.2
   rw[← h.1]; exact this
  exact ih e
theorem kZ:∀ (F kvs:List (bM × V)),(km kvs F).length≤kvs.length+F.length
 | [],kvs=>by show kvs.length≤kvs.length+0; omega
 | p::r,kvs=>by
  have h1:=kZ r (dz kvs p.1 p.2);have h2:=dQ kvs p.1 p.2;show (km (dz kvs p.1 p.2) r).length≤_
  rw[vR]; omega
theorem nX{P:Program}{w:World}:∀ {kvs:List (bM × V)} {ws:List (Value × Value)},VV (kvs.map fun F=>(kV F.1,F.2)) ws→∃ rs,Carries (de P w) ws rs∧KV kvs rs
 | [],_,r=>by rw[GS]at r; cases r; exact⟨[],True.intro,.nil⟩
 | p::kvs,_,r=>by
  rw[xq]at r
  cases r with
  | @cons a b as bs h t=>
   obtain⟨rs,c,q⟩:=nX (P:=P) (w:=w) t
   obtain⟨O,J⟩:=b
   exact⟨(p.1,J)::rs,⟨me h.1,rfl,c⟩,.cons ⟨rfl,h.2⟩ q⟩
def Bd(trs:List (TE × TE)):TE:=fun σ H Q=>∀ p,H p=none→jI trs σ (upd H p (.dK [])) fun ps H2=>H2 p=some (.dK [])∧∃ kvs:List (bM × V),ps=kvs.map (fun kv=>(kV kv.1,kv.2))∧kvs.length≤15∧Q (.ref p) (upd H2 p (.dK (km [] kvs)))
theorem B1{X:Cx}{pos:Pos}{F:List (Option Expr)}{J:List Expr}{O:List (TE × TE)}(h:PPs X pos F J O)(W:F.all (·.isSome)=true)(hl:F.length=J.length)(h0:F≠[])
  (Z:F.length≤15):PE X (.Dict F J pos) (Bd O):=by
 intro pins s σ H Q I q
 have hn:=I.hok.fresh (zg s.heap.objs.size);have I1:=I.laid (a:=s.heap.objs.size) (o:=.dK []) (h':=s.heap.push { cls:=.type "dict", data:=.dict #[] }) (t':=s.toks) (fun _ _ q=>zD _ q) (zg _) (qU s.heap I.big)
 refine wpAny_Dict_walk (knd:=de X.prog X.w) W hl h0 Z (bc (h pins _ σ _ _ I1 (q _ hn)) fun ws s2 ⟨ps,H2,I2,Y,e,kvs,ep,lk,q2⟩=>?_)
 subst ep;obtain⟨rs,c,rk⟩:=nX (P:=X.prog) (w:=X.w) Y
 obtain⟨z,hd,aa,r0,dd⟩:=Bf I2.hok e
 cases r0;refine⟨rs,c,dd,fun h' S hs=>⟨.ref s.heap.objs.size,_,?_,rfl,q2⟩⟩
 have hz:(km [] kvs).length≤sizeLine:=by
  have h1:=kZ kvs [];rw[He]at h1
  rw[sizeLine_eq]; omega
 have he:∃ q,h'.get? s.heap.objs.size=some q:=let ⟨q,_,_,hq,_⟩:=S; ⟨q,hq⟩
 exact g_ I2 (by rw[e]; exact True.intro) hs he (yD hz hd (rk.merge .nil) S)
structure M1 (X:Cx) (o:Expr) (m:Str) (apos:Pos) (e:Expr) (cpos:Pos):Prop where
 base:attributeBase o m X.env (eval o X.env)=eval o X.env
 few:((backTo cpos (starEach [e] X.env)).all (fun x=>!x.1)&&(backToKw cpos (keywordEach [] X.env)).all (fun x=>x.1.isSome)
  && decide (([e]:List Expr).length+([]:List Keyword).length+(if ([]:List Keyword).isEmpty then 0 else 1)<30))=true
 line:(apos.endLine == cpos.line)=true
 trees:backTo cpos (starEach [e] X.env)=[(false,eval e X.env)]
structure M2 (X:Cx) (o:Expr) (m:Str) (apos:Pos) (e f:Expr) (cpos:Pos):Prop where
 base:attributeBase o m X.env (eval o X.env)=eval o X.env
 few:((backTo cpos (starEach [e,f] X.env)).all (fun x=>!x.1)&&(backToKw cpos (keywordEach [] X.env)).all (fun x=>x.1.isSome)
  && decide (([e,f]:List Expr).length+([]:List Keyword).length+(if ([]:List Keyword).isEmpty then 0 else 1)<30))=true
 line:(apos.endLine == cpos.line)=true
 trees:backTo cpos (starEach [e,f] X.env)=[(false,eval e X.env),(false,eval f X.env)]
end L2
namespace Att
open PySem PySem.W PySem.Calls PyProof.Rows
theorem nK{P:Params}{h:Heap}:∀ (ns:List Int) (F:List Value),WellAll P h F (ns.map WData.int)→IntsAre F ns:=by
 intro ns
 induction ns with
 | nil=>
  intro F w
  rw[List.map_nil]at w
  cases w;exact .nil
 | cons n ns ih=>
  intro F w
  rw[List.map_cons]at w
  cases w with
  | cons a b=>
   cases a;exact .cons _ _ (ih _ b)
theorem xD{l:OpenLaw}{n:Nat}(hn:l.most=some n){P:Params}{h:Heap}{args:List WData}{F:List Value}
  (J:l.row.toRowW.claim.pre args=true) (Y:WellAll P h F args) :
  ∃ a vs ns,F=[Value.ref a]∧args=[WData.list (ns.map WData.int)]∧h.get? a=some { cls:=.type "list", data:=.seq vs.toArray }∧IntsAre vs ns∧ns.length≤n:=by
 have Z:WShape.hasAll [] args [.list .int]=true:=(pre_splitW J).1
 have hc:l.pre.holds [] { args:=args }=true:=(pre_splitW J).2
 obtain⟨d,r,rfl,h1,h2⟩:=hasAllW_cons Z
 obtain rfl:=hasAllW_nil h2
 obtain⟨xs,rfl,h3⟩:=hasW_list h1
 obtain⟨ns,rfl⟩:=items_int h3
 have O:ns.length≤n:=by
  unfold OpenLaw.pre at hc
  have W:(WTm.not (.lt (.lit (.int (n:Int))) (.len (.arg 0)))).holds [] { args:=[.list (ns.map .int)] }=true:=by
   have W:=(holds_andW hc).1;rw[hn]at W
   exact W
  have S:=condW_of W (w_not (w_lt w_lit (w_len_list (w_arg rfl))));rw[List.length_map]at S
  refine Nat.le_of_not_lt fun q=>?_
  have q':(n:Int)<((ns.length:Nat):Int):=by omega
  first
   | (rw[decide_eq_true q']at S; exact absurd S (by decide))
   | (simp at S; omega)
 cases Y with
 | cons w1 w2=>
  cases w2
  cases w1 with
  | list ho hall=>exact⟨_,_,ns,rfl,rfl,ho,nK ns _ hall,O⟩
theorem xg(l:OpenLaw)(args:List WData):l.row.toRowW.claim.post args (.bool true) args=true:=
 postW_of (r:=l.row.toRowW) (X:=(true == true))
  (show WShape.has [] (.bool true) .bool=true by first | rfl | decide | simp[WShape.has,WShape.arms,WShape.armsAll])
  (show (WTm.eq .res (.lit (.bool true))).value [] { args:=args,res:=some (.bool true),after:=args }=some (.bool (true == true)) from w_eq_bool (w_res rfl) w_lit) rfl
theorem attach_call{l:OpenLaw}{n:Nat}{q:Program}{loose:List Str}{XP:(Str→Option Value)→Heap→Prop}{YP:World→Heap→Prop}{d:DefRec}
  (hn:l.most=some n) (a1:d.params.defaults=[])
  (call:∀ (w:World) (s₀ F:Shared) (mg mb:Str→Option Value) (W:Addr) (o:Obj) (pm cd O:Value) (a:Addr) (S:List Value) (ns:List Int),
   Ground q loose [] XP w s₀ mg mb F.heap→YP w F.heap→
   F.heap.get? W=some o→o.data = .func (docDef d.name d.params d.body d.scope pm cd O)→F.heap.CodeRec cd d.name→mg d.name=some (.ref W)→
   F.heap.get? a=some { cls:=.type "list", data:=.seq S.toArray }→IntsAre S ns→ns.length≤n→F.gens = #[]→
   codeAny (model l.prog w) callerA (.call (.ref W) ⟨[.ref a],[]⟩) (fun r s'=>r = .ok (.ret (.bool true))∧OldK F.heap s'.heap∧s'.os=F.os∧AllBare s'.gens) F) :
  WalkO q loose XP YP l.row.toRowW d [] (fun f S=>PySem.call f S):=by
 intro w s₀ F mg mb G Y W o pm cd O dV kV ho hd a0 hD an hg args a2 as aa a3 a4 ag a5
 obtain rfl:dV = .none:=Dflts.none hD a1
 obtain rfl:kV = .none:=Dflts.noKw hD
 obtain⟨a,S,ns,rfl,rfl,ad,J,Z⟩:=xD hn aa ag
 refine enter_call (codeAny_mono (call w s₀ F mg mb W o pm cd O a S ns G Y ho (fd_plain hd) a0 an ad J Z hg) fun r s' hq=>?_)
 obtain⟨rfl,h2,h3,h4⟩:=hq
 exact⟨.inl ⟨.bool true,.bool true,[],rfl,fun _=>rfl,.bool true,xg l _,fun _=>⟨List.Pairwise.nil,fun _ hm=>(nomatch hm)⟩⟩,h2,h3,h4⟩
end Att
namespace L2
open PySem PySem.Spec PyProof.Rows
theorem qm:∀ {F:List Value} {ns:List Int},IntsAre F ns→wh (ns.map V.int) F
 | _,_,.nil=>.nil
 | _,_,.cons n t h=>.cons ⟨t,rfl⟩ (qm h)
def z_(H:Hp):Prop:=∀ b,H b=none∨∃ o xs,H b=some (.frz o (.lst xs))
theorem Al{P:Program}{w:World}{K:W.Frag}{mg mb:Str→Option Value}{CX:kf}{k:Nat}{fa a:Addr}{fd:FuncData}{x:Str}{sp:Sp}{J:Shared}{vs:List Value}{ns:List Int}
  (KX:K.In J.heap) (a0:J.heap.Ns mainGlobals mg) (S:J.heap.Ns builtinsNs mb) (a2:∀ x:Str,x ≠ "__name__" → mb x=bootBuiltins x) (as:J.heap.NoLimit) (hg:J.gens = #[])
  (ha:J.heap.get? a=some { cls:=.type "list", data:=.seq vs.toArray }) (hi:IntsAre vs ns) (hl:ns.length≤sizeLine) (hr:Di k callerA)
  (F:∀ base:Heap,K.In base→base.Ns mainGlobals mg→EV P w K mg base CX k fa fd [x] sp) (hbind:∀ (s:Shared) (u:Value),BindsTo s fd ⟨[u],[]⟩ [(x,u)])
  (hsp:∀ H:Hp,z_ H→rd K H a (ns.map V.int)→sp [.ref a] H (fun v _=>v = .bl true) fun _ _ _=>False)
  (hCX:∀ H e s',CX [] H J (fun _ _ _=>False) e s'→False) :
  codeAny (model P w) callerA (.call (.ref fa) ⟨[.ref a],[]⟩) (fun r s'=>r = .ok (.ret (.bool true))∧OldK J.heap s'.heap∧s'.os=J.os∧AllBare s'.gens) J:=by
 have rv:=qm hi;have aa:=hi.length
 -- from an abstract heap in which nothing but the script may be tracked
 have Z:∀ H:Hp,z_ H→rd K H a (ns.map V.int)→EM P w H J.heap→(∀ b,H b≠none→b=a)→(H a≠none→K.lookup a=none)→
   codeAny (model P w) callerA (.call (.ref fa) ⟨[.ref a],[]⟩) (fun r s'=>r = .ok (.ret (.bool true))∧OldK J.heap s'.heap∧s'.os=J.os∧AllBare s'.gens) J:=by
  intro H hO hS hok hA hK
  have O:∀ {b:Addr} {o:Obj},J.heap.get? b=some o→H b=none→(kr J.heap H).get? b=some o:=fun e n=>zH e n
  have a1:∀ {b:Addr} {o:Obj} {es:Array DictEntry} {ep:Nat},J.heap.get? b=some o→o.data = .dict es ep→H b=none:=fun {b o es ep} e d=>by
   cases q:H b with
   | none=>rfl
   | some u=>
    have e':b=a:=hA b (by rw[q]; simp)
    subst e';rw[ha]at e; cases e
    have d':Data.seq vs.toArray _=Data.dict es ep:=d
    cases d'
  have Y:∀ {b:Addr} {m:Str→Option Value},J.heap.Ns b m→(kr J.heap H).Ns b m:=fun {b m} ⟨o,es,ep,e,d,r⟩=>⟨o,es,ep,O e (a1 e d),d,r⟩
  have ad:K.In (kr J.heap H):=fun b o e=>O (KX b o e) (by
   cases q:H b with
   | none=>rfl
   | some u=>
    have e':b=a:=hA b (by rw[q]; simp)
    subst e';rw[hK (by rw[q]; simp)]at e; cases e)
  have hM:Mod K mg (kr J.heap H):=⟨ad,Y a0,⟨mb,Y S,a2⟩,let ⟨mc,h1,h2⟩:=as; ⟨mc,Y h1,h2⟩⟩
  have e0:u_ P w K mg (kr J.heap H) callerA [] J H:=⟨rfl,hM,fun b o e=>B9 e,Nat.le_of_eq (wJ _ _),trivial,fun b S=>absurd (show b∈([]:List Addr) from S) (by simp),hok,.of_eq hg⟩
  refine codeAny_mono ((F _ ad (Y a0)).run callerA [] J H ⟨[.ref a],[]⟩ [.ref a] [.ref a] _ _ hr e0 (hbind J (.ref a)) (.cons rfl .nil) (hsp H hO hS)) fun r s' h=>?_
  cases r with
  | error e=>exact(hCX H e s' h).elim
  | ok fl=>
   cases fl with
   | next=>exact False.elim h
   | brk=>exact False.elim h
   | cont=>exact False.elim h
   | ret u=>
    obtain⟨v,H',os,bare,un,ag,r',q⟩:=h
    have q':v = .bl true:=q
    subst q';obtain rfl:u=Value.bool true:=r'
    refine⟨rfl,OldK.of_keep fun b o e=>?_,os,bare⟩
    cases q:H b with
    | none=>exact un.keep b o e q (by intro z; exact absurd (show b∈([]:List Addr) from z) (by simp)) (by simp)
    | some u=>
     rcases hO b with z | ⟨ob,xs,z⟩
     ·rw[q]at z; cases z
     ·have z2:=un.frzs b ob _ z
      obtain⟨e1,_⟩:=hok b _ z
      obtain⟨e2,_⟩:=ag b _ z2
      rw[e]at e1; cases e1
      exact e2
 cases hk:K.lookup a with
 | some o=>
  -- the script is one of the module's own objects
  have e:=KX a o hk;rw[ha]at e
  cases e;refine Z (fun _=>none) (fun _=>.inl rfl) (.inr ⟨_,vs.toArray,_,hk,rfl,rfl,rfl,by rw[vx,aa]; exact hl,by simpa using rv⟩) (fun b u z=>by have z':(none:Option HO)=some u:=z; cases z') (fun b z=>absurd rfl z) fun z=>absurd rfl z
 | none=>
  refine Z (fun b=>if b=a then some (.frz { cls:=.type "list", data:=.seq vs.toArray } (.lst (ns.map V.int))) else none) (fun b=>?_) (.inl (.inr ⟨{ cls:=.type "list", data:=.seq vs.toArray },HS rfl⟩)) (fun b u z=>?_) (fun b z=>?_) fun _=>hk
  ·by_cases S:b=a
   ·exact .inr ⟨_,_,HS S⟩
   ·exact .inl (HP S)
  ·by_cases S:b=a
   ·have z':=(HS S).symm.trans z
    cases z';subst S;exact⟨ha,by rw[zc]; exact hl,vs,_,rv,ha⟩
   ·have z':=(HP S).symm.trans z
    cases z'
  ·by_cases S:b=a
   ·exact S
   ·exact absurd (HP S) z
abbrev KOf {K:W.Frag} {h:Heap} (_:K.In h):W.Frag:=K
theorem Gf{l:W.OpenLaw}{n k:Nat}{q:Program}{loose:List Str}{XP:(Str→Option Value)→Heap→Prop}{YP:World→Heap→Prop}{d:DefRec}{K:Params→W.Frag}{CX:World→kf}{sp:World→Sp}{x:Str}
  (hn:l.most=some n) (ad:n≤sizeLine) (an:d.params.defaults=[]) (hr:Di k callerA)
  (hY:∀ (w:World) (h:Heap),YP w h→(K w.params).In h)
  (F:∀ (w:World) (mg:Str→Option Value) (Z:Addr) (h:Heap),(K w.params).In h→h.Ns mainGlobals mg→mg d.name=some (.ref Z)→
   ∃ fd:FuncData,(∀ (s:Shared) (u:Value),BindsTo s fd ⟨[u],[]⟩ [(x,u)])∧
    ∀ base:Heap,(K w.params).In base→base.Ns mainGlobals mg→EV l.prog w (K w.params) mg base (CX w) k Z fd [x] (sp w))
  (ag:∀ (w:World) (H:Hp) (a:Addr) (ns:List Int),ns.length≤n→z_ H→rd (K w.params) H a (ns.map V.int)→sp w [.ref a] H (fun v _=>v = .bl true) fun _ _ _=>False)
  (as:∀ (w:World) (H:Hp) (s:Shared) (e:Value) (s':Shared),CX w [] H s (fun _ _ _=>False) e s'→False) :
  W.WalkO q loose XP YP l.row.toRowW d [] (fun f vs=>PySem.call f vs):=by
 refine Att.attach_call hn an fun w s₀ s₁ mg mb Z o pm cd a1 a vs ns G Y ho hd a0 aa S O J hg=>?_
 have KX:=hY w _ Y;obtain⟨fd,hb,hF⟩:=F w mg Z _ KX G.T.g aa
 exact Al KX G.T.g G.T.b G.T.builtins G.T.nolimit hg S O (vg J ad) hr hF hb (fun H hO hS=>ag w H a ns J hO hS) fun H e s'=>as w H s₁ e s'
end L2
/- THE LAST THEOREM (shape; LID, My.* are yours):
   My.Adr: a structure of the addresses that your layer names (classes,functions); My.Txt K t: a structure (Prop) of the equations over K;
   My.txt_mk:{K} {implicit addresses ..} (e1:nsIn K mainGlobals "law" = some (some (.ref f))) (e2:K.lookup f=some ⟨oc,od,.func (fnOf "law" "law" params body scope dV kV doc pm an cdv ct),sl⟩) (e3:codeIn K cdv "law" = true) .. : ∃ t,My.Txt K t
set_option maxRecDepth 100000 in
set_option maxHeartbeats 0 in
theorem PySem.Challenge.cw_LID_holds : PySem.Challenge.rw_LID.Holds := by
 w_on; o_law; k_head; (case hw=>w_witness2)
 k_fill
 refine L2.Gf (l:=PySem.Challenge.rw_LID) (n:=63) (k:=40) (x := "script") (CX:=fun w=>..) (sp:=fun _=>My.sp_law) rfl (by decide) rfl ⟨rfl,by decide,by decide⟩ (fun w h Y=>PySem.W.kIn_of Y) ?F ?S ?C
 case F=>
  intro w mg fa h KX G hmg
  have T:∃ t,My.Txt (L2.KOf KX) t:=by
   dsimp only[L2.KOf]                          -- K must stand as «<heap const> w.params» for k_is
   refine' My.txt_mk ?e1 ?e2 ?e3 ..
   (case e1=>PySem.W.k_is)                    -- in the order: a name -> its address -> its object -> its parts
   (case e2=>PySem.W.k_is)
   ..
  obtain⟨t,T⟩:=T
  have e0:=hmg.symm.trans (PySem.W.mg_of KX G T.law)
  cases e0                                       -- fa is the law's own address
  exact⟨_,fun s u=>.of_eq rfl,fun base kb nb=>My.law_fn T kb nb⟩     -- if «.of_eq rfl» comes too early: refine' ⟨_,?b,fun base kb nb=>My.law_fn T kb nb⟩; exact fun s u=>.of_eq rfl
 case S=>exact fun w H a ns hl hO hS=>..
 case C=>exact ..
(the tactic k_is has no namespace: write k_is) -/
namespace L2
open PySem PySem.Spec PyProof.Rows
abbrev mI:kf:=fun _ _ _ _ _ _=>False
abbrev E0:XK:=fun _ _ _=>False
theorem Bs{X:Cx}:nI mI X E0:=fun _ _ _ _ _ _ _ h=>h.elim
structure HB (K:W.Frag) (x qual:Str) (st:Stmt) (f:Addr) (fd:FuncData):Prop where
 ex:∃ (oc:Value) (od:Option Addr) (kV doc pm:Value) (an:Option Addr) (cdv ct:Value) (osl:Array (Option Value)),
  fd=W.fnOf x qual (DX st) (Dn st) (h8 st) .none kV doc pm an cdv ct∧K.lookup f=some ⟨oc,od,.func fd,osl⟩∧W.codeIn K cdv qual=true
 kp:W.keepIn K (.ref f)=true
section
variable{P:Program}{w:World}{K:W.Frag}{mg:Str→Option Value}{base:Heap}
theorem HB.ok{x J:Str}{st:Stmt}{f:Addr}{fd:FuncData}{N ps:List Str}{k:Nat}{sp:Sp}(F:HB K x J st f fd)(S:aT N ps (h8 st))(len:∀ Y H Q E,sp Y H Q E→Y.length=ps.length)
  (W:∀ (O:Value) (A:Around) (outer:List Env) (s:Shared) (H:Hp) (Y:List V) (Q:VK) (E:XK),Di k (A.deeper (envOfC J (h8 st) s.heap.objs.size f O))→sp Y H Q E→
   ∃ t,FP (kC mI P w K mg base N J (h8 st) f O A outer s H E).nox (Dn st) t∧t { nx:=fun _ H'=>Q .non H',rt:=Q } (start N Y) H):EV P w K mg base mI (k+1) f fd ps sp:=by
 obtain⟨oc,od,kV,ad,pm,an,O,ct,ag,rfl,lk,aa⟩:=F.ex
 refine AW lk aa S len fun A outer s H Y Q E hr Z=>?_
 obtain⟨t,h,q⟩:=W O A outer s H Y Q E hr Z
 exact⟨t,h.nox,q⟩
theorem HB.binds{x J:Str}{st:Stmt}{f:Addr}{fd:FuncData}{ps:List Str}(F:HB K x J st f fd)
  (h:∀ (kV S pm:Value) (Y:Option Addr) (O ct:Value) (us:List Value),us.length=ps.length→bindArgs (W.fnOf x J (DX st) (Dn st) (h8 st) .none kV S pm Y O ct) ⟨us,[]⟩=pure (ps.zip us)):Binds K fd ps []:=by
 obtain⟨oc,od,kV,S,pm,Y,O,ct,aa,rfl,lk,Z⟩:=F.ex
 exact .all (h kV S pm Y O ct)
theorem yy{x F:Str}{st:Stmt}{f:Addr}{Z:Value}{od Y:Option Addr}{S:Array (Option Value)}{kV O pm J ct:Value}(l:K.lookup f=some ⟨Z,od,.func (W.fnOf x F (DX st) (Dn st) (h8 st) .none kV O pm Y J ct),S⟩)
  (c:W.codeIn K J F=true) (k:W.keepIn K (.ref f)=true):HB K x F st f (W.fnOf x F (DX st) (Dn st) (h8 st) .none kV O pm Y J ct):=⟨⟨Z,od,kV,O,pm,Y,J,ct,S,rfl,l,c⟩,k⟩
end
section
variable{X:Cx}
theorem pv(i:Nat){x:Str}{pos:Pos}(F:X.N[i]? = some x:=by rfl)(hv:aq X.env.scope x:=by first | exact vSs (by decide +kernel) | exact Or.inl rfl)(hd:(x == ("__debug__" : Str))=false:=by decide)
  (hcd:(x == ("__classdict__" : Str))=false:=by decide):PE X (.Name x pos) (pe i):=ym F hv hd hcd
end
theorem lM{A B:Prop}(h:B):if false=true then A else B:=by
 rw[HP vn];exact h
theorem bH{c A B:Prop}[Decidable c](h1:c→A)(h2:¬ c→B):if c then A else B:=by
 by_cases h:c
 ·rw[HS h]
  exact h1 h
 ·rw[HP h]
  exact h2 h
def mu(H H':Hp):Prop:=∀ b o,H b=some o→H' b=some o
theorem mu.refl(H:Hp):mu H H:=fun _ _ h=>h
theorem mu.trans{H H1 H2:Hp}(a:mu H H1)(b:mu H1 H2):mu H H2:=fun c o h=>b c o (a c o h)
theorem mu.free{H H':Hp}(e:mu H H'){l:Addr}(h:H' l=Option.none):H l=Option.none:=by
 cases q:H l with
 | none=>rfl
 | some o=>
  rw[e l o q]at h
  cases h
theorem mu.seq{K:W.Frag}{H H':Hp}{a:Addr}{xs:List V}(e:mu H H')(h:rd K H a xs):rd K H' a xs:=by
 rcases h with (h | ⟨o,h⟩) | h
 ·exact .inl (.inl (e _ _ h))
 ·exact .inl (.inr ⟨o,e _ _ h⟩)
 ·exact .inr h
def cZ(cells:List (Str × Addr)):List (Str × NameKind)→List (Str × Addr)→List (Str × Addr)
 | [],acc=>acc
 | (n,k)::r,acc=>cZ cells r (if k == .free then (n,(cells.lookup n).getD 0)::acc else acc)
theorem rF{env:Env}{f:(Str × NameKind)→List (Str × Addr)→Sem (ForInStep (List (Str × Addr)))}
  (hf:∀ n k cs,f (n,k) cs=if (k == NameKind.free)=true then (cellOf env n >>= fun c=>pure (ForInStep.yield ((n,c)::cs))) else pure (ForInStep.yield cs)) :
  ∀ (names:List (Str × NameKind)) (acc:List (Str × Addr)),(∀ x∈names,x.2 = .free→∃ c,env.cells.lookup x.1=some c)→
  forIn names acc f=(pure (cZ env.cells names acc):Sem _)
 | [],acc,_=>rfl
 | (n,k)::r,acc,h=>by
  rw[HA,hf];have ih:=fun acc=>rF hf r acc fun x hx=>h x (zU _ hx)
  by_cases hk:(k == NameKind.free)=true
  ·rw[HS hk]
   obtain⟨c,F⟩:=h (n,k) wZ (by simpa using hk)
   have e:cellOf env n=pure c:=by unfold cellOf; rw[F]
   rw[e,pure_bind,pure_bind];show forIn r ((n,c)::acc) f=_
   rw[ih];show _=pure (cZ env.cells r (if (k == NameKind.free)=true then (n,(env.cells.lookup n).getD 0)::acc else acc))
   rw[HS hk,F]; rfl
  ·rw[HP hk,pure_bind]
   show forIn r acc f=_
   rw[ih];show _=pure (cZ env.cells r (if (k == NameKind.free)=true then (n,(env.cells.lookup n).getD 0)::acc else acc))
   rw[HP hk]
theorem iR{env:Env}{scope:Scope}(h:∀ x∈scope.names,x.2 = .free→∃ c,env.cells.lookup x.1=some c):closureFor scope env=pure (cZ env.cells scope.names []):=by
 unfold closureFor;show (forIn scope.names ([]:List (Str × Addr)) _ >>= fun F=>pure F)=_
 rw[rF (env:=env) (fun n k F=>?_) _ _ h]
 ·rfl
 ·rfl
theorem jT{cells:List (Str × Addr)}:∀ {names:List (Str × NameKind)} {acc:List (Str × Addr)} {x:Str} {c:Addr},(∀ y∈names,y.2 = .free→∃ c,cells.lookup y.1=some c)→
  (∀ y c,acc.lookup y=some c→cells.lookup y=some c)→(cZ cells names acc).lookup x=some c→cells.lookup x=some c
 | [],acc,x,c,_,ha,h=>ha x c h
 | (n,k)::r,acc,x,c,hn,ha,h=>by
  refine jT (names:=r) (fun y F=>hn y (zU _ F)) ?_ h
  intro y d F
  by_cases hk:(k == NameKind.free)=true
  ·rw[HS hk]at F
   obtain⟨e,S⟩:=hn (n,k) wZ (by simpa using hk)
   have J:cells.lookup n=some e:=S
   rw[ph]at F
   by_cases hyn:(y == n)=true
   ·rw[hyn]at F
    have O:(cells.lookup n).getD 0=d:=Option.some.inj F
    rw[J]at O
    have W:y=n:=by simpa using hyn
    rw[W,J,← O]; rfl
   ·have hf:(y == n)=false:=by simpa using hyn
    rw[hf]at F
    exact ha y d F
  ·rw[HP hk]at F
   exact ha y d F
theorem om{cells:List (Str × Addr)}:∀ {names:List (Str × NameKind)} {acc:List (Str × Addr)} {x:Str},(∃ c,acc.lookup x=some c)→∃ c,(cZ cells names acc).lookup x=some c
 | [],_,_,h=>h
 | (n,k)::r,acc,x,h=>by
  refine om (names:=r) ?_
  by_cases hk:(k == NameKind.free)=true
  ·rw[HS hk,ph]
   cases hx:(x == n) with
   | true=>exact⟨_,rfl⟩
   | false=>exact h
  ·rw[HP hk]; exact h
theorem gq{cells:List (Str × Addr)}:∀ {names:List (Str × NameKind)} {acc:List (Str × Addr)} {x:Str},(x,NameKind.free)∈names→∃ c,(cZ cells names acc).lookup x=some c
 | (n,k)::r,acc,x,h=>by
  rcases HW.mp h with e | h
  ·have J:x=n:=congrArg (·.1) e
   have F:NameKind.free=k:=congrArg (·.2) e
   subst J F;refine om (names:=r) ?_
   rw[HS (by rfl),ph]
   rw[beq_self_eq_true];exact⟨_,rfl⟩
  ·exact gq (names:=r) h
theorem eX{env:Env}:∀ {names:List (Str × NameKind)} {x:Str} {k:NameKind},(∀ y∈names,y.2 ≠ .cell)→
  (names.map fun (n,k)=>if (k == NameKind.free&&env.scope.kind == .function&&env.kindOf n == some .cell) then (n,NameKind.cell) else (n,k)).lookup x=some k→(k = .cell∨k = .free)→(x,NameKind.free)∈names
 | [],_,_,_,h,_=>by simp at h
 | (n,k0)::r,x,k,hc,h,hk=>by
  have ih:=@eX env r x k (fun y J=>hc y (zU _ J))
  rw[xq]at h
  by_cases hf:(k0 == NameKind.free&&env.scope.kind == .function&&env.kindOf n == some .cell)=true
  ·have F:k0 = .free:=by
    have:(k0 == NameKind.free)=true:=by
     rw[sG,sG]at hf; exact hf.1.1
    simpa using this
   dsimp only at h
   rw[HS hf,ph]at h
   cases hx:(x == n) with
   | true=>
    have:x=n:=by simpa using hx
    rw[this,F]; exact wZ
   | false=>rw[hx]at h; exact zU _ (ih h hk)
  ·dsimp only at h
   rw[HP hf,ph]at h
   cases hx:(x == n) with
   | true=>
    rw[hx]at h
    have e:k0=k:=Option.some.inj h
    have:x=n:=by simpa using hx
    rcases hk with z | z
    ·exact absurd (e.trans z) (hc (n,k0) wZ)
    ·rw[this,e,z]; exact wZ
   | false=>rw[hx]at h; exact zU _ (ih h hk)
def cu(X:Cx)(N0 T:List Str)(scope:Scope)(C:Addr)(fp:List Addr)(s:Shared)(H:Hp):Cx:=
 { X with N:=N0++T,s₀:=s,H₀:=H,env:=compEnvC scope (cZ X.env.cells scope.names []) C X.env,outer:=X.stack,stack:=X.stack,ex:=fp,fn:=fun _=>false,pn:=[],xe:=fun _ _=>False }
structure jS (X:Cx) (N0 T:List Str) (scope:Scope):Prop where
 kind:scope.kind = .function
 nocell:∀ y∈scope.names,y.2 ≠ .cell
 names:∀ y∈scope.names,y.2 = .local→scope.names.lookup y.1=some .local
 free:∀ y∈scope.names,y.2 = .free→X.env.kindOf y.1=some .cell∨X.env.kindOf y.1=some .free
 apart:∀ y∈scope.names,y.2 = .local→y.1∉N0
 len0:N0.length=X.N.length
 same:∀ (i:Nat) (x:Str) (k:NameKind),N0[i]? = some x→(x,k)∈scope.names→X.N[i]? = some x
theorem gD{prog:Program}{w:World}{A:Around}{R:Result→Shared→Prop}{s:Shared}{elt F Ai:Expr}{ifs:List Expr}{scope:Scope}{pos:Pos}{it acc:Value}{env:Env}(I:Nat→Shared→Prop)
  (J:∀ n s,I n s→wpAny (model prog w) A (pyNext it) (fun r S=>match r with
   | none=>R (.ok .next) S
   | some v=>wpAny (model prog w) A (letOwnedTupleGo F it v) (fun _ s₀=>wpAny (model prog w) A (assign F env v) (fun _ W=>
     wpAny (model prog w) A (forIn ifs true fun c r=>if r=true then do let ok ← isTrue c env (eval c env); pure (ForInStep.yield ok) else pure (ForInStep.yield r)) (fun ok O=>
      if ok=true then wpAny (model prog w) A (eval elt env) (fun x Z=>
       wpAny (model prog w) A (call (.builtin "list.append") [acc,x]) (fun _ Y=>∃ m,m<n∧I m Y) (fun _ _=>False) Z) (fun _ _=>False) O
      else ∃ m,m<n∧I m O) (fun _ _=>False) W) (fun _ _=>False) s₀) (fun _ _=>False) S) (fun _ _=>False) s)
  (n:Nat) (h:I n s) :
  codeAny (model prog w) A (.compLoop (.ListComp elt [⟨F,Ai,ifs,0⟩] scope pos) 0 it acc env) R s:=by
 refine codeAny_loop rfl I (fun n s hI=>?_) n h
 show wpAny _ A ((compTurn (.ListComp elt [⟨F,Ai,ifs,0⟩] scope pos) 0 it acc env).onRaise (fun x=>do noteFrame x env; theTreesLotGoes x)) _ _ s
 refine wpAny_noted ?_
 rw[compTurn_list];refine HG (wpAny_standAt (HG (wpAny_mono (J n s hI) (fun r S h₁=>?_) fun _ _ h'=>h'.elim)))
 cases r with
 | none=>exact HI h₁
 | some v=>
  refine HG (wpAny_mono h₁ (fun _ s₀ h₀=>?_) fun _ _ h'=>h'.elim)
  refine HG (wpAny_mono h₀ (fun _ W h₂=>HG (wpAny_mono h₂ (fun ok O h₃=>?_) fun _ _ h'=>h'.elim)) fun _ _ h'=>h'.elim)
  cases ok with
  | false=>exact HI ⟨rfl,h₃⟩
  | true=>
   exact HG (HG (wpAny_mono h₃ (fun x Z h₄=>HG (wpAny_mono h₄ (fun _ Y h₅=>HI (HI ⟨rfl,h₅⟩)) fun _ _ h'=>h'.elim)) fun _ _ h'=>h'.elim))
def FX(X:Cx)(ifs:List Expr)(tc:TT):Prop:=
 ∀ (pins:List (Addr × Obj)) (s:Shared) (σ : St) (H:Hp) (Q:Bool→Hp→Prop),Inv X pins σ H s→tc σ H Q→
  wpAny (model X.prog X.w) X.A (forIn ifs true fun c r=>if r=true then do let ok ← isTrue c X.env (eval c X.env); pure (ForInStep.yield ok) else pure (ForInStep.yield r)) (TP X pins σ Q) X.xe s
def nh:TT:=fun _ H Q=>Q true H
theorem bR{X:Cx}:FX X [] nh:=fun _ _ _ H _ I h=>wpAny_tests_nil ⟨H,I,h⟩
theorem Az{X:Cx}{c:Expr}{tc:TT}(F:PT X c tc):FX X [c] tc:=fun pins s σ H Q I h=>wpAny_tests_one (F pins s σ H Q I h)
def p5(g:TG)(n:Nat):Prop:=∀ x σ H Q,g x σ H Q→g x σ H fun σ' H'=>Q σ' H'∧σ'.length=σ.length∧∀ k,k<n→σ'[k]? = σ[k]?
def vd(g:jA)(n:Nat):Prop:=∀ x σ H Q,g x σ H Q→g x σ H fun σ' H'=>Q σ' H'∧σ'.length=σ.length∧∀ k,k<n→σ'[k]? = σ[k]?
theorem bN{i n:Nat}(h:n≤i):p5 (iU i) n:=fun x σ H Q q=>⟨q,by simp,fun k F=>by rw[zby (by omega)]⟩
theorem rO{n:Nat}:vd uW n:=fun x σ H Q q=>⟨q.1,q.2,rfl,fun _ _=>rfl⟩
def wb(g:TG):Prop:=∀ x σ H Q Q',(∀ σ' H',Q σ' H'→Q' σ' H')→g x σ H Q→g x σ H Q'
def oA(g:jA):Prop:=∀ x σ H Q Q',(∀ σ' H',Q σ' H'→Q' σ' H')→g x σ H Q→g x σ H Q'
theorem js{i:Nat}:wb (iU i):=fun x σ H Q F h q=>h _ _ q
theorem l5:oA uW:=fun x σ H Q F h q=>⟨q.1,h _ _ q.2⟩
theorem rq{t:TG}{u:jA}(h1:wb t)(h2:oA u):oA (qS t u):=fun x σ H Q J h ⟨v,r,e,q⟩=>⟨v,r,e,h1 _ _ _ _ _ (fun F H' z=>h2 _ _ _ _ _ h z) q⟩
theorem jR{t:TG}{u:jA}{n:Nat}(h1:p5 t n)(m1:wb t)(h2:vd u n)(J:oA u):vd (qS t u) n:=fun x σ H Q ⟨v,r,e,q⟩=>by
 refine⟨v,r,e,?_⟩
 refine m1 _ _ _ _ _ (fun W H' z=>?_) (h1 _ _ _ _ q)
 obtain⟨z,O,k1⟩:=z
 exact J _ _ _ _ _ (fun S H2 y=>⟨y.1,y.2.1.trans O,fun k F=>(y.2.2 k F).trans (k1 k F)⟩) (h2 _ _ _ _ z)
theorem t_{K:W.Frag}{m n:Nat}{t:jA}(h:vd t n):p5 (vm K m t) n:=fun x σ H Q ⟨a,xs,e,q,l,z⟩=>⟨a,xs,e,q,l,h _ _ _ _ z⟩
def gs(J:It)(g:TG)(tc:TT)(te:TE)(nT:Nat)(σ : St)(D:Addr)(Q:VK)(H:Hp):Prop:=
 ∃ W:Nat→Nat→List V→Hp→Prop,(∃ m,W 0 m [] H)∧∀ i m ys H2,W i m ys H2→
  (J.stop i H2∧Q (.ref D) H2)∨(J.go i H2∧∀ x H',J.yld i H2 x H'→g x (σ++List.replicate nT none) H' fun σ2 H3=>tc σ2 H3 fun b H4=>
   if b=true then te σ2 H4 fun y H5=>H5 D=some (.lst ys)∧ys.length<sizeLine∧∃ m',m'<m∧W (i+1) m' (ys++[y]) (upd H5 D (.lst (ys++[y]))) else ∃ m',m'<m∧W (i+1) m' ys H4)
def qQ(wi:TI)(g:TG)(tc:TT)(te:TE)(nT:Nat):TE:=fun σ H Q=>wi σ H fun J H1=>∀ D,H1 D=none→gs J g tc te nT σ D Q (upd H1 D (.lst []))
theorem EM.sameBut{P:Program}{w:World}{H:Hp}{h h':Heap}{C:Addr}(x:EM P w H h)(J:Heap.SameBut C h h')(F:H C=none):EM P w H h':=fun a o e=>
 (x a o e).stay (fun b u O q=>(J.2 b (by
  rintro rfl
  rcases O with z | z
  ·rw[z]at F; rw[F]at e; cases e
  ·rw[F]at z; cases z)).trans q) (fun _ q=>q) fun _ _ q=>q
section
variable{X:Cx}{N0 T:List Str}{scope:Scope}{tg elt Ai:Expr}{ifs:List Expr}{pos:Pos}{wi:TI}{g:TG}{tc:TT}{te:TE}
theorem qd{pins:List (Addr × Obj)}{σ : St}{H:Hp}{s:Shared}{E:Value→Shared→Prop}{it:Addr}{fp:List Addr}{tn:Nat→Heap→Prop}{J:It}{Q:VK}{RR:Value→Addr→Result→Shared→Prop}
  (S:jS X N0 T scope) (hc:X.calm=true)
  (hg:∀ C fp s H,PG (cu X N0 T scope C fp s H) tg g) (ca:p5 g X.N.length) (hi:∀ C fp s H,FX (cu X N0 T scope C fp s H) ifs tc) (he:∀ C fp s H,PE (cu X N0 T scope C fp s H) elt te)
  (I:Inv X pins σ H s) (Tn:mP X.prog X.w X.K tg J fp it tn) (st:tn 0 s.heap) (hf:∀ b∈fp,iA X pins H b)
  (h:∀ D,H D=none→gs J g tc te T.length σ D Q (upd H D (.lst [])))
  (b5:∀ D C s' H' m,s'.heap.Ns C m→H' C=none→C≠X.env.locals→(∀ x c,X.env.cells.lookup x=some c→c≠C)→(∀ p∈X.pn++pins,p.1≠C)→X.s₀.heap.objs.size≤C→Inv X pins σ H' s'→
   (∀ h',Heap.SameBut C s'.heap h'→Inv X pins σ H' { s' with heap:=h' })→Q (.ref D) H'→RR (.ref D) C (.ok .next) s') :
  wpAny (model X.prog X.w) X.A (newList []) (fun acc s₃=>wpAny (model X.prog X.w) X.A (newFunctionEnv scope X.env.globals (cZ X.env.cells scope.names []) [] X.env.qual none .none (some X.env)) (fun a0 s₄=>
   codeAny (model X.prog X.w) X.A (.compStart (.ListComp elt [⟨tg,Ai,ifs,0⟩] scope pos) 0 (.ref it) acc { a0 with scope:=relabel scope X.env }) (RR acc a0.locals) s₄) E s₃) E s:=by
 refine wpAny_newObj_type (wpAny_newFunctionEnv S.nocell (by intro y hy; simp at hy) (fun h₁ aa O=>?_) S.kind)
 dsimp only at aa O ⊢
 generalize hH2:s.heap.push { cls:=.type "list", dict:=none,data:=.seq ([]:List Value).toArray }=P2 at aa O ⊢;have hC:P2.objs.size=s.heap.objs.size+1:=by rw[← hH2,u3]
 -- the new list D, the block's names C
 obtain⟨D,hD⟩ : ∃ D:Nat,D=s.heap.objs.size:=⟨_,rfl⟩
 obtain⟨C,b2⟩ : ∃ C:Nat,C=P2.objs.size:=⟨_,rfl⟩
 rw[← b2]at aa O hC ⊢
 rw[← hD]at hC ⊢
 have bB:D≠C:=by omega
 have ad:D<C:=by omega
 have a6:∀ b o,s.heap.get? b=some o→b≠D:=fun b o e=>hD ▸ zM (zA e)
 have Z:∀ b o,s.heap.get? b=some o→b≠C:=fun b o e=>zM (GH (hD ▸ zA e) ad)
 have ag:∀ b o,s.heap.get? b=some o→h₁.get? b=some o:=fun b o e=>O.extBut b o (Z b o e) (zD _ (hH2 ▸ zD _ e))
 have bz:H D=none:=I.hok.fresh (by omega)
 have cb:H C=none:=I.hok.fresh (by omega)
 have dat:h₁.get? D=some { cls:=.type "list", data:=.seq ([]:List Value).toArray 0 }:=by
  refine O.extBut _ _ bB (zD _ ?_)
  rw[← hH2,hD];exact wd _ rfl
 -- the block's context stands
 have Y:∀ x c,(cZ X.env.cells scope.names []).lookup x=some c→X.env.cells.lookup x=some c:=fun x c e=>
  jT (fun y hy hk=>I.ok.has y.1 (S.free y hy hk)) (fun y c z=>by simp at z) e
 have an:(cu X N0 T scope C fp s H).Ok:=by
  refine⟨I.ok.mod,?_,I.ok.glob,I.ok.blt,?_,fun x y c e1 e2=>I.ok.inj x y c (Y x c e1) (Y y c e2),fun x hx=>?_,fun x c z _=>(by cases z),I.ok.hd,I.ok.frames,.inl rfl,fun b F=>⟨?_,fun x c e=>(hf b F).2.2.2.2.1 x c (Y x c e)⟩,
   I.bs,?_,fun b o e F=>?_,fun b F z=>?_,I.stack,I.stkFree⟩
  ·show (relabel scope X.env).kind = .function
   exact S.kind
  ·show s.heap.objs.size≤C
   omega
  ·have b6:(relabel scope X.env).names.lookup x=some .cell∨(relabel scope X.env).names.lookup x=some .free:=hx
   have m:(x,NameKind.free)∈scope.names:=by
    rcases b6 with z | z
    ·exact eX S.nocell z (.inl rfl)
    ·exact eX S.nocell z (.inr rfl)
   exact gq m
  ·show b≠C
   obtain⟨o,e,_⟩:=Tn.obj 0 _ st b F
   exact Z b o e
  ·exact vg I.ok.bsz I.sz
  ·obtain⟨_,_,_,z,_⟩:=hf b F
   rcases z with z | z
   ·exact I.ok.noex b o e z
   ·exact absurd (va (va (zA e) I.ok.bsz) z) (Hc _)
  ·obtain⟨_,z1,z2,_⟩:=hf b F
   rcases HW.mp (I.stkSub b z) with q | q
   ·exact z1 q
   ·exact z2 q
 have I1:Inv (cu X N0 T scope C fp s H) [] (σ++List.replicate T.length none) (upd H D (.lst [])) { s with heap:=h₁,toks:=s.toks+([]:List (Str × Value)).length }:=by
  refine⟨an,rfl,I.bare,Un.laid (h:=s.heap) ag (by omega) bz,⟨_,aa,fun i x v e1 e2 e3=>?_⟩,fun x c e=>?_,?_,fun x c e=>?_,fun p hp=>(by simp[cu]at hp),I.hok.laid ag (by omega) ?_,?_⟩
  ·have a3:(N0++T)[i]? = some x:=e1
   have hl:=I.len;have cd:=S.len0
   have hi:i<σ.length:=by
    rcases x6 i σ.length with z | z
    ·exact z
    ·rw[yS z]at e2
     rw[Hi]at e2
     split at e2 <;> cases e2
   rw[vt hi]at e2
   rw[vt (by omega)]at a3
   have b9:x∈N0:=zX a3
   have b8:(relabel scope X.env).names.lookup x=some .local∨(relabel scope X.env).names.lookup x=some .cell∨(relabel scope X.env).names.lookup x=some .free:=e3
   have fr:(relabel scope X.env).names.lookup x=some .cell∨(relabel scope X.env).names.lookup x=some .free:=by
    rcases b8 with z | z | z
    ·exfalso
     -- a local of the block is no tracked name
     have key:∀ (names:List (Str × NameKind)),(names.map fun (n,k)=>if (k == NameKind.free&&X.env.scope.kind == .function&&X.env.kindOf n == some .cell) then (n,NameKind.cell) else (n,k)).lookup x=some .local→(x,NameKind.local)∈names:=by
      intro names
      induction names with
      | nil=>intro z; simp at z
      | cons y r ih=>
       obtain⟨n,k⟩:=y
       intro z
       rw[xq]at z
       dsimp only at z
       by_cases hfk:(k == NameKind.free&&X.env.scope.kind == .function&&X.env.kindOf n == some .cell)=true
       ·rw[HS hfk,ph]at z
        cases hx:(x == n) with
        | true=>rw[hx]at z; cases z
        | false=>rw[hx]at z; exact zU _ (ih z)
       ·rw[HP hfk,ph]at z
        cases hx:(x == n) with
        | true=>
         rw[hx]at z
         have ek:k = .local:=Option.some.inj z
         have en:x=n:=by simpa using hx
         rw[ek,en]; exact wZ
        | false=>rw[hx]at z; exact zU _ (ih z)
     exact S.apart (x,.local) (key _ z) rfl b9
    ·exact .inl z
    ·exact .inr z
   have m:(x,NameKind.free)∈scope.names:=by
    rcases fr with z | z
    ·exact eX S.nocell z (.inl rfl)
    ·exact eX S.nocell z (.inr rfl)
   have kX:=S.free _ m rfl;obtain⟨mm,hn,b4⟩:=I.loc
   obtain⟨u,r,lk⟩:=b4 i x v (S.same i x _ a3 m) e2 (.inr kX)
   refine⟨u,r,.inr ⟨fr,?_⟩⟩
   rcases lk with ⟨z,_⟩ | ⟨_,c,ec,cc⟩
   ·rcases kX with q | q
    ·rw[q]at z; cases z
    ·rw[q]at z; cases z
   ·obtain⟨c',be⟩:=gq (cells:=X.env.cells) (acc:=[]) m
    have:=Y x c' be
    rw[ec]at this; cases this
    exact⟨c,be,cc.keeps ag⟩
  ·obtain⟨v,z⟩:=I.cell x c (Y x c e)
   exact⟨v,z.keeps ag⟩
  ·show upd H D (.lst []) C=none
   rw[al (zB bB)]; exact cb
  ·have q:=I.freeC x c (Y x c e)
   obtain⟨v,o,z,_⟩:=I.cell x c (Y x c e)
   rw[al (a6 c o z)]; exact q
  ·exact⟨yT _,[],0,.nil,dat⟩
  ·show (σ++List.replicate T.length none).length=(N0++T).length
   rw[zV,zV,zbB,I.len,S.len0]
 have a7:tn 0 h₁:=Tn.keep _ _ _ st fun b _ o e=>ag b o e
 have a5:∀ {H':Hp},(∀ b∈fp,H' b=none)→∀ b∈fp,iA (cu X N0 T scope C fp s H) [] H' b:=fun hn b F=>
  ⟨hn b F,(an.exf b F).1,an.exfs b F,.inl F,(an.exf b F).2,fun p hp=>(by simp[cu]at hp)⟩
 have b1:∀ b∈fp,upd H D (.lst []) b=none:=fun b F=>by
  obtain⟨o,e,_⟩:=Tn.obj 0 _ st b F
  rw[al (a6 b o e)]; exact(hf b F).1
 obtain⟨W,⟨m0,w0⟩,bA⟩:=h D bz
 have a1:∀ s₃ : Shared,s₃={ s with heap:=h₁,toks:=s.toks+([]:List (Str × Value)).length }→
   codeAny (model X.prog X.w) X.A (.compLoop (.ListComp elt [⟨tg,Ai,ifs,0⟩] scope pos) 0 (.ref it) (.ref D) (compEnvC scope (cZ X.env.cells scope.names []) C X.env)) (RR (.ref D) C) s₃:=by
  rintro s₃ rfl
  refine gD (fun n s'=>∃ i H' ys,Inv (cu X N0 T scope C fp s H) [] (σ++List.replicate T.length none) H' s'∧tn i s'.heap∧(∀ b∈fp,H' b=none)∧W i n ys H') ?_ m0 ⟨0,_,[],I1,a7,b1,w0⟩
  rintro n s3 ⟨i,H3,ys,I3,bp,a8,w3⟩
  rcases bA i n ys H3 w3 with ⟨stop,qn⟩ | ⟨go,step⟩
  ·refine bc (Tn.done (cu X N0 T scope C fp s H) rfl rfl rfl hc i [] s3 _ H3 (fun _ _=>False) I3 (a5 a8) bp stop) fun r s4 ⟨hr,I4⟩=>?_
   subst hr;obtain⟨m,hm,_⟩:=I4.loc
   have a9:∀ b∈fp,(b∈X.ex∨X.s₀.heap.objs.size≤b)∧b≠X.env.locals∧(∀ x c,X.env.cells.lookup x=some c→c≠b)∧∀ p∈X.pn++pins,p.1≠b:=fun b F=>
    ⟨(hf b F).2.2.2.1,(hf b F).2.1,(hf b F).2.2.2.2.1,(hf b F).2.2.2.2.2⟩
   have u4:Un (eO X.stack) fp H H3 s.heap s4.heap:=I4.base
   refine b5 D C s4 H3 m hm I4.free (zB (zM (GH (hD ▸ I.lt) ad))) (fun x c e=>?_) (fun p hp=>?_) (vg (hD ▸ I.sz) (uV ad)) (I.call' (ch:=fp) I4.os u4 I4.hok I4.bare a9) (fun h' as=>?_) qn
   ·obtain⟨v,o,q,_⟩:=I.cell x c e
    exact Z c o q
   ·exact Z _ _ (I.pin p hp).1
   ·refine I.call' (ch:=fp) (s':={ s4 with heap:=h' }) I4.os ⟨fun b o q n' F hx=>(as.2 b (Z b o q)).trans (u4.keep b o q n' F hx),fun b o q n' F hx=>?_,u4.free,fun b o q hx=>?_,u4.tups,u4.frzs,u4.tbls⟩ (I4.hok.sameBut as I4.free) I4.bare a9
    ·obtain⟨sl,e⟩:=u4.slot b o q n' F hx
     exact⟨sl,(as.2 b (Z b o q)).trans e⟩
    ·obtain⟨o',e⟩:=u4.there b o q hx
     exact⟨o',(as.2 b (Z b o q)).trans e⟩
  ·refine bc (Tn.item (cu X N0 T scope C fp s H) rfl rfl rfl hc i [] s3 _ H3 (fun _ _=>False) I3 (a5 a8) bp go) fun r s4 ⟨u,hr,h4⟩=>?_
   subst hr;refine bc h4 fun _ s5 ⟨x,H5,I5,r5,y5,a4,b7⟩=>?_
   have bS:=I5.pinned (a5 b7) (Tn.obj _ _ a4);refine bc (hg C fp s H _ s5 _ H5 x u _ bS r5 (ca _ _ _ _ (step x H5 y5))) fun _ s6 ⟨σ6,H6,I6,q6,l6,k6⟩=>?_
   have a2:∀ {H7:Hp} {s7:Shared},Inv (cu X N0 T scope C fp s H) ([]++j0 fp s5.heap) σ6 H7 s7→(∀ {m':Nat} {zs:List V},m'<n→W (i+1) m' zs H7→∃ m,m<n∧∃ i H' ys,Inv (cu X N0 T scope C fp s H) [] (σ++List.replicate T.length none) H' s7∧tn i s7.heap∧(∀ b∈fp,H' b=none)∧W i m ys H'):=fun {H7 s7} I7 {m' zs} hm w7=>by
    refine⟨m',hm,i+1,H7,zs,I7.unpinned.weak (by rw[l6]) (fun j v e=>?_),Tn.keep _ _ _ a4 fun b F o e=>(I7.pin (b,o) (y6 _ (y6 _ (eZ F e)))).1,fun b F=>?_,w7⟩
    ·have hj:j<σ.length:=by
      rcases x6 j σ.length with z | z
      ·exact z
      ·rw[yS z,Hi]at e
       split at e <;> cases e
     rw[k6 j (by rw[← I.len]; exact hj)]
     exact e
    ·obtain⟨o,e,d⟩:=Tn.obj _ _ a4 b F
     exact(I7.pin (b,o) (y6 _ (y6 _ (eZ F e)))).2.1
   refine bc (hi C fp s H _ s6 σ6 H6 _ I6 q6) fun b s7 ⟨H7,I7,q7⟩=>?_
   cases b with
   | false=>
    obtain⟨m',hm,w7⟩:=(show ∃ m',m'<n∧W (i+1) m' ys H7 from by simpa using q7)
    exact a2 I7 hm w7
   | true=>
    rw[HS rfl]at q7
    refine bc (he C fp s H _ s7 σ6 H7 _ I7 q7) fun v s8 ⟨y,H8,I8,r8,b3,hz,m',hm,w8⟩=>?_
    refine bc (ll (X:=cu X N0 T scope C fp s H) _ s8 σ6 H8 (.ref D) [y] (.ref D) [v] (fun _ H9=>H9=upd H8 D (.lst (ys++[y]))) I8 rfl (.cons r8 .nil) ⟨D,ys,y,rfl,rfl,b3,hz,rfl⟩) fun v9 s9 ⟨y9,H9,I9,_,e9⟩=>?_
    subst e9;exact a2 I9 hm w8
 exact codeAny_compStart_list (a1 _ rfl) (Tn.self X.A 0 _ _ _ a7 (a1 _ rfl))
theorem cX(S:jS X N0 T scope)(hc:X.calm=true)(hI:PI X tg Ai wi)
  (hg:∀ C fp s H,PG (cu X N0 T scope C fp s H) tg g) (Z:p5 g X.N.length) (hi:∀ C fp s H,FX (cu X N0 T scope C fp s H) ifs tc) (he:∀ C fp s H,PE (cu X N0 T scope C fp s H) elt te)
  (hs:∀ x,foldedSetIterable Ai X.env x=pure x:=by intro _; rfl):PE X (.ListComp elt [⟨tg,Ai,ifs,0⟩] scope pos) (qQ wi g tc te T.length):=by
 intro pins s σ H Q I h
 rw[eval_ListComp];refine wpAny_comprehension_free (use:=none) rfl hs (iR fun x hx hk=>I.ok.has x.1 (S.free x hx hk)) S.kind S.names (bc (hI pins s σ H _ I h) fun v s1 h1=>bc h1 fun ag s2 h2=>?_)
 obtain⟨it,fp,tn,J,H2,e,I2,Tn,Y,f2,q2⟩:=h2
 subst e;refine qd (RR:=fun acc C=>compPost (model X.prog X.w) X.A X.xe none (EP X pins σ Q) acc C) S hc hg Z hi he I2 Tn Y f2 q2 ?_
 intro D C s' H' m hn hC hL F ad O I' aa q
 exact⟨m,hn,fun h' W=>⟨.ref D,H',aa h' W,rfl,q⟩⟩
theorem i0{i:Nat}{x:Str}{F Y:Pos}(S:jS X N0 T scope)(hc:X.calm=true)(hN:X.N.Nodup)(a2:X.N[i]? = some x)(hx:X.env.scope.names.lookup x=some .local)(hI:PI X tg Ai wi)
  (hg:∀ C fp s H,PG (cu X N0 T scope C fp s H) tg g) (an:p5 g X.N.length) (hi:∀ C fp s H,FX (cu X N0 T scope C fp s H) ifs tc) (he:∀ C fp s H,PE (cu X N0 T scope C fp s H) elt te)
  (a1:swapsWith (.ListComp elt [⟨tg,Ai,ifs,0⟩] scope pos) (some (.Name x F)) Y.line X.env=pure true:=by rfl)
  (hs:∀ x,foldedSetIterable Ai X.env x=pure x:=by intro _; rfl):PS X (.Assign [.Name x F] (.ListComp elt [⟨tg,Ai,ifs,0⟩] scope pos) Y) (oO (qQ wi g tc te T.length) (iU i)):=by
 intro pins s σ H D I h
 rw[exec_Assign_Name_used _ _ _ _ a1];refine HG (wpAny_standAt (HG ?_))
 show wpAny _ X.A (do let _ ← comprehension (.ListComp elt [⟨tg,Ai,ifs,0⟩] scope pos) scope X.env _ (newList []) false (eval Ai X.env) (some (assign (.Name x F) X.env))) _ _ s
 refine HG (wpAny_mono (wpAny_comprehension_free (use:=some (assign (.Name x F) X.env)) (Q:=fun _ s'=>SP X pins D .next s') rfl hs (iR fun x hx hk=>I.ok.has x.1 (S.free x hx hk)) S.kind S.names
  (bc (hI pins s σ H _ I h) fun v s1 h1=>bc h1 fun a4 s2 h2=>?_)) (fun _ s' hq=>HI (HI hq)) fun _ _ e=>e)
 obtain⟨it,fp,tn,J,H2,e,I2,Tn,ag,f2,q2⟩:=h2
 subst e;refine qd (RR:=fun acc C=>compPost (model X.prog X.w) X.A X.xe (some (assign (.Name x F) X.env)) (fun _ s'=>SP X pins D .next s') acc C) S hc hg an hi he I2 Tn ag f2 q2 ?_
 intro L C s' H' m hn hC hL O Z W I' a5 q
 show wpAny _ X.A (assign (.Name x F) X.env (.ref L)) _ _ _
 refine wpAny_assign_Name (pJ (v:=.ref L) I' hN a2 (.inl hx) rfl (fun a0 as ⟨a,aa,ha⟩=>?_) (.inr hx))
 have a3:C≠a:=by
  rintro rfl
  rcases ha with z | z
  ·exact hL z
  ·exact O x C z rfl
 refine⟨m,hn.sameBut aa a3,fun h' ad=>?_⟩
 exact⟨σ.set i (some (.ref L)),H',as.turned (t':=a0.toks) (fun b o hb e=>(ad.2 b hb).trans e) hC hL (.inr W) O Z,q⟩
end
theorem wh.of:∀ {xs:List V} {us:List Value} {i:Nat} {u:Value},wh xs us→us[i]? = some u→∃ x,xs[i]? = some x∧RelV x u
 | _,_,0,u,.cons r _,e=>⟨_,rfl,by simp at e; subst e; exact r⟩
 | _,_,i+1,u,.cons _ rr,e=>by
  obtain⟨x,hx,r⟩:=wh.of (i:=i) rr (by simpa using e)
  exact⟨x,by simpa using hx,r⟩
theorem ly:∀ {ss:List Str} {us:List Value},wh (ss.map V.str) us→StrsAre us ss
 | [],_,.nil=>.nil
 | s::ss,_,.cons r rr=>by
  obtain⟨t,rfl⟩:=r
  exact .cons s t (ly rr)
theorem lH:∀ {us:List Value} {ss:List Str},StrsAre us ss→wh (ss.map V.str) us
 | _,_,.nil=>.nil
 | _,_,.cons y t h=>.cons ⟨t,rfl⟩ (lH h)
theorem wq(bs:List Bool):(List.range bs.length).any (fun i=>bs.getD i false)=bs.any id:=by
 rw[Hg,Hl,Hl]
 constructor
 ·rintro⟨i,hi,h⟩
  have F:=HV.mp hi;rw[zp,za F]at h
  exact⟨_,zl F,h⟩
 ·rintro⟨b,J,h⟩
  obtain⟨i,hi,rfl⟩:=HN.mp J
  refine⟨i,HV.mpr hi,?_⟩
  rw[zp,za hi];exact h
theorem yQ{bs:List Bool}{us:List Value}(r:wh (bs.map V.bl) us){i:Nat}{v:Value}(e:us.toArray[i]? = some v):v = .bool (bs.getD i false):=by
 obtain⟨x,hx,J⟩:=r.of (i:=i) (by simpa using e)
 rw[ze]at hx
 cases hb:bs[i]? with
 | none=>rw[hb]at hx; cases hx
 | some b=>
  rw[hb]at hx
  have F:V.bl b=x:=Option.some.inj hx
  subst F;rw[zp,hb];exact J
section
variable{X:Cx}
def zn(K:W.Frag):List V→Hp→VK→Prop:=fun xs H Q=>∃ (p:Addr) (bs:List Bool),xs=[.ref p]∧rd K H p (bs.map V.bl)∧Q (.bl (bs.any id)) H
theorem jj{K:W.Frag}{H:Hp}{Q:VK}(p:Addr):zn K [.ref p] H Q=∃ bs:List Bool,rd K H p (bs.map V.bl)∧Q (.bl (bs.any id)) H:=propext ⟨fun ⟨_,bs,e,q⟩=>by cases e; exact⟨bs,q⟩,fun ⟨bs,q⟩=>⟨p,bs,rfl,q⟩⟩
theorem xT(Z:X.calm=true):CV X (.builtin "any") (zn X.K):=by
 intro pins s σ H xs us Q I r h
 obtain⟨p,bs,rfl,hq,q⟩:=h
 obtain⟨u,rfl,ru⟩:=dU r
 cases ru;obtain⟨F,S,O,hz⟩:=I.list hq
 have J:F.length=bs.length:=by rw[← S.length,zc]
 refine call_any_walk (wpAny_pyIter_list O.isList ?_)
 refine⟨_,_,_,_,_,_,fun i=>bs.getD i false,rfl,Walks.list (A:=X.A.in1) (I.ok.hd Z) s.heap.objs.size p (zM O.lt) F.toArray,⟨⟨_,wd _ rfl,rfl,rfl⟩,(O.keeps fun b o e=>zD _ e).isList⟩,?_,fun h' tk Y=>?_⟩
 ·intro i v s' Q' E' hP W
  rw[yQ S hP];exact wpAny_truthy_bool W
 ·refine⟨.bl (bs.any id),H,I.kept (t':=tk) fun b o e=>Y b o (fun z=>?_) (zD _ e),?_,q⟩
  ·exact zM (zA e) (by simpa using z)
  ·have e:(List.range F.toArray.size).any (fun i=>bs.getD i false)=bs.any id:=by rw[vx,J,wq]
   show Value.bool ((List.range F.toArray.size).any fun i=>bs.getD i false)=Value.bool (bs.any id)
   rw[e]
def dy(H:Hp):V→Option String
 | .non=>some "NoneType"
 | .bl _=>some "bool"
 | .int _=>some "int"
 | .str _=>some "str"
 | .ref a=>match H a with
  | some (.lst _)=>some "list"
  | some (.frz _ (.lst _))=>some "list"
  | some (.tup _)=>some "tuple"
  | some (.dK _)=>some "dict"
  | some (.dT _)=>some "dict"
  | _=>none
 | _=>none
theorem wA{K:W.Frag}{H:Hp}:∀ {x:V} {T:String},dy H x=some T→gR K H x (.type T)
 | .non,T,h=>by cases h; exact .non
 | .bl b,T,h=>by cases h; exact .bl b
 | .int i,T,h=>by cases h; exact .int i
 | .str y,T,h=>by cases h; exact .str y
 | .byt _,T,h=>by cases h
 | .flt _,T,h=>by cases h
 | .ty _,T,h=>by cases h
 | .ref a,T,h=>by
  cases e:H a with
  | none=>simp[dy,e]at h
  | some o=>
   cases o with
   | lst xs=>simp[dy,e]at h; subst h; exact .lst e
   | tup xs=>simp[dy,e]at h; subst h; exact .tup e
   | dK xs=>simp[dy,e]at h; subst h; exact .dK e
   | dT xs=>simp[dy,e]at h; subst h; exact .dT e
   | frz ob u=>
    cases u with
    | lst xs=>simp[dy,e]at h; subst h; exact .frz e
    | _=>simp[dy,e]at h
   | _=>simp[dy,e]at h
def AZ(T C:String):Bool:=T == C||(T == "bool" && C == "int")
theorem zT(K:W.Frag){T C:String}(J:T∈["NoneType", "bool", "int", "str", "list", "tuple", "dict"]) (F:C∈["bool", "int", "str", "list", "tuple"]):W.kitOne K (.type T) (.type C)=some (AZ T C):=by
 simp only[vB,Gu,or_false]at J F
 rcases J with rfl | rfl | rfl | rfl | rfl | rfl | rfl <;> rcases F with rfl | rfl | rfl | rfl | rfl <;> (with_unfolding_all rfl)
theorem vF{H:Hp}{x:V}{T:String}(h:dy H x=some T):T∈["NoneType", "bool", "int", "str", "list", "tuple", "dict"]:=by
 cases x with
 | ref a=>
  cases e:H a with
  | none=>simp[dy,e]at h
  | some o=>
   cases o with
   | frz ob u=>cases u <;> simp[dy,e]at h <;> subst h <;> decide
   | _=>simp[dy,e]at h <;> subst h <;> decide
 | _=>first | (cases h; decide) | cases h
def D6:List V→Hp→VK→Prop:=fun xs H Q=>∃ (x:V) (T C:String),xs=[x,.ty C]∧dy H x=some T∧C∈["bool", "int", "str", "list", "tuple"]∧Q (.bl (AZ T C)) H
theorem jk{H:Hp}{Q:VK}(x:V)(C:String):D6 [x,.ty C] H Q=∃ T,dy H x=some T∧C∈["bool", "int", "str", "list", "tuple"]∧Q (.bl (AZ T C)) H:=
 propext ⟨fun ⟨_,T,_,e,q⟩=>by cases e; exact⟨T,q⟩,fun ⟨T,q⟩=>⟨x,T,C,rfl,q⟩⟩
theorem zb:CV X (.builtin "isinstance") D6:=by
 intro pins s σ H xs us Q I r h
 obtain⟨x,T,C,rfl,J,O,q⟩:=h
 obtain⟨u,Y,rfl,S,F⟩:=l7 r
 cases F;exact xX I S (wA J) (zT X.K (vF J) O) fun W=>⟨.bl (AZ T C),H,I.tok W,rfl,q⟩
end
def rm(J:It)(g:TG)(tb:TS)(D:dH)(σ : St)(H:Hp):Prop:=∃ W:Nat→Nat→St→Hp→Prop,(∃ m,W 0 m σ H)∧∀ i m σ H,W i m σ H→
 (J.stop i H∧D.nx σ H)∨(J.go i H∧∃ N:St→Hp→Prop,(∀ σ' H',N σ' H'→∃ m',m'<m∧W (i+1) m' σ' H')∧∀ x H',J.yld i H x H'→g x σ H' fun σ2 H2=>tb { D with nx:=N,ct:=N,bk:=D.nx } σ2 H2)
theorem ju(wi:TI)(g:TG)(tb:TS)(D:dH)(σ : St)(H:Hp):EL wi g tb D σ H=wi σ H fun J H1=>rm J g tb D σ H1:=rfl
theorem B4{J:It}{g:TG}{tb:TS}{D:dH}{σ : St}{H:Hp}(n:Nat)(F:Nat→St→Hp→Prop)(Y:F 0 σ H)(S:∀ i σ H,i<n→F i σ H→J.go i H)(O:∀ σ H,F n σ H→J.stop n H)
  (W:∀ i σ H x H',i<n→F i σ H→J.yld i H x H'→g x σ H' fun σ2 H2=>tb { D with nx:=F (i+1),ct:=F (i+1),bk:=D.nx } σ2 H2) (hd:∀ σ H,F n σ H→D.nx σ H):rm J g tb D σ H:=by
 refine⟨fun i m σ H=>m=n - i∧i≤n∧F i σ H,⟨n,by simp,yT _,Y⟩,?_⟩
 rintro i m σ H ⟨rfl,hi,p⟩
 by_cases hlt:i<n
 ·exact .inr ⟨S i σ H hlt p,F (i+1),fun σ' H' Z=>⟨n - (i+1),by omega,rfl,hlt,Z⟩,fun x H' y=>W i σ H x H' hlt p y⟩
 ·have e:i=n:=by omega
  subst e;exact .inl ⟨O σ H p,hd σ H p⟩
theorem eP{K:W.Frag}{a:Addr}{xs:List V}{g:TG}{tb:TS}{D:dH}{σ : St}{H:Hp}(F:Nat→St→Hp→Prop)(J:F 0 σ H)(hl:∀ i σ H,i≤xs.length→F i σ H→rd K H a xs)
  (S:∀ i x σ H,xs[i]? = some x→F i σ H→g x σ H fun O H2=>tb { D with nx:=F (i+1),ct:=F (i+1),bk:=D.nx } O H2) (hd:∀ σ H,F xs.length σ H→D.nx σ H):rm (pN K a) g tb D σ H:=
 Ak F J hl S hd
theorem gC{lo:Int}{n:Nat}{g:TG}{tb:TS}{D:dH}{σ : St}{H:Hp}(F:Nat→St→Hp→Prop)(J:F 0 σ H)
  (S:∀ i σ H,i<n→F i σ H→g (.int (lo+i)) σ H fun O H2=>tb { D with nx:=F (i+1),ct:=F (i+1),bk:=D.nx } O H2) (hd:∀ σ H,F n σ H→D.nx σ H):rm (mJ lo n) g tb D σ H:=
 yr F J S hd
def jN(n i:Nat)(Pv:Nat→List V→Hp→Prop)(D:Addr)(ys:List V)(y:V)(H:Hp):Prop:=
 H D=some (.lst ys)∧ys.length<sizeLine∧∃ m',m'<n - i∧(m'=n - (i+1)∧i+1≤n∧Pv (i+1) (ys++[y]) (upd H D (.lst (ys++[y]))))
theorem df{n i:Nat}{J:Nat→List V→Hp→Prop}{D:Addr}{ys:List V}{y:V}{H:Hp}(hi:i<n)(F:ys.length=i)(hz:n≤sizeLine)(h1:H D=some (.lst ys))(h2:J (i+1) (ys++[y]) (upd H D (.lst (ys++[y])))):jN n i J D ys y H:=
 ⟨h1,by omega,n - (i+1),by omega,rfl,hi,h2⟩
def ky(n i:Nat)(Pv:Nat→List V→Hp→Prop)(D:Addr)(ys:List V)(te:TE)(σ : St)(H:Hp):Prop:=
 if true=true then te σ H (jN n i Pv D ys) else ∃ m',m'<n - i∧(m'=n - (i+1)∧i+1≤n∧Pv (i+1) ys H)
theorem ie{n i:Nat}{F:Nat→List V→Hp→Prop}{D:Addr}{ys:List V}{te:TE}{σ : St}{H:Hp}:ky n i F D ys te σ H=te σ H (jN n i F D ys):=by
 unfold ky; rw[HS rfl]
theorem kM{J:It}{g:TG}{te:TE}{nT:Nat}{σ : St}{D:Addr}{Q:VK}{H:Hp}(n:Nat)(F:Nat→List V→Hp→Prop)(Y:F 0 [] H)(S:∀ i ys H,i<n→F i ys H→J.go i H)(O:∀ ys H,F n ys H→J.stop n H)
  (W:∀ i ys H x H',i<n→F i ys H→J.yld i H x H'→g x (σ++List.replicate nT none) H' (ky n i F D ys te))
  (hd:∀ ys H,F n ys H→Q (.ref D) H):gs J g nh te nT σ D Q H:=by
 refine⟨fun i m ys H=>m=n - i∧i≤n∧F i ys H,⟨n,by simp,yT _,Y⟩,?_⟩
 rintro i m ys H ⟨rfl,hi,p⟩
 by_cases hlt:i<n
 ·exact .inr ⟨S i ys H hlt p,fun x H' y=>W i ys H x H' hlt p y⟩
 ·have e:i=n:=by omega
  subst e;exact .inl ⟨O ys H p,hd ys H p⟩
theorem cB{K:W.Frag}{a:Addr}{xs:List V}{g:TG}{te:TE}{nT:Nat}{σ : St}{D:Addr}{Q:VK}{H:Hp}(F:Nat→List V→Hp→Prop)(J:F 0 [] H)(hl:∀ i ys H,i≤xs.length→F i ys H→rd K H a xs)
  (O:∀ i ys H x,xs[i]? = some x→i<xs.length→F i ys H→g x (σ++List.replicate nT none) H (ky xs.length i F D ys te))
  (hd:∀ ys H,F xs.length ys H→Q (.ref D) H):gs (pN K a) g nh te nT σ D Q H:=by
 refine kM xs.length F J (fun i ys H hi p=>⟨xs,xs[i],hl i ys H (uV hi) p,by simp[hi]⟩) (fun ys H p=>⟨xs,hl _ ys H (zg _) p,zg _⟩) (fun i ys H x H' hi p S=>?_) hd
 obtain⟨rfl,y⟩:=S
 exact O i ys _ x (y xs (hl i ys _ (uV hi) p)) hi p
theorem fq{lo:Int}{n:Nat}{g:TG}{te:TE}{nT:Nat}{σ : St}{D:Addr}{Q:VK}{H:Hp}(F:Nat→List V→Hp→Prop)(J:F 0 [] H)
  (O:∀ i ys H,i<n→F i ys H→g (.int (lo+i)) (σ++List.replicate nT none) H (ky n i F D ys te))
  (hd:∀ ys H,F n ys H→Q (.ref D) H):gs (mJ lo n) g nh te nT σ D Q H:=by
 refine kM n F J (fun i ys H hi p=>hi) (fun ys H p=>zg _) (fun i ys H x H' hi p S=>?_) hd
 obtain⟨rfl,rfl⟩:=S
 exact O i ys _ hi p
def oZ(u:TS)(D:dH)(σ : St)(H:Hp):Prop:=u D σ H
section
variable{D:dH}{σ : St}{H:Hp}{Q:VK}{B:Bool→Hp→Prop}{L:List V→Hp→Prop}{R:It→Hp→Prop}{G:St→Hp→Prop}
theorem jd(t u:TS):zE t u D σ H=t { D with nx:=oZ u D } σ H:=rfl
theorem iq(u:TS):oZ u D σ H=u D σ H:=rfl
theorem ic:Bg D σ H=D.nx σ H:=rfl
theorem jt(c:TT)(t u:TS):EW c t u D σ H=c σ H fun b H1=>if b=true then t D σ H1 else u D σ H1:=rfl
theorem ja(t:TE):Dt t D σ H=t σ H D.rt:=rfl
theorem h_(t:TE):vE t D σ H=t σ H fun _ H1=>D.nx σ H1:=rfl
theorem i4(t:TE)(g:TG):oO t g D σ H=t σ H fun x H1=>g x σ H1 D.nx:=rfl
theorem gQ(i:Nat)(v:V):iU i v σ H G=G (σ.set i (some v)) H:=rfl
theorem jr(F:List V):uW F σ H G=(F=[]∧G σ H):=rfl
theorem ia(t:TG)(u:jA)(F:List V):qS t u F σ H G=∃ v r,F=v::r∧t v σ H fun J H'=>u r J H' G:=rfl
theorem jp(K:W.Frag)(n:Nat)(t:jA)(v:V):vm K n t v σ H G=∃ a xs,v = .ref a∧C3 K H a xs∧xs.length=n∧t xs σ H G:=rfl
theorem jo(to F:TE)(t:lm)(v:V):Ed to F t v σ H G=to σ H fun o H1=>F σ H1 fun i H2=>t o i v H2 fun J=>G σ J:=rfl
theorem i5(i:Nat):pe i σ H Q=∃ v,σ[i]? = some (some v)∧Q v H:=rfl
theorem lS(v:V):tC v σ H Q=Q v H:=rfl
theorem kh(r:R2)(ta tb:TE):ww r ta tb σ H Q=ta σ H fun x H1=>tb σ H1 fun y H2=>r x y H2 Q:=rfl
theorem ig(t:TE):Bu t σ H B=t σ H fun x H'=>∃ k,x = .bl k∧B k H':=rfl
theorem md(t:TE):tB t σ H B=t σ H fun x H'=>∃ k,x = .bl k∧B k H':=rfl
theorem je(t u:TT):E3 t u σ H B=t σ H fun c H1=>if c=true then u σ H1 B else B false H1:=rfl
theorem kn(t u:TT):F7 t u σ H B=t σ H fun c H1=>if c=true then B true H1 else u σ H1 B:=rfl
theorem i7(t:TT):CI t σ H B=t σ H fun c H1=>B (!c) H1:=rfl
theorem h9(ta tb:TE):Bk ta tb σ H Q=ta σ H fun x H1=>∃ c,x = .bl c∧if c=true then tb σ H1 Q else Q (.bl false) H1:=rfl
theorem jb(ta tb:TE):DT ta tb σ H Q=ta σ H fun x H1=>∃ c,x = .bl c∧if c=true then Q (.bl true) H1 else tb σ H1 Q:=rfl
theorem gG(ta:TE):Bl ta σ H Q=ta σ H fun x H1=>∃ c,x = .bl c∧Q (.bl (!c)) H1:=rfl
theorem jY(t:TT)(ta tb:TE):F0 t ta tb σ H Q=t σ H fun c H1=>if c=true then ta σ H1 Q else tb σ H1 Q:=rfl
theorem ka(r:List V→Hp→VK→Prop)(t:TA):yA r t σ H Q=t σ H fun F H1=>r F H1 Q:=rfl
theorem iw(ta:TE)(F:TA):vf ta F σ H L=ta σ H fun x H1=>F σ H1 fun xs H2=>L (x::xs) H2:=rfl
theorem jl:zI σ H L=L [] H:=rfl
theorem jh(t:TA):Ec t σ H Q=t σ H fun xs H1=>xs.length≤sizeLine∧∀ p,H1 p=none→Q (.ref p) (upd H1 p (.tup xs)):=rfl
theorem i8(t:TA):Eg t σ H Q=t σ H fun xs H1=>xs.length≤sizeLine∧∀ p,H1 p=none→Q (.ref p) (upd H1 p (.lst xs)):=rfl
theorem gK(sp:Sp)(dvs:List V)(E:XK)(t:TA):mf sp dvs E t σ H Q=t σ H fun F H1=>sp (F++dvs) H1 Q E:=rfl
theorem ki(K:W.Frag)(T:String)(r:V→List V→Hp→VK→Prop)(to:TE)(t:TA):Bp K T r to t σ H Q=to σ H fun x H1=>xK K T x H1∧t σ H1 fun xs H2=>r x xs H2 Q:=rfl
theorem kl(r:V→Option Int→Option Int→Hp→VK→Prop)(te:TE)(tl th:TO):F1 r te tl th σ H Q=te σ H fun x H1=>tl σ H1 fun l H2=>th σ H2 fun u F=>r x l u F Q:=rfl
theorem iu(t:TE)(O:Option Int→Hp→Prop):AX t σ H O=t σ H fun x H1=>∃ i,x = .int i∧O (some i) H1:=rfl
theorem fh(O:Option Int→Hp→Prop):uo σ H O=O none H:=rfl
theorem ix(wi:TI)(g:TG)(tc:TT)(te:TE)(nT:Nat):qQ wi g tc te nT σ H Q=wi σ H fun J H1=>∀ D,H1 D=none→gs J g tc te nT σ D Q (upd H1 D (.lst [])):=rfl
theorem jv:nh σ H B=B true H:=rfl
theorem im(K:W.Frag)(tl:TE):ve K tl σ H R=tl σ H fun x H1=>∃ a,x = .ref a∧(∃ xs,rd K H1 a xs)∧R (pN K a) H1:=rfl
theorem iC(ta:TA):Bj ta σ H R=ta σ H fun F H1=>∃ j:Int,F=[.int j]∧-(2 ^ 62)≤j∧j<2 ^ 62∧R (mJ 0 j.toNat) H1:=rfl
theorem jX(g:Int→Int→V)(i j:Int):qu g (.int i) (.int j) H Q=Q (g i j) H:=propext ⟨fun ⟨_,_,J,F,q⟩=>by cases J; cases F; exact q,fun q=>⟨i,j,rfl,rfl,q⟩⟩
theorem lZ(C:Int→Int→Prop)(g:Int→Int→V)(i j:Int):rI C g (.int i) (.int j) H Q=(C i j∧Q (g i j) H):=propext ⟨fun ⟨_,_,J,F,q⟩=>by cases J; cases F; exact q,fun q=>⟨i,j,rfl,rfl,q⟩⟩
end
structure AS (K:W.Frag) (mg:Str→Option Value) (x:Str) (st:Stmt):Prop where
 ex:∃ f fd,HB K x x st f fd∧mg x=some (.ref f)
structure C9 (P:Program) (w:World) (K:W.Frag) (mg:Str→Option Value) (base:Heap) (k:Nat) (x:Str) (ps:List Str) (sp:Sp):Prop where
 ex:∃ f fd,EV P w K mg base mI k f fd ps sp∧Binds K fd ps []∧W.keepIn K (.ref f)=true∧mg x=some (.ref f)
section
variable{P:Program}{w:World}{K:W.Frag}{mg:Str→Option Value}{base:Heap}
theorem AS.cal{x:Str}{st:Stmt}{N ps:List Str}{k:Nat}{sp:Sp}(D:AS K mg x st)(S:aT N ps (h8 st))
  (hb:∀ (kV Z pm:Value) (an:Option Addr) (J ct:Value) (us:List Value),us.length=ps.length→bindArgs (W.fnOf x x (DX st) (Dn st) (h8 st) .none kV Z pm an J ct) ⟨us,[]⟩=pure (ps.zip us))
  (len:∀ Y H Q E,sp Y H Q E→Y.length=ps.length)
  (O:∀ (f:Addr) (J:Value) (A:Around) (outer:List Env) (s:Shared) (H:Hp) (Y:List V) (Q:VK) (E:XK),Di k (A.deeper (envOfC x (h8 st) s.heap.objs.size f J))→sp Y H Q E→
   ∃ t,FP (kC mI P w K mg base N x (h8 st) f J A outer s H E).nox (Dn st) t∧t { nx:=fun _ H'=>Q .non H',rt:=Q } (start N Y) H):C9 P w K mg base (k+1) x ps sp:=by
 obtain⟨f,fd,F,m⟩:=D.ex
 exact⟨f,fd,F.ok S len fun J A outer s H Y Q E hr h=>O f J A outer s H Y Q E hr h,F.binds hb,F.kp,m⟩
end
section
variable{X:Cx}
theorem aO{j k:Nat}{x:Str}{ps:List Str}{sp:Sp}{p pos:Pos}{e:Expr}{es:List Expr}{t:TA}(c:C9 X.prog X.w X.K X.mg X.base j x ps sp)(hr:Di k X.A)(O:PA X (e::es) t)(J:j≤k:=by decide)(hg:Gl X x:=by first | exact Gx (by decide +kernel) | rfl)
  (hdb:(x == ("__debug__" : Str))=false:=by decide) (he:starEach (e::es) X.env=(false,eval e X.env)::starEach es X.env:=by rfl) (hpl:(backTo pos (starEach es X.env)).any (·.1)=false:=by rfl) :
  PE X (.Call (.Name x p) (e::es) [] pos) (mf sp [] E0 t):=by
 obtain⟨f,fd,F,b,kp,m⟩:=c.ex
 exact uv F (hr.mono J) hg m kp b .nil Bs O hdb he hpl
theorem l0{x:Str}{i:Int}{pos:Pos}(h:∃ t,X.mg x=some (.int i t))(hg:Gl X x:=by first | exact Gx (by decide +kernel) | rfl)(hd:(x == ("__debug__" : Str))=false:=by decide):PE X (.Name x pos) (tC (.int i)):=by
 obtain⟨t,h⟩:=h
 exact oN hg h ⟨t,rfl⟩ hd
theorem rU{x:Str}{T:String}{pos:Pos}(F:X.mg x=none)(hv:bootBuiltins x=some (.type T))(hg:Gl X x:=by first | exact Gx (by decide +kernel) | rfl)(hn:x ≠ "__name__" := by decide) (hd:(x == ("__debug__" : Str))=false:=by decide):PE X (.Name x pos) (tC (.ty T)):=
 Ct hg F hv rfl hn hd
theorem a_{x:Str}{p pos:Pos}{e:Expr}{es:List Expr}{t:TA}{id:String}{r:List V→Hp→VK→Prop}(O:CV X (.builtin id) r)(J:X.mg x=none)(hv:bootBuiltins x=some (.builtin id))(F:PA X (e::es) t)(hg:Gl X x:=by first | exact Gx (by decide +kernel) | rfl)
  (hn:x ≠ "__name__" := by decide) (hdb:(x == ("__debug__" : Str))=false:=by decide) (he:starEach (e::es) X.env=(false,eval e X.env)::starEach es X.env:=by rfl) (hpl:(backTo pos (starEach es X.env)).any (·.1)=false:=by rfl) :
  PE X (.Call (.Name x p) (e::es) [] pos) (yA r t):=Aj O hg J hv F hn hdb he hpl
theorem iG{x:Str}{p pos:Pos}{e:Expr}{es:List Expr}{t:TA}{T:String}{r:List V→Hp→VK→Prop}(O:CV X (.type T) r)(J:X.mg x=none)(hv:bootBuiltins x=some (.type T))(F:PA X (e::es) t)(hg:Gl X x:=by first | exact Gx (by decide +kernel) | rfl)
  (hn:x ≠ "__name__" := by decide) (hdb:(x == ("__debug__" : Str))=false:=by decide) (he:starEach (e::es) X.env=(false,eval e X.env)::starEach es X.env:=by rfl) (hpl:(backTo pos (starEach es X.env)).any (·.1)=false:=by rfl) :
  PE X (.Call (.Name x p) (e::es) [] pos) (yA r t):=yC O hg J hv F hn hdb he hpl
end
section
variable{X:Cx}
def qT:R2:=fun x y H Q=>match x,y with
 | .int i,.int j=>Q (.int (i+j)) H
 | .str a,.str b=>a.length+b.length≤sizeLine∧Q (.str (a++b)) H
 | .ref l,.ref b=>∃ xs zs,H l=some (.lst xs)∧H b=some (.lst zs)∧xs.length+zs.length≤sizeLine∧∀ p,H p=none→Q (.ref p) (upd H p (.lst (xs++zs)))
 | _,_=>False
theorem bx:D0 X (binaryOp .Add) qT:=by
 intro pins s σ H x y v u Q I F J h
 cases x <;> cases y <;> first
  | exact(show False from h).elim
  | exact Eu pins s σ H _ _ v u Q I F J ⟨_,_,rfl,rfl,h⟩
  | exact vq pins s σ H _ _ v u Q I F J ⟨_,_,rfl,rfl,h⟩
  | (obtain⟨xs,zs,h1,h2,O,S⟩:=h; exact CK pins s σ H _ _ v u Q I F J ⟨_,_,xs,zs,rfl,rfl,h1,h2,O,S⟩)
def AG:R2:=fun x y H Q=>match x,y with
 | .int i,.int j=>Q (.bl (decide (i<j))) H
 | .str i,.str j=>Q (.bl (decide (i.cps.toList<j.cps.toList))) H
 | _,_=>False
theorem lf:D0 X (compareOp .Lt) AG:=by
 intro pins s σ H x y v u Q I F J h
 cases x <;> cases y <;> first
  | exact(show False from h).elim
  | exact Fq pins s σ H _ _ v u Q I F J ⟨_,_,rfl,rfl,h⟩
  | exact xl pins s σ H _ _ v u Q I F J ⟨_,_,rfl,rfl,h⟩
def u5(K:W.Frag):R2:=fun x y H Q=>match x,y with
 | .str i,.str j=>Q (.bl (!(Builtin.Str.occurrences j i 0 j.length 1).isEmpty)) H
 | x,.ref p=>∃ xs,(rd K H p xs∨C3 K H p xs)∧bW x=true∧xs.all bW=true∧Q (.bl (k_ x xs)) H
 | _,_=>False
theorem Cw:D0 X (compareOp .In) (u5 X.K):=by
 intro pins s σ H x y v u Q I F J h
 cases y with
 | str j=>
  cases x with
  | str i=>exact yp pins s σ H _ _ v u Q I F J ⟨i,j,rfl,rfl,h⟩
  | _=>exact(show False from h).elim
 | ref p=>
  have h':∃ xs,(rd X.K H p xs∨C3 X.K H p xs)∧bW x=true∧xs.all bW=true∧Q (.bl (k_ x xs)) H:=by cases x <;> exact h
  obtain⟨xs,h1,h2,O,S⟩:=h'
  exact yB pins s σ H _ _ v u Q I F J ⟨p,xs,rfl,h1,h2,O,S⟩
 | _=>cases x <;> exact(show False from h).elim
def lX(K:W.Frag):R2:=fun x y H Q=>match x,y with
 | .str i,.str j=>Q (.bl (!(!(Builtin.Str.occurrences j i 0 j.length 1).isEmpty))) H
 | x,.ref p=>∃ xs,(rd K H p xs∨C3 K H p xs)∧bW x=true∧xs.all bW=true∧Q (.bl (!k_ x xs)) H
 | _,_=>False
theorem xR:D0 X (compareOp .NotIn) (lX X.K):=by
 intro pins s σ H x y v u Q I F J h
 cases y with
 | str j=>
  cases x with
  | str i=>exact sf pins s σ H _ _ v u Q I F J ⟨i,j,rfl,rfl,h⟩
  | _=>exact(show False from h).elim
 | ref p=>
  have h':∃ xs,(rd X.K H p xs∨C3 X.K H p xs)∧bW x=true∧xs.all bW=true∧Q (.bl (!k_ x xs)) H:=by cases x <;> exact h
  obtain⟨xs,h1,h2,O,S⟩:=h'
  exact sE pins s σ H _ _ v u Q I F J ⟨p,xs,rfl,h1,h2,O,S⟩
 | _=>cases x <;> exact(show False from h).elim
def qM(K:W.Frag):List V→Hp→VK→Prop:=fun xs H Q=>match xs with
 | [.str z]=>z.length≤sizeLine∧Q (.int z.length) H
 | [.ref p]=>∃ ys,(rd K H p ys∨C3 K H p ys)∧Q (.int ys.length) H
 | _=>False
theorem wm:CV X (.builtin "len") (qM X.K):=by
 intro pins s σ H xs us Q I r h
 match xs,h with
 | [.str z],h=>exact rj pins s σ H _ us Q I r ⟨z,rfl,h⟩
 | [.ref p],h=>obtain⟨ys,h1,h2⟩:=h; exact rQ pins s σ H _ us Q I r ⟨p,ys,rfl,h1,h2⟩
def sF(K:W.Frag):R2:=fun x y H Q=>match x,y with
 | .ref p,.int i=>∃ xs v,(rd K H p xs∨C3 K H p xs)∧eK xs i=some v∧Q v H
 | .str z,.int i=>∃ c,z.length≤sizeLine∧eK z.cps.toList i=some c∧Q (.str ⟨#[c]⟩) H
 | _,_=>False
theorem Ip:F2 X (sF X.K):=by
 intro J F pins s σ H x y v u Q I Z Y h W
 refine EJ J F pins s σ H x y v u Q I Z Y ?_ W
 match x,y,h with
 | .ref p,.int i,h=>
  obtain⟨xs,S,h1,h2,O⟩:=h
  rcases h1 with h1 | h1
  ·exact .inl ⟨p,xs,i,S,rfl,rfl,h1,h2,O⟩
  ·exact .inr (.inl ⟨p,xs,i,S,rfl,rfl,h1,h2,O⟩)
 | .str z,.int i,h=>
  obtain⟨c,h1,h2,O⟩:=h
  exact .inr (.inr ⟨z,i,c,rfl,rfl,h1,h2,O⟩)
end
section
variable{K:W.Frag}{H:Hp}{Q:VK}
theorem fT(i j:Int):qT (.int i) (.int j) H Q=Q (.int (i+j)) H:=rfl
theorem fN(a b:Str):qT (.str a) (.str b) H Q=(a.length+b.length≤sizeLine∧Q (.str (a++b)) H):=rfl
theorem f_(l b:Addr):qT (.ref l) (.ref b) H Q=∃ xs zs,H l=some (.lst xs)∧H b=some (.lst zs)∧xs.length+zs.length≤sizeLine∧∀ p,H p=none→Q (.ref p) (upd H p (.lst (xs++zs))):=rfl
theorem ij(i j:Int):AG (.int i) (.int j) H Q=Q (.bl (decide (i<j))) H:=rfl
theorem gJ(i j:Str):AG (.str i) (.str j) H Q=Q (.bl (decide (i.cps.toList<j.cps.toList))) H:=rfl
theorem gY(i j:Str):u5 K (.str i) (.str j) H Q=Q (.bl (!(Builtin.Str.occurrences j i 0 j.length 1).isEmpty)) H:=rfl
theorem gE(x:V)(p:Addr):u5 K x (.ref p) H Q=∃ xs,(rd K H p xs∨C3 K H p xs)∧bW x=true∧xs.all bW=true∧Q (.bl (k_ x xs)) H:=by cases x <;> rfl
theorem eG(i j:Str):lX K (.str i) (.str j) H Q=Q (.bl (!(!(Builtin.Str.occurrences j i 0 j.length 1).isEmpty))) H:=rfl
theorem eF(x:V)(p:Addr):lX K x (.ref p) H Q=∃ xs,(rd K H p xs∨C3 K H p xs)∧bW x=true∧xs.all bW=true∧Q (.bl (!k_ x xs)) H:=by cases x <;> rfl
theorem fL(z:Str):qM K [.str z] H Q=(z.length≤sizeLine∧Q (.int z.length) H):=rfl
theorem fO(p:Addr):qM K [.ref p] H Q=∃ ys,(rd K H p ys∨C3 K H p ys)∧Q (.int ys.length) H:=rfl
theorem gX(p:Addr)(i:Int):sF K (.ref p) (.int i) H Q=∃ xs v,(rd K H p xs∨C3 K H p xs)∧eK xs i=some v∧Q v H:=rfl
theorem gH(z:Str)(i:Int):sF K (.str z) (.int i) H Q=∃ c,z.length≤sizeLine∧eK z.cps.toList i=some c∧Q (.str ⟨#[c]⟩) H:=rfl
theorem gF(p:Addr)(k:Int)(v:V)(G:Hp→Prop):wf (.ref p) (.int k) v H G=∃ xs j,H p=some (.lst xs)∧mH xs.length k=some j∧G (upd H p (.lst (xs.set j v))):=
 propext ⟨fun ⟨_,xs,_,j,J,F,q⟩=>by cases J; cases F; exact⟨xs,j,q⟩,fun ⟨xs,j,q⟩=>⟨p,xs,k,j,rfl,rfl,q⟩⟩
theorem fk(p:Addr)(y:V):l3 (.ref p) [y] H Q=∃ xs,H p=some (.lst xs)∧xs.length<sizeLine∧Q .non (upd H p (.lst (xs++[y]))):=
 propext ⟨fun ⟨_,xs,_,J,F,q⟩=>by cases J; cases F; exact⟨xs,q⟩,fun ⟨xs,q⟩=>⟨p,xs,y,rfl,rfl,q⟩⟩
theorem ji(y:Str):xK K "str" (.str y) H=True:=eq_true rfl
theorem jn(p:Addr):(xK K "list" (.ref p) H)=∃ xs,rd K H p xs:=by
 refine propext ⟨fun h=>?_,fun h=>.inl ⟨rfl,h⟩⟩
 rcases h with ⟨_,h⟩ | ⟨h,_⟩ | ⟨h,_⟩ | ⟨h,_⟩
 ·exact h
 ·exact absurd h (by decide)
 ·exact absurd h (by decide)
 ·exact absurd h (by decide)
end
theorem ce:bootBuiltins "len" = some (.builtin "len"):=by decide +kernel
theorem bQ:bootBuiltins "isinstance" = some (.builtin "isinstance"):=by decide +kernel
theorem Dp:bootBuiltins "any" = some (.builtin "any"):=by decide +kernel
theorem EX:bootBuiltins "min" = some (.builtin "min"):=by decide +kernel
theorem iL:bootBuiltins "sorted" = some (.builtin "sorted"):=by decide +kernel
theorem Ek:bootBuiltins "str" = some (.type "str"):=by decide +kernel
theorem Et:bootBuiltins "int" = some (.type "int"):=by decide +kernel
theorem Bz:bootBuiltins "list" = some (.type "list"):=by decide +kernel
theorem kD:bootBuiltins "tuple" = some (.type "tuple"):=by decide +kernel
theorem ap{X:Cx}(i:Nat){x:Str}{e:Expr}{te:TE}{pos F:Pos}(J:X.N.Nodup)(O:PE X e te)(hi:X.N[i]? = some x:=by rfl)(hx:aQ X.env.scope x:=by first | exact vLl (by decide +kernel) | exact Or.inl rfl)(hs:swapsWith e (some (.Name x F)) pos.line X.env=pure false:=by rfl)
  (hf:X.fn x=true∨X.env.scope.names.lookup x=some .local:=by first | exact .inl rfl | exact .inr rfl | assumption):PS X (.Assign [.Name x F] e pos) (oO te (iU i)):=CJ J hi hx O hs hf
theorem aU{X:Cx}(i:Nat){x:Str}{pos:Pos}(F:X.N.Nodup)(hi:X.N[i]? = some x:=by rfl)(hx:aQ X.env.scope x:=by first | exact vLl (by decide +kernel) | exact Or.inl rfl)
  (hf:X.fn x=true∨X.env.scope.names.lookup x=some .local:=by first | exact .inl rfl | exact .inr rfl | assumption):PG X (.Name x pos) (iU i):=Ci F hi hx hf
structure CW (fsc:Scope) (N N0 T:List Str) (scope:Scope):Prop where
 kind:scope.kind = .function
 nocell:∀ y∈scope.names,y.2 ≠ .cell
 names:∀ y∈scope.names,y.2 = .local→scope.names.lookup y.1=some .local
 free:∀ y∈scope.names,y.2 = .free→fsc.names.lookup y.1=some .cell∨fsc.names.lookup y.1=some .free
 apart:∀ y∈scope.names,y.2 = .local→y.1∉N0
 len0:N0.length=N.length
 same:((N0.zip N).all fun p=>p.1 == p.2 || !(scope.names.any fun y=>y.1 == p.1))=true
theorem CW.to{X:Cx}{fsc:Scope}{N N0 T:List Str}{scope:Scope}(S:CW fsc N N0 T scope)(h1:X.env.scope=fsc)(h2:X.N=N):jS X N0 T scope:=by
 subst h1 h2;refine⟨S.kind,S.nocell,S.names,S.free,S.apart,S.len0,fun i x k e m=>?_⟩
 have hl:=S.len0;have hi:i<N0.length:=(HL.mp e).1
 have F:X.N[i]? = some X.N[i]:=za (by omega)
 have hz:(x,X.N[i])∈N0.zip X.N:=zX (i:=i) (by rw[zbE]; exact⟨e,F⟩)
 have q:=Im.mp S.same _ hz;simp only[GW,beq_iff_eq,Bool.not_eq_true']at q
 rcases q with q | q
 ·rw[F,← q]
 ·have:(scope.names.any fun y=>y.1 == x)=true:=List.any_eq_true.mpr ⟨_,m,by simp⟩
  rw[this]at q; cases q
def Dy:R2:=FO
def v6:R2:=F8
theorem jE{X:Cx}:D0 X (compareOp .Eq) Dy:=FC
theorem lc{X:Cx}:D0 X (compareOp .NotEq) v6:=Fm
section
variable{K:W.Frag}{H:Hp}{Q:VK}
theorem ib(i j:Int):Dy (.int i) (.int j) H Q=Q (.bl (decide (i=j))) H:=by
 have e:decide (V.int i=V.int j)=decide (i=j):=by by_cases h:i=j <;> simp[h]
 show (se (.int i) (.int j)=true∧Q (.bl (decide (V.int i=V.int j))) H)=_
 rw[e]; exact propext ⟨fun h=>h.2,fun h=>⟨rfl,h⟩⟩
theorem fH(i j:Int):v6 (.int i) (.int j) H Q=Q (.bl (!decide (i=j))) H:=by
 have e:decide (V.int i=V.int j)=decide (i=j):=by by_cases h:i=j <;> simp[h]
 show (se (.int i) (.int j)=true∧Q (.bl (!decide (V.int i=V.int j))) H)=_
 rw[e]; exact propext ⟨fun h=>h.2,fun h=>⟨rfl,h⟩⟩
end
theorem Fl{X:Cx}:FH X wf:=Ao
section
variable{X:Cx}(K:W.Frag)
theorem oH(F:X.K=K:=by rfl):D0 X (compareOp .In) (u5 K):=F ▸ Cw
theorem wF(F:X.K=K:=by rfl):D0 X (compareOp .NotIn) (lX K):=F ▸ xR
theorem bq(F:X.K=K:=by rfl):CV X (.builtin "len") (qM K):=F ▸ wm
theorem aZ(F:X.K=K:=by rfl):F2 X (sF K):=F ▸ Ip
theorem yz(F:X.K=K:=by rfl)(hc:X.calm=true:=by rfl):CV X (.builtin "any") (zn K):=F ▸ xT hc
theorem dD(F:X.K=K:=by rfl):SlR X (yY K):=F ▸ Cc
theorem bT{tg l:Expr}{tl:TE}(hl:PE X l tl)(F:X.K=K:=by rfl):PI X tg l (ve K tl):=F ▸ BH hl
theorem ff{es:List Expr}{k n:Nat}{t:jA}{pos:Pos}(h:PGs X es t)(F:(assignEach es X.env).length=n:=by rfl)(hst:(assignEach es X.env).findIdx? (·.1)=none:=by rfl)(hK:X.K=K:=by rfl)(hc:X.calm=true:=by rfl):PG X (.Tuple es k pos) (vm K n t):=hK ▸ DR hc h F hst
theorem dw{o e:Expr}{es:List Expr}{to:TE}{t:TA}{name:Str}{apos cpos:Pos}{T id:String}{r:V→List V→Hp→VK→Prop}(O:PlainAttrs T)(slot:Slot T name id)(J:typeOf (.builtin id)=pure (.type "method_descriptor")) (S:GI X id r) (Y:PE X o to) (W:PA X (e::es) t)
  (F:attributeBase o name X.env (eval o X.env)=eval o X.env:=by rfl)
  (hfew:((backTo cpos (starEach (e::es) X.env)).all (fun x=>!x.1)&&(backToKw cpos (keywordEach [] X.env)).all (fun x=>x.1.isSome)&&decide ((e::es).length+([]:List Keyword).length+(if ([]:List Keyword).isEmpty then 0 else 1)<30))=true:=by rfl)
  (hline:(apos.endLine == cpos.line)=true:=by rfl) (hs:starEach (e::es) X.env=(false,eval e X.env)::starEach es X.env:=by rfl) (hplain:(backTo cpos (starEach es X.env)).any (·.1)=false:=by rfl) (hK:X.K=K:=by rfl) :
  PE X (.Call (.Attribute o name apos) (e::es) [] cpos) (Bp K T r to t):=hK ▸ Fe O slot J S Y W F hfew hline hs hplain
theorem tO(F:X.K=K:=by rfl):CV X (.type "tuple") (fun xs H Q=>∃ p ys,xs=[.ref p]∧((rd K H p ys∧∀ l,H l=none→Q (.ref l) (upd H l (.tup ys)))∨(C3 K H p ys∧Q (.ref p) H))):=F ▸ qA
end
theorem jZ(n:Int)(P:Int→Prop):(∃ j,[V.int n]=[V.int j]∧P j)=P n:=propext ⟨fun ⟨_,e,h⟩=>by cases e; exact h,fun h=>⟨n,rfl,h⟩⟩
theorem jf(x:V)(xs:List V)(P:V→List V→Prop):(∃ v r,x::xs=v::r∧P v r)=P x xs:=propext ⟨fun ⟨_,_,e,h⟩=>by cases e; exact h,fun h=>⟨x,xs,rfl,h⟩⟩
def bi(scope fsc:Scope):Scope:={ scope with names:=scope.names.map fun (n,k)=>if (k == .free&&fsc.kind == .function&&fsc.names.lookup n == some .cell) then (n,.cell) else (n,k) }
section
variable{X:Cx}{N0 T:List Str}{scope:Scope}{C:Addr}{fp:List Addr}{s:Shared}{H:Hp}{x:Str}
theorem sw(fsc:Scope)(h:(bi scope fsc).names.lookup x=some .globalImplicit)(e:X.env.scope=fsc:=by rfl):Gl (cu X N0 T scope C fp s H) x:=by subst e; exact h
theorem bP(fsc:Scope)(h:((bi scope fsc).names.lookup x=some .local||(bi scope fsc).names.lookup x=some .cell||(bi scope fsc).names.lookup x=some .free)=true)(e:X.env.scope=fsc:=by rfl):aq (cu X N0 T scope C fp s H).env.scope x:=by
 subst e;simp only[GW,decide_eq_true_eq]at h
 rcases h with (h | h) | h
 ·exact .inl h
 ·exact .inr (.inl h)
 ·exact .inr (.inr h)
theorem dG(fsc:Scope)(h:(bi scope fsc).names.lookup x=some .local)(e:X.env.scope=fsc:=by rfl):aQ (cu X N0 T scope C fp s H).env.scope x:=by subst e; exact .inl h
theorem fm(fsc:Scope)(h:(bi scope fsc).names.lookup x=some .local)(e:X.env.scope=fsc:=by rfl):(cu X N0 T scope C fp s H).fn x=true∨(cu X N0 T scope C fp s H).env.scope.names.lookup x=some .local:=by subst e; exact .inr h
end
theorem cL{X:Cx}:GI X "list.append" l3:=ll
theorem PW.pt'{X:Cx}{e:Expr}{t:TT}(h:PW X e t):PT X e t:=h.pt
theorem jC{t u:TS}{D:dH}{σ : St}{H:Hp}(I:St→Hp→Prop)(h:∀ k:St→Hp→Prop,(∀ σ' H',I σ' H'→k σ' H')→t { D with nx:=k } σ H)(hu:∀ σ' H',I σ' H'→oZ u D σ' H'):oZ (zE t u) D σ H:=h _ hu
theorem hJ{σ : St}{H:Hp}{Q:VK}(F:List (TE × TE)):Bd F σ H Q=∀ p,H p=none→jI F σ (upd H p (.dK [])) fun ps H2=>H2 p=some (.dK [])∧∃ kvs:List (bM × V),ps=kvs.map (fun J=>(kV J.1,J.2))∧kvs.length≤15∧Q (.ref p) (upd H2 p (.dK (km [] kvs))):=rfl
theorem fg{σ : St}{H:Hp}{Q:List (V × V)→Hp→Prop}:jI [] σ H Q=Q [] H:=rfl
theorem eE{σ : St}{H:Hp}{Q:List (V × V)→Hp→Prop}(J F:TE)(r:List (TE × TE)):jI ((J,F)::r) σ H Q=J σ H fun x H1=>F σ H1 fun y H2=>jI r σ H2 fun ps O=>Q ((x,y)::ps) O:=rfl
theorem mu.upd{H H':Hp}{p:Addr}(F:mu H H')(h:H p=none)(o:HO):mu H (upd H' p o):=fun b u q=>by rw[al (au q h)]; exact F b u q
theorem ay{H:Hp}{p:Addr}(h:H p=none)(o:HO):mu H (upd H p o):=fun b u q=>by rw[al (au q h)]; exact q
end L2
namespace L2
open PySem PySem.Spec PyProof.Rows PySem.SeqAt
def D8(K:W.Frag)(H:Hp):Nat→V→V→Bool→Prop
 | 0,x,y,b=>bW x=true∧bW y=true∧b=iF x y
 | n+1,x,y,b=>(bW x=true∧bW y=true∧b=iF x y)∨∃ a c xs ys,x = .ref a∧y = .ref c∧((rd K H a xs∧rd K H c ys)∨(C3 K H a xs∧C3 K H c ys))∧
   ((∃ e:Nat→Bool,xs.length=ys.length∧(∀ (i:Nat) x y,xs[i]? = some x→ys[i]? = some y→D8 K H n x y (e i))∧b=(List.range xs.length).all e)∨
    (rd K H a xs∧rd K H c ys∧xs.length≠ys.length∧b=false))
theorem nj:∀ {x:V},bW x=true→iF x x=true
 | .non,_=>rfl
 | .bl b,_=>by simp[iF]
 | .int i,_=>by simp[iF]
 | .str y,_=>by simp[iF]
section
variable{X:Cx}{pins:List (Addr × Obj)}{σ : St}{H:Hp}{s:Shared}
theorem D8.self(I:Inv X pins σ H s):∀ {n:Nat} {x:V} {b:Bool},D8 X.K H n x x b→b=true
 | 0,x,b,h=>by obtain⟨h1,_,rfl⟩:=h; exact nj h1
 | n+1,x,b,h=>by
  rcases h with ⟨h1,_,rfl⟩ | ⟨a,c,xs,ys,rfl,e,W,h⟩
  ·exact nj h1
  ·cases e
   have S:xs=ys:=by
    rcases W with ⟨J,O⟩ | ⟨J,O⟩
    ·exact I.list_inj J O
    ·exact I.tuple_inj J O
   subst S;rcases h with ⟨e,_,Y,rfl⟩ | ⟨_,_,z,_⟩
   ·rw[za2]
    intro i hi
    have F:=HV.mp hi;have q:=Y i xs[i] xs[i] (za F) (za F);exact D8.self I q
   ·exact absurd rfl z
theorem D8.rc(I:Inv X pins σ H s){n:Nat}(ih:∀ {A:Around} {x y:V} {b:Bool} {u v:Value},A.units+n<cLine→D8 X.K H n x y b→RelV x u→RelV y v→EqAt A s u v b)
  {A:Around} {a c:Addr} {xs ys:List V} {b:Bool} (hu:A.units+(n+1)<cLine) (hq:(rd X.K H a xs∧rd X.K H c ys)∨(C3 X.K H a xs∧C3 X.K H c ys))
  (h:(∃ e:Nat→Bool,xs.length=ys.length∧(∀ (i:Nat) x y,xs[i]? = some x→ys[i]? = some y→D8 X.K H n x y (e i))∧b=(List.range xs.length).all e)∨(rd X.K H a xs∧rd X.K H c ys∧xs.length≠ys.length∧b=false)) :
  RcAt A s (.ref a) (.ref c) b∧RcNeAt A s (.ref a) (.ref c) (!b):=by
 have Y:A.in1.units+n<cLine:=by
  have:A.in1.units=A.units+1:=rfl
  omega
 rcases h with ⟨e,hl,he,rfl⟩ | ⟨Z,W,hl,rfl⟩
 ·rcases hq with ⟨Z,W⟩ | ⟨Z,W⟩
  ·obtain⟨i1,S,J,z1⟩:=I.list Z
   obtain⟨i2,O,p2,z2⟩:=I.list W
   have l1:=S.length;have l2:=O.length
   have F:∀ j (h1:j<i1.toArray.size) (h2:j<i2.toArray.size),EqAt A.in1 s i1.toArray[j] i2.toArray[j] (e j):=fun j h1 h2=>by
    obtain⟨x,hx,rx⟩:=S.of (i:=j) (u:=i1.toArray[j]) (by simp at h1 ⊢)
    obtain⟨y,hy,ry⟩:=O.of (i:=j) (u:=i2.toArray[j]) (by simp at h2 ⊢)
    exact ih Y (he j x y hx hy) rx ry
   have ez:xs.length=i1.toArray.size:=by simp; omega
   rw[ez];exact⟨RcAt.lists J.isList p2.isList (by simp; omega) (by omega) F,RcNeAt.lists J.isList p2.isList (by simp; omega) (by omega) F⟩
  ·obtain⟨i1,S,J,z1⟩:=I.tuple Z
   obtain⟨i2,O,p2,z2⟩:=I.tuple W
   have l1:=S.length;have l2:=O.length
   have F:∀ j (h1:j<i1.toArray.size) (h2:j<i2.toArray.size),EqAt A.in1 s i1.toArray[j] i2.toArray[j] (e j):=fun j h1 h2=>by
    obtain⟨x,hx,rx⟩:=S.of (i:=j) (u:=i1.toArray[j]) (by simp at h1 ⊢)
    obtain⟨y,hy,ry⟩:=O.of (i:=j) (u:=i2.toArray[j]) (by simp at h2 ⊢)
    exact ih Y (he j x y hx hy) rx ry
   have ez:(List.range xs.length).all e=((List.range (min i1.toArray.size i2.toArray.size)).all e&&i1.toArray.size == i2.toArray.size):=by
    have e1:i1.toArray.size=xs.length:=by simp; omega
    have e2:i2.toArray.size=xs.length:=by simp; omega
    rw[e1,e2,Nat.min_self]; simp
   rw[ez];exact⟨RcAt.tuples (show s.heap.IsTuple a i1.toArray from J) (show s.heap.IsTuple c i2.toArray from p2) (by omega) F,RcNeAt.tuples (show s.heap.IsTuple a i1.toArray from J) (show s.heap.IsTuple c i2.toArray from p2) (by omega) F⟩
 ·obtain⟨i1,S,J,z1⟩:=I.list Z
  obtain⟨i2,O,p2,z2⟩:=I.list W
  have l1:=S.length;have l2:=O.length
  have aa:(i1.toArray.size != i2.toArray.size)=true:=by
   rw[bne_iff_ne]; simp; omega
  exact⟨RcAt.lists_lengths J.isList p2.isList aa (by omega),RcNeAt.lists_lengths J.isList p2.isList aa (by omega)⟩
theorem D8.at(I:Inv X pins σ H s):∀ {n:Nat} {A:Around} {x y:V} {b:Bool} {u v:Value},A.units+n<cLine→D8 X.K H n x y b→RelV x u→RelV y v→EqAt A s u v b
 | 0,A,x,y,b,u,v,_,h,J,F=>by obtain⟨h1,h2,rfl⟩:=h; exact iH J F h1 h2
 | n+1,A,x,y,b,u,v,hu,h,J,F=>by
  have W:=h;rcases h with ⟨h1,h2,rfl⟩ | ⟨a,c,xs,ys,rfl,rfl,S,h⟩
  ·exact iH J F h1 h2
  ·cases J
   cases F
   by_cases hac:a=c
   ·subst hac
    rw[D8.self I W];exact EqAt.same _
   ·exact EqAt.of_refs hac (D8.rc I (fun O q J F=>D8.at I O q J F) hu S h).1
end
section
variable{X:Cx}
def AJ(K:W.Frag):R2:=fun x y H Q=>∃ (a c:Addr) (n:Nat) (b:Bool),x = .ref a∧y = .ref c∧n≤100∧D8 K H (n+1) x y b∧Q (.bl b) H
def AE(K:W.Frag):R2:=fun x y H Q=>∃ (a c:Addr) (n:Nat) (b:Bool),x = .ref a∧y = .ref c∧n≤100∧D8 K H (n+1) x y b∧Q (.bl (!b)) H
theorem E4(hu:X.A.units+101<cLine):D0 X (compareOp .Eq) (AJ X.K):=by
 intro pins s σ H x y v u Q I J F h
 obtain⟨a,c,n,b,rfl,rfl,hn,Z,q⟩:=h
 cases J
 cases F;rcases Z with ⟨h1,_⟩ | ⟨a',c',xs,ys,Y,S,W,h⟩
 ·cases h1
 ·cases Y
  cases S;exact(D8.rc I (fun O q J F=>D8.at I O q J F) (by omega) W h).1 _ _ _ _ ⟨.bl b,H,I,rfl,q⟩
theorem Df(hu:X.A.units+101<cLine):D0 X (compareOp .NotEq) (AE X.K):=by
 intro pins s σ H x y v u Q I J F h
 obtain⟨a,c,n,b,rfl,rfl,hn,Z,q⟩:=h
 cases J
 cases F;rcases Z with ⟨h1,_⟩ | ⟨a',c',xs,ys,Y,S,W,h⟩
 ·cases h1
 ·cases Y
  cases S;exact(D8.rc I (fun O q J F=>D8.at I O q J F) (by omega) W h).2 _ _ _ _ ⟨.bl (!b),H,I,rfl,q⟩
theorem BO(K:W.Frag){k:Nat}(hr:Di k X.A)(F:X.K=K:=by rfl):D0 X (compareOp .Eq) (AJ K):=by subst F; exact E4 (by have:=hr.un; omega)
theorem pq(K:W.Frag){k:Nat}(hr:Di k X.A)(F:X.K=K:=by rfl):D0 X (compareOp .NotEq) (AE K):=by subst F; exact Df (by have:=hr.un; omega)
end
section
variable{K:W.Frag}{H:Hp}{Q:VK}
theorem ii(a c:Addr):AJ K (.ref a) (.ref c) H Q=∃ (n:Nat) (b:Bool),n≤100∧D8 K H (n+1) (.ref a) (.ref c) b∧Q (.bl b) H:=
 propext ⟨fun ⟨_,_,n,b,J,F,q⟩=>⟨n,b,q⟩,fun ⟨n,b,q⟩=>⟨a,c,n,b,rfl,rfl,q⟩⟩
theorem fS(a c:Addr):AE K (.ref a) (.ref c) H Q=∃ (n:Nat) (b:Bool),n≤100∧D8 K H (n+1) (.ref a) (.ref c) b∧Q (.bl (!b)) H:=
 propext ⟨fun ⟨_,_,n,b,J,F,q⟩=>⟨n,b,q⟩,fun ⟨n,b,q⟩=>⟨a,c,n,b,rfl,rfl,q⟩⟩
theorem D8.flat{n:Nat}{x y:V}(hx:bW x=true)(F:bW y=true):D8 K H n x y (iF x y):=by
 cases n with
 | zero=>exact⟨hx,F,rfl⟩
 | succ n=>exact .inl ⟨hx,F,rfl⟩
theorem D8.refl{n:Nat}{x:V}(hx:bW x=true):D8 K H n x x true:=by
 have q:D8 K H n x x (iF x x):=D8.flat hx hx
 rwa [nj hx]at q
theorem D8.seq{n:Nat}{a c:Addr}{xs ys:List V}(J:(rd K H a xs∧rd K H c ys)∨(C3 K H a xs∧C3 K H c ys))(hl:xs.length=ys.length)(F:∀ (i:Nat) x y,xs[i]? = some x→ys[i]? = some y→D8 K H n x y true):D8 K H (n+1) (.ref a) (.ref c) true:=
 .inr ⟨a,c,xs,ys,rfl,rfl,J,.inl ⟨fun _=>true,hl,F,by simp⟩⟩
theorem D8.seqFlat{n:Nat}{a c:Addr}{xs:List V}(O:(rd K H a xs∧rd K H c xs)∨(C3 K H a xs∧C3 K H c xs))(hf:∀ x∈xs,bW x=true):D8 K H (n+1) (.ref a) (.ref c) true:=
 D8.seq O rfl fun i x y J F=>by
  rw[J]at F; cases F
  exact D8.refl (hf x (zX J))
theorem D8.strs{n:Nat}{a c:Addr}{ss ts:List Str}(h1:rd K H a (ss.map V.str))(h2:rd K H c (ts.map V.str)):D8 K H (n+1) (.ref a) (.ref c) (decide (ss=ts)):=by
 refine .inr ⟨a,c,_,_,rfl,rfl,.inl ⟨h1,h2⟩,?_⟩
 by_cases hl:ss.length=ts.length
 ·refine .inl ⟨fun i=>ss.getD i default == ts.getD i default,by simp[hl],fun i x y O J=>?_,?_⟩
  ·rw[ze]at O J
   cases q1:ss[i]? with
   | none=>rw[q1]at O; cases O
   | some u=>
    cases q2:ts[i]? with
    | none=>rw[q2]at J; cases J
    | some v=>
     rw[q1]at O; rw[q2]at J
     cases O; cases J
     dsimp only
     rw[zp,zp,q1,q2];exact D8.flat rfl rfl
  ·rw[zc]
   by_cases e:ss=ts
   ·subst e
    rw[decide_eq_true rfl]
    symm
    rw[za2];intro i _
    simp
   ·rw[decide_eq_false e]
    symm
    rw[List.all_eq_false]
    have:∃ i:Nat,ss[i]? ≠ ts[i]?:=by
     refine iO fun S=>e (za3 fun i=>?_)
     exact iO fun h=>S ⟨i,h⟩
    obtain⟨i,hi⟩:=this
    have F:i<ss.length:=by
     refine iO fun S=>hi ?_
     rw[oQ (by omega),oQ (by omega)]
    refine⟨i,HV.mpr F,?_⟩
    rw[zp,zp,za F,za (by omega)]
    rw[za F,za (by omega)]at hi
    simpa using hi
 ·have e:ss≠ts:=fun e=>hl (by rw[e])
  rw[decide_eq_false e];exact .inr ⟨h1,h2,by simpa using hl,rfl⟩
end
theorem xW{y:Str}:∀ {l:List Str} {j:Nat},j<l.idxOf y→∀ (h:j<l.length),l[j]≠y
 | n::r,0,h,_=>by
  intro e
  have F:n=y:=e
  subst F;simp at h
 | n::r,j+1,h,h2=>by
  by_cases e:n=y
  ·subst e; simp at h
  ·rw[za4]at h
   have J:(n == y)=false:=beq_eq_false_iff_ne.mpr e
   rw[J]at h
   have h':j+1<r.idxOf y+1:=h
   have q:=xW (y:=y) (l:=r) (j:=j) (by omega) (by simpa using h2)
   simpa using q
section
variable{X:Cx}
def xm(K:W.Frag):List V→Hp→VK→Prop:=fun xs H Q=>∃ (p:Addr) (ss:List Str),xs=[.ref p]∧rd K H p (ss.map V.str)∧ss.length<64∧∀ (l:Addr) (ts:List Str),H l=none→ts.Perm ss→sortedS ts=true→Q (.ref l) (upd H l (.lst (ts.map V.str)))
theorem gb{K:W.Frag}{H:Hp}{Q:VK}(p:Addr):xm K [.ref p] H Q=∃ ss:List Str,rd K H p (ss.map V.str)∧ss.length<64∧∀ (l:Addr) (ts:List Str),H l=none→ts.Perm ss→sortedS ts=true→Q (.ref l) (upd H l (.lst (ts.map V.str))):=
 propext ⟨fun ⟨_,ss,e,q⟩=>by cases e; exact⟨ss,q⟩,fun ⟨ss,q⟩=>⟨p,ss,rfl,q⟩⟩
theorem kL(K:W.Frag)(S:X.K=K:=by rfl):CV X (.builtin "sorted") (xm K):=by
 subst S;intro pins s σ H xs us Q I r h
 obtain⟨p,ss,rfl,hq,Y,q⟩:=h
 obtain⟨u,rfl,Z⟩:=dU r
 cases Z;obtain⟨F,O,pl,hz⟩:=I.list hq
 have J:F.length=ss.length:=by rw[← O.length,zc]
 refine sorted_strs pl.isList (ly O) (by omega) fun out ts h1 h2 h3=>?_
 obtain⟨e,he⟩:=sortedAll_at s.heap F out
 have hl:ts.length=ss.length:=h2.length_eq
 have hs:sizeLine=16777216:=sizeLine_eq
 exact⟨.ref (s.heap.objs.size+1),_,I.laid (t':=s.toks) (fun b o e=>sortedAll_old e) (GZ _) (show Ax X.prog X.w _ _ _ (.lst (ts.map V.str)) from ⟨by rw[zc]; omega,out.toList,e,lH h1,by simpa using he⟩),rfl,
  q _ ts (I.hok.fresh (GZ _)) h2 h3⟩
def uy(K:W.Frag):V→List V→Hp→VK→Prop:=fun x vs H Q=>∃ (p:Addr) (ss:List Str) (y:Str),x = .ref p∧vs=[.str y]∧rd K H p (ss.map V.str)∧y∈ss∧Q (.int (ss.idxOf y:Nat)) H
theorem fe{K:W.Frag}{H:Hp}{Q:VK}(p:Addr)(y:Str):uy K (.ref p) [.str y] H Q=∃ ss:List Str,rd K H p (ss.map V.str)∧y∈ss∧Q (.int (ss.idxOf y:Nat)) H:=
 propext ⟨fun ⟨_,ss,_,J,F,q⟩=>by cases J; cases F; exact⟨ss,q⟩,fun ⟨ss,q⟩=>⟨p,ss,y,rfl,rfl,q⟩⟩
theorem qe(K:W.Frag)(hK:X.K=K:=by rfl):GI X "list.index" (uy K):=by
 subst hK;intro pins s σ H x xs v us Q I Z r h
 obtain⟨p,ss,y,rfl,rfl,hq,hy,q⟩:=h
 cases Z;obtain⟨u,rfl,ru⟩:=dU r
 obtain⟨t,rfl⟩:=ru
 obtain⟨J,rv,pl,hz⟩:=I.list hq
 have S:J.length=ss.length:=by rw[← rv.length,zc]
 rw[zc]at hz
 have hs:sizeLine=16777216:=sizeLine_eq
 obtain⟨⟨cls,dd,data,sl⟩,ho,hc,n,hd⟩:=pl.isList
 simp only at hc hd
 subst hc hd;have hj:ss.idxOf y<ss.length:=HM.mpr hy
 have O:∀ (i:Nat) (h:i<J.length),∃ t',J[i] = .str ss[i] t':=fun i h=>by
  obtain⟨x,hx,Z⟩:=rv.of (i:=i) (u:=J[i]) (za h)
  rw[ze,za (by omega)]at hx
  have ad:V.str ss[i]=x:=Option.some.inj hx
  subst ad;exact Z
 refine call_meets zbj ⟨_,ho,rfl⟩ F.entry_list_index (F.args_list_index_2 _ _)
  (list_indexAt p J.toArray n dd sl (.str y t) (ef (.str y)) (ss.idxOf y) (by simpa [S] using hj) (by omega) ?_ ?_) ⟨ho,fun z hz=>?_,⟨.int _,H,I.tok _,⟨_,rfl⟩,q⟩⟩
 ·show ef (.str y) J[ss.idxOf y]=true
  obtain⟨t',e⟩:=O (ss.idxOf y) (by omega)
  rw[e];show (ss[ss.idxOf y] == y)=true
  rw[gV hj]; simp
 ·intro j ag an
  have Y:j<J.length:=by simpa using ag
  show ef (.str y) J[j]=false
  obtain⟨t',e⟩:=O j Y
  rw[e];show (ss[j] == y)=false
  exact beq_eq_false_iff_ne.mpr (xW an _)
 ·have aa:z∈J:=by simpa using hz
  obtain⟨i,hi,rfl⟩:=HN.mp aa
  obtain⟨t',e⟩:=O i hi
  have q':=iH (A:=X.A.in1) (s:=s) (y:=.str ss[i]) (x:=.str y) (u:=J[i]) (v:=.str y t) ⟨t',e⟩ ⟨t,rfl⟩ rfl rfl;rw[e]; rw[e]at q'
  exact q'
end
section
variable{X:Cx}
def DW:R2:=fun x y H Q=>y = .non∧Q (.bl (decide (x = .non))) H
def A4:R2:=fun x y H Q=>y = .non∧Q (.bl (!decide (x = .non))) H
theorem fI:D0 X (compareOp .Is) DW:=CF
theorem nA:D0 X (compareOp .IsNot) A4:=BX
def A1:List V→Hp→VK→Prop:=fun xs H Q=>∃ i,xs=[.int i]∧i.natAbs.log2<1920∧Q (.str (toString i)) H
theorem yF:CV X (.type "str") A1:=sQ
def Bn:List V→Hp→VK→Prop:=fun xs H Q=>(∃ i,xs=[.int i]∧Q (.int i) H)∨∃ k,xs=[.bl k]∧Q (.int (if k then 1 else 0)) H
theorem wW:CV X (.type "int") Bn:=xk
def yn(K:W.Frag):List V→Hp→VK→Prop:=fun xs H Q=>∃ p ys,xs=[.ref p]∧((rd K H p ys∧∀ l,H l=none→Q (.ref l) (upd H l (.tup ys)))∨(C3 K H p ys∧Q (.ref p) H))
theorem lg(K:W.Frag)(F:X.K=K:=by rfl):CV X (.type "tuple") (yn K):=tO K F
def A5:List V→Hp→VK→Prop:=fun xs H Q=>∃ i j,xs=[.int i,.int j]∧Q (.int (if j<i then j else i)) H
theorem xi(F:X.calm=true:=by rfl):CV X (.builtin "min") A5:=yN F
def vZ:R2:=fun x y H Q=>match x,y with
 | .int i,.int j=>GF i j∧Q (.int (i * j)) H
 | .str z,.int n=>0≤n∧n≤4096∧z.length≤4096∧Q (.str (Txt.mul z n)) H
 | _,_=>False
theorem j4:D0 X (binaryOp .Mult) vZ:=by
 intro pins s σ H x y v u Q I F J h
 match x,y,h with
 | .int i,.int j,h=>exact EY pins s σ H _ _ v u Q I F J ⟨_,_,rfl,rfl,h⟩
 | .str z,.int n,h=>
  obtain⟨t,rfl⟩:=F
  obtain⟨t',rfl⟩:=J
  obtain⟨O,h1,h2,q⟩:=h
  exact SB.mul (mulOk_of 4096 4096 h2 (by omega) (by omega) (by decide) (by decide)) fun t' k=>⟨.str (Txt.mul z n),H,I.tok k,⟨t',rfl⟩,q⟩
end
section
variable{K:W.Frag}{H:Hp}{Q:VK}
theorem jq(x:V):DW x .non H Q=Q (.bl (decide (x = .non))) H:=propext ⟨fun h=>h.2,fun h=>⟨rfl,h⟩⟩
theorem hU(x:V):A4 x .non H Q=Q (.bl (!decide (x = .non))) H:=propext ⟨fun h=>h.2,fun h=>⟨rfl,h⟩⟩
theorem il(i:Int):A1 [.int i] H Q=(i.natAbs.log2<1920∧Q (.str (toString i)) H):=propext ⟨fun ⟨_,e,q⟩=>by cases e; exact q,fun q=>⟨i,rfl,q⟩⟩
theorem iy(k:Bool):Bn [.bl k] H Q=Q (.int (if k then 1 else 0)) H:=propext ⟨fun h=>by rcases h with ⟨_,e,q⟩ | ⟨_,e,q⟩ <;> cases e; exact q,fun q=>.inr ⟨k,rfl,q⟩⟩
theorem fK(p:Addr):yn K [.ref p] H Q=∃ ys,((rd K H p ys∧∀ l,H l=none→Q (.ref l) (upd H l (.tup ys)))∨(C3 K H p ys∧Q (.ref p) H)):=propext ⟨fun ⟨_,ys,e,q⟩=>by cases e; exact⟨ys,q⟩,fun ⟨ys,q⟩=>⟨p,ys,rfl,q⟩⟩
theorem gL(i j:Int):A5 [.int i,.int j] H Q=Q (.int (if j<i then j else i)) H:=propext ⟨fun ⟨_,_,e,q⟩=>by cases e; exact q,fun q=>⟨i,j,rfl,q⟩⟩
theorem fZ(i j:Int):vZ (.int i) (.int j) H Q=(GF i j∧Q (.int (i * j)) H):=rfl
theorem fM(z:Str)(n:Int):vZ (.str z) (.int n) H Q=(0≤n∧n≤4096∧z.length≤4096∧Q (.str (Txt.mul z n)) H):=rfl
theorem jx(a:Addr)(lo hi:Option Int):yY K (.ref a) lo hi H Q=∃ xs,rd K H a xs∧∀ p,H p=none→Q (.ref p) (upd H p (.lst (dP xs lo hi))):=propext ⟨fun ⟨_,xs,e,q⟩=>by cases e; exact⟨xs,q⟩,fun ⟨xs,q⟩=>⟨a,xs,rfl,q⟩⟩
end
theorem cH{n:Nat}(h:n≤1000000):n<sizeLine:=by
 have:sizeLine=16777216:=sizeLine_eq
 omega
theorem bG{n:Nat}(h:n≤1000000):n≤sizeLine:=uV (cH h)
theorem xP{α : Type}{f:α→V}{xs:List α}{i:Int}{x:α}(J:0≤i)(h:xs[i.toNat]? = some x):eK (xs.map f) i=some (f x):=by
 have q:(xs.map f)[i.toNat]? = some (f x):=by rw[ze,h]; rfl
 have F:=aE q
 rwa [show ((i.toNat:Nat):Int)=i by omega]at F
theorem Dl{α : Type}{xs:List α}{i:Int}(J:0≤i)(h:i<xs.length):∃ x,xs[i.toNat]? = some x∧eK xs i=some x:=by
 have F:i.toNat<xs.length:=by omega
 refine⟨xs[i.toNat],za F,?_⟩
 have q:=aE (za F)
 rwa [show ((i.toNat:Nat):Int)=i by omega]at q
theorem bj{H H':Hp}{p:Addr}{o:HO}(h:upd H p o=H')(hp:H p=none):mu H H':=h ▸ ay hp o
theorem bV{H H':Hp}{p:Addr}{o:HO}(h:upd H p o=H'):H' p=some o:=h ▸ ak
end L2
namespace L2
open PySem PySem.Spec PyProof.Rows
theorem Inv.turnedL{X:Cx}{pins:List (Addr × Obj)}{σ : St}{H:Hp}{s:Shared}{h':Heap}{t':Nat}{ch:List Addr}(I:Inv X pins σ H s)(k:∀ b o,b∉ch→s.heap.get? b=some o→h'.get? b=some o)
  (hf:∀ b∈ch,iA X pins H b):Inv X pins σ H { s with heap:=h',toks:=t' }:=by
 have J:∀ b u,H b=some u→b∉ch:=fun b u e z=>by rw[(hf b z).1]at e; cases e
 refine I.step (g':=s.gens) (d':=s.drawn) (ch:=ch) (fun b hb=>?_) (fun b o _ _ F e _=>k b o F e) (fun b o _ _ F e _=>⟨o.slots,k b o F e⟩) (fun _ _ _ _ n=>n)
  (fun b o F e=>⟨o,k b o F e⟩) (fun _ _ e=>e) (fun _ _ _ e=>e) (fun b ps e=>⟨#[],by rw[e]; simp⟩) (fun m S=>?_) (fun b u e=>?_) I.bare
 ·obtain⟨_,f1,_,W,Z,O⟩:=hf b hb
  exact⟨W,f1,Z,O⟩
 ·obtain⟨o,es,Y,ho,r⟩:=S
  exact⟨o,es,Y,k _ o (fun z=>(hf _ z).2.1 rfl) ho,r⟩
 ·refine(I.hok b u e).stay (fun c v F q=>k c v ?_ q) (fun _ q=>q) fun _ _ q=>q
  rcases F with z | z
  ·rw[z]; exact J b u e
  ·exact J c _ z
theorem Inv.turnedLaid{X:Cx}{pins:List (Addr × Obj)}{σ : St}{H:Hp}{s:Shared}{h':Heap}{t':Nat}{ch:List Addr}{a:Addr}{o:HO}(I:Inv X pins σ H s)(k:∀ b o,b∉ch→s.heap.get? b=some o→h'.get? b=some o)
  (hf:∀ b∈ch,iA X pins H b) (hp:s.heap.objs.size≤a) (new:Ax X.prog X.w (upd H a o) h' a o):Inv X pins σ (upd H a o) { s with heap:=h',toks:=t' }:=by
 have J:H a=none:=I.hok.fresh hp
 have O:∀ b u,H b=some u→b∉ch:=fun b u e z=>by rw[(hf b z).1]at e; cases e
 refine I.step (g':=s.gens) (d':=s.drawn) (ch:=ch) (fun b S=>?_) (fun b o _ _ F e _=>k b o F e) (fun b o _ _ F e _=>⟨o.slots,k b o F e⟩) (fun b u _ q n=>?_)
  (fun b o F e=>⟨o,k b o F e⟩) (fun b xs q=>?_) (fun b u xs q=>?_) (fun b ps q=>⟨#[],?_⟩) (fun m Y=>?_) (fun b u e=>?_) I.bare
 ·obtain⟨_,f1,_,Z,f4,W⟩:=hf b S
  exact⟨Z,f1,f4,W⟩
 ·rw[al (zM (va (zA q) hp))]; exact n
 ·rw[al (au q J)]; exact q
 ·rw[al (au q J)]; exact q
 ·rw[al (au q J),q]; simp
 ·obtain⟨o,es,ep,ho,r⟩:=Y
  exact⟨o,es,ep,k _ o (fun z=>(hf _ z).2.1 rfl) ho,r⟩
 ·by_cases S:b=a
  ·subst S; rw[ak]at e; cases e; exact new
  ·rw[al S]at e
   refine(I.hok b u e).stay (fun c v F q=>k c v ?_ q) (fun c q=>by rw[al (au q J)]; exact q) fun c xs q=>by rw[al (au q J)]; exact q
   rcases F with z | z
   ·rw[z]; exact O b u e
   ·exact O c _ z
structure xh (z TI TO i1 i2:Addr):Prop where
 TIz:TI≠z
 TOz:TO≠z
 i1z:i1≠z
 i2z:i2≠z
 TITO:TI≠TO
 TIi1:TI≠i1
 TIi2:TI≠i2
 TOi1:TO≠i1
 TOi2:TO≠i2
 i12:i1≠i2
theorem kj{h:Heap}{l c:Addr}{xs:Array Value}{o:Obj}(hl:h.IsList l xs)(e:h.get? c=some o)(O:o.cls ≠ .type "list"):l≠c:=by
 rintro rfl
 obtain⟨o',F,J,_⟩:=hl
 rw[e]at F; cases F
 exact O J
theorem FK(n:Nat):xh (n+4) (n+2) (n+3) n (n+1):=⟨(show (@Ne Nat (n+2) (n+4):Prop) by omega),(show (@Ne Nat (n+3) (n+4):Prop) by omega),(show (@Ne Nat (n) (n+4):Prop) by omega),(show (@Ne Nat (n+1) (n+4):Prop) by omega),(show (@Ne Nat (n+2) (n+3):Prop) by omega),(show (@Ne Nat (n+2) (n):Prop) by omega),(show (@Ne Nat (n+2) (n+1):Prop) by omega),(show (@Ne Nat (n+3) (n):Prop) by omega),(show (@Ne Nat (n+3) (n+1):Prop) by omega),(show (@Ne Nat (n) (n+1):Prop) by omega)⟩
theorem sU:bootBuiltins "zip" = some (.type "zip"):=by decide +kernel
theorem gZ(n m:Addr)(P:Addr→Addr→Prop):(∃ i j,[V.ref n,V.ref m]=[V.ref i,V.ref j]∧P i j)=P n m:=propext ⟨fun ⟨_,_,e,h⟩=>by cases e; exact h,fun h=>⟨n,m,rfl,h⟩⟩
def yo(K:W.Frag)(a:Addr):It:=
  ⟨fun i H=>∃ xs x,rd K H a xs∧xs[i]? = some x,
   fun i H v H'=>∃ t x,H t=none∧v = .ref t∧H'=upd H t (.tup [.int i,x])∧∀ xs,rd K H a xs→xs[i]? = some x,
   fun i H=>∃ xs,rd K H a xs∧xs.length≤i⟩
def KR(e it l:Addr)(i:Nat)(h:Heap):Prop:=(∃ old,IsEnum h e it i old)∧h.IsListIter it l i
theorem yf{P:Program}{w:World}{K:W.Frag}{an:List Expr}{k:Nat}{pos:Pos}{e it l:Addr}(ag:e≠it):mP P w K (.Tuple an k pos) (yo K l) [e,it] e (KR e it l) where
 mem:=by simp
 obj:=fun i h st b O=>by
  obtain⟨⟨J,s1⟩,⟨o4,S,c4,d4⟩⟩:=st
  simp only[vB,Gu,or_false]at O
  rcases O with rfl | rfl
  ·exact⟨_,s1,fun v e=>by cases e⟩
  ·exact⟨_,S,fun v e=>by rw[d4]at e; cases e⟩
 keep:=fun i h h' st kk=>by
  obtain⟨⟨J,s1⟩,S⟩:=st
  exact⟨⟨J,kk e (by simp) _ s1⟩,S.at fun o z=>kk it (by simp) o z⟩
 item:=by
  intro X hP hw hK hc i pins s σ H E I hf st hg
  subst hP hw hK;obtain⟨xs,x,q1,hx⟩:=hg
  obtain⟨a9,Z,p1,_⟩:=I.list q1
  obtain⟨u1,a2,a4⟩:=Z.get hx
  obtain⟨⟨J,s1⟩,S⟩:=st
  refine wpAny_pyNext_enum_item s1 S p1.isList (x:=u1) (by simpa using a2) ag fun h' a1 a3 a5 a6 kk=>?_
  refine⟨_,rfl,wpAny_letOwnedTupleGo_enum a1 fun as a0 Y=>?_⟩
  have lt:∀ {c o},s.heap.get? c=some o→s.heap.objs.size≠c:=fun z=>su (zA z)
  have a8:s.heap.objs.size≠e:=lt s1
  have aa:∀ b o,b∉[e,it]→s.heap.get? b=some o→as.get? b=some o:=fun b o O z=>by
   simp only[vB,Gu,or_false,not_or]at O
   exact Y.extBut _ _ O.1 (kk b o O.1 O.2 z)
  have hsz:H s.heap.objs.size=none:=I.hok.fresh (zg _)
  have ad:=Y.extBut _ _ a8 a5
  have a7:∀ c∈[e,it],c≠s.heap.objs.size:=fun c F=>by
   obtain⟨o4,e4,_⟩:=id S
   simp only[vB,Gu,or_false]at F
   rcases F with rfl | rfl
   ·exact(lt s1).symm
   ·exact(lt e4).symm
  refine⟨.ref s.heap.objs.size,upd H s.heap.objs.size (.tup [.int i,x]),I.turnedLaid (t':=s.toks+1) aa hf (zg _) ⟨bG (by show 2≤1000000; decide),[.int i s.toks,u1],.cons ⟨_,rfl⟩ (.cons a4 .nil),⟨_,ad,rfl,rfl,0,rfl⟩⟩,rfl,⟨_,x,hsz,rfl,rfl,fun bp q'=>?_⟩,
   ⟨⟨_,by simpa using a0⟩,a3.extBut Y.extBut ag.symm⟩,fun c F=>?_⟩
  ·rw[I.list_inj q' q1]; exact hx
  ·rw[al (a7 c F)]; exact(hf c F).1
 done:=by
  intro X hP hw hK hc i pins s σ H E I hf st hg
  subst hP hw hK;obtain⟨xs,q1,be⟩:=hg
  obtain⟨a9,Z,p1,_⟩:=I.list q1
  have l1:=Z.length;obtain⟨⟨J,s1⟩,S⟩:=st
  refine wpAny_pyNext_enum_end (I.ok.hd hc) s1 S p1.isList (by simp; omega) fun h' kk=>⟨rfl,I.turnedL (t':=s.toks) (fun b o O z=>?_) hf⟩
  simp only[vB,Gu,or_false,not_or]at O
  exact kk b o O.2 z
 self:=fun A i s Q E st h=>by
  obtain⟨⟨J,s1⟩,_⟩:=st
  exact wpAny_pyIter_enum s1 h
theorem pH:bootBuiltins "enumerate" = some (.type "enumerate"):=by decide +kernel
def AU(K:W.Frag)(ta:TA):TI:=fun σ H R=>ta σ H fun vs H1=>∃ a:Addr,vs=[.ref a]∧(∃ xs,H1 a=some (.lst xs))∧R (yo K a) H1
theorem iz(K:W.Frag)(ta:TA){σ : St}{H:Hp}{R:It→Hp→Prop}:AU K ta σ H R=ta σ H fun F H1=>∃ a:Addr,F=[.ref a]∧(∃ xs,H1 a=some (.lst xs))∧R (yo K a) H1:=rfl
theorem jm(n:Addr)(P:Addr→Prop):(∃ i,[V.ref n]=[V.ref i]∧P i)=P n:=propext ⟨fun ⟨_,e,h⟩=>by cases e; exact h,fun h=>⟨n,rfl,h⟩⟩
theorem gN(K:W.Frag){X:Cx}{O:List Expr}{k:Nat}{S:Pos}{a:Expr}{ta:TA}{p pos:Pos}(hg:Gl X "enumerate") (hm:X.mg "enumerate" = none) (ha:PA X [a] ta) (hs:starEach [a] X.env=[(false,eval a X.env)]:=by rfl) (hK:X.K=K:=by rfl) :
  PI X (.Tuple O k S) (.Call (.Name "enumerate" p) [a] [] pos) (AU K ta):=by
 subst hK;intro pins s σ H R I h
 refine Call_ (iI I hg hm pH (zaW (bc (ha pos pins s σ H _ I h) fun us s1 ⟨vs,H1,Y,r1,q1⟩=>?_) hs rfl))
 obtain⟨l,e,⟨xs,h1⟩,q⟩:=q1
 subst e;obtain⟨u1,rfl,Z⟩:=dU r1
 obtain rfl:u1=Value.ref l:=Z
 obtain⟨hz,F,n,rv,hl⟩ : xs.length≤sizeLine∧∃ (F:List Value) (n:Nat),wh xs F∧s1.heap.get? l=some { cls:=.type "list", data:=.seq F.toArray n }:=Y.hok l _ h1
 refine call_enumerate_1 hl fun h' a1 a4 a6 kk=>?_
 refine wpAny_pyIter_enum a1 ⟨_,[s1.heap.objs.size+1,s1.heap.objs.size],_,_,H1,rfl,Y.kept (t':=s1.toks) kk,
  yf (e:=s1.heap.objs.size+1) (it:=s1.heap.objs.size) (su (zbF _)),⟨⟨_,a1⟩,a4⟩,fun b hb=>?_,q⟩
 have J:s1.heap.objs.size≤b:=by
  simp only[vB,Gu,or_false]at hb
  rcases hb with rfl | rfl <;> first | exact zg _ | exact Gh _ _
 exact Y.fpOk J (Y.hok.fresh J)
section
variable{K:W.Frag}{a b:Addr}{xs ys:List V}{g:TG}{te:TE}{nT:Nat}{σ : St}{D:Addr}{Q:VK}{H:Hp}
theorem uY(F:Nat→List V→Hp→Prop)(W:F 0 [] H)(hl:∀ i zs H,i≤xs.length→F i zs H→rd K H a xs)
  (J:∀ i zs H x t,xs[i]? = some x→i<xs.length→F i zs H→H t=none→g (.ref t) (σ++List.replicate nT none) (upd H t (.tup [.int i,x])) (ky xs.length i F D zs te))
  (hd:∀ zs H,F xs.length zs H→Q (.ref D) H):gs (yo K a) g nh te nT σ D Q H:=by
 refine kM xs.length F W (fun i zs H hi p=>⟨xs,xs[i],hl i zs H (uV hi) p,by simp[hi]⟩) (fun zs H p=>⟨xs,hl _ zs H (zg _) p,zg _⟩) (fun i zs H v H' hi p Y=>?_) hd
 obtain⟨t,x,S,rfl,rfl,O⟩:=Y
 exact J i zs H x t (O xs (hl i zs H (uV hi) p)) hi p S
theorem iN{tb:TS}{D:dH}(F:Nat→St→Hp→Prop)(Y:F 0 σ H)(hl:∀ i σ H,i≤xs.length→F i σ H→rd K H a xs)
  (J:∀ i x t σ H,xs[i]? = some x→F i σ H→H t=none→g (.ref t) σ (upd H t (.tup [.int i,x])) fun S H2=>tb { D with nx:=F (i+1),ct:=F (i+1),bk:=D.nx } S H2) (hd:∀ σ H,F xs.length σ H→D.nx σ H):rm (yo K a) g tb D σ H:=by
 refine B4 xs.length F Y (fun i σ H hi p=>⟨xs,xs[i],hl i σ H (uV hi) p,by simp[hi]⟩) (fun σ H p=>⟨xs,hl _ σ H (zg _) p,zg _⟩) (fun i σ H v H' hi p Z=>?_) hd
 obtain⟨t,x,W,rfl,rfl,O⟩:=Z
 exact J i x t σ H (O xs (hl i σ H (uV hi) p)) p W
def uX(n i:Nat)(Pv:Nat→List V→Hp→Prop)(ys:List V)(H:Hp):Prop:=∃ m',m'<n - i∧(m'=n - (i+1)∧i+1≤n∧Pv (i+1) ys H)
theorem Fh{n i:Nat}{F:Nat→List V→Hp→Prop}{ys:List V}{H:Hp}(hi:i<n)(h:F (i+1) ys H):uX n i F ys H:=⟨n - (i+1),by omega,rfl,hi,h⟩
theorem DD{n i:Nat}{J:Nat→List V→Hp→Prop}{D:Addr}{ys:List V}{y:V}{H:Hp}(hi:i<n)(F:ys.length≤i)(hz:n≤sizeLine)(h1:H D=some (.lst ys))(h2:J (i+1) (ys++[y]) (upd H D (.lst (ys++[y])))):jN n i J D ys y H:=
 ⟨h1,by omega,n - (i+1),by omega,rfl,hi,h2⟩
def vU(n i:Nat)(Pv:Nat→List V→Hp→Prop)(D:Addr)(ys:List V)(tc:TT)(te:TE)(σ : St)(H:Hp):Prop:=
 tc σ H fun b H4=>if b=true then te σ H4 (jN n i Pv D ys) else uX n i Pv ys H4
theorem gW{n i:Nat}{F:Nat→List V→Hp→Prop}{D:Addr}{ys:List V}{tc:TT}{te:TE}{σ : St}{H:Hp}:vU n i F D ys tc te σ H=tc σ H fun b J=>if b=true then te σ J (jN n i F D ys) else uX n i F ys J:=rfl
theorem AC{J:It}{tc:TT}(n:Nat)(F:Nat→List V→Hp→Prop)(Y:F 0 [] H)(S:∀ i ys H,i<n→F i ys H→J.go i H)(O:∀ ys H,F n ys H→J.stop n H)
  (W:∀ i ys H x H',i<n→F i ys H→J.yld i H x H'→g x (σ++List.replicate nT none) H' (vU n i F D ys tc te))
  (hd:∀ ys H,F n ys H→Q (.ref D) H):gs J g tc te nT σ D Q H:=by
 refine⟨fun i m ys H=>m=n - i∧i≤n∧F i ys H,⟨n,by simp,yT _,Y⟩,?_⟩
 rintro i m ys H ⟨rfl,hi,p⟩
 by_cases hlt:i<n
 ·exact .inr ⟨S i ys H hlt p,fun x H' y=>W i ys H x H' hlt p y⟩
 ·have e:i=n:=by omega
  subst e;exact .inl ⟨O ys H p,hd ys H p⟩
theorem tJ{tc:TT}{lo:Int}{n:Nat}(F:Nat→List V→Hp→Prop)(O:F 0 [] H)
  (J:∀ i ys H,i<n→F i ys H→g (.int (lo+i)) (σ++List.replicate nT none) H (vU n i F D ys tc te))
  (hd:∀ ys H,F n ys H→Q (.ref D) H):gs (mJ lo n) g tc te nT σ D Q H:=by
 refine AC n F O (fun i ys H hi p=>hi) (fun ys H p=>zg _) (fun i ys H x H' hi p S=>?_) hd
 obtain⟨rfl,rfl⟩:=S
 exact J i ys _ hi p
end
set_option genInjectivity false in
set_option genSizeOf false in
structure IK (prog:Program) (w:World) (κ : Type) [DecidableEq κ] where
 is:Heap→κ→Value→Prop
 hash:κ→Int
 draws:κ→Nat
 deep:Nat
 inj:∀ {h:Heap} {v:Value} {x y:κ},is h x v→is h y v→x=y
 keeps:∀ {h h':Heap} {k:κ} {v:Value} {d:Addr} {o:Obj} {es ep},is h k v→h.get? d=some o→o.data = .dict es ep→Heap.SameBut d h h'→is h' k v
 pyHash:∀ {A:Around} {E:Value→Shared→Prop} {s:Shared} {k:κ} {v:Value} {Q:Int→Shared→Prop},A.units+deep<cLine→is s.heap k v→Q (hash k) { s with toks:=s.toks+draws k }→
  wpAny (model prog w) A (PySem.pyHash v) Q E s
 eqBool:∀ {A:Around} {E:Value→Shared→Prop} {s:Shared} {x y:κ} {u v:Value} {Q:Bool→Shared→Prop},A.units+deep<cLine→is s.heap x u→is s.heap y v→Q (decide (x=y)) s→
  wpAny (model prog w) A (PySem.eqBool u v) Q E s
 quiet:∀ {A:Around} {E:Value→Shared→Prop} {s:Shared} {k:κ} {v:Value} {n:Nat} {Q:Bool→Shared→Prop},is s.heap k v→Q true s→wpAny (model prog w) A (eqIsQuiet (n+deep) v) Q E s
section
variable{prog:Program}{w:World}{κ : Type}[DecidableEq κ](K:IK prog w κ)
inductive Cz (h:Heap):List κ→List Value→Prop
 | nil:Cz h [] []
 | cons {k:κ} {v:Value} {ks:List κ} {vs:List Value}:K.is h k v→Cz h ks vs→Cz h (k::ks) (v::vs)
def Dd(h:Heap)(ks:List κ)(v:Value):Prop:=∃ a o items n,v = .ref a∧h.get? a=some o∧o.cls = .type "tuple" ∧ o.data = .seq items n∧Cz K h ks items.toList
variable{K}
theorem Cz.inj{h:Heap}:∀ {x y:List κ} {F:List Value},Cz K h x F→Cz K h y F→x=y
 | _,_,_,.nil,.nil=>rfl
 | _,_,_,.cons a b,.cons c d=>by rw[K.inj a c,Cz.inj b d]
theorem Cz.keeps{h h':Heap}{d:Addr}{o:Obj}{es ep}(O:h.get? d=some o)(hd:o.data = .dict es ep)(F:Heap.SameBut d h h'):∀ {x:List κ} {J:List Value},Cz K h x J→Cz K h' x J
 | _,_,.nil=>.nil
 | _,_,.cons a b=>.cons (K.keeps a O hd F) (b.keeps O hd F)
theorem Cz.len{h:Heap}:∀ {x:List κ} {F:List Value},Cz K h x F→x.length=F.length
 | _,_,.nil=>rfl
 | _,_,.cons _ b=>by rw[vR,vR,b.len]
def jV(K:IK prog w κ)(ks:List κ):Nat:=(ks.map K.draws).sum
def sN(K:IK prog w κ)(ks:List κ):Int:=reduceHash (Builtin.Tuple.tupleHashOf (ks.map K.hash))
theorem lj{A:Around}{E:Value→Shared→Prop}{s:Shared}{ks:List κ}{v:Value}{Q:Int→Shared→Prop}(hu:A.units+(K.deep+1)<cLine)(Z:Dd K s.heap ks v)(h:Q (sN K ks) { s with toks:=s.toks+(jV K ks+1) }) :
  wpAny (model prog w) A (PySem.pyHash v) Q E s:=by
 obtain⟨a,o,W,n,rfl,Y,hc,hd,hi⟩:=Z
 have O:s.TypeIs (.ref a) "tuple" := ⟨o,Y,hc⟩
 unfold PySem.pyHash
 first | unfold pyHashByItsType | skip
 first | refine HG (wpAny_cRoomFor_or (.inr (by omega)) ?_) | skip
 refine HG (wpAny_specialOf O F.slot_tuple_hash.lookup ?_)
 rw[HP (by rw[beq_builtin_none]; exact vn)]
 refine HG (wpAny_specialOf O F.slot_tuple_hash.lookup ?_)
 show wpAny _ _ (callSpecialIfBoundUnlessNone? (.ref a) "__hash__" _ >>= _) Q E s
 refine HG (wpAny_callSpecialIfBoundUnlessNone?_slot O F.slot_tuple_hash (wpAny_call_entry F.slot_tuple_hash O
  F.entry_tuple_hash ?_ (F.args_tuple_hash_1 _)))
 show wpAny _ _ (Builtin.Tuple.tupleItemsOf (.ref a) >>= _) _ _ s
 refine HG (wpAny_tupleItemsOf Y hd (HG ?_))
 rw[← zbG];refine wpAny_forIn_list _ (fun Dk (b:Array Int) s'=>∃ done left,ks=done++left∧Cz K s.heap left Dk∧b.toList=done.map K.hash∧s'={ s with toks:=s.toks+jV K done }) _ ?_ ?_ _ _ ⟨[],ks,rfl,hi,rfl,rfl⟩
 ·rintro x Dk b s' ⟨done,left,rfl,hl,S,rfl⟩
  cases hl with
  | @cons k _ ks' _ h1 hl'=>
   have e:jV K (done++[k])=jV K done+K.draws k:=by simp[jV]
   refine HG (K.pyHash (show A.in1.units+K.deep<cLine from by show A.units+1+K.deep<cLine; omega) h1 ?_)
   have J:∃ done' left',done++k::ks'=done'++left'∧Cz K s.heap left' Dk∧(b.push (K.hash k)).toList=done'.map K.hash∧({ s with toks:=s.toks+jV K done+K.draws k }:Shared)={ s with toks:=s.toks+jV K done' }:=
    ⟨done++[k],ks',by simp,hl',by simp[S],by rw[e,Nat.add_assoc]⟩
   first
    | exact HI J
    | exact HG (HI (HI J))
 ·rintro b s' ⟨done,left,rfl,hl,S,rfl⟩
  cases hl;rw[Gp]at h
  show wpAny _ _ (retInt (Builtin.Tuple.tupleHashOf b.toList)) _ _ _
  rw[S];refine wpAny_ret_mkInt ?_
  unfold sN reduceHash at h;show wpAny _ _ (if (decide (-(2:Int) ^ 63≤Builtin.Tuple.tupleHashOf (done.map K.hash))&&decide (Builtin.Tuple.tupleHashOf (done.map K.hash)<2 ^ 63))=true then _ else _) Q E _
  by_cases hr:(decide (-(2:Int) ^ 63≤Builtin.Tuple.tupleHashOf (done.map K.hash))&&decide (Builtin.Tuple.tupleHashOf (done.map K.hash)<2 ^ 63))=true
  ·rw[HS hr]at h ⊢
   exact HI (by simpa [Nat.add_assoc] using h)
  ·rw[HP hr]at h ⊢
   exact HG (wpAny_rule (HI (by simpa [Nat.add_assoc] using h)))
theorem v7{A:Around}{E:Value→Shared→Prop}{s:Shared}{x y:List κ}{a b:Addr}{P:Fin→Shared→Prop}(hu:A.units+K.deep<cLine)(hx:Dd K s.heap x (.ref a))(hy:Dd K s.heap y (.ref b))(h:P (.done (.ret (.bool (decide (x=y))))) s) :
  wpAny (model prog w) A (Builtin.«tuple.__eq__» ⟨[.ref a,.ref b],[]⟩) P E s:=by
 obtain⟨_,oa,xs,na,e1,an,ca,ag,as⟩:=hx
 obtain⟨_,ob,ys,nb,e2,aa,cb,ad,a0⟩:=hy
 cases e1
 cases e2;show wpAny _ _ (isInstance (.ref b) (.type "tuple") >>= _) _ _ s
 refine HG (wpAny_isInstance ⟨ob,aa,cb⟩ isSubtype_tuple_tuple ?_)
 simp only[GG,sT,if_false]
 refine HG (wpAny_tupleItemsOf an ag (HG (wpAny_tupleItemsOf aa ad (HG ?_))))
 refine wpAny_forIn_list _ (fun Dk r s'=>r.1=none∧s'=s∧∃ x' y' J S,Dk=List.zip J S∧Cz K s.heap x' J∧Cz K s.heap y' S∧decide (x'=y')=decide (x=y)∧(J.length == S.length)=(xs.size == ys.size)) _ ?_ ?_ _ _
  ⟨rfl,rfl,x,y,xs.toList,ys.toList,rfl,as,a0,rfl,by simp⟩
 ·rintro⟨u,v⟩ Dk r s' ⟨hr,rfl,x',y',J,S,hz,Y,W,F,O⟩
  cases Y with
  | nil=>simp at hz
  | @cons k1 u' x'' xs'' h1 hx''=>
   cases W with
   | nil=>simp at hz
   | @cons k2 v' y'' ys'' h2 hy''=>
    simp only[List.zip_cons_cons,List.cons.injEq,Prod.mk.injEq]at hz
    obtain⟨⟨rfl,rfl⟩,rfl⟩:=hz
    refine HG (K.eqBool (x:=k1) (y:=k2) hu h1 h2 ?_)
    by_cases hk:k1=k2
    ·subst hk
     rw[decide_eq_true rfl];simp only[GG,sT,if_false]
     refine HI ⟨rfl,rfl,x'',y'',xs'',ys'',rfl,hx'',hy'',?_,by simpa using O⟩
     rw[← F]
     by_cases hxy:x''=y'' <;> simp[hxy]
    ·rw[decide_eq_false hk]
     simp only[za5,if_true]
     have hf:decide (x=y)=false:=by rw[← F]; simp[hk]
     rw[hf]at h
     exact HG (HI (HI (HI h)))
 ·rintro⟨r1,r2⟩ s' ⟨hr,rfl,x',y',J,S,hz,Y,W,F,O⟩
  simp only at hr
  subst hr;refine HI ?_
  have Z:(xs.size == ys.size)=decide (x=y):=by
   rw[← F,← O]
   cases Y with
   | nil=>cases W <;> simp
   | cons _ _=>
    cases W with
    | nil=>simp
    | cons _ _=>simp at hz
  show P (.done (.ret (.bool (xs.size == ys.size)))) s'
  rw[Z]; exact h
theorem oM{A:Around}{E:Value→Shared→Prop}{s:Shared}{x y:List κ}{u v:Value}{Q:Bool→Shared→Prop}(hu:A.units+(K.deep+1)<cLine)(hx:Dd K s.heap x u)(hy:Dd K s.heap y v)(h:Q (decide (x=y)) s) :
  wpAny (model prog w) A (PySem.eqBool u v) Q E s:=by
 have Z:=hx;have ad:=hy;obtain⟨a,oa,xs,na,rfl,S,ca,aa,W⟩:=hx
 obtain⟨b,ob,ys,nb,rfl,J,cb,O,Y⟩:=hy
 unfold PySem.eqBool
 try with_reducible refine wpAny_holding ?_
 show wpAny _ _ (if (Value.ref a == Value.ref b)=true then _ else _) Q E s
 by_cases hab:(Value.ref a == Value.ref b)=true
 ·rw[HS hab]
  have e:a=b:=by have:=eq_of_beq hab; injection this
  subst e;rw[S]at J
  cases J;rw[aa]at O
  injection O with e1 _
  subst e1;rw[decide_eq_true (W.inj Y)]at h
  exact HG (wpAny_rule (HI h))
 ·rw[HP hab]
  have ta:s.TypeIs (.ref a) "tuple" := ⟨oa,S,ca⟩
  have tb:s.TypeIs (.ref b) "tuple" := ⟨ob,J,cb⟩
  refine HG (wpAny_richCompare_same_room (op:=.Eq) ta tb F.slot_tuple_eq (wpAny_call_entry F.slot_tuple_eq ta F.entry_tuple_eq ?_ (F.args_tuple_eq_2 _ _)) (by omega))
  refine v7 (K:=K) ?_ Z ad ⟨_,rfl,(fun e=>nomatch e),wpAny_truthy_bool h⟩
  show A.units+1+K.deep<cLine
  omega
theorem kx{A:Around}{E:Value→Shared→Prop}{s:Shared}{ks:List κ}{v:Value}{n:Nat}{Q:Bool→Shared→Prop}(Z:Dd K s.heap ks v)(h:Q true s):wpAny (model prog w) A (eqIsQuiet (n+(K.deep+1)) v) Q E s:=by
 obtain⟨a,o,J,m,rfl,Y,hc,hd,hi⟩:=Z
 have W:s.TypeIs (.ref a) "tuple" := ⟨o,Y,hc⟩
 rw[show n+(K.deep+1)=(n+K.deep)+1 from rfl];unfold eqIsQuiet;refine HG (wpAny_specialOf W F.slot_tuple_eq.lookup ?_)
 show wpAny _ _ (isInstance (.ref a) (.type "tuple") >>= _) _ _ s
 refine HG (wpAny_isInstance W isSubtype_tuple_tuple ?_)
 simp only[GG,sT,if_false]
 refine HG (wpAny_seqItems Y hd (HG ?_))
 show wpAny _ _ (forIn J _ _) _ _ s
 rw[← zbG];refine wpAny_forIn_list _ (fun Dk r s'=>r.1=none∧s'=s∧∃ O,Cz K s.heap O Dk) _ ?_ ?_ _ _ ⟨rfl,rfl,ks,hi⟩
 ·rintro v Dk r s' ⟨hr,rfl,O,S⟩
  cases S with
  | cons h1 h2=>
   refine HG (K.quiet h1 ?_)
   simp only[GG,sT,if_false]
   exact HI ⟨rfl,rfl,_,h2⟩
 ·rintro⟨r1,r2⟩ s' ⟨hr,rfl,_⟩
  simp only at hr
  subst hr;exact HI h
def uS(K:IK prog w κ):IK prog w (List κ) where
 is:=Dd K
 hash:=sN K
 draws:=fun ks=>jV K ks+1
 deep:=K.deep+1
 inj:=by
  rintro h v x y ⟨a,oa,xs,na,rfl,hoa,ca,hda,hia⟩ ⟨b,ob,ys,nb,e,hob,cb,hdb,hib⟩
  cases e;rw[hoa]at hob
  cases hob;rw[hda]at hdb
  injection hdb with e1 _
  subst e1;exact hia.inj hib
 keeps:=by
  rintro h h' k v d o es ep ⟨a,oa,xs,na,rfl,hoa,ca,hda,hia⟩ ho hd hs
  have hne:a≠d:=by
   rintro rfl
   rw[hoa]at ho
   cases ho;rw[hd]at hda; cases hda
  exact⟨a,oa,xs,na,rfl,(hs.2 a hne).trans hoa,ca,hda,hia.keeps ho hd hs⟩
 pyHash:=fun hu hk h=>lj hu hk h
 eqBool:=fun hu hx hy h=>oM hu hx hy h
 quiet:=fun hk h=>kx hk h
def Bb(K:IK prog w κ)(hd:K.deep≤7):HeapKind prog w (List κ) where
 is:=fun h k a=>Dd K h k (.ref a)
 hash:=sN K
 draws:=fun ks=>jV K ks+1
 room:=fun A=>A.units+(K.deep+1)<cLine
 inj:=(uS K).inj
 keeps:=(uS K).keeps
 pyHash:=fun hu hk h=>lj hu hk h
 eqBool:=fun hu hx hy h=>oM hu hx hy h
 quiet:=fun {A E s k a Q} hk h=>by
  have q:=kx (n:=7 - K.deep) (A:=A) (E:=E) hk h
  rwa [show 7 - K.deep+(K.deep+1)=8 by omega]at q
end
def bU:Option Int→V
 | none=>.non
 | some i=>.int i
theorem Ag{x y:Option Int}{v:Value}(a:RelV (bU x) v)(b:RelV (bU y) v):x=y:=by
 have e:=a.inj b
 cases x <;> cases y <;> simp_all [bU]
theorem cY(x:Option Int):bW (bU x)=true:=by cases x <;> rfl
theorem l8(x y:Option Int):iF (bU x) (bU y)=decide (x=y):=by
 cases x with
 | none=>cases y <;> rfl
 | some i=>
  cases y with
  | none=>rfl
  | some j=>
   show (i == j)=_
   by_cases h:i=j <;> simp[h]
theorem qo{prog:Program}{w:World}{A:Around}{E:Value→Shared→Prop}{s:Shared}{Q:Int→Shared→Prop}(h:Q 0xFCA86420 { s with toks:=s.toks+1 }):wpAny (model prog w) A (PySem.pyHash .none) Q E s:=by
 have J:s.TypeIs .none "NoneType" := rfl
 unfold PySem.pyHash
 first | unfold pyHashByItsType | skip
 refine HG ?_
 rw[cRoomFor,HP (by decide)]
 refine HI (HG (wpAny_specialOf J F.slot_NoneType_hash.lookup ?_))
 rw[HP (by rw[beq_builtin_none]; exact vn)]
 refine HG (wpAny_specialOf J F.slot_NoneType_hash.lookup ?_)
 show wpAny _ _ (callSpecialIfBoundUnlessNone? .none "__hash__" _ >>= _) Q E s
 refine HG (wpAny_callSpecialIfBoundUnlessNone?_slot J F.slot_NoneType_hash (wpAny_call_entry F.slot_NoneType_hash J
  F.entry_NoneType_hash ?_ (F.args_NoneType_hash_1 _)))
 show wpAny _ _ (retInt 0xFCA86420) _ _ s
 refine wpAny_ret_mkInt ?_
 exact HI h
def d9(prog:Program)(w:World):IK prog w (Option Int) where
 is:=fun _ k v=>RelV (bU k) v
 hash:=fun k=>match k with
  | none=>0xFCA86420
  | some i=>hashInt i
 draws:=fun _=>1
 deep:=0
 inj:=fun a b=>Ag a b
 keeps:=fun a _ _ _=>a
 pyHash:=fun {A E s k v Q} _ hk h=>by
  cases k with
  | none=>
   obtain rfl:v=Value.none:=hk
   exact qo h
  | some i=>
   obtain⟨t,rfl⟩:=(show ∃ t,v=Value.int i t from hk)
   exact wpAny_pyHash_int h
 eqBool:=fun {A E s x y u v Q} _ hx hy h=>by
  have q:=iH (A:=A) (s:=s) hx hy (cY x) (cY y);rw[l8]at q
  exact q prog w E Q h
 quiet:=fun {A E s k v n Q} hk h=>by
  have e:carriedByValue v=true:=by
   cases k with
   | none=>obtain rfl:v=Value.none:=hk; rfl
   | some i=>obtain⟨t,rfl⟩:=(show ∃ t,v=Value.int i t from hk); rfl
  rw[eqIsQuiet_byValue _ e];exact HI h
abbrev NI:=Sum Int (List (Option Int))
def yZ(prog:Program)(w:World)(h:Heap):NI→Value→Prop
 | .inl i,v=>∃ t,v=Value.int i t
 | .inr l,v=>Dd (d9 prog w) h l v
theorem Dd.tup{prog:Program}{w:World}{κ : Type}[DecidableEq κ]{K:IK prog w κ}{h:Heap}{l:List κ}{v:Value}(x:Dd K h l v):∃ a its,v = .ref a∧h.IsTuple a its:=by
 obtain⟨a,o,F,n,rfl,J,O,hd,hi⟩:=x
 exact⟨a,F,rfl,o,J,O,n,hd⟩
theorem uA{A:Around}{prog:Program}{w:World}(F:A.units+1<cLine):A.units+((d9 prog w).deep+1)<cLine:=F
theorem Fs(i j:Int):(i == j)=decide ((Sum.inl i:NI)=Sum.inl j):=by
 by_cases z:i=j
 ·subst z; simp
 ·have F:¬ ((Sum.inl i:NI)=Sum.inl j):=fun q=>z (Sum.inl.inj q)
  rw[decide_eq_false F]; simpa using z
theorem Fo(l F:List (Option Int)):decide (l=F)=decide ((Sum.inr l:NI)=Sum.inr F):=by
 by_cases z:l=F
 ·subst z; simp
 ·have J:¬ ((Sum.inr l:NI)=Sum.inr F):=fun q=>z (Sum.inr.inj q)
  rw[decide_eq_false J,decide_eq_false z]
theorem Ft(i:Int)(l:List (Option Int)):decide ((Sum.inl i:NI)=Sum.inr l)=false:=decide_eq_false (fun q=>nomatch q)
theorem Fz(i:Int)(l:List (Option Int)):decide ((Sum.inr l:NI)=Sum.inl i)=false:=decide_eq_false (fun q=>nomatch q)
theorem FA{prog:Program}{w:World}{A:Around}{E:Value→Shared→Prop}{s:Shared}{u v:Value}{Q:Bool→Shared→Prop}(J:A.units+1<cLine):∀ (x y:NI),yZ prog w s.heap x u→yZ prog w s.heap y v→Q (decide (x=y)) s→
  wpAny (model prog w) A (PySem.eqBool u v) Q E s
 | .inl i,.inl j,⟨t,e1⟩,⟨t',e2⟩,h=>by
  subst e1 e2;rw[← Fs]at h
  exact wpAny_eqBool_int h
 | .inl i,.inr l,⟨t,e1⟩,hy,h=>by
  subst e1;obtain⟨b,F,rfl,O⟩:=Dd.tup (K:=d9 prog w) hy
  rw[Ft]at h
  exact SeqAt.EqAt.int_tuple i t O (Nat.lt_of_succ_lt J) prog w E Q h
 | .inr l,.inl j,hx,⟨t,e1⟩,h=>by
  subst e1;obtain⟨b,F,rfl,O⟩:=Dd.tup (K:=d9 prog w) hx
  rw[Fz]at h
  exact SeqAt.EqAt.tuple_int j t O (Nat.lt_of_succ_lt J) prog w E Q h
 | .inr l,.inr l',hx,hy,h=>by
  rw[← Fo]at h
  exact oM (K:=d9 prog w) (uA J) hx hy h
def F5(prog:Program)(w:World):IK prog w NI where
 is:=yZ prog w
 hash:=fun k=>match k with
  | .inl i=>hashInt i
  | .inr l=>sN (d9 prog w) l
 draws:=fun k=>match k with
  | .inl _=>1
  | .inr l=>jV (d9 prog w) l+1
 deep:=1
 inj:=fun {h v x y} a b=>by
  cases x with
  | inl i=>
   obtain⟨t,rfl⟩:=(show ∃ t,v=Value.int i t from a)
   cases y with
   | inl j=>obtain⟨t',e⟩:=(show ∃ t',Value.int i t=Value.int j t' from b); injection e with e1 _; rw[e1]
   | inr l=>obtain⟨a,_,e,_⟩:=Dd.tup (show Dd (d9 prog w) h l _ from b); cases e
  | inr l=>
   cases y with
   | inl j=>
    obtain⟨t,rfl⟩:=(show ∃ t,v=Value.int j t from b)
    obtain⟨a,_,e,_⟩:=Dd.tup (show Dd (d9 prog w) h l _ from a); cases e
   | inr l'=>rw[(uS (d9 prog w)).inj (show Dd (d9 prog w) h l v from a) (show Dd (d9 prog w) h l' v from b)]
 keeps:=fun {h h' k v d o es ep} a ho hd hs=>by
  cases k with
  | inl i=>exact a
  | inr l=>exact(uS (d9 prog w)).keeps (show Dd (d9 prog w) h l v from a) ho hd hs
 pyHash:=fun {A E s k v Q} hu hk h=>by
  cases k with
  | inl i=>
   obtain⟨t,rfl⟩:=(show ∃ t,v=Value.int i t from hk)
   exact wpAny_pyHash_int h
  | inr l=>exact lj (K:=d9 prog w) (uA hu) hk h
 eqBool:=fun {A E s x y u v Q} hu hx hy h=>FA hu x y hx hy h
 quiet:=fun {A E s k v n Q} hk h=>by
  cases k with
  | inl i=>
   obtain⟨t,rfl⟩:=(show ∃ t,v=Value.int i t from hk)
   rw[eqIsQuiet_byValue _ rfl];exact HI h
  | inr l=>exact kx (K:=d9 prog w) hk h
abbrev eL:=Int × List (Option Int)
def nk(k:eL):List NI:=[.inl k.1,.inr k.2]
theorem EQ{k F:eL}(h:nk k=nk F):k=F:=by
 obtain⟨a,b⟩:=k
 obtain⟨c,d⟩:=F
 unfold nk at h;simp at h
 rw[h.1,h.2]
def MK(P:Program)(w:World):HeapKind P w (List NI):=Bb (F5 P w) (show 1≤7 by decide)
def lY(P:Program)(w:World)(a:Addr)(xs:List (List NI × Addr × Value)):HO:=
 .ext fun h=>∃ o es ep,h.get? a=some o∧o.ExactDict∧o.data = .dict es ep∧es.toList=xs.map (entryOfKey (MK P w))∧(xs.map (·.1)).Nodup
def EE(H:Hp)(k:eL)(b:Addr):Prop:=∃ t,H b=some (.tup [.int k.1,.ref t])∧H t=some (.tup (k.2.map bU))
def FS(H:Hp)(p:eL × V)(q:List NI × Addr × Value):Prop:=q.1=nk p.1∧EE H p.1 q.2.1∧RelV p.2 q.2.2
def DN(P:Program)(w:World)(H:Hp)(a:Addr)(kvs:List (eL × V)):Prop:=
 ∃ xs,H a=some (lY P w a xs)∧(a == sysModules)=false∧xs.length≤sizeLine∧Paired (FS H) kvs xs
theorem EE.mono{H H':Hp}{k:eL}{b:Addr}(h:EE H k b)(F:∀ c xs,H c=some (.tup xs)→H' c=some (.tup xs)):EE H' k b:=by
 obtain⟨t,h1,h2⟩:=h
 exact⟨t,F _ _ h1,F _ _ h2⟩
theorem DN.mono{P:Program}{w:World}{H H':Hp}{a:Addr}{kvs:List (eL × V)}(h:DN P w H a kvs)(F:mu H H'):DN P w H' a kvs:=by
 obtain⟨xs,h1,h2,J,O⟩:=h
 exact⟨xs,F _ _ h1,h2,J,Paired.imp' (fun p q z=>⟨z.1,z.2.1.mono fun c ys e=>F _ _ e,z.2.2⟩) O⟩
section
variable{P:Program}{w:World}{H:Hp}
theorem FS.val:∀ {kvs:List (eL × V)} {xs:List (List NI × Addr × Value)} (k:eL),Paired (FS H) kvs xs→EU (aN kvs k) ((atKey xs (nk k)).map (·.2))
 | _,_,k,.nil=>True.intro
 | _,_,k,@Paired.cons _ _ _ p q kvs xs r t=>by
  have ih:=FS.val k t;obtain⟨F,S,O⟩:=r
  by_cases h:p.1=k
  ·have h1:aN (p::kvs) k=some p.2:=by simp[aN,h]
   have h2:atKey (q::xs) (nk k)=some q.2:=by simp[atKey,F,h]
   rw[h1,h2]; exact O
  ·have J:¬ q.1=nk k:=fun z=>h (EQ (F.symm.trans z))
   have h1:aN (p::kvs) k=aN kvs k:=by simp[aN,h]
   have h2:atKey (q::xs) (nk k)=atKey xs (nk k):=by simp[atKey,J]
   rw[h1,h2]; exact ih
theorem iQ{h:Heap}:∀ {l:List (Option Int)} {us:List Value},wh (l.map bU) us→Cz (d9 P w) h l us
 | [],_,.nil=>.nil
 | x::l,_,.cons r t=>.cons r (iQ t)
end
section
variable{X:Cx}{pins:List (Addr × Obj)}{σ : St}{H:Hp}{s:Shared}{a b:Addr}{k:eL}{kvs:List (eL × V)}
theorem Inv.key(I:Inv X pins σ H s)(h:EE H k b):(MK X.prog X.w).is s.heap (nk k) b:=by
 obtain⟨t,h1,h2⟩:=h
 obtain⟨_,F,r,o,e,c,n,d⟩ : ([V.int k.1,V.ref t]:List V).length≤sizeLine∧∃ F:List Value,wh [V.int k.1,V.ref t] F∧IsTup s.heap b F.toArray:=by obtain⟨z,F,r,p⟩:=I.hok b _ h1; exact⟨z,F,r,p.tup⟩
 obtain⟨_,J,r2,W,S,O,n2,Z⟩ : (k.2.map bU).length≤sizeLine∧∃ F:List Value,wh (k.2.map bU) F∧IsTup s.heap t F.toArray:=by obtain⟨z,F,r,p⟩:=I.hok t _ h2; exact⟨z,F,r,p.tup⟩
 obtain⟨u,v,rfl,Y,rv⟩:=l7 r
 cases rv;refine⟨b,o,_,n,rfl,e,c,d,?_⟩
 show Cz (F5 X.prog X.w) s.heap [.inl k.1,.inr k.2] [u,.ref t]
 exact .cons Y (.cons ⟨t,W,_,n2,rfl,S,O,Z,by simpa using iQ r2⟩ .nil)
theorem Inv.dn(I:Inv X pins σ H s)(h:DN X.prog X.w H a kvs):∃ xs,H a=some (lY X.prog X.w a xs)∧(a == sysModules)=false∧xs.length≤sizeLine∧Paired (FS H) kvs xs∧s.heap.DictOfH (MK X.prog X.w) a xs:=by
 obtain⟨xs,h1,h2,Y,F⟩:=h
 obtain⟨⟨o,es,W,e1,O,S,Z,J⟩,_,_⟩:=I.hok a _ h1
 refine⟨xs,h1,h2,Y,F,o,es,W,e1,O,S,Z,?_,J⟩
 have all:∀ {l:List (eL × V)} {m:List (List NI × Addr × Value)},Paired (FS H) l m→∀ x∈m,(MK X.prog X.w).is s.heap x.1 x.2.1:=by
  intro l m r
  induction r with
  | nil=>intro x hx; simp at hx
  | cons r t ih=>
   intro x hx
   rcases HW.mp hx with rfl | hx
   ·rw[r.1]; exact I.key r.2.1
   ·exact ih x hx
 exact all F
theorem rT{P:Program}{w:World}{H':Hp}{h':Heap}{xs:List (List NI × Addr × Value)}(m:h'.DictOfH (MK P w) a xs):Ax P w H' h' a (lY P w a xs):=by
 obtain⟨o,es,F,J,S,Y,Z,_,O⟩:=m
 exact⟨⟨o,es,F,J,S,Y,Z,O⟩,⟨o,J⟩,fun h1 h2 ⟨o,es,F,W,q⟩ z=>⟨o,es,F,z _ W,q⟩⟩
def B5(P:Program)(w:World):R2:=fun x y H Q=>∃ b a k kvs,x = .ref b∧y = .ref a∧DN P w H a kvs∧EE H k b∧Q (.bl (!(aN kvs k).isSome)) H
theorem yP{n:Nat}(hr:Di n X.A):D0 X (compareOp .NotIn) (B5 X.prog X.w):=by
 intro pins s σ H x y v u Q I O J h
 obtain⟨b,a,k,kvs,rfl,rfl,hd,F,q⟩:=h
 cases O
 cases J;obtain⟨xs,h1,h2,W,S,m⟩:=I.dn hd
 refine wpAny_notIn_heap (show (MK X.prog X.w).room X.A.in1 from by show X.A.units+1+2<cLine; have:=hr.un; omega) (I.key F) h2 m ?_
 have e:=(FS.val k S).isSome_eq;rw[zbh]at e
 rw[← e];exact⟨.bl _,H,I.tok _,rfl,q⟩
def GJ(P:Program)(w:World):R2:=fun x y H Q=>∃ a b k kvs v,x = .ref a∧y = .ref b∧DN P w H a kvs∧EE H k b∧aN kvs k=some v∧Q v H
theorem II{n:Nat}(hr:Di n X.A):F2 X (GJ X.prog X.w):=by
 intro S O pins s σ H x y v u Q I rx ry h Y
 obtain⟨a,b,k,kvs,z,rfl,rfl,hd,Z,hv,q⟩:=h
 cases rx
 cases ry;obtain⟨xs,h1,h2,h3,h4,m⟩:=I.dn hd
 obtain⟨w',hw,W⟩:=EU.some_of (v:=z) (o:=(atKey xs (nk k)).map (·.2)) (by rw[← hv]; exact FS.val k h4)
 obtain⟨p,hp,J⟩:=Ib.mp hw
 have hl:typeLookup (.type "dict") "__getitem__" = pure (some (.builtin "dict.__getitem__")):=F.slot_dict_getitem.lookup
 refine subscriptTail_builtinR (x:=w') m.typeIs hl ?_ Y
 refine wpAny_getItem_heap (show (MK X.prog X.w).room X.A.in1 from by show X.A.units+1+2<cLine; have:=hr.un; omega) (I.key Z) m hp ?_
 rw[J];exact⟨rfl,z,H,I.tok _,W,q⟩
def Fu(P:Program)(w:World):lm:=fun o i v H Q=>∃ a b k kvs,o = .ref a∧i = .ref b∧DN P w H a kvs∧EE H k b∧aN kvs k=none∧kvs.length<sizeLine∧∀ u,DN P w (upd H a u) a (kvs++[(k,v)])→Q (upd H a u)
theorem Paired.snoc{α β : Type}{F:α→β→Prop}{x:α}{y:β}(h:F x y):∀ {l:List α} {m:List β},Paired F l m→Paired F (l++[x]) (m++[y])
 | _,_,.nil=>.cons h .nil
 | _,_,.cons r t=>.cons r (Paired.snoc h t)
theorem Fi{n:Nat}(hr:Di n X.A):FH X (Fu X.prog X.w):=by
 intro pins s σ H o i v ov iv u Q I W Y Z h
 obtain⟨a,b,k,kvs,rfl,rfl,hd,J,hv,hl,q⟩:=h
 cases W
 cases Y;obtain⟨xs,h1,h2,S,F,m⟩:=I.dn hd
 have hx:atKey xs (nk k)=none:=by
  have e:=FS.val k F;rw[hv]at e
  cases hq:atKey xs (nk k) with
  | none=>rfl
  | some p=>rw[hq]at e; exact e.elim
 refine wpAny_setItem_heap (hsz:=S) (show (MK X.prog X.w).room X.A.in1 from by show X.A.units+1+2<cLine; have:=hr.un; omega) (I.key J) m fun h' m' O=>?_
 rw[storedH_new hx]at m'
 have keep:∀ c ys,H c=some (.tup ys)→upd H a (lY X.prog X.w a (xs++[(nk k,b,u)])) c=some (.tup ys):=fun c ys e=>by
  rw[al (iY e h1 (fun z=>nomatch z))]; exact e
 refine⟨upd H a (lY X.prog X.w a (xs++[(nk k,b,u)])),g_ I (by rw[h1]; exact True.intro) O (let ⟨o,_,_,e,_⟩:=m'; ⟨o,e⟩) (rT m'),q _ ⟨_,ak,h2,?_,?_⟩⟩
 ·rw[zV,← zaV F]
  show kvs.length+1≤sizeLine
  omega
 ·exact Paired.snoc ⟨rfl,J.mono keep,Z⟩ (Paired.imp' (fun p q z=>⟨z.1,z.2.1.mono keep,z.2.2⟩) F)
def Fj(P:Program)(w:World):List V→Hp→VK→Prop:=fun xs H Q=>∃ a kvs,xs=[.ref a]∧DN P w H a kvs∧Q (.int kvs.length) H
theorem D2{P:Program}{w:World}{A:Around}{E:Value→Shared→Prop}{Q:Value→Shared→Prop}{xs:List (List NI × Addr × Value)}(hd:(a == sysModules)=false)(m:s.heap.DictOfH (MK P w) a xs)(hz:xs.length≤sizeLine)
  (h:∀ t tk,Q (.int xs.length t) { s with toks:=tk }):wpAny (model P w) A (call (.builtin "len") [.ref a]) Q E s:=by
 have Y:sizeLine=16777216:=sizeLine_eq
 refine Calls.call_function_entry kind_len plain_len entry_len (args_len1 _) ?_
 unfold Builtin.«len»
 refine HG (m:=oneArg "len" _) (HI ?_)
 have body:MeetsIn P w (Builtin.«dict.__len__» ⟨[.ref a],[]⟩) (fun _ R s'=>s'=s∧R (.ok (.ret (.int xs.length s'.toks))) { s' with toks:=s'.toks+1 }):=.of_wp fun A R s' ⟨e,S⟩=>by
  subst e;obtain⟨o,es,ep,W,Z,J,O,_⟩:=id m
  show wpAny _ _ (dictSize a >>= _) _ _ s'
  unfold dictSize;refine HG (HG (wpAny_dictEntries W J (HI ?_)))
  show wpAny _ _ (Builtin.Dict.pendingCount a >>= _) _ _ s'
  refine HG (wpAny_pendingCount_other hd (wpAny_ret_mkInt ?_))
  have e:es.size=xs.length:=by rw[← y0,O,zc]
  rw[Nat.add_zero,e]; exact S
 refine HG (m:=callSpecial? (.ref a) (Str.ofString "__len__")) (wpAny_callSpecial?_slot (name:=Str.ofString "__len__") m.typeIs F.slot_dict_len
  (call_meetsIn F.slot_dict_len m.typeIs F.entry_dict_len (F.args_dict_len_1 _) body ⟨rfl,?_⟩))
 refine HG (wpAny_holding (HI (HG (wpAny_letGo ?_))))
 show wpAny _ _ (if ((xs.length:Nat):Int)<0 then _ else _) _ _ _
 rw[HP (by omega)]
 show wpAny _ _ (if ((xs.length:Nat):Int)≥2 ^ 63 then _ else _) _ _ _
 rw[HP (by omega)]
 exact HG (wpAny_mkInt (HI ⟨_,rfl,h _ _⟩))
theorem xr:CV X (.builtin "len") (Fj X.prog X.w):=by
 intro pins s σ H xs us Q I r h
 obtain⟨a,kvs,rfl,hd,q⟩:=h
 obtain⟨u,rfl,F⟩:=dU r
 cases F;obtain⟨ys,h1,h2,J,S,m⟩:=I.dn hd
 refine D2 h2 m J fun t O=>⟨.int kvs.length,H,I.tok O,?_,q⟩
 rw[← zaV S];exact⟨t,rfl⟩
def E5(P:Program)(w:World):TE:=fun _ H Q=>∀ p,H p=none→∀ u,DN P w (upd H p u) p []→Q (.ref p) (upd H p u)
theorem zv{pos:Pos}:PE X (.Dict [] [] pos) (E5 X.prog X.w):=fun pins s σ H Q I h=>by
 have F:(s.heap.push { cls:=.type "dict", data:=.dict #[] }).DictOfH (MK X.prog X.w) s.heap.objs.size []:=⟨_,#[],0,wd _ rfl,⟨rfl,rfl,rfl⟩,rfl,rfl,(fun x hx=>by simp at hx),GQ⟩
 exact wpAny_Dict_empty ⟨.ref s.heap.objs.size,_,I.laid (a:=s.heap.objs.size) (o:=lY X.prog X.w s.heap.objs.size []) (t':=s.toks) (fun _ _ q=>zD _ q) (zg _) (rT F),rfl,
  h _ (I.hok.fresh (zg _)) _ ⟨[],ak,beq_eq_false_iff_ne.mpr (zB (zM I.big)),yT _,.nil⟩⟩
end
end L2
namespace L2
open PySem PySem.Spec PyProof.Rows PySem.SeqAt
section
variable{X:Cx}
def Hf(K:W.Frag):R2:=fun x y H Q=>sF K x y H Q∨∃ a kvs k v,x = .ref a∧y=kV k∧H a=some (.dK kvs)∧aN kvs k=some v∧Q v H
theorem Dc(K:W.Frag)(hK:X.K=K:=by rfl):F2 X (Hf K):=by
 intro O J pins s σ H x y v u Q I rx ry h Z
 rcases h with h | ⟨a,kvs,k,z,rfl,rfl,e,l,q⟩
 ·exact aZ K hK O J pins s σ H x y v u Q I rx ry h Z
 ·cases rx
  obtain⟨_,hd,vs,S,dd⟩:=qK I.hok (.inl e)
  obtain⟨w',hw,Y⟩:=EU.some_of (v:=z) (o:=valueAt vs k) (by rw[← l]; exact S.val k)
  have hl:typeLookup (.type "dict") "__getitem__" = pure (some (.builtin "dict.__getitem__")):=F.slot_dict_getitem.lookup
  exact subscriptTail_builtinR (x:=w') dd.typeIs hl (wpAny_getItem_of (me ry) dd.mapOf hw ⟨rfl,z,H,I.tok _,Y,q⟩) Z
def B2:R2:=fun x y H Q=>∃ a kvs k,y = .ref a∧x=kV k∧H a=some (.dK kvs)∧Q (.bl (!(aN kvs k).isSome)) H
theorem ye{n:Nat}(hr:Di n X.A):D0 X (compareOp .NotIn) B2:=by
 intro pins s σ H x y v u Q I J F h
 obtain⟨a,kvs,k,rfl,rfl,e,q⟩:=h
 cases F;exact Bv (by have:=hr.un; omega) I (Gr.k e) J fun s' O=>⟨.bl _,H,O,rfl,q⟩
def Fx:lm:=fun o i v H Q=>∃ a kvs k,o = .ref a∧i=kV k∧H a=some (.dK kvs)∧kvs.length<sizeLine∧Q (upd H a (.dK (dz kvs k v)))
theorem vS{n:Nat}(hr:Di n X.A):FH X Fx:=by
 intro pins s σ H o i v Y W u Q I J S O h
 obtain⟨a,kvs,k,rfl,rfl,e,hl,q⟩:=h
 cases J;exact xF (by have:=hr.un; omega) I (GY.k e hl) S O fun s' F=>⟨_,F,q⟩
end
section
variable{K:W.Frag}{H:Hp}{Q:VK}
theorem D8.ints{n:Nat}{a c:Addr}{ss ts:List Int}(h1:rd K H a (ss.map V.int))(h2:rd K H c (ts.map V.int)):D8 K H (n+1) (.ref a) (.ref c) (decide (ss=ts)):=by
 refine .inr ⟨a,c,_,_,rfl,rfl,.inl ⟨h1,h2⟩,?_⟩
 by_cases hl:ss.length=ts.length
 ·refine .inl ⟨fun i=>ss.getD i 0 == ts.getD i 0,by simp[hl],fun i x y O J=>?_,?_⟩
  ·rw[ze]at O J
   cases q1:ss[i]? with
   | none=>rw[q1]at O; cases O
   | some u=>
    cases q2:ts[i]? with
    | none=>rw[q2]at J; cases J
    | some v=>
     rw[q1]at O; rw[q2]at J
     cases O; cases J
     dsimp only
     rw[zp,zp,q1,q2];exact D8.flat rfl rfl
  ·rw[zc]
   by_cases e:ss=ts
   ·subst e
    rw[decide_eq_true rfl]
    symm
    rw[za2];intro i _
    simp
   ·rw[decide_eq_false e]
    symm
    rw[List.all_eq_false]
    have:∃ i:Nat,ss[i]? ≠ ts[i]?:=by
     refine iO fun S=>e (za3 fun i=>?_)
     exact iO fun h=>S ⟨i,h⟩
    obtain⟨i,hi⟩:=this
    have F:i<ss.length:=by
     refine iO fun S=>hi ?_
     rw[oQ (by omega),oQ (by omega)]
    refine⟨i,HV.mpr F,?_⟩
    rw[zp,zp,za F,za (by omega)]
    rw[za F,za (by omega)]at hi
    simpa using hi
 ·have e:ss≠ts:=fun e=>hl (by rw[e])
  rw[decide_eq_false e];exact .inr ⟨h1,h2,by simpa using hl,rfl⟩
end
section
variable{X:Cx}
def Hd:R2:=fun x y H Q=>∃ o j,x=bU o∧y = .int j∧Q (.bl (decide (o≠some j))) H
theorem DP:D0 X (compareOp .NotEq) Hd:=by
 intro pins s σ H x y v u Q I F J h
 obtain⟨o,j,rfl,rfl,q⟩:=h
 obtain⟨t,rfl⟩:=J
 cases o with
 | none=>
  cases (show v=Value.none from F)
  rw[decide_eq_true (by simp)]at q
  exact RcNeAt.none_int j t _ _ _ _ ⟨.bl true,H,I,rfl,q⟩
 | some i=>
  have e:(!decide (i=j))=decide ((some i:Option Int)≠some j):=by by_cases h:i=j <;> simp[h]
  rw[← e]at q
  refine lc pins s σ H (.int i) (.int j) v _ Q I F ⟨t,rfl⟩ ?_
  rw[fH]; exact q
end
section
variable{K:W.Frag}{H:Hp}{Q:VK}
theorem i_(i j:Bool):v6 (.bl i) (.bl j) H Q=Q (.bl (!(i == j))) H:=by
 show (se (.bl i) (.bl j)=true∧Q (.bl (!decide (V.bl i=V.bl j))) H)=_
 rw[rX]; exact propext ⟨fun h=>h.2,fun h=>⟨rfl,h⟩⟩
end
theorem um:∀ (xs:List V) (us:List Value),xs.length=us.length→(∀ (j:Nat) x u,xs[j]? = some x→us[j]? = some u→RelV x u)→wh xs us
 | [],[],_,_=>.nil
 | [],u::us,hl,_=>by simp at hl
 | x::xs,[],hl,_=>by simp at hl
 | x::xs,u::us,hl,h=>.cons (h 0 x u rfl rfl) (um xs us (by simpa using hl) fun j a b J F=>h (j+1) a b J F)
section
variable{X:Cx}
theorem kz{α β : Type}{F:α→β→Prop}:∀ {l:List α} {m:List β} {j:Nat} {a:α} {b:β},Paired F l m→l[j]? = some a→m[j]? = some b→F a b
 | _,_,0,_,_,.cons h _,e1,e2=>by
  cases e1; cases e2; exact h
 | _,_,j+1,_,_,.cons _ t,e1,e2=>kz (j:=j) t e1 e2
 | _,_,0,_,_,.nil,e1,_=>by cases e1
 | _,_,_+1,_,_,.nil,e1,_=>by cases e1
theorem sj:bootBuiltins "set" = some (.type "set"):=by decide +kernel
end
def gn(xs:Array Nat):Prop:=∀ (a b:Nat) (ha:a<xs.size) (hb:b<xs.size),a<b→xs[a]<xs[b]
theorem m9{xs:Array Nat}(h:gn xs)(j:Nat):∀ (F lo hi:Nat),lo≤hi→hi≤xs.size→hi - lo≤F→(∀ k (J:k<xs.size),k<lo→xs[k]<j)→(∀ k (J:k<xs.size),hi≤k→j≤xs[k])→
  SetTable.below.go xs j F lo hi≤xs.size∧(∀ k (J:k<xs.size),k<SetTable.below.go xs j F lo hi→xs[k]<j)∧(∀ k (J:k<xs.size),SetTable.below.go xs j F lo hi≤k→j≤xs[k])
 | 0,lo,hi,h1,h2,h3,h4,h5=>by
  have e:lo=hi:=by omega
  subst e;exact⟨h2,h4,h5⟩
 | F+1,lo,hi,h1,h2,h3,h4,h5=>by
  unfold SetTable.below.go;split
  ·rename_i hlt
   have O:(lo+hi) / 2<xs.size:=by omega
   have W:xs.getD ((lo+hi) / 2) j=xs[(lo+hi) / 2]:=by simp[Array.getD,O]
   dsimp only
   rw[W];split
   ·rename_i hj
    refine m9 h j F _ hi (by omega) h2 (by omega) (fun k J S=>?_) h5
    rcases x6 k ((lo+hi) / 2) with z | z
    ·exact GH (h k _ J O z) hj
    ·have:k=(lo+hi) / 2:=by omega
     subst this; exact hj
   ·rename_i hj
    refine m9 h j F lo _ (by omega) (by omega) (by omega) h4 (fun k J S=>?_)
    rcases x6 ((lo+hi) / 2) k with z | z
    ·exact vg (zbi hj) (uV (h _ k O J z))
    ·have:k=(lo+hi) / 2:=by omega
     subst this; exact zbi hj
  ·have e:lo=hi:=by omega
   subst e;exact⟨h2,h4,h5⟩
theorem iT{xs:Array Nat}(h:gn xs)(j:Nat):SetTable.below xs j≤xs.size∧(∀ k (F:k<xs.size),k<SetTable.below xs j→xs[k]<j)∧(∀ k (F:k<xs.size),SetTable.below xs j≤k→j≤xs[k]):=
 m9 h j xs.size 0 xs.size (yT _) (zg _) (by omega) (fun k _ z=>absurd z (G0 _)) (fun k F z=>absurd F (by omega))
theorem vY{xs:Array Nat}(h:gn xs):SetTable.below xs 0=0:=by
 obtain⟨h1,h2,F⟩:=iT h 0
 refine iO fun J=>?_
 exact absurd (h2 0 (by omega) (by omega)) (G0 _)
theorem vL{xs:Array Nat}(h:gn xs){i:Nat}(hi:i<xs.size):SetTable.below xs (xs[i]+1)=i+1:=by
 obtain⟨h1,h2,F⟩:=iT h (xs[i]+1)
 rcases Nat.lt_trichotomy (SetTable.below xs (xs[i]+1)) (i+1) with z | z | z
 ·have:=F i hi (by omega); omega
 ·exact z
 ·have O:=h2 (i+1) (by omega) z
  have J:=h i (i+1) hi (by omega) (by omega)
  omega
theorem qy{xs:Array Nat}{p x k:Nat}(hp:p≤xs.size)(J:k<(SetTable.insertAt xs p x).size):(SetTable.insertAt xs p x)[k]=if h:k<p then xs[k]'(by omega) else if k=p then x else xs.getD (k - 1) 0:=by
 have O:(SetTable.insertAt xs p x).size=xs.size+1:=by
  unfold SetTable.insertAt; simp; omega
 have e:(SetTable.insertAt xs p x)[k]? = some (if h:k<p then xs[k]'(by omega) else if k=p then x else xs.getD (k - 1) 0):=by
  unfold SetTable.insertAt;rw[Array.getElem?_append];simp only[Array.size_push,Array.size_extract]
  split
  ·rename_i h
   rw[Array.getElem?_push];simp only[Array.size_extract]
   by_cases hkp:k<p
   ·rw[HP (by omega),dif_pos hkp,Array.getElem?_extract]
    simp; omega
   ·have:k=p:=by omega
    subst this;rw[HS (by omega),dif_neg hkp,HS rfl]
  ·rename_i h
   rw[dif_neg (by omega),HP (by omega),Array.getElem?_extract]
   have F:k - 1<xs.size:=by omega
   rw[HS (by omega),show p+(k - (min p xs.size - 0+1))=k - 1 by omega]
   simp[Array.getD,F]
 rw[GD J]at e
 exact Option.some.inj e
theorem sJ{xs:Array Nat}(h:gn xs){j:Nat}(hj:∀ k (F:k<xs.size),xs[k]≠j):gn (SetTable.insertAt xs (SetTable.below xs j) j):=by
 obtain⟨h1,h2,S⟩:=iT h j
 have W:(SetTable.insertAt xs (SetTable.below xs j) j).size=xs.size+1:=by
  unfold SetTable.insertAt; simp; omega
 generalize SetTable.below xs j=p at h1 h2 S W;intro a b ha hb O
 rw[qy h1 ha,qy h1 hb];have J:∀ k,k<xs.size→∃ F:k<xs.size,xs.getD k 0=xs[k]:=fun k F=>⟨F,by simp[Array.getD,F]⟩
 by_cases a1:a<p
 ·rw[dif_pos a1]
  by_cases b1:b<p
  ·rw[dif_pos b1]; exact h a b _ _ O
  ·rw[dif_neg b1]
   by_cases b2:b=p
   ·rw[HS b2]; exact h2 a (by omega) a1
   ·rw[HP b2]
    obtain⟨F,e⟩:=J (b - 1) (by omega)
    rw[e]; exact h a (b - 1) _ _ (by omega)
 ·rw[dif_neg a1,dif_neg (by omega)]
  by_cases a2:a=p
  ·rw[HS a2,HP (by omega)]
   obtain⟨F,e⟩:=J (b - 1) (by omega)
   rw[e];have:=S (b - 1) F (by omega)
   have:=hj (b - 1) F
   omega
  ·rw[HP a2,HP (by omega)]
   obtain⟨F,e⟩:=J (b - 1) (by omega)
   obtain⟨Z,Y⟩:=J (a - 1) (by omega)
   rw[e,Y]; exact h _ _ _ _ (by omega)
theorem xI{t:SetTable}{j:Nat}(h:gn t.place)(e:∀ i,t.slot j ≠ .live i):∀ k (F:k<t.place.size),t.place[k]≠j:=fun k F O=>by
 obtain⟨h1,h2,J⟩:=iT h j
 have S:SetTable.below t.place j=k:=by
  rcases Nat.lt_trichotomy (SetTable.below t.place j) k with z | z | z
  ·have:=J (SetTable.below t.place j) (by omega) (zg _)
   have:=h (SetTable.below t.place j) k (by omega) F z
   omega
  ·exact z
  ·have:=h2 k F z; omega
 refine e k ?_
 unfold SetTable.slot;rw[S]
 dsimp only
 rw[GD F,O];simp
theorem mR{t:SetTable}{hashAt:Nat→Int}{h:Int}:∀ (F:Nat) (p:SetTable.Probe),(∀ d,p.dummy=some d→t.slot d = .dummy)→∀ j dm,SetTable.probe.go t hashAt h F p=some (.empty j dm)→t.slot j = .empty∧∀ d,dm=some d→t.slot d = .dummy
 | 0,p,_,j,dm,e=>by unfold SetTable.probe.go at e; cases e
 | F+1,p,hp,j,dm,e=>by
  unfold SetTable.probe.go at e;have J:∀ q:SetTable.Probe,(t.advance q).dummy=q.dummy:=fun q=>by unfold SetTable.advance; split <;> rfl
  cases hs:t.slot p.j with
  | empty=>
   rw[hs]at e
   cases e;exact⟨hs,hp⟩
  | dummy=>
   rw[hs]at e
   refine mR F _ (fun d hd=>?_) j dm e
   rw[J]at hd
   cases hd;exact hs
  | live i=>
   rw[hs]at e
   dsimp only at e
   split at e
   ·cases e
   ·exact mR F _ (fun d hd=>by rw[J]at hd; exact hp d hd) j dm e
structure bE (L:Bool) (t:SetTable):Prop where
 led:t.led=L
 rise:gn t.place
theorem tT(n:Nat):gn (Array.range n):=fun a b O J F=>by simpa using F
theorem gw{L:Bool}{t:SetTable}(h:bE L t)(n:Nat):bE L (t.standIn n):=⟨h.led,tT n⟩
theorem xc{L:Bool}{t:SetTable}(h:bE L t){hh:Int}{j:Nat}{b:Bool}(e:t.freeSlot hh=some (j,b)):bE L (t.put j).1:=by
 refine⟨h.led,sJ h.rise (xI h.rise ?_)⟩
 unfold SetTable.freeSlot at e;split at e
 ·rename_i j' dm hpr
  have:=mR (t:=t) _ (t.probeStart hh) (fun d hd=>by cases hd) j' dm hpr
  cases dm with
  | none=>
   cases e;exact fun i z=>by have:=this.1; rw[show (none:Option Nat).getD j'=j' from rfl,this]at z; cases z
  | some d=>
   cases e;exact fun i z=>by have:=this.2 d rfl; rw[show (some d:Option Nat).getD j'=d from rfl,this]at z; cases z
 ·cases e
theorem mC{L:Bool}{t:SetTable}(h:bE L t)(es:Array (Int × Value))(hh:Int)(x:Value):bE L (layNew t es hh x).2.1:=by
 unfold layNew
 cases e:t.freeSlot hh with
 | none=>exact gw h _
 | some q=>
  obtain⟨j,b⟩:=q
  have hg:=xc h e;show bE L ((t.put j).1.orStandIn _)
  unfold SetTable.orStandIn;split
  ·exact hg
  ·exact gw hg _
theorem iS{l:List Nat}(h:l.Pairwise (· < ·)):gn l.toArray:=fun a b O J F=>by
 have:=(Ih.mp h) a b (by simpa using O) (by simpa using J) F
 simpa using this
theorem oC{L:Bool}{t:SetTable}(h:bE L t)(es:Array (Int × Value))(n:Nat):bE L (relayAll t es n).2.1:=by
 unfold relayAll;split
 ·rename_i t' order e
  dsimp only
  split
  ·unfold SetTable.relaid SetTable.laid at e
   cases ho:SetTable.layClean (SetTable.sizeAbove n - 1) (es.map (·.1)) with
   | none=>rw[ho]at e; cases e
   | some owner=>
    rw[ho]at e
    cases e;refine⟨h.led,iS ?_⟩
    refine HZ.mpr ?_
    refine List.Pairwise.filterMap _ ?_ zbH
    intro a b F x hx y J
    obtain⟨k,_,rfl⟩:=Ib.mp hx
    obtain⟨O,_,rfl⟩:=Ib.mp J
    exact F
  ·exact gw h _
 ·exact gw h _
section
variable{prog:Program}{w:World}{K:Type}[DecidableEq K]{knd:KeyKind prog w K}{A:Around}{E:Value→Shared→Prop}{s:Shared}{G:SetTable→Prop}
def Apart(knd:KeyKind prog w K)(l:List (Int × Value)):Prop:=l.Pairwise fun e e'=>∀ k,knd.is k e.2=true→knd.is k e'.2=false
theorem Apart.perm{l J:List (Int × Value)}(h:Apart knd l)(p:J.Perm l):Apart knd J:=
 (p.pairwise_iff fun {x y} F k O=>by
  cases e:knd.is k x.2 with
  | false=>rfl
  | true=>rw[F k e]at O; cases O).mpr h
theorem Apart.push{l:List (Int × Value)}{k:K}{x:Value}{hh:Int}(h:Apart knd l)(W:∀ e∈l,knd.is k e.2=false)(S:knd.is k x=true):Apart knd (l++[(hh,x)]):=by
 refine List.pairwise_append.mpr ⟨h,List.pairwise_singleton _ _,fun e Z b Y J F=>?_⟩
 rw[HQ.mp Y];show knd.is J x=false
 rw[KeyKind.is_eq_decide S J];refine decide_eq_false fun O=>?_
 subst O;rw[W e Z]at F; cases F
structure lB (knd:KeyKind prog w K) (G:SetTable→Prop) (o:Obj) (es:Array (Int × Value)) (ep:Nat) (t:SetTable) (S:K→Bool) (n:Nat):Prop where
 ex:o.ExactSet
 dat:o.data = .set es ep t
 el:ElemsOf knd es.toList
 mem:∀ k,S k=true ↔ ∃ e∈es.toList,knd.is k e.2=true
 few:es.size<scanBound
 fit:t.fits es.size=true
 num:es.size=n
 good:G t
 apart:Apart knd es.toList
def Du(knd:KeyKind prog w K)(G:SetTable→Prop)(h:Heap)(a:Addr)(S:K→Bool)(n:Nat):Prop:=∃ o es ep t,h.get? a=some o∧lB knd G o es ep t S n
theorem stored{h:Heap}{a:Addr}{o:Obj}{es:Array (Int × Value)}{F:Nat}{t:SetTable}{S:K→Bool}{n:Nat}{es':Array (Int × Value)}{t':SetTable}{S':K→Bool}{n':Nat}(O:h.get? a=some o)(T:lB knd G o es F t S n)
  (J:∀ o',o'.ExactSet→o'.data = .set es' (F+1) t'→lB knd G o' es' (F+1) t' S' n'):∃ o',(h.update a (Obj.putSet es' t')).get? a=some o'∧lB knd G o' es' (F+1) t' S' n':=by
 have hp:=putSet_of es' t' T.dat;have hg:=Gb (Obj.putSet es' t') O (by rw[hp]; rfl)
 rw[hp]at hg
 exact⟨_,hg,J _ T.ex rfl⟩
theorem qZ(gr:∀ t es n,G t→G (relayAll t es n).2.1){g:Bool→Sem Unit}(hg:∀ (b:Bool) (s₁:Shared) (Q':Unit→Shared→Prop),Q' () s₁→wpAny (model prog w) A (g b) Q' E s₁)
  {a:Addr} {o:Obj} {es:Array (Int × Value)} {ep:Nat} {t:SetTable} {S:K→Bool} {n:Nat} (ho:s.heap.get? a=some o) (T:lB knd G o es ep t S n)
  {F:Array (Int × Value)} {t2:SetTable} {S':K→Bool} {n':Nat} (T1:∀ o',o'.ExactSet→o'.data = .set F (ep+1) t2→lB knd G o' F (ep+1) t2 S' n') {J:Bool} {R:Option Bool→Shared→Prop}
  (h:∀ h',Heap.SameBut a s.heap h'→Du knd G h' a S' n'→R (some true) { s with heap:=h' }) :
  wpAny (model prog w) A (do
    storeSet a F t2
    if (!J&&t2.tooFull)=true then do
      g (relayAll t2 F (SetTable.grown F.size)).2.2
      storeSet a (relayAll t2 F (SetTable.grown F.size)).1 (relayAll t2 F (SetTable.grown F.size)).2.1
      pure (some true)
     else pure (some true)) R E s:=by
 obtain⟨o1,Y,O⟩:=stored ho T T1
 refine HG (wpAny_storeSet_of ho T.dat ?_ (fits_of_scanBound O.few))
 have W:=rB s.heap a (Obj.putSet F t2);split
 ·have hp:=relayAll_perm t2 F (SetTable.grown F.size)
  have Z:=relayAll_fits t2 F (SetTable.grown F.size);have aa:=gr t2 F (SetTable.grown F.size) O.good;generalize relayAll t2 F (SetTable.grown F.size)=Rl at hp Z aa ⊢;obtain⟨ad,t3,ag⟩:=Rl
  dsimp only at hp Z aa ⊢
  have hsz:ad.size=F.size:=by rw[← y0,hp.length_eq,y0]
  obtain⟨o2,an,U2⟩:=stored (es':=ad) (t':=t3) (S':=S') (n':=n') Y O fun o' ex da=>⟨ex,da,O.el.perm hp,fun k'=>(O.mem k').trans ⟨fun ⟨e,he,q⟩=>⟨e,hp.mem_iff.mpr he,q⟩,fun ⟨e,he,q⟩=>⟨e,hp.mem_iff.mp he,q⟩⟩,by rw[hsz]; exact O.few,Z,by rw[hsz]; exact O.num,aa,O.apart.perm hp⟩
  refine HG (hg _ _ _ ?_)
  refine HG (wpAny_storeSet_of Y O.dat ?_ (fits_of_scanBound U2.few))
  exact HI (h _ (W.trans (rB _ a _)) ⟨_,_,_,_,an,U2⟩)
 ·exact HI (h _ W ⟨_,_,_,_,Y,O⟩)
theorem Ej(gl:∀ t es h x,G t→G (layNew t es h x).2.1)(gr:∀ t es n,G t→G (relayAll t es n).2.1)(gp:∀ t:SetTable,G t→G { t with plain:=false })
  {a:Addr} {S:K→Bool} {n:Nat} {k:K} {x:Value} {Q:Bool→Shared→Prop} (hkey:knd.is k x=true) (hsc:x.scannable=true) (hS:Du knd G s.heap a S n) (hroom:n+1<scanBound)
  (h:∀ h',Heap.SameBut a s.heap h'→Du knd G h' a (fun k'=>S k'||decide (k'=k)) (if S k then n else n+1)→Q (!S k) { s with heap:=h' }) :
  wpAny (model prog w) A (setAddHashed a x (knd.hash k)) Q E s:=by
 obtain⟨o,es,ep,t,ho,T⟩:=hS
 have a4:es.size+1<scanBound:=by rw[T.num]; exact hroom
 unfold setAddHashed setAddHashedIn;refine wpAny_holding (HG (wpAny_setState_of ho T.dat T.fit ?_))
 dsimp only
 rw[byScan_of hsc T.few T.el];simp only[↓reduceIte]
 unfold setAddByScan;refine HG ?_
 refine HG (wpAny_rule ?_)
 refine HG (wpAny_setScan_of hkey ho T.dat T.fit T.el ?_)
 cases hr:List.findIdx? (fun e=>knd.is k e.2) es.toList with
 | some j=>
  dsimp only
  obtain⟨hj,a2,_⟩:=List.findIdx?_eq_some_iff_getElem.mp hr
  have Y:S k=true:=(T.mem k).mpr ⟨es.toList[j],zl hj,a2⟩
  refine HI (HI ?_)
  have e:s={ s with heap:=s.heap }:=by cases s; rfl
  have q:=h s.heap (za6 a s.heap) ⟨o,es,ep,t,ho,T.ex,T.dat,T.el,fun k'=>by
   rw[GW,decide_eq_true_eq,← T.mem k'];exact⟨fun hk=>hk.elim id (fun e=>e ▸ Y),.inl⟩,T.few,T.fit,by rw[Y]; exact T.num,T.good,T.apart⟩
  rw[Y]at q; rw[e]; exact q
 | none=>
  dsimp only
  have as:=List.findIdx?_eq_none_iff.mp hr
  have Y:S k=false:=by
   cases hk:S k with
   | false=>rfl
   | true=>obtain⟨e,he,hp⟩:=(T.mem k).mp hk; rw[as e he]at hp; cases hp
  have a0:∀ (b:Bool) {s₁:Shared} {Q':Unit→Shared→Prop},Q' () s₁→wpAny (model prog w) A (match b with | true=>rule "set.scan.the-table-gave-way" | false=>pure ()) Q' E s₁:=fun b s₁ Q' hq=>by
   cases b <;> first | exact HI hq | exact wpAny_rule hq
  have F:=layNew_perm t es (knd.hash k) x;have J:=layNew_fits t es (knd.hash k) x;have O:=gl t es (knd.hash k) x T.good;generalize layNew t es (knd.hash k) x=Ly at F J O ⊢;obtain⟨aa,t1,an,a3⟩:=Ly
  dsimp only at F J O ⊢
  rw[Array.toList_push]at F
  have ad:aa.size=n+1:=by rw[← y0,F.length_eq,zV,y0,T.num]; rfl
  have mk:∀ t2:SetTable,t2.fits aa.size=true→G t2→∀ o',o'.ExactSet→o'.data = .set aa (ep+1) t2→lB knd G o' aa (ep+1) t2 (fun k'=>S k'||decide (k'=k)) (n+1):=fun t2 a1 g2 o' ex da=>
   ⟨ex,da,(T.el.push hkey hsc).perm F,mem_push_iff hkey T.mem F,by rw[ad]; exact hroom,a1,ad,g2,(T.apart.push (fun e he=>by have:=as e he; simpa using this) hkey).perm F⟩
  refine HG (a0 _ ?_)
  have ag:∀ h',Heap.SameBut a s.heap h'→Du knd G h' a (fun k'=>S k'||decide (k'=k)) (n+1)→Q true { s with heap:=h' }:=by
   intro h' W Z; have:=h h' W; rw[Y]at this; exact this Z
  split
  ·refine HG ?_
   rw[hashByValue_scannable 8 hsc];refine HI ?_
   refine qZ gr ?_ ho T (mk _ ?_ ?_) ?_
   ·intro b s₁ Q' hq; cases b <;> first | exact HI hq | exact wpAny_rule hq
   ·split
    ·exact J
    ·exact SetTable.fits_plain_off J
   ·split
    ·exact O
    ·exact gp _ O
   ·intro h' W Z; dsimp only; exact wpAny_pure (ag h' W Z)
  ·refine HG (HI ?_)
   simp only[↓reduceIte]
   refine qZ gr ?_ ho T (mk _ J O) ?_
   ·intro b s₁ Q' hq; cases b <;> first | exact HI hq | exact wpAny_rule hq
   ·intro h' W Z; dsimp only; exact wpAny_pure (ag h' W Z)
end
section
variable{prog:Program}{w:World}{A:Around}{R:Result→Shared→Prop}{I:Addr}{fp wr:List Addr}{Gm:Array GenState→Array GenState→Prop}{n:Nat}{P:Nat→Value→Prop}{St:Nat→Shared→Prop}{L:Bool}
theorem ow{t:SetTable}(h:bE L t):bE L { t with plain:=false }:=⟨h.led,h.rise⟩
theorem Du.at'{K:Type}[DecidableEq K]{knd:KeyKind prog w K}{G:SetTable→Prop}{h h':Heap}{a:Addr}{S S':K→Bool}{m m':Nat}(x:Du knd G h a S m)(e:∀ o,h.get? a=some o→h'.get? a=some o)(J:∀ k,S k=S' k)(F:m=m'):Du knd G h' a S' m':=by
 obtain⟨o,es,W,t,O,T⟩:=x
 have:S=S':=funext J
 subst this; subst F
 exact⟨o,es,W,t,e o O,T⟩
end
section
variable{prog:Program}{w:World}{A:Around}{E:Value→Shared→Prop}{s:Shared}
def bv(w:World):Bool:=!(w.params.followText "set-order")
theorem AM(a:Value){Q₁:Value→Shared→Prop}
  (h:Q₁ (.ref s.heap.objs.size) { s with heap:=s.heap.push { cls:=.type "set", dict:=none,data:=.set #[] 0 (.fresh 0 0 (bv w)) } }) :
  codeAny (model prog w) A (.call (.builtin "set.__new__") ⟨[.type "set", a],[]⟩) (wants Q₁ E) s:=by
 refine codeAny_of_tree ?_
 show wpAny _ A.in1 (do checkBuiltinCall "set.__new__" ⟨[.type "set", a],[]⟩; again (.builtin "set.__new__" ⟨[.type "set", a],[]⟩)) _ _ s
 refine HG (wpAny_of_eq (F.newCall_set_1 a) (HI ⟨plainId_quiet F.plain_set_new _,codeAny_builtin F.entry_set_new ?_⟩))
 rw[Hx F.plain_set_new _];unfold Builtin.«set.__new__» Builtin.Frozenset.newClass
 have J:=sub_set_self;obtain⟨hp,g,d,O,os⟩:=s
 dsimp only
 wp_walk
 refine wpAny_askSetting (HI ?_)
 dsimp only
 simp only[newObj]
 refine HG (wpAny_alloc (HI ?_))
 exact HI h
end
theorem kN{α : Type}:∀ (l:List α) (i:Nat) (hi:i<l.length),(l[i]::l.eraseIdx i).Perm l
 | x::l,0,_=>.rfl
 | x::l,i+1,hi=>(List.Perm.swap x (l[i]'(by simpa using hi)) (l.eraseIdx i)).trans (List.Perm.cons x (kN l i (by simpa using hi)))
theorem uH{α : Type}(next:Nat→Nat):∀ (F k:Nat) (left:List α) (out:Array α),F=left.length→(pickOrder.go next F k left out).toList.Perm (out.toList++left)
 | 0,k,left,out,h=>by
  have:left=[]:=List.eq_nil_of_length_eq_zero h.symm
  subst this;unfold pickOrder.go; simp
 | F+1,k,left,out,h=>by
  unfold pickOrder.go;have hi:next k % left.length<left.length:=Nat.mod_lt _ (by omega)
  rw[za hi]
  dsimp only
  refine(uH next F (k+1) _ _ (by rw[List.length_eraseIdx]; rw[HS hi]; omega)).trans ?_
  rw[Array.toList_push,GC];refine List.Perm.append_left _ ?_
  exact kN _ _ hi
theorem qj{α : Type}(next:Nat→Nat)(xs:Array α):(pickOrder next xs).toList.Perm xs.toList:=by
 unfold pickOrder;have:=uH next xs.size 0 xs.toList #[] (by simp)
 simpa using this
section
variable{M:Model}{A:Around}{E:Value→Shared→Prop}
theorem tP{s:Shared}{n:Nat}{Q:Nat→Shared→Prop}(F:n≠0)(h:∀ i d',i<n→Q i { s with drawn:=d' }):wpAny M A (choose .order n) Q E s:=fun Γ p J=>by
 show Sem.wp M Γ (.choose .order n .pure) _ _ _ _
 rw[Sem.wp_choose];refine⟨F,?_⟩
 rw[Sem.wp_pure];exact h _ _ (Nat.mod_lt _ (by omega))
theorem qk{α : Type}:∀ (n:Nat) (xs:List α) (s:Shared) (Q:List α→Shared→Prop),n=xs.length→(∀ ys d',ys.Perm xs→Q ys { s with drawn:=d' })→wpAny M A (drawOrder n xs) Q E s
 | 0,xs,s,Q,hn,h=>by
  have:xs=[]:=List.eq_nil_of_length_eq_zero hn.symm
  subst this;unfold drawOrder;exact HI (by have:=h [] s.drawn .nil; cases s; exact this)
 | n+1,[],s,Q,hn,h=>by simp at hn
 | n+1,x::xs,s,Q,hn,h=>by
  unfold drawOrder;refine HG (tP (by simp) fun i d' hi=>?_)
  rw[za hi]
  dsimp only
  refine HG (qk n _ _ _ (by rw[List.length_eraseIdx,HS hi]; omega) fun ys F hp=>?_)
  refine HI ?_
  exact h _ F ((List.Perm.cons _ hp).trans (kN _ _ hi))
end
theorem Bm:Slot "set_iterator" "__next__" "set_iterator.__next__" :=
 .of (owner := "set_iterator") (n := "__next__") (by rw[typeLookup_type,builtinLookup_eq_fast]; kernel_rfl) (by decide +kernel) (by decide +kernel) (by decide +kernel)
  (by first | exact .inl (by decide +kernel) | exact .inr (by decide +kernel)) (by rw[isSubtype_type]; kernel_rfl)
theorem fv:entryFor table "set_iterator.__next__" = some Builtin.«set_iterator.__next__»:=entryFor_of_tree (by kernel_rfl)
theorem px:entryFor table "set.__iter__" = some Builtin.«frozenset.__iter__»:=
 entryFor_alias (id' := "frozenset.__iter__") (by kernel_rfl) rfl (by decide +kernel) (by kernel_rfl)
theorem rz : Manifest.owners.lookup (String.ofList ['r', 'o', 't', 'a', 'r', 'e', 't', 'i', '_', 't', 'e', 's'].reverse) = some Manifest.sig_set_iterator := by kernel_rfl
theorem gm(a:Value):argsOk "set_iterator.__next__" ⟨[a],[]⟩:=by
 unfold argsOk; rw [signature?_of (id := "set_iterator.__next__") (n:=['_','_','t','x','e','n','_','_']) (o:=['r','o','t','a','r','e','t','i','_','t','e','s']) (by kernel_rfl) rz]; kernel_rfl
section
variable{prog:Program}{w:World}{A:Around}{E:Value→Shared→Prop}{s:Shared}
def iE(w:World)(a:Addr)(ep:Nat)(es:Array (Int × Value)):List Value:=((if w.params.followText "set-order" then pickOrder (w.params.setOrder a ep) es else es).toList.map (·.2))
def d_(w:World)(t:SetTable)(i:Nat):Nat:=if w.params.followText "set-order" then 0 else if i=0 then 0 else t.place.getD (i - 1) 0+1
theorem kP(a:Addr)(F:Nat)(es:Array (Int × Value)):(iE w a F es).Perm (es.toList.map (·.2)):=by
 unfold iE;split
 ·exact(qj _ _).map _
 ·exact .rfl
theorem qz{a:Addr}{o:Obj}{es:Array (Int × Value)}{Y:Nat}{t:SetTable}{i:Nat}{Q:Option (Value × Nat)→Shared→Prop}(Z:s.heap.get? a=some o)(hd:o.data = .set es Y t)(hf:t.fits es.size=true)(hg:bE (bv w) t)(hi:i≤es.size)
  (hn:w.params.followText "set-order" = true∨(!t.plain&&decide (es.size>1))=false) (h:Q (((iE w a Y es)[i]?).map fun x=>(x,d_ w t (i+1))) s):wpAny (model prog w) A (setNext a (d_ w t i) i Y) Q E s:=by
 have aa:t.place.size=es.size:=by
  unfold SetTable.fits at hf;simp only[sG,beq_iff_eq]at hf
  exact hf.1
 unfold setNext;refine HG (wpAny_setState_of Z hd hf ?_)
 refine HG ?_
 unfold setsByText;refine HG (wpAny_askSetting (HI ?_))
 show wpAny _ _ (if w.params.followText "set-order" = true then _ else _) _ _ _
 unfold iE d_ at h;unfold d_
 cases hb:w.params.followText "set-order" with
 | true=>
  rw[hb]at h
  simp only[if_true]at h ⊢
  rw[HP (by simp)]
  refine HG ?_
  unfold setWalk;refine HG (wpAny_setState_of Z hd hf ?_)
  refine HG ?_
  unfold setsByText;refine HG (wpAny_askSetting (HI ?_))
  show wpAny _ _ (if w.params.followText "set-order" = true then _ else _) _ _ _
  rw[HS hb];refine HG (wpAny_askSetting (HI ?_))
  refine HI ?_
  rw[ze,Option.map_map,zbl]at h
  exact h
 | false=>
  rw[hb]at h
  simp only[sT,if_false]at h ⊢
  have S:t.led=true:=by rw[hg.led]; unfold bv; rw[hb]; rfl
  refine wpAny_ite_split (fun W=>?_) (fun _=>?_)
  ·rcases hn with z | z
   ·rw[hb]at z; cases z
   ·exact absurd (z.symm.trans W) (by decide)
  refine HG ?_
  show wpAny _ _ (if (!t.led && !es.isEmpty)=true then unsupported "set:maker-not-led" else pure ()) _ _ _
  rw[HP (by rw[S]; simp)]
  refine HI (HI ?_)
  have O:SetTable.below t.place (if i=0 then 0 else t.place.getD (i - 1) 0+1)=i:=by
   by_cases h0:i=0
   ·rw[HS h0,vY hg.rise,h0]
   ·have J:i - 1<t.place.size:=by omega
    rw[HP h0,show t.place.getD (i - 1) 0=t.place[i - 1] by simp[Array.getD,J],vL hg.rise J]
    omega
  rw[O];rw[ze,zbl,HP (by omega),Nat.add_sub_cancel]at h
  by_cases hlt:i<es.size
  ·have F:i<t.place.size:=by omega
   rw[GD hlt,GD F];rw[GD hlt,show t.place.getD i 0=t.place[i] by simp[Array.getD,F]]at h
   exact h
  ·rw[zbS (by omega)]
   rw[zbS (by omega)]at h
   exact h
end
section
variable{prog:Program}{w:World}{A:Around}{E:Value→Shared→Prop}{s:Shared}
def ES(h:Heap)(it:Addr)(first:Value)(i:Nat)(a:Addr)(n ep:Nat):Prop:=∃ o,h.get? it=some o∧o.cls = .type "set_iterator" ∧ o.data = .fields #[first,.int i 0,.ref a,.int n 0,.int ep 0]
theorem ES.typeIs{it a:Addr}{first:Value}{i n F:Nat}(x:ES s.heap it first i a n F):s.TypeIs (.ref it) "set_iterator" := let ⟨o,ho,hc,_⟩:=x; ⟨o,ho,hc⟩
theorem BE{it a:Addr}{o:Obj}{es:Array (Int × Value)}{ep:Nat}{t:SetTable}{i:Nat}{v:Value}{Q:Option Value→Shared→Prop}(W:ES s.heap it (.int (d_ w t i) 0) i a es.size ep)(ho:s.heap.get? a=some o)(hd:o.data = .set es ep t)(hf:t.fits es.size=true)(hg:bE (bv w) t)
  (hn:w.params.followText "set-order" = true∨(!t.plain&&decide (es.size>1))=false) (hi:i<es.size) (hv:(iE w a ep es)[i]? = some v)
  (hQ:∀ h',ES h' it (.int (d_ w t (i+1)) 0) (i+1) a es.size ep→Heap.SameBut it s.heap h'→Q (some v) { s with heap:=h' }):wpAny (model prog w) A (pyNext (.ref it)) Q E s:=by
 obtain⟨oi,S,aa,Y⟩:=id W
 unfold pyNext;refine HG (wpAny_attempt (wpAny_callSpecial?_slot (name:=Str.ofString "__next__") W.typeIs Bm (wpAny_call_entry Bm W.typeIs fv ?_ (gm _))))
 unfold Builtin.«set_iterator.__next__»
 refine HG (HI ?_)
 refine HG (wpAny_fieldsOf S Y ?_)
 dsimp only
 refine HG (wpAny_setEntries_of ho hd hf ?_)
 rw[HP (by simp)]
 simp only[uT]
 refine HG (qz ho hd hf hg (by omega) hn ?_)
 rw[hv];show wpAny _ _ (setField (.ref it) 0 (rawInt (d_ w t (i+1):Nat)) >>= fun _=>setField (.ref it) 1 (rawInt ((i:Int)+1)) >>= fun _=>ret v) _ _ _
 refine HG (wpAny_setField S Y (by simp) ?_)
 have F:=za7 Y (fun xs=>xs.setIfInBounds 0 (rawInt (d_ w t (i+1):Nat)))
 have O:=Gb (Obj.mapFields (fun xs=>xs.setIfInBounds 0 (rawInt (d_ w t (i+1):Nat)))) S (zbm F)
 refine HG (wpAny_setField O F (by simp) ?_)
 have J:=za7 F (fun xs=>xs.setIfInBounds 1 (rawInt ((i:Int)+1)))
 have Z:=Gb (Obj.mapFields (fun xs=>xs.setIfInBounds 1 (rawInt ((i:Int)+1)))) O (zbm J)
 refine HI ⟨_,rfl,HI (hQ _ ⟨_,Z,?_,?_⟩ ((rB ..).trans (rB ..)))⟩
 ·rw[zbI,zbI]; exact aa
 ·rw[J]; simp[rawInt]
theorem DH{it a:Addr}{o:Obj}{es:Array (Int × Value)}{S:Nat}{t:SetTable}{Q:Option Value→Shared→Prop}(hh:A.handled=none)(F:ES s.heap it (.int (d_ w t es.size) 0) es.size a es.size S)(W:s.heap.get? a=some o)(hd:o.data = .set es S t)(hf:t.fits es.size=true)(hg:bE (bv w) t)
  (Z:w.params.followText "set-order" = true∨(!t.plain&&decide (es.size>1))=false)
  (Y:∀ h',Heap.ExtBut it s.heap h'→Q none { s with heap:=h' }):wpAny (model prog w) A (pyNext (.ref it)) Q E s:=by
 obtain⟨oi,J,aa,O⟩:=id F
 have hv:(iE w a S es)[es.size]? = none:=oQ (by rw[(kP (w:=w) a S es).length_eq]; simp)
 unfold pyNext;refine HG (wpAny_attempt (wpAny_callSpecial?_slot (name:=Str.ofString "__next__") F.typeIs Bm (wpAny_call_entry Bm F.typeIs fv ?_ (gm _))))
 unfold Builtin.«set_iterator.__next__»
 refine HG (HI ?_)
 refine HG (wpAny_fieldsOf J O ?_)
 dsimp only
 refine HG (wpAny_setEntries_of W hd hf ?_)
 rw[HP (by simp)]
 simp only[uT]
 refine HG (qz W hd hf hg (zg _) Z ?_)
 rw[hv];show wpAny _ _ (setField (.ref it) 2 .none >>= fun _=>newExc (.type "StopIteration") [] >>= fun e=>raiseNew e) _ _ _
 refine HG (wpAny_setField J O (by simp) ?_)
 refine HG ?_
 simp only[newExc,newTuple]
 refine HG (wpAny_newObj_type ?_ (by size_fits))
 refine HG (m:=firstArgMember _ _) (wpAny_of_eq (a:=Value.none) (by first | rfl | (simp only[firstArgMember]; rfl)) ?_)
 refine wpAny_newObj_type ?_ (by size_fits)
 simp only[raiseNew]
 refine HG (wpAny_handled ?_)
 rw[show A.in1.handled=none from hh];refine HG (HI (wpAny_throw ?_))
 refine HG (wpAny_isInstance (T := "StopIteration") (b:=true) ⟨_,wd _ rfl,rfl⟩ isSubtype_stop ?_)
 exact HI (Y _ (((rB ..).extBut.push _).push _))
end
section
variable{prog:Program}{w:World}{A:Around}{E:Value→Shared→Prop}{s:Shared}
theorem vC{a:Addr}{o:Obj}{es:Array (Int × Value)}{F:Nat}{t:SetTable}{Q:Bool→Shared→Prop}(J:s.heap.get? a=some o)(hd:o.data = .set es F t)(hf:t.fits es.size=true)
  (h:Q (!(w.params.followText "set-order")&&(!t.plain&&decide (es.size>1))) s):wpAny (model prog w) A (setDrawn a) Q E s:=by
 unfold setDrawn;refine HG (wpAny_setState_of J hd hf ?_)
 refine HG ?_
 unfold setsByText;refine HG (wpAny_askSetting (HI ?_))
 exact HI h
theorem Ca{a:Addr}{o:Obj}{es:Array (Int × Value)}{W:Nat}{t:SetTable}{Q:Value→Shared→Prop}(O:s.heap.get? a=some o)(hx:o.ExactSet)(hd:o.data = .set es W t)(hf:t.fits es.size=true)(S:es.size<scanBound)
  (h1:(!(w.params.followText "set-order")&&(!t.plain&&decide (es.size>1)))=false→Q (.ref s.heap.objs.size) { s with heap:=s.heap.push { cls:=.type "set_iterator", data:=.fields #[.int 0 0,.int 0 0,.ref a,.int es.size 0,.int W 0] } })
  (h2:∀ (ps:List Nat) d',ps.Perm (List.range es.size)→Q (.ref (s.heap.objs.size+1)) { s with heap:=(s.heap.push { cls:=.type "tuple", data:=.seq (ps.map fun i:Nat=>rawInt i).toArray }).push { cls:=.type "set_iterator", data:=.fields #[.ref s.heap.objs.size,.int 0 0,.ref a,.int es.size 0,.int W 0] },drawn:=d' }) :
  wpAny (model prog w) A (pyIter (.ref a)) Q E s:=by
 have Y:s.TypeIs (.ref a) "set" := ⟨o,O,hx.1⟩
 refine wpAny_pyIter_slot Y F.slot_set_iter (wpAny_call_entry F.slot_set_iter Y px ?_ (F.args_set_iter_1 _))
 unfold Builtin.«frozenset.__iter__»
 refine HG (HI ?_)
 refine HG ?_
 unfold Builtin.Frozenset.sizeOf;refine HG (wpAny_setEntries_of O hd hf (HI ?_))
 refine HG (vC O hd hf ?_)
 dsimp only
 refine wpAny_ite_split (fun J=>?_) (fun J=>?_)
 ·refine HG (qk _ _ _ _ (by simp) fun ps d' hp=>?_)
  have Z:ps.length=es.size:=by rw[hp.length_eq]; simp
  refine HG ?_
  unfold newTuple;have hz:=fits_of_scanBound S;refine wpAny_newObj_type ?_ (by show (List.map _ ps).toArray.size≤sizeLine; simp; omega)
  refine HG ?_
  unfold setEpoch;refine HG (wpAny_setState_of (zD _ O) hd hf (HI ?_))
  refine HG ?_
  unfold newFields;refine wpAny_newObj_type (HI ⟨_,rfl, "set_iterator", _,⟨_,wd _ rfl,rfl⟩,Bm.lookup,?_⟩)
  rw[u3];exact h2 ps d' hp
 ·refine HG (HI ?_)
  refine HG ?_
  unfold setEpoch;refine HG (wpAny_setState_of O hd hf (HI ?_))
  refine HG ?_
  unfold newFields;refine wpAny_newObj_type (HI ⟨_,rfl, "set_iterator", _,⟨_,wd _ rfl,rfl⟩,Bm.lookup,?_⟩)
  exact h1 (by simpa using J)
end
section
variable{prog:Program}{w:World}{A:Around}{E:Value→Shared→Prop}{s:Shared}
theorem B7{it a Z:Addr}{o ot:Obj}{es:Array (Int × Value)}{ep ct:Nat}{t:SetTable}{i k:Nat}{ps:List Nat}{v:Value}{hh:Int}{Q:Option Value→Shared→Prop}(O:ES s.heap it (.ref Z) i a es.size ep)(ho:s.heap.get? a=some o)(hd:o.data = .set es ep t)(hf:t.fits es.size=true)
  (aa:s.heap.get? Z=some ot) (ad:ot.data = .seq (ps.map fun i:Nat=>rawInt i).toArray ct) (hk:ps[i]? = some k) (hv:es[k]? = some (hh,v))
  (hQ:∀ h',ES h' it (.ref Z) (i+1) a es.size ep→Heap.SameBut it s.heap h'→Q (some v) { s with heap:=h' }):wpAny (model prog w) A (pyNext (.ref it)) Q E s:=by
 obtain⟨oi,J,Y,S⟩:=id O
 unfold pyNext;refine HG (wpAny_attempt (wpAny_callSpecial?_slot (name:=Str.ofString "__next__") O.typeIs Bm (wpAny_call_entry Bm O.typeIs fv ?_ (gm _))))
 unfold Builtin.«set_iterator.__next__»
 refine HG (HI ?_)
 refine HG (wpAny_fieldsOf J S ?_)
 dsimp only
 refine HG (wpAny_setEntries_of ho hd hf ?_)
 rw[HP (by simp)]
 refine HG (wpAny_seqItems aa ad ?_)
 simp only[uT]
 have e1:(List.map (fun i:Nat=>rawInt (i:Int)) ps).toArray[i]? = some (.int (k:Int) 0):=by
  rw[List.getElem?_toArray,ze,hk]; rfl
 rw[e1]
 dsimp only
 refine HG ?_
 unfold setNextDrawn;refine HG (wpAny_setState_of ho hd hf ?_)
 dsimp only
 simp only[uT]
 rw[HP (by simp)]
 rw[hv];refine HI ?_
 refine HG (wpAny_setField J S (by simp) ?_)
 have F:=za7 S (fun xs=>xs.setIfInBounds 1 (rawInt ((i:Int)+1)))
 have W:=Gb (Obj.mapFields (fun xs=>xs.setIfInBounds 1 (rawInt ((i:Int)+1)))) J (zbm F)
 refine HI ⟨_,rfl,HI (hQ _ ⟨_,W,?_,?_⟩ (rB ..))⟩
 ·rw[zbI]; exact Y
 ·rw[F]; simp[rawInt]
theorem C5{it a tp:Addr}{o ot:Obj}{es:Array (Int × Value)}{ep ct:Nat}{t:SetTable}{ps:List Nat}{Q:Option Value→Shared→Prop}(hh:A.handled=none)(O:ES s.heap it (.ref tp) es.size a es.size ep)(ho:s.heap.get? a=some o)(hd:o.data = .set es ep t)(hf:t.fits es.size=true)
  (Y:s.heap.get? tp=some ot) (Z:ot.data = .seq (ps.map fun i:Nat=>rawInt i).toArray ct) (hp:ps.length=es.size)
  (hQ:∀ h',Heap.ExtBut it s.heap h'→Q none { s with heap:=h' }):wpAny (model prog w) A (pyNext (.ref it)) Q E s:=by
 obtain⟨oi,J,aa,S⟩:=id O
 unfold pyNext;refine HG (wpAny_attempt (wpAny_callSpecial?_slot (name:=Str.ofString "__next__") O.typeIs Bm (wpAny_call_entry Bm O.typeIs fv ?_ (gm _))))
 unfold Builtin.«set_iterator.__next__»
 refine HG (HI ?_)
 refine HG (wpAny_fieldsOf J S ?_)
 dsimp only
 refine HG (wpAny_setEntries_of ho hd hf ?_)
 rw[HP (by simp)]
 refine HG (wpAny_seqItems Y Z ?_)
 simp only[uT]
 have e1:(List.map (fun i:Nat=>rawInt (i:Int)) ps).toArray[es.size]? = none:=by
  rw[List.getElem?_toArray,oQ (by simp; omega)]
 rw[e1]
 dsimp only
 refine HG (wpAny_setField J S (by simp) ?_)
 have F:=za7 S (fun xs=>xs.setIfInBounds 0 (rawInt 0))
 have W:=Gb (Obj.mapFields (fun xs=>xs.setIfInBounds 0 (rawInt 0))) J (zbm F)
 refine HG (wpAny_setField W F (by simp) ?_)
 refine HG ?_
 simp only[newExc,newTuple]
 refine HG (wpAny_newObj_type ?_ (by size_fits))
 refine HG (m:=firstArgMember _ _) (wpAny_of_eq (a:=Value.none) (by first | rfl | (simp only[firstArgMember]; rfl)) ?_)
 refine wpAny_newObj_type ?_ (by size_fits)
 simp only[raiseNew]
 refine HG (wpAny_handled ?_)
 rw[show A.in1.handled=none from hh];refine HG (HI (wpAny_throw ?_))
 refine HG (wpAny_isInstance (T := "StopIteration") (b:=true) ⟨_,wd _ rfl,rfl⟩ isSubtype_stop ?_)
 exact HI (hQ _ ((((rB ..).trans (rB ..)).extBut.push _).push _))
end
theorem lz:Slot "set_iterator" "__iter__" "set_iterator.__iter__" :=
 .of (owner := "set_iterator") (n := "__iter__") (by rw[typeLookup_type,builtinLookup_eq_fast]; kernel_rfl) (by decide +kernel) (by decide +kernel) (by decide +kernel)
  (by first | exact .inl (by decide +kernel) | exact .inr (by decide +kernel)) (by rw[isSubtype_type]; kernel_rfl)
theorem qD:entryFor table "set_iterator.__iter__" = some Builtin.«dict_keyiterator.__iter__»:=
 entryFor_alias (id' := "dict_keyiterator.__iter__") (by kernel_rfl) rfl (by decide +kernel) (by kernel_rfl)
theorem sV(a:Value):argsOk "set_iterator.__iter__" ⟨[a],[]⟩:=by
 unfold argsOk; rw [signature?_of (id := "set_iterator.__iter__") (n:=['_','_','r','e','t','i','_','_']) (o:=['r','o','t','a','r','e','t','i','_','t','e','s']) (by kernel_rfl) rz]; kernel_rfl
section
variable{prog:Program}{w:World}{A:Around}{E:Value→Shared→Prop}{s:Shared}
theorem uh{it a:Addr}{first:Value}{i n J:Nat}{Q:Value→Shared→Prop}(F:ES s.heap it first i a n J)(h:Q (.ref it) s):wpAny (model prog w) A (pyIter (.ref it)) Q E s:=
 wpAny_pyIter_slot F.typeIs lz (wpAny_call_entry lz F.typeIs qD (HG (HI (HI ⟨_,rfl, "set_iterator", _,F.typeIs,Bm.lookup,h⟩))) (sV _))
theorem ES.at'{h h':Heap}{it a:Addr}{first:Value}{i n F:Nat}(x:ES h it first i a n F)(e:∀ o,h.get? it=some o→h'.get? it=some o):ES h' it first i a n F:=let ⟨o,ho,r⟩:=x; ⟨o,e _ ho,r⟩
theorem FF(hh:A.handled=none)(I a:Addr)(Z:a≠I){o:Obj}{es:Array (Int × Value)}{F:Nat}{t:SetTable}(hd:o.data = .set es F t)(hf:t.fits es.size=true)(hg:bE (bv w) t)(hn:w.params.followText "set-order" = true∨(!t.plain&&decide (es.size>1))=false) :
  Walks prog w A I [I,a] [I] es.size (fun i v=>(iE w a F es)[i]? = some v) (fun i h=>ES h I (.int (d_ w t i) 0) i a es.size F∧h.get? a=some o) where
 sub:=fun b J=>by simp at J; simp[J]
 frame:=fun _ _ _ st hk=>⟨st.1.at' fun o e=>hk I (by simp) o e,hk a (by simp) o st.2⟩
 item:=fun i s Q E hi st O=>by
  have hl:(iE w a F es).length=es.size:=by rw[(kP (w:=w) a F es).length_eq]; simp
  have hv:(iE w a F es)[i]? = some (iE w a F es)[i]:=za (by omega)
  refine BE st.1 st.2 hd hf hg hn hi hv fun h' W S=>?_
  exact O _ h' s.toks hv ⟨W,S.extBut a o Z st.2⟩ (fun b o J e=>S.extBut b o (fun h=>J (by simp[h])) e)
 done:=fun s Q E st O=>DH hh st.1 st.2 hd hf hg hn fun h' Y=>O h' s.toks fun b o J e=>Y b o (fun h=>J (by simp[h])) e
 self:=fun _ _ _ _ st O=>uh st.1 O
theorem Fg(hh:A.handled=none)(I a S:Addr)(ag:a≠I)(an:S≠I){o ot:Obj}{es:Array (Int × Value)}{ep ct:Nat}{t:SetTable}{ps:List Nat}(hd:o.data = .set es ep t)(hf:t.fits es.size=true)(Z:ot.data = .seq (ps.map fun i:Nat=>rawInt i).toArray ct)(hp:ps.Perm (List.range es.size)) :
  Walks prog w A I [I,a,S] [I] es.size (fun i v=>(ps.map fun k=>(es.getD k (0,.none)).2)[i]? = some v) (fun i h=>ES h I (.ref S) i a es.size ep∧h.get? a=some o∧h.get? S=some ot) where
 sub:=fun b W=>by simp at W; simp[W]
 frame:=fun _ _ _ st O=>⟨st.1.at' fun o e=>O I (by simp) o e,O a (by simp) o st.2.1,O S (by simp) ot st.2.2⟩
 item:=fun i s Q E hi st Y=>by
  have hl:ps.length=es.size:=by rw[hp.length_eq]; simp
  have O:ps[i]? = some (ps[i]'(by omega)):=za (by omega)
  have F:ps[i]'(by omega)<es.size:=HV.mp (hp.mem_iff.mp (zl _))
  have hv:(ps.map fun k=>(es.getD k (0,.none)).2)[i]? = some (es[ps[i]'(by omega)]'F).2:=by
   rw[ze,O];simp[Array.getD,F]
  refine B7 st.1 st.2.1 hd hf st.2.2 Z O (hh:=(es[ps[i]'(by omega)]'F).1) (v:=(es[ps[i]'(by omega)]'F).2) (GD F) fun h' aa J=>?_
  exact Y _ h' s.toks hv ⟨aa,J.extBut a o ag st.2.1,J.extBut S ot an st.2.2⟩ (fun b o W e=>J.extBut b o (fun h=>W (by simp[h])) e)
 done:=fun s Q E st Y=>C5 hh st.1 st.2.1 hd hf st.2.2 Z (by rw[hp.length_eq]; simp) fun h' ad=>Y h' s.toks fun b o W e=>ad b o (fun h=>W (by simp[h])) e
 self:=fun _ _ _ _ st Y=>uh st.1 Y
end
section
variable{prog:Program}{w:World}{A:Around}{E:Value→Shared→Prop}{s:Shared}
theorem rJ{a:Addr}{Q:Bool→Shared→Prop}(S:s.TypeIs (.ref a) "set") (h:Q false s):wpAny (model prog w) A (Builtin.List.listLengthHint (.ref a)) Q E s:=by
 unfold Builtin.List.listLengthHint;refine HG (wpAny_specialOf S F.slot_set_len.lookup ?_)
 generalize hid:("set.__len__" : String)=O
 wp_delta
 rw[show splitId O=some ("set", "__len__") from by subst hid; decide +kernel]
 subst hid;refine HG (wpAny_isInstance (T := "set") (b:=true) S (by rw[isSubtype_type]; kernel_rfl) ?_)
 refine wpAny_ite_split (fun J=>absurd J (by decide)) (fun _=>?_)
 refine wpAny_ite_split (fun _=>?_) (fun J=>absurd (by decide +kernel) J)
 refine HG (wpAny_typeOf S ?_)
 exact HI h
theorem Am{l:List Value}{acc:Array Value}(h:ItemsOf (fun i v=>l[i]? = some v) acc l.length):acc.toList=l:=by
 refine za3 fun i=>?_
 rw[zbl]
 cases e:acc[i]? with
 | some v=>exact(h.2 i v e).symm
 | none=>
  have:acc.size≤i:=by simpa using e
  exact(oQ (by have:=h.1; omega)).symm
theorem tM{es:Array (Int × Value)}{ps:List Nat}(hp:ps.Perm (List.range es.size)):(ps.map fun k=>(es.getD k (0,.none)).2).Perm (es.toList.map (·.2)):=by
 refine(hp.map _).trans ?_
 refine List.Perm.of_eq ?_
 refine zbn (by simp) fun i h1 h2=>?_
 have hi:i<es.size:=by simpa using h1
 simp[Array.getD,hi]
theorem vQ{R:Result→Shared→Prop}{a:Addr}{o:Obj}{es:Array (Int × Value)}{ep:Nat}{t:SetTable}(hh:A.handled=none)(ho:s.heap.get? a=some o)(hx:o.ExactSet)(hd:o.data = .set es ep t)(hf:t.fits es.size=true)(ad:es.size<scanBound)(hg:bE (bv w) t)
  (S:Addr) (res:Value) (c₀ : Nat) (hS:s.heap.get? S=some { cls:=.type "list", data:=.seq #[] c₀ })
  (hR:∀ h' d' tk J c',(∀ b o,b≠S→s.heap.get? b=some o→h'.get? b=some o)→h'.get? S=some { cls:=.type "list", dict:=none,data:=.seq J c',slots:=#[] }→J.toList.Perm (es.toList.map (·.2))→R (.ok (.ret res)) { s with heap:=h',drawn:=d',toks:=tk }) :
  wpAny (model prog w) A.in1 (Builtin.List.listExtendWith (.ref S) (.ref a) res)
   (fun a6 s'=>match a6 with | .done f=>R (.ok f) s' | .again c'=>c'.quiet=true∧codeAny (model prog w) A c' R s') (fun e s'=>R (.error e) s') s:=by
 have hz:=fits_of_scanBound ad;have ag:a<s.heap.objs.size:=zA ho
 have Z:S<s.heap.objs.size:=zA hS
 have a0:S≠a:=fun e=>by
  rw[e,ho]at hS
  cases hS
  cases hd
 have hT:s.TypeIs (.ref a) "set" := ⟨o,ho,hx.1⟩
 have e1:Builtin.List.listSameRef (.ref S) (.ref a)=false:=by simp[Builtin.List.listSameRef,a0]
 have key:∀ (h2:Heap) (d2:Drawn) (c tk:Nat) (I:Addr) (fp:List Addr) (l:List Value) (St:Nat→Heap→Prop),l.length=es.size→l.Perm (es.toList.map (·.2))→Walks prog w A.in1 I fp [I] es.size (fun i v=>l[i]? = some v) St→S∉fp→s.heap.objs.size≤I→
   (∀ b o,b≠S→s.heap.get? b=some o→h2.get? b=some o)→h2.get? S=some { cls:=.type "list", data:=.seq #[] c }→St 0 h2→codeAny (model prog w) A (.builtin "list.extend.loop" ⟨[.ref S,.ref I,res],[]⟩) R { s with heap:=h2,drawn:=d2,toks:=tk }:=by
  intro h2 d2 c tk I fp l St hl hp W aa hI hk a8 F
  refine codeAny_extend_loopS W.toS hz S aa res es.size 0 _ #[] c rfl (yT _) F a8 (ItemsOf.nil _) fun s' J c' hm a9 a5=>?_
  rw[Moved.eq_with hm];refine hR s'.heap d2 s'.toks J c' (fun b o hb e=>hm.heap b o (fun Y=>?_) (hk b o hb e)) a9 (by rw[Am (by rw[hl]; exact a5)]; exact hp)
  rcases HW.mp Y with e' | Y
  ·exact hb e'
  ·have:=zA e
   rw[HQ.mp Y]at this
   exact absurd this (Nat.not_lt.mpr hI)
 unfold Builtin.List.listExtendWith;refine HG (wpAny_typeOf hT ?_)
 rw[HP (by rw[e1]; decide)]
 /- the list makes room, then the loop -/
 have O:∀ (h2:Heap) (d2:Drawn) (I:Addr) (fp:List Addr) (l:List Value) (St:Nat→Heap→Prop),l.length=es.size→l.Perm (es.toList.map (·.2))→Walks prog w A.in1 I fp [I] es.size (fun i v=>l[i]? = some v) St→S∉fp→s.heap.objs.size≤I→
   (∀ b o,s.heap.get? b=some o→h2.get? b=some o)→St 0 h2→
   wpAny (model prog w) A.in1 (updateSeq S (·.push .none) >>= fun _=>updateSeq S (·.pop)) (fun _ s'=>codeAny (model prog w) A (.builtin "list.extend.loop" ⟨[.ref S,.ref I,res],[]⟩) R s') (fun e s'=>R (.error e) s') { s with heap:=h2,drawn:=d2 }:=by
  intro h2 d2 I fp l St hl hp W aa hI hk F
  have a3:=hk _ _ hS;refine HG (wpAny_updateSeq a3 rfl ?_)
  have a4:=Gb (Obj.mapSeq (·.push Value.none)) a3 rfl;refine wpAny_updateSeq (hz:=by seq_fits) a4 rfl ?_
  have a7:=Gb (Obj.mapSeq (·.pop)) a4 rfl
  have a1:∀ b o,b≠S→h2.get? b=some o→((h2.update S (Obj.mapSeq (·.push Value.none))).update S (Obj.mapSeq (·.pop))).get? b=some o:=fun b o hb e=>
   (Ha _ _ (zB hb)).trans ((Ha _ _ (zB hb)).trans e)
  exact key _ d2 _ s.toks I fp l St hl hp W aa hI (fun b o hb e=>a1 b o hb (hk b o e)) a7 (W.frame 0 _ _ F fun b hb o e=>a1 b o (fun z=>aa (z ▸ hb)) e)
 refine HG (Ca ho hx hd hf ad (fun a2=>?_) fun ps d' hp=>?_)
 ·have an:Shared.TypeIs { s with heap:=s.heap.push { cls:=.type "set_iterator", data:=.fields #[.int 0 0,.int 0 0,.ref a,.int es.size 0,.int ep 0] } } (.ref a) "set" := ⟨o,zD _ ho,hx.1⟩
  refine HG (wpAny_holding (rJ an ?_))
  have hn:w.params.followText "set-order" = true∨(!t.plain&&decide (es.size>1))=false:=by
   cases hb:w.params.followText "set-order" with
   | true=>exact .inl rfl
   | false=>rw[hb]at a2; exact .inr (by simpa using a2)
  have F:ES (s.heap.push { cls:=.type "set_iterator", data:=.fields #[.int 0 0,.int 0 0,.ref a,.int es.size 0,.int ep 0] }) s.heap.objs.size (.int (d_ w t 0) 0) 0 a es.size ep:=by
   refine⟨_,wd _ rfl,rfl,?_⟩
   unfold d_;split <;> simp
  refine wpAny_ite_split (fun _=>?_) (fun as=>absurd (by decide +kernel) as)
  refine HG (wpAny_rule ?_)
  refine HG (wpAny_mono (O _ s.drawn _ _ _ _ (by rw[(kP (w:=w) a ep es).length_eq]; simp) (kP a ep es) (FF (A:=A.in1) hh s.heap.objs.size a (zM ag) hd hf hg hn) (fun hm=>?_) (zg _) (fun b o e=>zD _ e) ⟨F,zD _ ho⟩) (fun _ s' hc=>HI ⟨plainId_quiet za8 _,hc⟩) (fun _ _ he=>he))
  rcases HW.mp hm with z | z
  ·exact absurd z (zM Z)
  ·exact a0 (HQ.mp z)
 ·have an:Shared.TypeIs { s with heap:=(s.heap.push { cls:=.type "tuple", data:=.seq (ps.map fun i:Nat=>rawInt i).toArray }).push { cls:=.type "set_iterator", data:=.fields #[.ref s.heap.objs.size,.int 0 0,.ref a,.int es.size 0,.int ep 0] },drawn:=d' } (.ref a) "set" := ⟨o,zD _ (zD _ ho),hx.1⟩
  refine HG (wpAny_holding (rJ an ?_))
  refine wpAny_ite_split (fun _=>?_) (fun as=>absurd (by decide +kernel) as)
  refine HG (wpAny_rule ?_)
  have F:ES ((s.heap.push { cls:=.type "tuple", data:=.seq (ps.map fun i:Nat=>rawInt i).toArray }).push { cls:=.type "set_iterator", data:=.fields #[.ref s.heap.objs.size,.int 0 0,.ref a,.int es.size 0,.int ep 0] }) (s.heap.objs.size+1) (.ref s.heap.objs.size) 0 a es.size ep:=by
   have:=wd (s.heap.push { cls:=.type "tuple", data:=.seq (ps.map fun i:Nat=>rawInt i).toArray }) (rfl:Obj.isFreed { cls:=.type "set_iterator", data:=.fields #[.ref s.heap.objs.size,.int 0 0,.ref a,.int es.size 0,.int ep 0] }=false)
   rw[u3]at this
   exact⟨_,this,rfl,rfl⟩
  refine HG (wpAny_mono (O _ d' _ _ _ _ (by rw[zc,hp.length_eq]; simp) (tM hp) (Fg (A:=A.in1) hh (s.heap.objs.size+1) a s.heap.objs.size (zM (zbo ag)) (zM (zbF _)) hd hf rfl hp) (fun hm=>?_) (GZ _) (fun b o e=>zD _ (zD _ e)) ⟨F,zD _ (zD _ ho),zD _ (wd _ rfl)⟩) (fun _ s' hc=>HI ⟨plainId_quiet za8 _,hc⟩) (fun _ _ he=>he))
  rcases HW.mp hm with z | z
  ·exact absurd z (zM (zbo Z))
  ·rcases HW.mp z with z | z
   ·exact a0 z
   ·exact absurd (HQ.mp z) (zM Z)
theorem v8{a:Addr}{o:Obj}{es:Array (Int × Value)}{ep:Nat}{t:SetTable}{Q:List Value→Shared→Prop}(hh:A.handled=none)(ho:s.heap.get? a=some o)(hx:o.ExactSet)(hd:o.data = .set es ep t)(hf:t.fits es.size=true)(W:es.size<scanBound)(hg:bE (bv w) t)
  (hQ:∀ h' d' S acc,(∀ b o,s.heap.get? b=some o→h'.get? b=some o)→s.heap.objs.size<h'.objs.size→acc.Perm (es.toList.map (·.2))→Q acc { s with heap:=h',drawn:=d',toks:=S }):wpAny (model prog w) A (collect (.ref a)) Q E s:=by
 have ext:∀ R:Result→Shared→Prop,(∀ h' d' S J Y,(∀ b o,s.heap.get? b=some o→h'.get? b=some o)→h'.get? s.heap.objs.size=some { cls:=.type "list", dict:=none,data:=.seq J Y,slots:=#[] }→J.toList.Perm (es.toList.map (·.2))→R (.ok (.ret (.ref s.heap.objs.size))) { s with heap:=h',drawn:=d',toks:=S })→
   codeAny (model prog w) A (.builtin "proto.collect" ⟨[.ref a],[]⟩) R s:=fun R hR=>by
  refine codeAny_builtin F.entry_proto_collect ?_
  rw[Hx F.plain_proto_collect _];show wpAny _ A.in1 (newList [] >>= fun l=>again (.builtin "list.__iadd__" ⟨[l,.ref a],[]⟩)) _ _ s
  refine HG (wpAny_newObj_type ?_)
  refine HI ⟨plainId_quiet F.plain_list_iadd _,codeAny_builtin F.entry_list_iadd ?_⟩
  rw[Hx F.plain_list_iadd _];show wpAny _ A.in1 (Builtin.List.listExtendWith (.ref s.heap.objs.size) (.ref a) (.ref s.heap.objs.size)) _ _ _
  refine vQ (R:=R) (s:={ s with heap:=s.heap.push { cls:=.type "list", data:=.seq ([]:List Value).toArray } }) hh (zD _ ho) hx hd hf W hg s.heap.objs.size _ 0 (wd _ rfl) fun h' d' S J Y Z O hp=>?_
  exact hR h' d' S J Y (fun b o e=>Z b o (zM (zA e)) (zD _ e)) O hp
 unfold collect;refine HG (wpAny_runValue (ext _ fun h' d' S J Y Z O hp=>?_))
 show wpAny _ A (load s.heap.objs.size >>= _) _ _ _
 refine HG (wpAny_load O ?_)
 exact HI (hQ h' d' S J.toList Z (zA O) hp)
end
end L2
namespace L2
open PySem PySem.Spec PyProof PyProof.Rows
section
variable{X:Cx}
def vJ(K:W.Frag):List V→Hp→VK→Prop:=fun xs H Q=>∃ (p:Addr) (ns:List Int),xs=[.ref p]∧rd K H p (ns.map V.int)∧ns≠[]∧∀ M,M∈ns→(∀ a∈ns,a≤M)→Q (.int M) H
theorem gP{K:W.Frag}{H:Hp}{Q:VK}(p:Addr):vJ K [.ref p] H Q=∃ ns:List Int,rd K H p (ns.map V.int)∧ns≠[]∧∀ M,M∈ns→(∀ a∈ns,a≤M)→Q (.int M) H:=propext ⟨fun ⟨_,bs,e,q⟩=>by cases e; exact⟨bs,q⟩,fun ⟨bs,q⟩=>⟨p,bs,rfl,q⟩⟩
theorem vI(Z:X.calm=true):CV X (.builtin "max") (vJ X.K):=by
 intro pins s σ H xs us Q I r h
 obtain⟨p,ns,rfl,hq,O,q⟩:=h
 obtain⟨u,rfl,ru⟩:=dU r
 cases ru;obtain⟨J,rv,pl,hz⟩:=I.list hq
 have hi:IntsAre J ns:=vj rv
 obtain⟨xs,e⟩:=hi.allInts.items
 have F:ns=xs.toList.map (·.1):=by
  rw[← hi.numsOf,← nums_intItems,← e]
 have hsz:0<xs.size:=by
  have S:=List.length_pos_iff.mpr O; rw[F,zc,y0]at S; exact S
 have hl:=pl.isList;rw[e]at hl
 refine max_intList (I.ok.hd Z) hl hsz fun v h' tk hv Y=>?_
 obtain⟨t,rfl⟩:=intItems_at hv
 obtain⟨h1,h2⟩:=argBest_gt (numAt xs) (xs.size - 1)
 refine⟨.int (numAt xs (argBest (fun i j=>decide (numAt xs i>numAt xs j)) (xs.size - 1))),H,I.kept (t':=tk) Y,⟨t,rfl⟩,q _ ?_ fun a W=>?_⟩
 ·rw[F,numAt_eq]; exact getD_mem (by rw[zc,y0]; omega)
 ·rw[F]at W
  obtain⟨j,hj,rfl⟩:=mem_getD W
  rw[zc,y0]at hj
  rw[← numAt_eq]; exact h2 j (by omega)
theorem yM(K:W.Frag)(F:X.K=K:=by rfl)(hc:X.calm=true:=by rfl):CV X (.builtin "max") (vJ K):=F ▸ vI hc
theorem C1:bootBuiltins "max" = some (.builtin "max"):=by decide +kernel
end
section
variable{prog:Program}{w:World}{A:Around}{E:Value→Shared→Prop}{s:Shared}
def Gi(i t:Addr)(zs:Array Value)(k:Nat)(h:Heap):Prop:=h.IsTupleIter i t k∧h.IsTuple t zs
theorem Gi.ext{i t b:Addr}{zs:Array Value}{k:Nat}{h h':Heap}(x:Gi i t zs k h)(F:Heap.ExtBut b h h')(n1:i≠b)(J:t≠b):Gi i t zs k h':=⟨x.1.extBut F n1,x.2.extBut F J⟩
theorem Ay{i t:Addr}{k:Nat}{zs:Array Value}{v:Value}{Q:Value→Shared→Prop}(st:Gi i t zs k s.heap)(S:t≠i)(hv:zs[k]? = some v)
  (q:∀ h',Gi i t zs (k+1) h'→Heap.SameBut i s.heap h'→Q v { s with heap:=h' }):wpAny (model prog w) A (Builtin.SmallTypes.nextOf (.ref i)) Q E s:=by
 obtain⟨hi,Y⟩:=id st
 obtain⟨ob,O,Z,J⟩:=id hi
 obtain⟨ot,f1,_,m,f2⟩:=id Y
 unfold Builtin.SmallTypes.nextOf;refine HG (wpAny_callSpecial?_slot (name:=Str.ofString "__next__") hi.typeIs zbJ (wpAny_call_entry zbJ hi.typeIs F.entry_tuple_iterator_next ?_ (F.args_tuple_iterator_next_1 _)))
 show wpAny _ _ (field (.ref i) 0 >>= _) _ _ s
 refine HG (wpAny_field O J (x:=.ref t) rfl ?_)
 show wpAny _ _ (if (Value.ref t == Value.none)=true then _ else _) _ _ s
 have W:¬ ((Value.ref t == Value.none)=true):=vn
 rw[HP W];show wpAny _ _ (field (.ref i) 1 >>= _) _ _ s
 refine HG (wpAny_field O J (x:=.int k 0) rfl ?_)
 show wpAny _ _ (seqItems? (.ref t) >>= _) _ _ s
 refine HG (wpAny_seqItems f1 f2 ?_)
 simp only[uT,hv]
 refine HG (wpAny_setField O J (by simp) (HI ⟨v,rfl,HI (q _ ⟨?_,?_⟩ (rB ..))⟩))
 ·exact⟨_,Gb _ O (zbm (za7 J _)),(zbI ..).trans Z,by rw[za7 J]; simp[rawInt]⟩
 ·exact Y.extBut (rB ..).extBut S
theorem BF{i t:Addr}{k:Nat}{zs:Array Value}{Q:Value→Shared→Prop}(hh:A.handled=none)(st:Gi i t zs k s.heap)(hv:zs[k]? = none)
  (q:∀ h' e,Heap.ExtBut i s.heap h'→(∃ o,h'.get? e=some o∧o.cls = .type "StopIteration")→E (.ref e) { s with heap:=h' }):wpAny (model prog w) A (Builtin.SmallTypes.nextOf (.ref i)) Q E s:=by
 obtain⟨hi,Y⟩:=id st
 obtain⟨ob,O,e2,S⟩:=id hi
 obtain⟨ot,f1,_,m,Z⟩:=id Y
 unfold Builtin.SmallTypes.nextOf;refine HG (wpAny_callSpecial?_slot (name:=Str.ofString "__next__") hi.typeIs zbJ (wpAny_call_entry zbJ hi.typeIs F.entry_tuple_iterator_next ?_ (F.args_tuple_iterator_next_1 _)))
 show wpAny _ _ (field (.ref i) 0 >>= _) _ _ s
 refine HG (wpAny_field O S (x:=.ref t) rfl ?_)
 show wpAny _ _ (if (Value.ref t == Value.none)=true then _ else _) _ _ s
 have J:¬ ((Value.ref t == Value.none)=true):=vn
 rw[HP J];show wpAny _ _ (field (.ref i) 1 >>= _) _ _ s
 refine HG (wpAny_field O S (x:=.int k 0) rfl ?_)
 show wpAny _ _ (seqItems? (.ref t) >>= _) _ _ s
 refine HG (wpAny_seqItems f1 Z ?_)
 simp only[uT,hv]
 refine HG (wpAny_rule (HG (wpAny_setField O S (by simp) ?_)))
 show wpAny _ _ (newExc (.type "StopIteration") [] >>= fun z=>_) _ _ _
 refine HG ?_
 simp only[newTuple,newExc]
 refine HG (wpAny_newObj_type (hd:=by size_fits) ?_)
 refine HG (m:=firstArgMember _ _) (wpAny_of_eq (a:=Value.none) (by first | (simp only[firstArgMember]; rfl) | rfl) ?_)
 refine wpAny_newObj_type (hd:=by size_fits) ?_
 simp only[raiseNew]
 refine HG (wpAny_handled ?_)
 have W:A.in1.handled=none:=hh
 first | rw[W] | rw[hh]
 refine HG (HI (wpAny_throw (q _ _ (((rB ..).extBut.push _).push _) ⟨_,wd _ rfl,rfl⟩)))
variable{z TI TO i1 i2 t1 t2:Addr}{xs ys:Array Value}{k1 k2:Nat}{a b:Value}
end
theorem C3.apart{X:Cx}{pins:List (Addr × Obj)}{σ : St}{H:Hp}{s:Shared}{a c:Addr}{xs:List V}(I:Inv X pins σ H s)(hf:iA X pins H c)(h:C3 X.K H a xs):a≠c:=by
 rintro rfl
 rcases h with h | ⟨o,F,n,J,_⟩
 ·rcases h with e | ⟨o,e⟩ <;> (rw[hf.1]at e; cases e)
 ·have e:=I.ok.mod.kin a o J
  rcases hf.2.2.2.1 with z | z
  ·exact I.ok.noex a o e z
  ·exact absurd (va (zA (I.ok.bs a o e).1) z) (Hc _)
section
variable{X:Cx}
theorem uF(xs:List V)(k:Nat):dP xs none (some (k:Int))=xs.take k:=by
 unfold dP;rw[HT.sIx_none,HT.sIx_nat,List.drop_zero,Nat.sub_zero];exact List.take_eq_take_min.symm
theorem pY(xs:List V)(k:Nat):dP xs (some (k:Int)) none=xs.drop k:=by
 unfold dP;rw[HT.sIx_none,HT.sIx_nat];rcases Nat.le_total k xs.length with h | h
 ·rw[Nat.min_eq_left h,Gd (by rw[GL]; omega)]
 ·rw[Nat.min_eq_right h,Nat.sub_self,List.take_zero,zbT h]
theorem vT:GI X "list.extend" pc:=yI
theorem eA{H:Hp}{Q:VK}(l b:Addr):pc (.ref l) [.ref b] H Q=∃ xs zs,H l=some (.lst xs)∧H b=some (.lst zs)∧xs.length+zs.length≤sizeLine∧Q .non (upd H l (.lst (xs++zs))):=
 propext ⟨fun ⟨_,_,xs,zs,J,F,q⟩=>by cases J; cases F; exact⟨xs,zs,q⟩,fun ⟨xs,zs,q⟩=>⟨l,b,xs,zs,rfl,rfl,q⟩⟩
end
theorem mz{α : Type}{x:α}{xs:List α}:eK (x::xs) 0=some x:=aE (j:=0) rfl
end L2
namespace L2
open PySem PySem.Spec PyProof.Rows PySem.SeqAt
theorem C2{f:Str}:List.lookup f ([]:List (Str × V))=none:=rfl
theorem zP{f:Str}{v:V}:CC f v []=[(f,v)]:=rfl
def kY(l:List Str)(x:Str):List Str:=if l.any (· == x)=true then l else l++[x]
def iJ(val:Nat→Str)(i:Nat):List Str:=((List.range i).map val).foldl kY []
theorem rL(val:Nat→Str):iJ val 0=[]:=rfl
theorem kH(val:Nat→Str)(i:Nat):iJ val (i+1)=kY (iJ val i) (val i):=by
 unfold iJ; rw[Gz,z9,zbK]; rfl
theorem oV(val:Nat→Str):∀ i,(iJ val i).length≤i
 | 0=>by rw[rL]; exact zg _
 | i+1=>by
  rw[kH]; unfold kY
  have ih:=oV val i;split
  ·omega
  ·rw[zV,Hq]; omega
theorem p7(l:List Str)(v k:Str):(kY l v).any (· == k)=(l.any (· == k)||decide (k=v)):=by
 unfold kY
 by_cases h:l.any (· == v)=true
 ·rw[HS h]
  by_cases e:k=v
  ·subst e; rw[h]; simp
  ·simp[e]
 ·rw[HP h,List.any_append]
  by_cases e:k=v
  ·subst e; simp
  ·have F:(v == k)=false:=by simpa [beq_iff_eq] using (fun h':v=k=>e h'.symm)
   simp[F,e]
theorem yv(l:List Str)(v:Str):(kY l v).length=if l.any (· == v) then l.length else l.length+1:=by
 unfold kY; split <;> simp
theorem uf(val:Nat→Str):∀ (i:Nat) (k:Str),(iJ val i).any (· == k)=((List.range i).map val).any (· == k)
 | 0,k=>rfl
 | i+1,k=>by
  rw[kH,p7,uf val i k,Gz,z9,List.any_append]
  congr 1
  by_cases e:k=val i
  ·simp[e]
  ·simp[e]; exact fun h=>e h.symm
theorem uz:∀ {F:List Value} {ss:List Str},StrsAre F ss→∀ (i:Nat) (v:Value),F[i]? = some v→∃ t,v = .str (ss.getD i "") t
 | _,_,.nil,i,v,h=>by simp at h
 | _,_,.cons n t hr,0,v,h=>by simp at h; exact⟨t,by rw[← h]; rfl⟩
 | _,_,.cons n t hr,i+1,v,h=>by
  simp only[Hb]at h
  obtain⟨t',e⟩:=uz hr i v h
  exact⟨t',by rw[e]; rfl⟩
theorem pG(prog:Program)(w:World)(x:Str)(t:Tok):(strKind prog w).is x (.str x t)=true:=by
 show Value.isStrOf x (.str x t)=true
 simp[Value.isStrOf]
section
variable{prog:Program}{w:World}{A:Around}{R:Result→Shared→Prop}{I:Addr}{fp wr:List Addr}{Gm:Array GenState→Array GenState→Prop}{n:Nat}{P:Nat→Value→Prop}{St:Nat→Shared→Prop}{L:Bool}
theorem AA(W:WalksS prog w A.in1 I fp wr Gm n P St)(S:Addr)(as:S∉fp)(val:Nat→Str)(ag:∀ i v,P i v→∃ t,v = .str (val i) t)(hb:n+1<scanBound) :
  ∀ (k i:Nat) (s:Shared),n - i=k→i≤n→St i s→Du (strKind prog w) (bE L) s.heap S (fun Z=>(iJ val i).any (· == Z)) (iJ val i).length→
   (∀ s',Moved (S::wr) Gm s s'→Du (strKind prog w) (bE L) s'.heap S (fun Z=>(iJ val n).any (· == Z)) (iJ val n).length→R (.ok (.ret .none)) s')→
   codeAny (model prog w) A (.builtin "set.update.loop" ⟨[.ref S,.ref I],[]⟩) R s:=by
 have a0:S∉wr:=fun h=>as (W.sub _ h)
 have J:∀ b∈wr,b∈S::wr:=fun b hb=>zU _ hb
 intro k
 induction k with
 | zero=>
  intro i s hk hi Y hS hR
  have a4:i=n:=by omega
  subst a4;refine codeAny_builtin F.entry_set_update_loop ?_
  rw[Hx zbU _];show wpAny _ A.in1 (pyNext (.ref I) >>= _) _ _ s
  refine HG (W.done s _ _ Y fun s' hm=>?_)
  show wpAny _ A.in1 (ret Value.none) _ _ s'
  exact HI (hR s' (hm.mono J) (hS.at' (fun o e=>hm.heap S _ a0 e) (fun _=>rfl) rfl))
 | succ k ih=>
  intro i s hk hi Y hS hR
  have a2:i<n:=by omega
  refine codeAny_builtin F.entry_set_update_loop ?_
  rw[Hx zbU _];show wpAny _ A.in1 (pyNext (.ref I) >>= _) _ _ s
  refine HG (W.item i s _ _ a2 Y fun v s' hP aa hm=>?_)
  obtain⟨t,rfl⟩:=ag i v hP
  have a7:=hS.at' (h':=s'.heap) (fun o e=>hm.heap S _ a0 e) (fun _=>rfl) rfl
  show wpAny _ A.in1 (holding [Value.str (val i) t] (setAdd S (.str (val i) t)) >>= _) _ _ s'
  refine HG (wpAny_holding ?_)
  unfold setAdd;refine wpAny_holding ?_
  refine HG ((strKind prog w).pyHash (k:=val i) (pG _ _ _ _) ?_)
  have O:(iJ val i).length+1<scanBound:=by have:=oV val i; omega
  refine Ej (G:=bE L) (knd:=strKind prog w) (s:={ s' with toks:=s'.toks+1 }) (fun t es h x g=>mC g es h x) (fun t es m g=>oC g es m) (fun t g=>ow g) (pG _ _ _ _) rfl a7 O fun h' ad a6=>?_
  have a3:=a6.at' (h':=h') (fun o e=>e) (S':=fun Z=>(iJ val (i+1)).any (· == Z)) (m':=(iJ val (i+1)).length) (fun Z=>by rw[kH,p7]) (by rw[kH,yv])
  refine HI ⟨plainId_quiet zbU _,ih (i+1) _ (by omega) a2 (W.frame _ s' _ _ aa (GZ _) fun b hb o e=>?_) a3 fun a5 a1 an=>?_⟩
  ·rw[ad.2 b (fun h:b=S=>as (by rw[← h]; exact hb))]; exact e
  ·refine hR a5 (Moved.trans W.gtrans ((hm.mono J).then_heap (GZ _) fun b o hb e=>?_) a1) an
   rw[ad.2 b (fun h:b=S=>hb (by rw[h]; exact wZ))]; exact e
end
section
variable{prog:Program}{w:World}{A:Around}{E:Value→Shared→Prop}{s:Shared}
theorem xG{l:Addr}{J:Array Value}{ns:List Str}{Q:Value→Shared→Prop}(hh:A.handled=none)(hl:s.heap.IsList l J)(hi:StrsAre J.toList ns)(hb:J.size+1<scanBound)
  (h:∀ (h':Heap) (tk:Nat),Du (strKind prog w) (bE (bv w)) h' s.heap.objs.size (fun k'=>(iJ (fun i=>ns.getD i "") J.size).any (· == k')) (iJ (fun i=>ns.getD i "") J.size).length→
   (∀ b o,b<s.heap.objs.size→s.heap.get? b=some o→h'.get? b=some o)→Q (.ref s.heap.objs.size) { s with heap:=h',toks:=tk }) :
  wpAny (model prog w) A (call (.type "set") [.ref l]) Q E s:=by
 obtain⟨c,tl,bp⟩:=F.called_set.mro
 have a7:=F.called_set.made;have bB:=F.called_set.sub;refine wpAny_call (codeAny_of_tree ?_)
 show wpAny _ _ (callAny (.type "set") _) _ _ _
 refine HI ⟨Code.quiet_builtin _ (by decide +kernel),codeAny_builtin F.entry_type_call ?_⟩
 rw[Around.under_plain (weight_type_call_type "set" [.ref l] []) rfl];have h1:=F.called_set.notType;have h2:=F.called_set.canCreate;have b4:=F.typeCall_set_1 (.ref l)
 repeat (any_goals (first | assumption | wp_step))
 refine codeAny_mono (AM (.ref l) (E:=E) (Q₁:=fun obj s₁=>obj = .ref s.heap.objs.size∧s₁={ s with heap:=s.heap.push { cls:=.type "set", dict:=none,data:=.set #[] 0 (.fresh 0 0 (bv w)) } }) ⟨rfl,rfl⟩) fun r s₁ hr=>?_
 cases r with
 | error e=>exact hr
 | ok fl=>
  cases fl with
  | ret obj=>
   obtain⟨rfl,rfl⟩:=hr
   have hS:(s.heap.push { cls:=.type "set", dict:=none,data:=.set #[] 0 (.fresh 0 0 (bv w)) }).get? s.heap.objs.size=some { cls:=.type "set", dict:=none,data:=.set #[] 0 (.fresh 0 0 (bv w)) }:=wd _ rfl
   have hT:Shared.TypeIs { s with heap:=s.heap.push { cls:=.type "set", dict:=none,data:=.set #[] 0 (.fresh 0 0 (bv w)) } } (.ref s.heap.objs.size) "set" := ⟨_,hS,rfl⟩
   have b1:=F.called_set.init.lookup;have b3:=F.called_set.init.bind (.ref s.heap.objs.size)
   repeat (any_goals (first | assumption | wp_step))
   refine codeAny_mono (codeAny_call_builtin (R:=wants (fun r s₂=>r = .none∧∃ h' tk,s₂={ s with heap:=h',toks:=tk }∧
     Du (strKind prog w) (bE (bv w)) h' s.heap.objs.size (fun k'=>(iJ (fun i=>ns.getD i "") J.size).any (· == k')) (iJ (fun i=>ns.getD i "") J.size).length∧
     (∀ b o,b<s.heap.objs.size→s.heap.get? b=some o→h'.get? b=some o)) E) F.called_set.init.plain F.entry_set_init (check_set_init_1 hT ?_)) fun r₂ s₂ S=>?_
   ·obtain⟨ol,a1,Z,nl,aa⟩:=hl
    obtain⟨bS,W,be,O⟩:=ol
    simp only at Z aa
    subst Z; subst aa
    have a0:(s.heap.push { cls:=.type "set", dict:=none,data:=.set #[] 0 (.fresh 0 0 (bv w)) }).get? l=some { cls:=.type "list", dict:=W,data:=.seq J nl,slots:=O }:=zD _ a1
    have bz:=F.sub_list_set;have bA:=F.sub_list_frozenset;have b2:(Value.type "list" == Value.type "dict")=false:=by decide
    have an:(s.heap.push { cls:=.type "set", dict:=none,data:=.set #[] 0 (.fresh 0 0 (bv w)) }).IsList l J:=⟨_,a0,rfl,nl,rfl⟩
    unfold Builtin.«set.__init__» noKeywords Builtin.Frozenset.updateFrom
    generalize hPI:pyIter=PI
    wp_walk
    subst hPI;refine wpAny_pyIter_list an ?_
    refine HG (wpAny_runValue ?_)
    have as:l<s.heap.objs.size:=zA a1
    have a8:A.in1.in1.in1.handled=none:=by simp[hh]
    have ag:l≠(s.heap.push { cls:=.type "set", dict:=none,data:=.set #[] 0 (.fresh 0 0 (bv w)) }).objs.size:=by
     rw[u3]; exact zM (zbo as)
    have a9:s.heap.objs.size∉[(s.heap.push { cls:=.type "set", dict:=none,data:=.set #[] 0 (.fresh 0 0 (bv w)) }).objs.size,l]:=by
     rw[u3]; simp only[vB,zbk,Hk,or_false,not_or]
     exact⟨zM (zbF _),su as⟩
    have ad:∀ (i:Nat) (v:Value),J[i]? = some v→∃ t,v = .str ((fun i=>ns.getD i "") i) t:=fun i v hv=>uz hi i v (by rw[zbl]; exact hv)
    refine AA (L:=bv w) ((Walks.list a8 _ l ag J).toS) s.heap.objs.size a9 (fun i=>ns.getD i "") ad hb (J.size - 0) 0 _ (by omega) (yT _) ⟨⟨_,wd _ rfl,rfl,rfl⟩,(an.push _)⟩ ?hS0 ?hR
    case hS0=>
     refine⟨{ cls:=.type "set", dict:=none,data:=.set #[] 0 (.fresh 0 0 (bv w)) },#[],0,.fresh 0 0 (bv w),zD _ hS,?_⟩
     exact⟨⟨rfl,rfl,rfl⟩,rfl,fun e he=>by simp at he,fun k=>by simp[rL],by decide,rfl,rfl,⟨rfl,fun a b ha=>absurd ha (G0 _)⟩,List.Pairwise.nil⟩
    case hR=>
     intro s' hm Y
     obtain⟨h',g',d',a5,a4⟩:=s'
     have eg:g'=s.gens:=hm.gens
     have ed:d'=s.drawn:=hm.drawn
     have eo:a4=s.os:=hm.os
     subst eg; subst ed; subst eo
     show wpAny _ _ _ _ _ _
     refine HI ?_
     show wpAny _ _ (ret Value.none) _ _ _
     refine HI ⟨rfl,h',a5,rfl,Y,fun b o hb e=>?_⟩
     have a2:b≠s.heap.objs.size:=zM hb
     have a3:b≠(s.heap.push { cls:=.type "set", dict:=none,data:=.set #[] 0 (.fresh 0 0 (bv w)) }).objs.size:=by
      rw[u3]; exact zM (zbo hb)
     exact hm.heap b o (by simp only[vB,zbk,Hk,or_false,not_or]; exact⟨a2,a3⟩) (zD _ (zD _ e))
   ·cases r₂ with
    | error e=>exact S
    | ok fl₂=>
     cases fl₂ with
     | ret r=>
      obtain⟨rfl,h',tk,rfl,Y,a6⟩:=S
      repeat (any_goals (first | assumption | wp_step))
      exact h _ _ Y a6
     | _=>exact S.elim
  | _=>exact hr.elim
end
def qf(SO:Addr→List Str→HO):List V→Hp→VK→Prop:=fun xs H Q=>∃ p,∃ ds:List Str,xs=[.ref p]∧H p=some (SO p ds)∧ds.length≤60∧∀ (l:Addr) (ts:List Str),H l=none→ts.Perm ds→sortedS ts=true→Q (.ref l) (upd H l (.lst (ts.map V.str)))
def jU(e:Int × Value):Str:=match e.2 with
 | .str d _=>d
 | _ => ""
def J1(w:World)(h:Heap)(a:Addr)(ds:List Str):Prop:=∃ o es ep t,h.get? a=some o∧o.ExactSet∧o.data = .set es ep t∧es.size<scanBound∧t.fits es.size=true∧bE (bv w) t∧(∀ e∈es.toList,∃ tk,e.2 = .str (jU e) tk)∧es.toList.map jU=ds
theorem sg{prog:Program}{w:World}{h:Heap}{a:Addr}{S:Str→Bool}{n:Nat}(x:Du (strKind prog w) (bE (bv w)) h a S n):∃ ds,J1 w h a ds∧ds.Nodup∧(∀ k,k∈ds ↔ S k=true)∧ds.length=n:=by
 obtain⟨o,es,ep,t,ho,T⟩:=x
 have W:∀ e∈es.toList,∃ Y,e.2 = .str (jU e) Y:=fun e J=>by
  obtain⟨⟨k,W,_⟩,_⟩:=T.el e J
  obtain⟨Y,O⟩:=Value.isStrOf_shape W
  exact⟨Y,by unfold jU; rw[O]⟩
 have F:∀ e∈es.toList,∀ k,(strKind prog w).is k e.2=true ↔ k=jU e:=fun e J k=>by
  obtain⟨Y,O⟩:=W e J
  constructor
  ·intro z
   obtain⟨aa,e3⟩:=Value.isStrOf_shape z
   rw[e3]at O
   cases O; rfl
  ·rintro rfl; rw[O]; exact pG _ _ _ _
 refine⟨es.toList.map jU,⟨o,es,ep,t,ho,T.ex,T.dat,T.few,T.fit,T.good,W,rfl⟩,?_,fun k=>?_,by rw[zc,y0]; exact T.num⟩
 ·refine HZ.mpr (zbp (fun {x y} hx hy Z e=>?_) T.apart)
  have h1:=Z (jU x) ((F x hx _).mpr rfl);rw[(F y hy _).mpr e]at h1; cases h1
 ·rw[T.mem,HR]
  constructor
  ·rintro⟨e,J,rfl⟩; exact⟨e,J,(F e J _).mpr rfl⟩
  ·rintro⟨e,J,z⟩; exact⟨e,J,((F e J _).mp z).symm⟩
def ma(v:Value):Str:=match v with
 | .str d _=>d
 | _ => ""
theorem uN:∀ (l:List Value),(∀ v∈l,∃ F,v = .str (ma v) F)→StrsAre l (l.map ma)
 | [],_=>.nil
 | v::l,h=>by
  obtain⟨F,e⟩:=h v wZ
  have r:=uN l fun u J=>h u (zU _ J)
  rw[xq];generalize ma v=d at e ⊢;subst e;exact .cons d F r
section
variable{prog:Program}{w:World}{A:Around}{E:Value→Shared→Prop}{s:Shared}
theorem vw{a:Addr}{o:Obj}{es:Array (Int × Value)}{ep:Nat}{t:SetTable}{Q:Value→Shared→Prop}(hh:A.handled=none)(ho:s.heap.get? a=some o)(hx:o.ExactSet)(hd:o.data = .set es ep t)(hf:t.fits es.size=true)(ad:es.size<64)(hg:bE (bv w) t)
  (W:∀ e∈es.toList,∃ S,e.2 = .str (jU e) S)
  (hQ:∀ h' d' S q out c F,(∀ b o,s.heap.get? b=some o→h'.get? b=some o)→s.heap.objs.size≤q→h'.get? q=some (seqObj "list" out c)→StrsAre out.toList F→F.Perm (es.toList.map jU)→sortedS F=true→Q (.ref q) { s with heap:=h',drawn:=d',toks:=S }) :
  wpAny (model prog w) A (call (.builtin "sorted") [.ref a]) Q E s:=by
 refine Calls.call_function_entry kind_sorted plain_sorted entry_sorted (args_sorted1 _) ?_
 unfold Builtin.«sorted»
 refine HG (m:=checkCount "sorted" 1 1 _) (HI ?_)
 refine HG (v8 hh ho hx hd hf (by unfold scanBound; omega) hg fun h' d' S acc hk aa hp=>?_)
 have Z:acc.length=es.size:=by rw[hp.length_eq]; simp
 have hI:StrsAre acc (acc.map ma):=uN acc fun v hv=>by
  obtain⟨e,he,rfl⟩:=HR.mp (hp.mem_iff.mp hv)
  exact W e he
 have J:(acc.map ma).Perm (es.toList.map jU):=by
  have:=hp.map ma
  rw[F9]at this
  exact this
 refine HG (wpAny_newList ?_ (by rw[Z,sizeLine_eq]; omega))
 have O:(h'.push (seqObj "list" acc.toArray 0)).get? h'.objs.size=some (seqObj "list" acc.toArray 0):=wd _ rfl
 show wpAny _ _ _ _ _ { s with heap:=h'.push (seqObj "list" acc.toArray 0),drawn:=d',toks:=S }
 refine HG (wpAny_holding (wpAny_call_entry slot_list_sort ⟨_,O,rfl⟩ entry_list_sort (list_sort_treeK strKind_oneLt O hI.keysOf (fun v₁ v₂ Dk e=>keyKind_strs (by rw[← e]; exact hI)) (by omega) fun Y b1 b2=>⟨_,rfl,?_⟩) (args_list_sort _)))
 obtain⟨F,a1,a2,a3⟩:=sorted_out_str hI b1 b2
 generalize (arrOf Y).map (·.2)=out at a1 ⊢;obtain⟨c,hc⟩:=sortedHeap_at (out:=out) O
 refine HI ⟨_,rfl,hQ _ d' S h'.objs.size out c F (fun b o e=>?_) (uV aa) hc a1 (a2.trans J) a3⟩
 have hb:=zA (hk b o e);rw[sortedHeap_old (zM hb) (by rw[u3]; exact zbo hb)]
 exact zD _ (hk b o e)
end
end L2
namespace L2
open PySem PySem.Spec PyProof.Rows
abbrev cT:=List (Option Int)
def MO(P:Program)(w:World):HeapKind P w (cT):=Bb (d9 P w) (show 0≤7 by decide)
def iZ(P:Program)(w:World)(a:Addr)(xs:List (cT × Addr × Value)):HO:=
 .ext fun h=>∃ o es ep,h.get? a=some o∧o.ExactDict∧o.data = .dict es ep∧es.toList=xs.map (entryOfKey (MO P w))∧(xs.map (·.1)).Nodup
def EZ(H:Hp)(k:cT)(b:Addr):Prop:=H b=some (.tup (k.map bU))
def FV(H:Hp)(p:cT × V)(q:cT × Addr × Value):Prop:=q.1=p.1∧EZ H p.1 q.2.1∧RelV p.2 q.2.2
def DO(P:Program)(w:World)(H:Hp)(a:Addr)(kvs:List (cT × V)):Prop:=
 ∃ xs,H a=some (iZ P w a xs)∧(a == sysModules)=false∧xs.length≤sizeLine∧Paired (FV H) kvs xs
theorem EZ.mono{H H':Hp}{k:cT}{b:Addr}(h:EZ H k b)(F:∀ c xs,H c=some (.tup xs)→H' c=some (.tup xs)):EZ H' k b:=by
 exact F _ _ h
theorem DO.mono{P:Program}{w:World}{H H':Hp}{a:Addr}{kvs:List (cT × V)}(h:DO P w H a kvs)(F:mu H H'):DO P w H' a kvs:=by
 obtain⟨xs,h1,h2,J,O⟩:=h
 exact⟨xs,F _ _ h1,h2,J,Paired.imp' (fun p q z=>⟨z.1,z.2.1.mono fun c ys e=>F _ _ e,z.2.2⟩) O⟩
section
variable{P:Program}{w:World}{H:Hp}
theorem FV.val:∀ {kvs:List (cT × V)} {xs:List (cT × Addr × Value)} (k:cT),Paired (FV H) kvs xs→EU (aN kvs k) ((atKey xs k).map (·.2))
 | _,_,k,.nil=>True.intro
 | _,_,k,@Paired.cons _ _ _ p q kvs xs r t=>by
  have ih:=FV.val k t;obtain⟨F,S,O⟩:=r
  by_cases h:p.1=k
  ·have h1:aN (p::kvs) k=some p.2:=by simp[aN,h]
   have h2:atKey (q::xs) k=some q.2:=by simp[atKey,F,h]
   rw[h1,h2]; exact O
  ·have J:¬ q.1=k:=fun z=>h (F.symm.trans z)
   have h1:aN (p::kvs) k=aN kvs k:=by simp[aN,h]
   have h2:atKey (q::xs) k=atKey xs k:=by simp[atKey,J]
   rw[h1,h2]; exact ih
end
section
variable{X:Cx}{pins:List (Addr × Obj)}{σ : St}{H:Hp}{s:Shared}{a b:Addr}{k:cT}{kvs:List (cT × V)}
theorem Inv.keyO(I:Inv X pins σ H s)(h:EZ H k b):(MO X.prog X.w).is s.heap k b:=by
 obtain⟨_,J,Z,W,S,O,n2,Y⟩ : (k.map bU).length≤sizeLine∧∃ F:List Value,wh (k.map bU) F∧IsTup s.heap b F.toArray:=by obtain⟨z,F,r,p⟩:=I.hok b _ h; exact⟨z,F,r,p.tup⟩
 exact⟨b,W,_,n2,rfl,S,O,Y,by simpa using iQ Z⟩
theorem Inv.dO(I:Inv X pins σ H s)(h:DO X.prog X.w H a kvs):∃ xs,H a=some (iZ X.prog X.w a xs)∧(a == sysModules)=false∧xs.length≤sizeLine∧Paired (FV H) kvs xs∧s.heap.DictOfH (MO X.prog X.w) a xs:=by
 obtain⟨xs,h1,h2,Y,F⟩:=h
 obtain⟨⟨o,es,W,e1,O,S,Z,J⟩,_,_⟩:=I.hok a _ h1
 refine⟨xs,h1,h2,Y,F,o,es,W,e1,O,S,Z,?_,J⟩
 have all:∀ {l:List (cT × V)} {m:List (cT × Addr × Value)},Paired (FV H) l m→∀ x∈m,(MO X.prog X.w).is s.heap x.1 x.2.1:=by
  intro l m r
  induction r with
  | nil=>intro x hx; simp at hx
  | cons r t ih=>
   intro x hx
   rcases HW.mp hx with rfl | hx
   ·rw[r.1]; exact I.keyO r.2.1
   ·exact ih x hx
 exact all F
theorem nv{P:Program}{w:World}{H':Hp}{h':Heap}{xs:List (cT × Addr × Value)}(m:h'.DictOfH (MO P w) a xs):Ax P w H' h' a (iZ P w a xs):=by
 obtain⟨o,es,F,J,S,Y,Z,_,O⟩:=m
 exact⟨⟨o,es,F,J,S,Y,Z,O⟩,⟨o,J⟩,fun h1 h2 ⟨o,es,F,W,q⟩ z=>⟨o,es,F,z _ W,q⟩⟩
def ug(P:Program)(w:World):R2:=fun x y H Q=>∃ b a k kvs,x = .ref b∧y = .ref a∧DO P w H a kvs∧EZ H k b∧Q (.bl (!(aN kvs k).isSome)) H
theorem wN{n:Nat}(hr:Di n X.A):D0 X (compareOp .NotIn) (ug X.prog X.w):=by
 intro pins s σ H x y v u Q I O J h
 obtain⟨b,a,k,kvs,rfl,rfl,hd,F,q⟩:=h
 cases O
 cases J;obtain⟨xs,h1,h2,W,S,m⟩:=I.dO hd
 refine wpAny_notIn_heap (show (MO X.prog X.w).room X.A.in1 from by show X.A.units+1+1<cLine; have:=hr.un; omega) (I.keyO F) h2 m ?_
 have e:=(FV.val k S).isSome_eq;rw[zbh]at e
 rw[← e];exact⟨.bl _,H,I.tok _,rfl,q⟩
def Br(P:Program)(w:World):lm:=fun o i v H Q=>∃ a b k kvs,o = .ref a∧i = .ref b∧DO P w H a kvs∧EZ H k b∧aN kvs k=none∧kvs.length<sizeLine∧∀ u,DO P w (upd H a u) a (kvs++[(k,v)])→Q (upd H a u)
theorem Fp{n:Nat}(hr:Di n X.A):FH X (Br X.prog X.w):=by
 intro pins s σ H o i v ov iv u Q I W Y Z h
 obtain⟨a,b,k,kvs,rfl,rfl,hd,J,hv,hl,q⟩:=h
 cases W
 cases Y;obtain⟨xs,h1,h2,S,F,m⟩:=I.dO hd
 have hx:atKey xs k=none:=by
  have e:=FV.val k F;rw[hv]at e
  cases hq:atKey xs k with
  | none=>rfl
  | some p=>rw[hq]at e; exact e.elim
 refine wpAny_setItem_heap (hsz:=S) (show (MO X.prog X.w).room X.A.in1 from by show X.A.units+1+1<cLine; have:=hr.un; omega) (I.keyO J) m fun h' m' O=>?_
 rw[storedH_new hx]at m'
 have keep:∀ c ys,H c=some (.tup ys)→upd H a (iZ X.prog X.w a (xs++[(k,b,u)])) c=some (.tup ys):=fun c ys e=>by
  rw[al (iY e h1 (fun z=>nomatch z))]; exact e
 refine⟨upd H a (iZ X.prog X.w a (xs++[(k,b,u)])),g_ I (by rw[h1]; exact True.intro) O (let ⟨o,_,_,e,_⟩:=m'; ⟨o,e⟩) (nv m'),q _ ⟨_,ak,h2,?_,?_⟩⟩
 ·rw[zV,← zaV F]
  show kvs.length+1≤sizeLine
  omega
 ·exact Paired.snoc ⟨rfl,J.mono keep,Z⟩ (Paired.imp' (fun p q z=>⟨z.1,z.2.1.mono keep,z.2.2⟩) F)
def oG(P:Program)(w:World)(td ty:TE):TE:=fun σ H Q=>td σ H fun x H1=>∃ a kvs,x = .ref a∧DO P w H1 a kvs∧ty σ H1 fun y H2=>∃ b k kvs',y = .ref b∧DO P w H2 a kvs'∧EZ H2 k b∧Q ((aN kvs' k).getD .non) H2
theorem B0{n:Nat}(hr:Di n X.A){o e:Expr}{W ty:TE}{apos cpos:Pos}(ho:PE X o W)(he:PE X e ty)(m:M1 X o "get" apos e cpos):PE X (.Call (.Attribute o "get" apos) [e] [] cpos) (oG X.prog X.w W ty):=by
 intro pins s σ H Q I h
 refine wpAny_Call_method m.base m.few m.line F.plainAttrs_dict F.slot_dict_get F.type_dict_get (bc (ho pins s σ H _ I h) fun u s1 ⟨x,H1,I1,rx,a,kvs,ex,d,q1⟩=>?_)
 subst ex;obtain rfl:u=Value.ref a:=rx
 obtain⟨xs,h1,h2,h3,h4,mm⟩:=I1.dO d
 refine⟨mm.typeIs,fun b q=>?_,?_⟩
 ·cases q
  obtain⟨ob,_,_,Y,J,_⟩:=mm
  exact⟨ob,Y,J.2.1⟩
 rw[m.trees];refine zbR rfl (zbC (Calls.spliced_cons (bc (he pins s1 σ H1 _ I1 q1) fun iv s2 ⟨y,H2,O,ry,b,k,aa,ey,d2,kk,q2⟩=>Calls.spliced_nil ?_)))
 subst ey;obtain rfl:iv=Value.ref b:=ry
 obtain⟨S,Y,J,g3,g4,Z⟩:=O.dO d2
 refine call_meetsIn F.slot_dict_get Z.typeIs F.entry_dict_get (F.args_dict_get_2 _ _) (meetsH_dict_get (MO X.prog X.w) a b J) ⟨by show X.A.units+1+1<cLine; have:=hr.un; omega,k,S,O.keyO kk,Z,?_⟩
 exact⟨_,H2,O.tok _,(FV.val k g4).getD (d:=V.non) (show RelV .non Value.none from rfl),q2⟩
def pD(P:Program)(w:World)(tk tv:TE):TE:=fun σ H Q=>∀ p,H p=none→∀ u,DO P w (upd H p u) p []→tk σ (upd H p u) fun y H1=>tv σ H1 fun z H2=>∃ b k,y = .ref b∧EZ H2 k b∧DO P w H2 p []∧∀ u',DO P w (upd H2 p u') p [(k,z)]→Q (.ref p) (upd H2 p u')
theorem x_{n:Nat}(hr:Di n X.A){Y Z:Expr}{S tv:TE}{pos:Pos}(hk:PE X Y S)(hv:PE X Z tv):PE X (.Dict [some Y] [Z] pos) (pD X.prog X.w S tv):=by
 intro pins s σ H Q I q
 have hn:=I.hok.fresh (zg s.heap.objs.size);have hm:(s.heap.push { cls:=.type "dict", data:=.dict #[] }).DictOfH (MO X.prog X.w) s.heap.objs.size []:=⟨_,#[],0,wd _ rfl,⟨rfl,rfl,rfl⟩,rfl,rfl,(fun x hx=>by simp at hx),GQ⟩
 have I1:=I.laid (a:=s.heap.objs.size) (o:=iZ X.prog X.w s.heap.objs.size []) (t':=s.toks) (fun _ _ q=>zD _ q) (zg _) (nv hm)
 have hD:DO X.prog X.w (upd H s.heap.objs.size (iZ X.prog X.w s.heap.objs.size [])) s.heap.objs.size []:=⟨[],ak,beq_eq_false_iff_ne.mpr (zB (zM I.big)),yT _,.nil⟩
 refine wpAny_Dict_any rfl rfl (by simp) (by simp) (pairTrees_cons_walk (bc (hk pins _ σ _ _ I1 (q _ hn _ hD)) fun u s1 ⟨x,H1,O,rx,q1⟩=>bc (hv pins s1 σ H1 _ O q1) fun J s2 ⟨y,H2,F,ry,b,k,ex,kk,d2,q2⟩=>pairTrees_nil_walk ?_))
 subst ex;obtain rfl:u=Value.ref b:=rx
 obtain⟨xs,h1,h2,h3,h4,m⟩:=F.dO d2
 cases h4;unfold storeAll;rw[HA];refine HG (HG (wpAny_dictSet_heap (knd:=MO X.prog X.w) (k:=k) (xs:=[]) (hsz:=yT _) (show (MO X.prog X.w).room X.A from by show X.A.units+1<cLine; have:=hr.un; omega) (F.keyO kk) m fun h' m' hs=>HI ?_))
 dsimp only
 rw[za9];refine HI ?_
 have keep:∀ c ys,H2 c=some (.tup ys)→upd H2 s.heap.objs.size (iZ X.prog X.w s.heap.objs.size [(k,b,J)]) c=some (.tup ys):=fun c ys e=>by
  rw[al (iY e h1 (fun z=>nomatch z))]; exact e
 have W:h'.DictOfH (MO X.prog X.w) s.heap.objs.size [(k,b,J)]:=m'
 exact⟨.ref s.heap.objs.size,upd H2 s.heap.objs.size (iZ X.prog X.w s.heap.objs.size [(k,b,J)]),g_ F (by rw[h1]; exact True.intro) hs (let ⟨o,_,_,e,_⟩:=W; ⟨o,e⟩) (nv W),rfl,q2 _ ⟨_,ak,h2,by rw[sizeLine_eq]; simp,.cons ⟨rfl,kk.mono keep,ry⟩ .nil⟩⟩
end
def sP(P:Program)(w:World):kf:=fun outer H s E e s'=>
 ∃ (H':Hp) (hR:Heap) (a:Addr) (C a0:Value) (fl:List Addr),e = .ref a∧s'.os=s.os∧AllBare s'.gens∧
  Un (eO outer) [] H H' s.heap hR∧EM P w H' hR∧(∀ b∈fl,H' b=none∧(b∈eO outer∨s.heap.get? b=none))∧(∀ b∈eO outer,b∈fl)∧
  Heap.FlyingW (W.hideAll hR fl) outer a C a0 s'.heap∧hR.UpToSlots s'.heap∧E C none H'
theorem mV{P:Program}{w:World}{H:Hp}{h h':Heap}{fl:List Addr}(x:EM P w H h)(hf:∀ b∈fl,H b=none)(k:(W.hideAll h fl).StaysIn h'):EM P w H h':=fun a o e=>by
 refine(x a o e).stay (fun b u F q=>k b u (zbf _ q fun z=>?_)) (fun _ q=>q) fun _ _ q=>q
 have:=hf b z
 rcases F with rfl | F
 ·rw[e]at this; cases this
 ·rw[F]at this; cases this
theorem BV{P:Program}{w:World}{H:Hp}{h:Heap}{fl:List Addr}{a:Addr}(x:EM P w H h)(hf:∀ b∈fl,H b=none)(n:(W.hideAll h fl).get? a=none):H a=none:=by
 cases q:H a with
 | none=>rfl
 | some o=>
  exfalso
  have y:Ax P w H (W.hideAll h fl) a o:=mV x hf (fun b o z=>z) a o q
  have:∃ ob,(W.hideAll h fl).get? a=some ob:=by
   cases o with
   | lst xs=>obtain⟨_,_,_,_,e⟩:=y; exact⟨_,e⟩
   | tup xs=>obtain⟨_,_,_,ob,e,_⟩:=y; exact⟨_,e⟩
   | dK kvs=>obtain⟨_,_,_,_,o,_,_,e,_⟩:=y; exact⟨_,e⟩
   | dT kvs=>obtain⟨_,_,_,_,o,_,_,e,_⟩:=y; exact⟨_,e⟩
   | set S n=>obtain⟨o,_,_,_,e,_⟩:=y; exact⟨_,e⟩
   | ins C dx fs=>obtain⟨_,_,_,e,_⟩:=y; exact⟨_,e⟩
   | own y'=>obtain⟨_,e⟩:=y; exact⟨_,e⟩
   | xd fs=>obtain⟨_,⟨_,_,_,e,_⟩,_⟩:=y; exact⟨_,e⟩
   | rng lo hi=>obtain⟨t,u,v,e⟩:=y; exact⟨_,e⟩
   | frz ob u=>exact⟨_,y.1⟩
   | tbl ps=>exact⟨_,y⟩
   | met f z=>exact⟨_,y⟩
   | ext φ=>exact y.2.1
  obtain⟨ob,e⟩:=this
  rw[n]at e; cases e
theorem xO{P:Program}{w:World}{fs:List Addr}{H H':Hp}{h Y h':Heap}{fl:List Addr}(u:Un fs [] H H' h Y)(hf:∀ b∈fl,H' b=none∧(b∈fs∨h.get? b=none))(hs:∀ b∈fs,b∈fl)
  (nf:∀ b∈fs,H b=none∧∃ o,h.get? b=some o∧∀ vs,o.data ≠ .fields vs) (k:(W.hideAll Y fl).StaysIn h') (sl:Y.UpToSlots h'):Un fs [] H H' h h':=by
 have O:∀ b o,h.get? b=some o→b∉fs→b∉fl:=fun b o q F z=>by
  rcases(hf b z).2 with y | y
  ·exact F y
  ·rw[q]at y; cases y
 refine⟨fun b o q n F hx=>k b o (zbf _ (u.keep b o q n F hx) (O b o q F)),fun b o q n F hx=>?_,u.free,fun b o q hx=>?_,u.tups,u.frzs,u.tbls⟩
 ·obtain⟨s1,Z⟩:=u.slot b o q n F hx
  obtain⟨_,o',J,nd⟩:=nf b F
  rw[q]at J; cases J
  obtain⟨s2,S⟩:=sl b _ Z nd
  exact⟨s2,S⟩
 ·by_cases F:b∈fs
  ·obtain⟨n,o',J,nd⟩:=nf b F
   rw[q]at J; cases J
   obtain⟨s1,Z⟩:=u.slot b o q n F hx
   obtain⟨s2,S⟩:=sl b _ Z nd
   exact⟨_,S⟩
  ·obtain⟨o',e⟩:=u.there b o q hx
   exact⟨o',k b o' (zbf _ e (O b o q F))⟩
structure Lv (X:Cx) (E:XK):Prop where
 st:X.stack=X.env::X.outer
 fr:X.env.frame=some X.env.locals
 ex:X.ex=[]
 calm:X.calm=true
 xe:∀ e s',wpAny (model X.prog X.w) X.A (leaving X.env e) (fun _ s''=>sP X.prog X.w X.outer X.H₀ X.s₀ E e s'') (fun e' s''=>sP X.prog X.w X.outer X.H₀ X.s₀ E e' s'') s'→X.xe e s'
theorem oF{P:Program}{w:World}{K:W.Frag}{mg:Str→Option Value}{base:Heap}{N:List Str}{F:Str}{scope:Scope}{f:Addr}{J:Value}{A:Around}{outer:List Env}{s:Shared}{H:Hp}{E:XK} :
  Lv (kC (sP P w) P w K mg base N F scope f J A outer s H E) E:=⟨rfl,rfl,rfl,rfl,fun _ _ h=>h⟩
section
variable{X:Cx}{E:XK}{x:Str}{C:Addr}{bmB:List Value}{B newId initId:String}{np cpos pos:Pos}{e:Expr}{es:List Expr}{t:TA}
def rM(C:Addr)(E:XK)(ta:TA):TS:=fun _ σ H=>ta σ H fun vs H1=>vs.length≤sizeLine∧E (.ref C) none H1
theorem Lv.sub(L:Lv X E){b:Addr}(h:b∈eO X.outer):b∈eO X.stack:=by
 rw[L.st]; unfold eO; rw[zbw,L.fr]; exact zU _ h
theorem zY(L:Lv X E)(O:OwnCls x C bmB newId X.mg X.base)(FB:ExcBaseFacts B newId initId bmB)(ha:PA X (e::es) t)(hg:Gl X x:=by first | exact Gx (by decide +kernel) | rfl)(hd:(x == ("__debug__" : Str))=false:=by decide)
  (he:starEach (e::es) X.env=(false,eval e X.env)::starEach es X.env:=by rfl) (hpl:(backTo cpos (starEach es X.env)).any (·.1)=false:=by rfl) :
  PS X (.Raise (some (.Call (.Name x np) (e::es) [] cpos)) none pos) (rM C E t):=by
 intro pins s σ H D I h
 obtain⟨tl,N,nm,q,bs,hdct,sn,sub,ab,col,dd,k0,k1,k2,k3,k5,mN,hC,hN,aa,T⟩:=O.obj
 refine wpAny_Raise_call_subT (C:=C) (nm:=nm) (q:=q) (N:=N) (bs:=bs) (bm:=tl) (hdct:=hdct) (sn:=sn) (sub:=sub) (ab:=ab) (col:=col) (dd:=dd) (k0:=k0) (k1:=k1) (k2:=k2) (k3:=k3) (k5:=k5)
  FB (mN:=mN) (T.hasType FB.hasBase) (I.ok.hd L.calm) (by rw[he]; show (false||(backTo cpos (starEach es X.env)).any (·.1))=false; rw[hpl]; rfl) aa (jc I hg O.bound ⟨rfl,?_⟩ hd)
 have h0:=ha cpos pins s σ H _ I h;rw[he]at h0 ⊢
 refine zbC (wpAny_mono h0 (fun us s₂ ⟨vs,H2,F,r,z,q⟩=>⟨rfl,(by rw[← r.length]; exact z),F.bk _ _ hC,hN.keeps F.bk,T.keeps F.bk,fun h' a Y=>L.xe _ _ ?_⟩) fun _ _ y=>y)
 have Z:∀ env∈(X.env::X.outer),∀ b,env.frame=some b→b∈eO X.stack:=fun env Y b J=>by
  rw[L.st]; exact Ik.mpr ⟨env,Y,J⟩
 have S:=F.stack;rw[L.st]at S
 refine wpAny_leaves_madeW (base:=W.hideAll s₂.heap (eO X.stack)) (by rw[I.ok.frames,L.st]) L.fr (fun b o q=>W.of_hideAll _ q) (W.funFrames_hide S Z) Y fun ad t0 x1 x2 x3 x4=>?_
 refine⟨H2,s₂.heap,a,.ref C,.ref t0,eO X.stack,rfl,F.os,F.bare,(by have:=F.base; rw[L.ex]at this; exact this),F.hok,fun b J=>⟨F.stkFree b J,?_⟩,fun b J=>L.sub J,x1,(Heap.UpToSlots.of_keeps Y.keeps).trans x4,q⟩
 rcases HW.mp (F.stkSub b J) with rfl | J
 ·exact .inr (Heap.get?_none_of_le F.ok.above)
 ·exact .inl J
theorem Ff(L:Lv X E){W:XK}(hE:∀ C a H,W C a H→E C a H):nI (sP X.prog X.w) X W:=by
 intro pins σ H s e s' I h
 obtain⟨H',S,a,C,a0,fl,rfl,os,bare,un,hok,hf,Z,F,sl,q⟩:=h
 refine L.xe _ _ ?_
 have J:Inv X pins σ H' { s' with heap:=S }:=I.call' (ch:=[]) os un hok bare (fun b z=>absurd z (by simp))
 rw[L.st]at F
 refine wpAny_leaves_onW (by rw[I.ok.frames,L.st]) L.fr F fun aa x1 x2=>?_
 refine⟨H',S,a,C,a0,fl,rfl,J.os,bare,(by have:=J.base; rw[L.ex]at this; exact this),hok,fun b O=>⟨(hf b O).1,?_⟩,fun b O=>Z b (L.sub O),x1,sl.trans x2,hE _ _ _ q⟩
 rcases(hf b O).2 with z | z
 ·rcases HW.mp (I.stkSub b z) with rfl | z
  ·exact .inr (Heap.get?_none_of_le I.ok.above)
  ·exact .inl z
 ·refine .inr ?_
  cases y:X.s₀.heap.get? b with
  | none=>rfl
  | some o=>
   obtain⟨o',Y⟩:=I.base.there b o y (by rw[L.ex]; simp)
   rw[z]at Y; cases Y
end
structure E7 (P:Program) (w:World) (K:W.Frag) (mg:Str→Option Value) (base:Heap) (k:Nat) (x:Str) (ps:List Str) (sp:Sp):Prop where
 ex:∃ f fd,EV P w K mg base (sP P w) k f fd ps sp∧Binds K fd ps []∧W.keepIn K (.ref f)=true∧mg x=some (.ref f)
section
variable{P:Program}{w:World}{K:W.Frag}{mg:Str→Option Value}{base:Heap}
theorem E7.calm{k:Nat}{x:Str}{ps:List Str}{sp O:Sp}(c:E7 P w K mg base k x ps sp)(h:∀ J H Q E,O J H Q E→sp J H Q E0):C9 P w K mg base k x ps O:=by
 obtain⟨f,fd,F,b,kp,m⟩:=c.ex
 refine⟨f,fd,⟨fun J H Q E q=>F.len J H Q _ (h _ _ _ _ q),fun A outer s H args us J Q E hr W Y hv S=>codeAny_mono (F.run A outer s H args us J Q E0 hr W Y hv (h _ _ _ _ S)) fun r s' h=>?_⟩,b,kp,m⟩
 cases r with
 | error e=>obtain⟨_,_,_,_,_,_,_,_,_,_,_,_,_,_,_,q⟩:=h; exact False.elim q
 | ok fl=>cases fl <;> exact h
theorem AS.calX{x:Str}{st:Stmt}{N ps:List Str}{k:Nat}{sp:Sp}(D:AS K mg x st)(S:aT N ps (h8 st))
  (hb:∀ (kV Z pm:Value) (an:Option Addr) (J ct:Value) (us:List Value),us.length=ps.length→bindArgs (W.fnOf x x (DX st) (Dn st) (h8 st) .none kV Z pm an J ct) ⟨us,[]⟩=pure (ps.zip us))
  (len:∀ Y H Q E,sp Y H Q E→Y.length=ps.length)
  (O:∀ (f:Addr) (J:Value) (A:Around) (outer:List Env) (s:Shared) (H:Hp) (Y:List V) (Q:VK) (E:XK),Di k (A.deeper (envOfC x (h8 st) s.heap.objs.size f J))→sp Y H Q E→
   ∃ t,FP (kC (sP P w) P w K mg base N x (h8 st) f J A outer s H E) (Dn st) t∧t { nx:=fun _ H'=>Q .non H',rt:=Q } (start N Y) H):E7 P w K mg base (k+1) x ps sp:=by
 obtain⟨f,fd,F,m⟩:=D.ex
 have fb:=F.binds hb;have kp:=F.kp;obtain⟨oc,od,kV,Z,pm,an,J,ct,ag,rfl,lk,ad⟩:=F.ex
 exact⟨f,_,AW lk ad S len fun A outer s H Y Q E hr aa=>O f J A outer s H Y Q E hr aa,fb,kp,m⟩
end
section
variable{X:Cx}
theorem uR{E O:XK}{j k:Nat}{x:Str}{ps:List Str}{sp:Sp}{p pos:Pos}{e:Expr}{es:List Expr}{t:TA}(L:Lv X E)(c:E7 X.prog X.w X.K X.mg X.base j x ps sp)(S:∀ C a H,O C a H→E C a H)(hr:Di k X.A)(W:PA X (e::es) t)(J:j≤k:=by decide)(hg:Gl X x:=by first | exact Gx (by decide +kernel) | rfl)
  (hdb:(x == ("__debug__" : Str))=false:=by decide) (he:starEach (e::es) X.env=(false,eval e X.env)::starEach es X.env:=by rfl) (hpl:(backTo pos (starEach es X.env)).any (·.1)=false:=by rfl) :
  PE X (.Call (.Name x p) (e::es) [] pos) (mf sp [] O t):=by
 obtain⟨f,fd,F,b,kp,m⟩:=c.ex
 exact uv F (hr.mono J) hg m kp b .nil (Ff L S) W hdb he hpl
end
def XA(X:Cx)(Ee:XK)(pins:List (Addr × Obj))(σ : St):Value→Shared→Prop:=fun e s'=>∃ H0 s0,Inv X pins σ H0 s0∧sP X.prog X.w X.stack H0 s0 Ee e s'
def FJ(X:Cx)(Ee:XK)(e:Expr)(t:TE):Prop:=
 ∀ (pins:List (Addr × Obj)) (s:Shared) (σ : St) (H:Hp) (Q:VK),Inv X pins σ H s→t σ H Q→wpAny (model X.prog X.w) X.A (eval e X.env) (EP X pins σ Q) (XA X Ee pins σ) s
def FG(X:Cx)(Ee:XK)(st:Stmt)(t:TS):Prop:=
 ∀ (pins:List (Addr × Obj)) (s:Shared) (σ : St) (H:Hp) (D:dH),Inv X pins σ H s→t D σ H→wpAny (model X.prog X.w) X.A (exec st X.env) (SP X pins D) (XA X Ee pins σ) s
def C_(X:Cx)(Ee:XK)(st:List Stmt)(t:TS):Prop:=
 ∀ (pins:List (Addr × Obj)) (s:Shared) (σ : St) (H:Hp) (D:dH),Inv X pins σ H s→t D σ H→wpAny (model X.prog X.w) X.A (execs st X.env) (SP X pins D) (XA X Ee pins σ) s
section
variable{X:Cx}{Ee:XK}
theorem Cf{j k:Nat}{x:Str}{ps:List Str}{sp:Sp}{p pos:Pos}{e:Expr}{es:List Expr}{t:TA}(c:E7 X.prog X.w X.K X.mg X.base j x ps sp)(hr:Di k X.A)(ha:PA X.nox (e::es) t)(S:j≤k:=by decide)(hg:Gl X x:=by first | exact Gx (by decide +kernel) | rfl)
  (hdb:(x == ("__debug__" : Str))=false:=by decide) (he:starEach (e::es) X.env=(false,eval e X.env)::starEach es X.env:=by rfl) (hpl:(backTo pos (starEach es X.env)).any (·.1)=false:=by rfl) :
  FJ X Ee (.Call (.Name x p) (e::es) [] pos) (mf sp [] Ee t):=by
 obtain⟨f,fd,F,b,kp,m⟩:=c.ex
 intro pins s σ H Q I h
 refine wpAny_Call_Name_kw (jc I hg m ?_ hdb)
 refine W.callWith_K (h₀:=X.base) I.ok.mod.kin kp (wpAny_mono (ha pos pins s σ H _ (I.wish _) h) (fun us s1 ⟨Y,H1,J,r,q⟩=>⟨J.kIn,?_⟩) fun _ _ z=>False.elim z) he hpl
 have J:=J.unwish;have q:sp Y H1 Q Ee:=by have:=q; simp only[Gp]at this; exact this
 have hl:us.length=ps.length:=by rw[← r.length]; exact F.len _ _ _ _ q
 have Z:=b s1 us J.kIn (by rw[Gp]; exact hl)
 rw[Gp]at Z
 refine wpAny_call (codeAny_mono (F.run X.A X.stack s1 H1 ⟨us,[]⟩ us Y Q Ee (hr.mono S) J.env0 Z r q) fun r s' O=>?_)
 cases r with
 | error e=>exact⟨H1,s1,J,O⟩
 | ok fl=>
  cases fl with
  | ret u=>exact J.after O
  | next=>exact False.elim O
  | brk=>exact False.elim O
  | cont=>exact False.elim O
theorem EC(i:Nat){x:Str}{e:Expr}{te:TE}{pos F:Pos}(Y:X.N.Nodup)(Z:FJ X Ee e te)(hi:X.N[i]? = some x:=by rfl)(hx:aQ X.env.scope x:=by first | exact vLl (by decide +kernel) | exact Or.inl rfl)(hs:swapsWith e (some (.Name x F)) pos.line X.env=pure false:=by rfl)
  (hf:X.fn x=true∨X.env.scope.names.lookup x=some .local:=by first | exact .inl rfl | exact .inr rfl | assumption):FG X Ee (.Assign [.Name x F] e pos) (oO te (iU i)):=by
 intro pins s σ H D I h
 refine wpAny_Assign_Name (bc (Z pins s σ H _ I h) fun v s1 ⟨y,H1,S,J,O⟩=>?_) hs
 exact kq S Y hi hx J (fun s2 W=>⟨_,H1,W,O⟩) hf
theorem BP{st:Stmt}{t:TS}(h:FG X Ee st t):C_ X Ee [st] t:=by
 intro pins s σ H D I h'
 refine wpAny_execs_cons (bc (h pins s σ H D I h') fun f s1 q=>?_)
 cases f with
 | next=>exact wpAny_execs_nil q
 | ret v=>exact q
 | brk=>exact q
 | cont=>exact q
end
abbrev Cx.held (X:Cx) (a:Addr):Cx:={ X with A:=X.A.mark (some (.ref a)),calm:=false,xe:=fun _ _=>False }
section
variable{X:Cx}{pins:List (Addr × Obj)}{σ : St}{H:Hp}{s:Shared}
theorem Inv.held(I:Inv X pins σ H s)(a:Addr):Inv (X.held a) pins σ H s:=
 ⟨⟨I.ok.mod,I.ok.kind,I.ok.glob,I.ok.blt,I.ok.above,I.ok.inj,I.ok.has,I.ok.cab,fun z=>Bool.noConfusion (show false=true from z),I.ok.frames,I.ok.stk,I.ok.exf,I.ok.bs,I.ok.bsz,I.ok.noex,I.ok.exfs,I.ok.funs,I.ok.frf⟩,I.os,I.bare,I.base,I.loc,I.cell,I.free,I.freeC,I.pin,I.hok,I.len⟩
theorem Inv.unheld{a:Addr}(I:Inv (X.held a) pins σ H s)(ok:X.Ok):Inv X pins σ H s:=⟨ok,I.os,I.bare,I.base,I.loc,I.cell,I.free,I.freeC,I.pin,I.hok,I.len⟩
theorem Inv.track{a:Addr}{o:HO}(I:Inv X pins σ H s)(F:H a=none)(Y:∀ b ob,X.s₀.heap.get? b=some ob→b≠a)(hl:X.env.locals≠a)(S:∀ x c,X.env.cells.lookup x=some c→c≠a)
  (hp:∀ p∈X.pn++pins,p.1≠a) (ok:Ax X.prog X.w (upd H a o) s.heap a o) (hx:X.ex=[]):Inv X pins σ (upd H a o) s:=by
 refine⟨I.ok,I.os,I.bare,⟨I.base.keep,I.base.slot,fun b ob q n z=>?_,I.base.there,fun b xs q=>?_,fun b ob xs q=>?_,fun b ps q=>?_⟩,I.loc,I.cell,?_,fun x c q=>?_,fun p J=>?_,fun b ob q=>?_,I.len⟩
 ·rw[al (Y b ob q)]; exact I.base.free b ob q n z
 ·have:=I.base.tups b xs q; rw[al (au this F)]; exact this
 ·have:=I.base.frzs b ob xs q; rw[al (au this F)]; exact this
 ·obtain⟨m,e⟩:=I.base.tbls b ps q; exact⟨m,by rw[al (au e F)]; exact e⟩
 ·rw[al hl]; exact I.free
 ·rw[al (S x c q)]; exact I.freeC x c q
 ·obtain⟨Z,O,W⟩:=I.pin p J
  exact⟨Z,by rw[al (hp p J)]; exact O,W⟩
 ·by_cases e:b=a
  ·subst e; rw[show upd H b o b=some o from HS rfl]at q; cases q; exact ok
  ·rw[al e]at q
   exact(I.hok b ob q).stay (fun _ _ _ z=>z) (fun c z=>by rw[al (au z F)]; exact z) fun c xs z=>by rw[al (au z F)]; exact z
theorem Inv.goes{i:Nat}{x:Str}{v:Option Value}{h':Heap}{m:Str→Option Value}{t':Nat}(I:Inv X pins σ H s)(hN:X.N.Nodup)(hi:X.N[i]? = some x)(hk:X.env.kindOf x=some .local)
  (hl:∀ (i:Nat) (x:Str) (v:V),X.N[i]? = some x→σ[i]? = some (some v)→aq X.env.scope x→∃ u,RelV v u∧Ea X.env s.heap m x u)
  (aa:h'.Ns X.env.locals (fun y=>if y=x then v else m y)) (hn:s.heap.Ns X.env.locals m) (J:Heap.SameBut X.env.locals s.heap h'):Inv X pins (σ.set i none) H { s with heap:=h',toks:=t' }:=by
 have cne:=I.cne;have O:∀ b o,X.s₀.heap.get? b=some o→b≠X.env.locals:=fun b o e=>zM (va (zA e) I.ok.above)
 have Z : i<σ.length:=by rw[I.len]; exact(HL.mp hi).1
 refine⟨I.ok,I.os,I.bare,⟨fun b o e n hb hx=>?_,fun b o e n hb hx=>?_,I.base.free,fun b o e hx=>?_,I.base.tups,I.base.frzs,I.base.tbls⟩,⟨_,aa,fun j y v' S W e3=>?_⟩,fun y c e=>?_,I.free,I.freeC,fun p hp=>?_,fun b ob e=>?_,by simpa using I.len⟩
 ·exact(J.2 b (O b o e)).trans (I.base.keep b o e n hb hx)
 ·obtain⟨sl,S⟩:=I.base.slot b o e n hb hx
  exact⟨sl,(J.2 b (O b o e)).trans S⟩
 ·obtain⟨o',S⟩:=I.base.there b o e hx
  exact⟨o',(J.2 b (O b o e)).trans S⟩
 ·by_cases hj:j=i
  ·subst hj
   rw[zbO Z]at W
   cases W
  ·rw[zby (zB hj)]at W
   obtain⟨u',r',q⟩:=hl j y v' S W e3
   refine⟨u',r',?_⟩
   rcases q with ⟨k,e⟩ | ⟨k,c,e,z⟩
   ·refine .inl ⟨k,?_⟩
    have:y≠x:=fun e=>hj (mT hN S (e ▸ hi))
    simp[this,e]
   ·exact .inr ⟨k,c,e,z.sameBut J (cne y c e)⟩
 ·obtain⟨w',z⟩:=I.cell y c e
  exact⟨w',z.sameBut J (cne y c e)⟩
 ·obtain⟨e,n,ne,nf,d⟩:=I.pin p hp
  exact⟨(J.2 p.1 ne).trans e,n,ne,nf,d⟩
 ·refine(I.hok b ob e).stay (fun c w' Y q=>(J.2 c ?_).trans q) (fun _ q=>q) fun _ _ q=>q
  rintro rfl
  have F:=I.free;rcases Y with rfl | Y
  ·rw[F]at e; cases e
  ·rw[F]at Y; cases Y
end
abbrev ke (a:Addr) (C:Value):HO:=.ext fun h=>∃ o,h.get? a=some o∧o.cls=C
def qN(K:W.Frag)(bmB:List Value):List Value→Bool
 | []=>bmB == []
 | v::r=>(v::r) == bmB||match v with
  | .ref A=>(match K.lookup A with
   | some ⟨_,_,.cls cd,_⟩=>W.nsOkIn K cd.ns&&quietNames.all (fun n=>W.nsIn K cd.ns n == some none)&&qN K bmB r
   | _=>false)
  | _=>false
theorem sI{K:W.Frag}{h:Heap}{bmB:List Value}(X:K.In h):∀ {l:List Value},qN K bmB l=true→OwnTailQ h bmB l
 | [],e=>by rw[← beq_iff_eq.mp e]; exact .base
 | v::r,e=>by
  unfold qN at e;rcases Bool.or_eq_true_iff.mp e with q | q
  ·rw[beq_iff_eq.mp q]; exact .base
  ·split at q
   ·split at q
    ·rename_i ho
     rw[sG,sG]at q
     exact .own (X _ _ ho) (.of_isNs (W.isNs_of_in X q.1.1)) (fun n F=>W.nsMap_none_of_in X q.1.1 (beq_iff_eq.mp (Im.mp q.1.2 n F))) (sI X q.2)
    ·cases q
   ·cases q
def oK(K:W.Frag)(C:Addr)(bmB:List Value)(newId:String):Bool:=match K.lookup C with
 | some ⟨.type "type", _,.cls cd,sl⟩=>(match cd.mro,sl.toList with
  | .ref C'::bm,[_,_,_,_,some (.builtin n),_]=>C' == C&&n == newId && !cd.hasDel&&qN K bmB bm&&W.nsOkIn K cd.ns&&quietNames.all fun n=>W.nsIn K cd.ns n == some none
  | _,_=>false)
 | _=>false
theorem i6{K:W.Frag}{h:Heap}{mg:Str→Option Value}{x:Str}{C:Addr}{bmB:List Value}{newId:String}(X:K.In h)(m:mg x=some (.ref C))(q:oK K C bmB newId=true):OwnClsQ x C bmB newId mg h:=by
 refine⟨m,?_⟩
 unfold oK at q;split at q
 ·rename_i dd cd sl ho
  split at q
  ·rename_i C' bm k0 k1 k2 k3 n k5 hm hs
   simp only[sG,beq_iff_eq,Bool.not_eq_true']at q
   obtain⟨⟨⟨⟨⟨rfl,rfl⟩,F⟩,ht⟩,hok⟩,J⟩:=q
   obtain⟨nm,bs,Y,ns,qn,hd,sn,sub,ab,col,Z⟩:=cd
   dsimp only at hm F hok J
   subst hm F
   have O:sl = #[k0,k1,k2,k3,some (.builtin n),k5]:=by
    obtain⟨l⟩:=sl
    simp only at hs
    rw[hs]
   subst O;exact⟨bm,ns,nm,qn,bs,hd,sn,sub,ab,col,dd,k0,k1,k2,k3,k5,_,X _ _ ho,.of_isNs (W.isNs_of_in X hok),fun n S=>W.nsMap_none_of_in X hok (beq_iff_eq.mp (Im.mp J n S)),sI X ht⟩
  ·cases q
 ·cases q
section
variable{prog:Program}{w:World}{A:Around}{E:Value→Shared→Prop}{h:Heap}{g:Array GenState}{d:Drawn}{t:Nat}{os:OsState}{a:Addr}{o:Obj}{K:W.Frag}
 {x:Str} {C:Addr} {bmB:List Value} {B newId:String} {mg:Str→Option Value}
theorem qE{R:Result→Shared→Prop}(X:K.In h)(hx:h.get? a=some o)(O:o.cls = .ref C)(S:W.subIn K (.ref C) (.type "object")=some true) (Z:R (.ok (.ret (.ref C))) ⟨h,g,d,t,os⟩) :
  codeAny (model prog w) A (.call (.builtin "getset_descriptor.__get__") ⟨[.builtin "object.__class__", .ref a,.ref C],[]⟩) R ⟨h,g,d,t,os⟩:=by
 have J:(⟨h,g,d,t,os⟩ : Shared).TypeIs (.builtin "object.__class__") "getset_descriptor" := F.typeOf_object_class
 have Y:W.Looks (model prog w) h (isSubtype (.ref C) (.type (".".intercalate ("object.__class__".cutAt '.').dropLast))) true:=by
  rw[F.owner_object_class]; exact W.looks_subIn X S
 refine codeAny_call_builtin F.slot_gs_get.plain F.entry_gs_get (F.slot_gs_get.check _ _ _ _ _ _ _ _ J (F.args_gs_get _ _ _) ?_)
 repeat (any_goals (first | assumption | (with_reducible refine wpAny_loadPart_at hx ?_; rw[O]) | with_reducible refine W.Looks.at Y ?_ | wp_step))
 refine⟨Code.quiet_builtin _ (by decide +kernel),codeAny_builtin F.entry_object_class ?_⟩
 repeat (any_goals (first | assumption | (with_reducible refine wpAny_loadPart_at hx ?_; rw[O]) | wp_step))
theorem ox{Y:Tok}{Q:Fin→Shared→Prop}(X:K.In h)(hx:h.get? a=some o)(J:o.cls = .ref C)(S:W.subIn K (.ref C) (.type "object")=some true) (hf:W.findIn K (.ref C) "__class__" = some (some (.builtin "object.__class__")))
  (hq:Q (.done (.ret (.ref C))) ⟨h,g,d,t,os⟩) :
  wpAny (model prog w) A (Builtin.«object.__getattribute__» ⟨[.ref a,.str "__class__" Y],[]⟩) Q E ⟨h,g,d,t,os⟩:=by
 have O:(⟨h,g,d,t,os⟩ : Shared).TypeIs (.builtin "object.__class__") "getset_descriptor" := F.typeOf_object_class
 have Z:W.Looks (model prog w) h _ _:=W.looks_findIn X hf
 have f5:=F.typeOf_object_class;have f6:=F.slot_gs_get.lookup;have f7:=F.slot_gs_set.lookup
 repeat (any_goals (first | assumption | (with_reducible refine wpAny_loadPart_at hx ?_; rw[J]) | with_reducible refine W.Looks.at Z ?_ | wp_step))
 refine qE X hx J S ?_
 repeat (any_goals (first | assumption | wp_step))
theorem pE{tk:Tok}{R:Result→Shared→Prop}(X:K.In h)(O:OwnClsQ x C bmB newId mg h)(J:ExcAttrBase B bmB)(hx:h.get? a=some o)(S:o.cls = .ref C)(Z:W.subIn K (.ref C) (.type "object")=some true) (hf:W.findIn K (.ref C) "__class__" = some (some (.builtin "object.__class__")))
  (hq:R (.ok (.ret (.ref C))) ⟨h,g,d,t,os⟩):codeAny (model prog w) A (.call (.builtin "BaseException.__getattribute__") ⟨[.ref a,.str "__class__" tk],[]⟩) R ⟨h,g,d,t,os⟩:=by
 obtain⟨bm,N,nm,q,bs,hdct,sn,sub,ab,col,dd,k0,k1,k2,k3,k5,mN,Y,hN,aa,T⟩:=O.obj
 exact codeAny_call_builtin J.ga.plain F.entry_bexc_ga (wpAny_check_ga_own J Y T hx S (ox X hx S Z hf hq))
theorem qW{tk:Tok}{fill F:Bool}{Q:Value→Shared→Prop}(X:K.In h)(O:OwnClsQ x C bmB newId mg h)(J:ExcAttrBase B bmB)(hx:h.get? a=some o)(hc:o.cls = .ref C)(hm:W.subIn K (.ref C) (.type "object")=some true) (hf:W.findIn K (.ref C) "__class__" = some (some (.builtin "object.__class__")))
  (hq:Q (.ref C) ⟨h,g,d,t,os⟩):wpAny (model prog w) A (getAttrBy (.ref a) (.str "__class__" tk) fill F) Q E ⟨h,g,d,t,os⟩:=by
 obtain⟨bm,N,nm,q,bs,hdct,sn,sub,ab,col,dd,k0,k1,k2,k3,k5,mN,hC,hN,S,T⟩:=id O.obj
 have f3:=J.ga.bind (.ref a);have ad:(F&&onTheHeap (Value.builtin "BaseException.__getattribute__"))=false:=by cases F <;> rfl
 have Hv:(Value.builtin "BaseException.__getattribute__" == Value.builtin "object.__getattribute__")=false:=by decide +kernel
 have aa:(onTheHeap (Value.ref C)&&Value.builtin "BaseException.__getattribute__" == Value.builtin "object.__getattribute__")=false:=by rw[Hv]; rfl
 have Y:("__getattribute__" : Str)∈quietNames:=.tail _ (.head _)
 have Z:("__getattr__" : Str)∈quietNames:=.tail _ (.tail _ (.head _))
 repeat (any_goals (first | assumption | (with_reducible refine wpAny_loadPart_at hx ?_; rw[hc]) | with_reducible refine wpAny_typeLookup_tailQ Y hC hN S T J.mro J.ga.lookup ?_ | with_reducible refine wpAny_typeLookup_tailQ Z hC hN S T J.mro J.noGetattr ?_ | wp_step))
 refine pE X O J hx hc hm hf ?_
 repeat (any_goals (first | assumption | wp_step))
theorem oX{Q:Option Value→Shared→Prop}(X:K.In h)(O:OwnClsQ x C bmB newId mg h)(F:ExcAttrBase B bmB)(hx:h.get? a=some o)(S:o.cls = .ref C)(J:W.subIn K (.ref C) (.type "object")=some true) (hf:W.findIn K (.ref C) "__class__" = some (some (.builtin "object.__class__")))
  (Y:Q (some (.ref C)) ⟨h,g,d,t+1,os⟩):wpAny (model prog w) A (getAttr? (.ref a) "__class__") Q E ⟨h,g,d,t,os⟩:=by
 unfold getAttr? getAttrBy?
 repeat (any_goals (first | assumption | with_reducible apply qW X O F hx S J hf | wp_step))
theorem zd{a:Addr}(O:ExcAttrBase B bmB)(q:oK K C bmB newId=true)(Y:W.subIn K (.ref C) (.type "object")=some true) (hf:W.findIn K (.ref C) "__class__" = some (some (.builtin "object.__class__"))) :
  W.KitX K (.ref a) (.ref C) (fun h=>∃ o,h.get? a=some o∧o.cls = .ref C) where
 ty:=fun _ _ _ ⟨o,h1,h2⟩=>h2 ▸ (W.Looks.ld h1).andThen .now
 it:=fun _ h X _=>by
  obtain⟨bm,N,nm,q,bs,hdct,sn,sub,ab,col,dd,k0,k1,k2,k3,k5,mN,J,_⟩:=(i6 (x := "") (mg:=fun _=>some (.ref C)) X rfl q).obj
  intro A' Q' E' s' k q
  unfold isType loadHead;exact HG (wpAny_loadPart (k _ _ J) (HI q))
 ne:=fun h S dd Z n sl X F=>by
  obtain⟨bm,N,nm,q,bs,hdct,sn,sub,ab,col,dd,k0,k1,k2,k3,k5,mN,J,_⟩:=(i6 (x := "") (mg:=fun _=>some (.ref C)) X rfl q).obj
  refine Bool.eq_false_iff.mpr fun q=>?_
  have e:C=S:=Value.ref.inj (beq_iff_eq.mp q)
  subst e;rw[J]at F
  have:=congrArg Obj.data (Option.some.inj F)
  cases this
 ca:=fun {prog w A E Q s} X ⟨o,h1,h2⟩ k=>by
  obtain⟨h,g,d,t,os⟩:=s
  exact oX X (i6 (x := "") (mg:=fun _=>some (.ref C)) X rfl q) O h1 h2 Y hf k
end
section
variable{X:Cx}
structure zm (K:W.Frag) (C:Addr):Prop where
 q:oK K C [.type "ValueError", .type "Exception", .type "BaseException", .type "object"] "ValueError.__new__" = true
 sub:W.subIn K (.ref C) (.type "object")=some true
 cls:W.findIn K (.ref C) "__class__" = some (some (.builtin "object.__class__"))
def AN:V→Option Value
 | .ref C=>some (.ref C)
 | .ty T=>some (.type T)
 | _=>none
def DJ(K:W.Frag):List V→Hp→VK→Prop:=fun vs H Q=>∃ a C c u b,vs=[.ref a,c]∧H a=some (ke a (.ref C))∧zm K C∧AN c=some u∧W.kitOne K (.ref C) u=some b∧Q (.bl b) H
theorem dv(K:W.Frag)(Y:X.K=K:=by rfl):CV X (.builtin "isinstance") (DJ K):=by
 subst Y;intro pins s σ H vs us Q I r h
 obtain⟨a,C,c,u,b,rfl,ha,O,J,hk,q⟩:=h
 obtain⟨u1,u2,rfl,Z,S⟩:=l7 r
 cases Z
 have hu:u2=u:=by
  cases c <;> simp only[AN,Option.some.injEq,reduceCtorEq]at J
  ·subst J; exact S
  ·subst J; exact S
 subst hu;obtain⟨p,_,_⟩:=(show Ax X.prog X.w H s.heap a (ke a (.ref C)) from I.hok a _ ha)
 exact Gv (zd F.attrBase_ValueError O.q O.sub O.cls) I.kIn p hk (fun z=>nomatch z) fun tk=>⟨.bl b,H,I.tok tk,rfl,q⟩
theorem eJ{x:Str}{C:Addr}{pos:Pos}(h:X.mg x=some (.ref C))(hg:Gl X x:=by first | exact Gx (by decide +kernel) | rfl)(hd:(x == ("__debug__" : Str))=false:=by decide):PE X (.Name x pos) (tC (.ref C)):=oN hg h rfl hd
end
structure gh (K:W.Frag) (mg:Str→Option Value) (x:Str) (C:Addr):Prop where
 c:zm K C
 m:mg x=some (.ref C)
section
variable{X:Cx}{E:XK}{x n:Str}{C:Addr}{np cpos hp pos:Pos}{e:Expr}{es body suite:List Stmt}{b₀ : Stmt}{t:TA}{tb:XK→TS}{th:TS}{Dk:List ExceptHandler}
theorem lC{e:Expr}{es:List Expr}(L:Lv X E)(o:gh X.K X.mg x C)(J:PA X (e::es) t)(hg:Gl X x:=by first | exact Gx (by decide +kernel) | rfl)(hd:(x == ("__debug__" : Str))=false:=by decide)
  (he:starEach (e::es) X.env=(false,eval e X.env)::starEach es X.env:=by rfl) (hpl:(backTo cpos (starEach es X.env)).any (·.1)=false:=by rfl) :
  PS X (.Raise (some (.Call (.Name x np) (e::es) [] cpos)) none pos) (rM C E t):=fun pins s σ H D I h=>
 zY L (i6 I.ok.mod.kin o.m o.c.q).own F.excBase_ValueError J hg hd he hpl pins s σ H D I h
end
structure jO (mg:Str→Option Value) (x:Str) (C:Addr):Prop where
 m:mg x=some (.ref C)
theorem eD{K:W.Frag}{a C:Addr}{c:V}{u:Value}{b:Bool}{H:Hp}{Q:VK}(F:H a=some (ke a (.ref C)))(S:zm K C)(J:W.kitOne K (.ref C) u=some b)(q:Q (.bl b) H)(O:AN c=some u:=by rfl):DJ K [.ref a,c] H Q:=
 ⟨a,C,c,u,b,rfl,F,S,O,J,q⟩
theorem lL{C:Addr}{E:XK}{ta:TA}{D:dH}{σ : St}{H:Hp}:rM C E ta D σ H=ta σ H fun F H1=>F.length≤sizeLine∧E (.ref C) none H1:=rfl
def xf:Option Int→Value→Bool
 | none,v=>(match v with | .none=>true | _=>false)
 | some i,v=>Value.isInt i v
theorem jg:∀ {k:Option Int} {v:Value},xf k v=true→RelV (bU k) v
 | none,v,h=>by
  cases v <;> first | rfl | cases h
 | some i,v,h=>Value.isInt_shape (k:=i) (v:=v) h
theorem yu:∀ {k:Option Int} {v:Value},RelV (bU k) v→xf k v=true
 | none,v,h=>by
  obtain rfl:v=Value.none:=h
  rfl
 | some i,v,h=>by
  obtain⟨t,rfl⟩:=(show ∃ t,v=Value.int i t from h)
  simp[xf,Value.isInt]
def i9(prog:Program)(w:World):PySem.KeyKind prog w (Option Int) where
 is:=xf
 hash:=(d9 prog w).hash
 inj:=fun v a b ha hb=>(d9 prog w).inj (h:=default) (jg ha) (jg hb)
 byValue:=fun k v h=>by
  have r:=jg h
  cases k with
  | none=>obtain rfl:v=Value.none:=r; rfl
  | some i=>obtain⟨t,rfl⟩:=(show ∃ t,v=Value.int i t from r); rfl
 pyHash:=fun {A E s k v Q} hv h=>by
  have r:=jg hv
  cases k with
  | none=>
   obtain rfl:v=Value.none:=r
   exact qo h
  | some i=>
   obtain⟨t,rfl⟩:=(show ∃ t,v=Value.int i t from r)
   exact wpAny_pyHash_int h
 eqBool:=fun {A E s a b u v Q} hu hv h=>by
  have q:=iH (A:=A) (s:=s) (jg hu) (jg hv) (cY a) (cY b);rw[l8]at q
  exact q prog w E Q h
 «strs»:=fun k x t v h=>by
  cases k with
  | none=>cases h
  | some i=>simp[xf,Value.isInt]at h
def ml(P:Program)(w:World)(a:Addr)(kvs:List (Option Int × V)):HO:=
 .ext fun h=>kvs.length≤sizeLine∧(a == sysModules)=false∧∃ vs,KV kvs vs∧h.DictOf (i9 P w) a vs
theorem xw{P:Program}{w:World}{H':Hp}{h':Heap}{a:Addr}{kvs:List (Option Int × V)}{J:List (Option Int × Value)}(z:kvs.length≤sizeLine)(hd:(a == sysModules)=false)(W:KV kvs J)(m:h'.DictOf (i9 P w) a J):Ax P w H' h' a (ml P w a kvs):=by
 obtain⟨o,es,ep,e1,e⟩:=id m
 exact⟨⟨z,hd,J,W,m⟩,⟨o,e1⟩,fun h1 h2 ⟨Z,O,S,F,o',es',ep',Y,q⟩ y=>⟨Z,O,S,F,o',es',ep',y _ Y,q⟩⟩
section
variable{X:Cx}{pins:List (Addr × Obj)}{σ : St}{H:Hp}{s:Shared}{a:Addr}{kvs:List (Option Int × V)}
theorem Inv.op(I:Inv X pins σ H s)(h:H a=some (ml X.prog X.w a kvs)):kvs.length≤sizeLine∧(a == sysModules)=false∧∃ vs,KV kvs vs∧s.heap.DictOf (i9 X.prog X.w) a vs:=(I.hok a _ h).1
def AV(P:Program)(w:World):R2:=fun x y H Q=>∃ a k kvs v,x = .ref a∧y=bU k∧H a=some (ml P w a kvs)∧aN kvs k=some v∧Q v H
theorem FE:F2 X (AV X.prog X.w):=by
 intro O J pins s σ H x y v u Q I rx ry h Y
 obtain⟨a,k,kvs,z,rfl,rfl,e,l,q⟩:=h
 cases rx;obtain⟨_,hd,Z,S,dd⟩:=I.op e
 obtain⟨w',hw,W⟩:=EU.some_of (v:=z) (o:=valueAt Z k) (by rw[← l]; exact S.val k)
 have hl:typeLookup (.type "dict") "__getitem__" = pure (some (.builtin "dict.__getitem__")):=F.slot_dict_getitem.lookup
 exact subscriptTail_builtinR (x:=w') dd.typeIs hl (wpAny_getItem_of (knd:=i9 X.prog X.w) (yu ry) dd.mapOf hw ⟨rfl,z,H,I.tok _,W,q⟩) Y
def xL(P:Program)(w:World):lm:=fun o i v H Q=>∃ a k kvs,o = .ref a∧i=bU k∧H a=some (ml P w a kvs)∧kvs.length<sizeLine∧Q (upd H a (ml P w a (dz kvs k v)))
theorem CL:FH X (xL X.prog X.w):=by
 intro pins s σ H o i v ov iv u Q I Y Z rv h
 obtain⟨a,k,kvs,rfl,rfl,e,hl,q⟩:=h
 cases Y;obtain⟨z,hd,W,J,dd⟩:=I.op e
 have hz:W.length≤sizeLine:=by rw[← J.length]; exact z
 have O:(dz kvs k v).length≤sizeLine:=by have:=dQ kvs k v; omega
 refine wpAny_setItem_pairs (knd:=i9 X.prog X.w) (hsz:=hz) (yu Z) dd fun h' F S=>⟨_,?_,q⟩
 have he:∃ q,h'.get? a=some q:=let ⟨q,_,_,hq,_⟩:=F; ⟨q,hq⟩
 exact g_ I (by rw[e]; exact True.intro) S he (xw O hd (J.put k rv) F)
def ua(P:Program)(w:World):TE:=fun _ H Q=>∀ p,H p=none→Q (.ref p) (upd H p (ml P w p []))
theorem xv{pos:Pos}:PE X (.Dict [] [] pos) (ua X.prog X.w):=fun pins s σ H Q I h=>by
 have J:(s.heap.objs.size == sysModules)=false:=beq_eq_false_iff_ne.mpr (zB (zM I.big))
 have F:(s.heap.push { cls:=.type "dict", data:=.dict #[] }).DictOf (i9 X.prog X.w) s.heap.objs.size []:=⟨_,#[],0,wd _ rfl,⟨rfl,rfl,rfl⟩,rfl,(fun x hx=>by simp at hx),.nil,GQ⟩
 exact wpAny_Dict_empty ⟨.ref s.heap.objs.size,_,I.laid (a:=s.heap.objs.size) (o:=ml X.prog X.w s.heap.objs.size []) (t':=s.toks) (fun _ _ q=>zD _ q) (zg _) (xw (yT _) J .nil F),rfl,h _ (I.hok.fresh (zg _))⟩
end
section
variable{X:Cx}(P:Program)(w:World)
theorem rE(F:X.prog=P:=by rfl)(hw:X.w=w:=by rfl):F2 X (AV P w):=by subst F hw; exact FE
theorem uQ(F:X.prog=P:=by rfl)(hw:X.w=w:=by rfl):FH X (xL P w):=by subst F hw; exact CL
theorem u9{pos:Pos}(F:X.prog=P:=by rfl)(hw:X.w=w:=by rfl):PE X (.Dict [] [] pos) (ua P w):=by subst F hw; exact xv
end
end L2
namespace L2
open PySem PySem.Spec PyProof PyProof.Rows
section
variable{prog:Program}{w:World}{A:Around}{E:Value→Shared→Prop}{s:Shared}
def Gg(i t:Addr)(zs:Array Value)(k:Nat)(h:Heap):Prop:=h.IsListIter i t k∧h.IsList t zs
theorem Gg.ext{i t b:Addr}{zs:Array Value}{k:Nat}{h h':Heap}(x:Gg i t zs k h)(F:Heap.ExtBut b h h')(n1:i≠b)(J:t≠b):Gg i t zs k h':=⟨x.1.extBut F n1,x.2.extBut F J⟩
theorem rh{i t:Addr}{k:Nat}{zs:Array Value}{v:Value}{Q:Value→Shared→Prop}(st:Gg i t zs k s.heap)(F:t≠i)(hv:zs[k]? = some v)
  (q:∀ h',Gg i t zs (k+1) h'→Heap.SameBut i s.heap h'→Q v { s with heap:=h' }):wpAny (model prog w) A (Builtin.SmallTypes.nextOf (.ref i)) Q E s:=
 wpAny_nextOf_list_item st.1 st.2 hv fun h' r m=>q h' ⟨r,st.2.extBut m.extBut F⟩ m
theorem Cd{i t:Addr}{k:Nat}{zs:Array Value}{Q:Value→Shared→Prop}(hh:A.handled=none)(st:Gg i t zs k s.heap)(hv:zs[k]? = none)
  (q:∀ h' e,Heap.ExtBut i s.heap h'→(∃ o,h'.get? e=some o∧o.cls = .type "StopIteration")→E (.ref e) { s with heap:=h' }):wpAny (model prog w) A (Builtin.SmallTypes.nextOf (.ref i)) Q E s:=
 wpAny_nextOf_list_end hh st.1 st.2 hv fun h' e m F=>q h' e m F
variable{z TI TO i1 i2 t1 t2:Addr}{xs ys:Array Value}{k1 k2:Nat}{a b:Value}
theorem yJ{x y:Value}{Q:Value→Shared→Prop}(D:ZipApart z TI TO i1 i2 t1 t2)(Z:IsZip s.heap z TI TO .none)(gI:IsPair s.heap TI (.ref i1) (.ref i2))(gO:IsPair s.heap TO a b)
  (g1:Gg i1 t1 xs k1 s.heap) (g2:Gi i2 t2 ys k2 s.heap) (hx:xs[k1]? = some x) (hy:ys[k2]? = some y)
  (q:∀ h',IsZip h' z TI TO (rawInt s.heap.objs.size)→IsPair h' TO x y→Gg i1 t1 xs (k1+1) h'→Gi i2 t2 ys (k2+1) h'→IsPair h' s.heap.objs.size x y→h'.objs.size=s.heap.objs.size+1→
   (∀ c o,c≠z→c≠TO→c≠i1→c≠i2→s.heap.get? c=some o→h'.get? c=some o)→Q (.ref s.heap.objs.size) { s with heap:=h' }) :
  wpAny (model prog w) A (Builtin.«zip.__next__» ⟨[.ref z],[]⟩) (fun aa s'=>∃ v,aa = .done (.ret v)∧Q v s') E s:=by
 show wpAny _ _ (field (.ref z) 2 >>= fun _=>_) _ _ _
 refine HG (wpAny_field Z rfl (x:=.bool false) rfl ?_)
 show wpAny _ _ (field (.ref z) 3 >>= fun _=>_) _ _ _
 refine HG (wpAny_field Z rfl (x:=.ref TI) rfl (HG (wpAny_seqItems gI rfl ?_)))
 show wpAny _ _ (Builtin.SmallTypes.ownedTupleIsFree (.ref z) >>= fun _=>_) _ _ _
 refine HG ?_
 unfold Builtin.SmallTypes.ownedTupleIsFree;refine HG (wpAny_field Z rfl (x:=.none) rfl (HI ?_))
 simp only[if_true]
 refine HG (wpAny_rule (HG (wpAny_field Z rfl (x:=.ref TO) rfl (HG (wpAny_setField_rec Z (by simp) fun ha z1 m1=>?_)))))
 replace z1:IsZip ha z TI TO .ellipsis:=z1
 refine HG ?_
 simp only[List.zipIdx_nil,List.zipIdx_cons,za9,HA]
 refine HG (HG (wpAny_onRaise ?_))
 show wpAny _ _ (Builtin.SmallTypes.nextOf (.ref i1) >>= fun _=>_) _ _ _
 refine HG (rh (g1.ext m1.extBut D.i1z D.l1z) D.l1i1 hx fun hb r1 O=>HI ?_)
 have o2:IsPair hb TO a b:=O.extBut _ _ D.TOi1 (m1.extBut _ _ D.TOz gO)
 refine HG (wpAny_seqItems o2 rfl (HG (wpAny_updateSeq_pair o2 fun hc o3 m3=>HG (wpAny_letGo (HI ?_)))))
 replace o3:IsPair hc TO x b:=o3
 refine HG (HG (wpAny_onRaise ?_))
 show wpAny _ _ (Builtin.SmallTypes.nextOf (.ref i2) >>= fun _=>_) _ _ _
 refine HG (Ay (((g2.ext m1.extBut D.i2z D.l2z).ext O.extBut D.i12.symm D.l2i1).ext m3.extBut D.TOi2.symm D.l2TO) D.l2i2 hy fun hd r2 W=>HI ?_)
 have o4:IsPair hd TO x b:=W.extBut _ _ D.TOi2 o3
 refine HG (wpAny_seqItems o4 rfl (HG (wpAny_updateSeq_pair o4 fun F o5 Y=>HG (wpAny_letGo (HI (HI ?_))))))
 replace o5:IsPair F TO x y:=o5
 refine HG (wpAny_seqItems o5 rfl (HG (wpAny_newTuple ?_)))
 have hsz:F.objs.size=s.heap.objs.size:=by rw[Y.1,W.1,m3.1,O.1,m1.1]
 have z5:IsZip F z TI TO .ellipsis:=Y.extBut _ _ D.TOz.symm (W.extBut _ _ D.i2z.symm (m3.extBut _ _ D.TOz.symm (O.extBut _ _ D.i1z.symm z1)))
 have kp:∀ c o,c≠z→c≠TO→c≠i1→c≠i2→s.heap.get? c=some o→F.get? c=some o:=fun c o J c2 c3 c4 e=>Y.extBut _ _ c2 (W.extBut _ _ c4 (m3.extBut _ _ c2 (O.extBut _ _ c3 (m1.extBut _ _ J e))))
 have ag:Gg i1 t1 xs (k1+1) F:=((r1.ext m3.extBut D.TOi1.symm D.l1TO).ext W.extBut D.i12 D.l1i2).ext Y.extBut D.TOi1.symm D.l1TO
 have ad:Gi i2 t2 ys (k2+1) F:=r2.ext Y.extBut D.TOi2.symm D.l2TO
 have S:z<F.objs.size:=zA z5
 show wpAny _ _ (Builtin.SmallTypes.ownedTupleHandOut (.ref z) (.ref F.objs.size) >>= fun _=>_) _ _ _
 refine HG ?_
 unfold Builtin.SmallTypes.ownedTupleHandOut;have z6:IsZip (F.push { cls:=.type "tuple", data:=.seq #[x,y] }) z TI TO .ellipsis:=zD _ z5
 refine HG (wpAny_setField_rec z6 (by simp) fun hf z7 m7=>?_)
 replace z7:IsZip hf z TI TO (rawInt F.objs.size):=z7
 refine wpAny_setField_rec z7 (by simp) fun hg z8 m8=>?_
 replace z8:IsZip hg z TI TO (rawInt F.objs.size):=z8
 have up:∀ c o,c≠z→F.get? c=some o→hg.get? c=some o:=fun c o J e=>m8.extBut _ _ J (m7.extBut _ _ J (zD _ e))
 have t8:IsPair hg F.objs.size x y:=m8.extBut _ _ (su S) (m7.extBut _ _ (su S) (wd _ rfl))
 have s8:hg.objs.size=F.objs.size+1:=by rw[m8.1,m7.1,u3]
 rw[hsz]at z8 t8 s8
 refine HI ⟨_,rfl,?_⟩
 show Q (.ref F.objs.size) _
 rw[hsz];have ex:Heap.ExtBut z F hg:=fun c o J e=>up c o J e
 exact q hg z8 (up _ _ D.TOz o5) (ag.ext ex D.i1z D.l1z) (ad.ext ex D.i2z D.l2z) t8 s8 fun c o J c2 c3 c4 e=>up c o J (kp c o J c2 c3 c4 e)
theorem zt{Q:Fin→Shared→Prop}(hh:A.handled=none)(D:ZipApart z TI TO i1 i2 t1 t2)(Y:IsZip s.heap z TI TO .none)(gI:IsPair s.heap TI (.ref i1) (.ref i2))(gO:IsPair s.heap TO a b)
  (g1:Gg i1 t1 xs k1 s.heap) (g2:Gi i2 t2 ys k2 s.heap) (S:xs[k1]? = none∨ys[k2]? = none)
  (q:∀ h' e,(∀ c o,c≠z→c≠TO→c≠i1→c≠i2→s.heap.get? c=some o→h'.get? c=some o)→(∃ o,h'.get? e=some o∧o.cls = .type "StopIteration")→E (.ref e) { s with heap:=h' }) :
  wpAny (model prog w) A (Builtin.«zip.__next__» ⟨[.ref z],[]⟩) Q E s:=by
 show wpAny _ _ (field (.ref z) 2 >>= fun _=>_) _ _ _
 refine HG (wpAny_field Y rfl (x:=.bool false) rfl ?_)
 show wpAny _ _ (field (.ref z) 3 >>= fun _=>_) _ _ _
 refine HG (wpAny_field Y rfl (x:=.ref TI) rfl (HG (wpAny_seqItems gI rfl ?_)))
 show wpAny _ _ (Builtin.SmallTypes.ownedTupleIsFree (.ref z) >>= fun _=>_) _ _ _
 refine HG ?_
 unfold Builtin.SmallTypes.ownedTupleIsFree;refine HG (wpAny_field Y rfl (x:=.none) rfl (HI ?_))
 simp only[if_true]
 refine HG (wpAny_rule (HG (wpAny_field Y rfl (x:=.ref TO) rfl (HG (wpAny_setField_rec Y (by simp) fun ha Z m1=>?_)))))
 replace Z:IsZip ha z TI TO .ellipsis:=Z
 refine HG ?_
 simp only[List.zipIdx_nil,List.zipIdx_cons,za9,HA]
 refine HG (HG (wpAny_onRaise ?_))
 show wpAny _ _ (Builtin.SmallTypes.nextOf (.ref i1) >>= fun _=>_) _ _ _
 have stop:∀ {h':Heap} {e:Addr},IsZip h' z TI TO .ellipsis→(∃ o,h'.get? e=some o∧o.cls = .type "StopIteration")→e≠z:=fun {h' e} hz ⟨o,ho,hc⟩ n=>by
  subst n; rw[hz]at ho; cases ho; simp at hc
 rcases hx:xs[k1]? with _ | x
 ·refine HG (Cd hh (g1.ext m1.extBut D.i1z D.l1z) hx fun hb e F W=>?_)
  have z2:IsZip hb z TI TO .ellipsis:=F _ _ D.i1z.symm Z
  have nz:=stop z2 W;obtain⟨oe,p1,p2⟩:=W
  exact wpAny_setField_rec z2 (by simp) fun hc _ J=>q hc e (fun c o O _ c3 _ x=>J.extBut _ _ O (F _ _ c3 (m1.extBut _ _ O x))) ⟨oe,J.extBut _ _ nz p1,p2⟩
 ·have hy:ys[k2]? = none:=by
   rcases S with h | h
   ·rw[hx]at h; cases h
   ·exact h
  refine HG (rh (g1.ext m1.extBut D.i1z D.l1z) D.l1i1 hx fun hb r1 F=>HI ?_)
  have o2:IsPair hb TO a b:=F.extBut _ _ D.TOi1 (m1.extBut _ _ D.TOz gO)
  refine HG (wpAny_seqItems o2 rfl (HG (wpAny_updateSeq_pair o2 fun hc o3 J=>HG (wpAny_letGo (HI ?_)))))
  refine HG (HG (wpAny_onRaise ?_))
  show wpAny _ _ (Builtin.SmallTypes.nextOf (.ref i2) >>= fun _=>_) _ _ _
  refine HG (BF hh (((g2.ext m1.extBut D.i2z D.l2z).ext F.extBut D.i12.symm D.l2i1).ext J.extBut D.TOi2.symm D.l2TO) hy fun hd e m4 W=>?_)
  have z4:IsZip hd z TI TO .ellipsis:=m4 _ _ D.i2z.symm (J.extBut _ _ D.TOz.symm (F.extBut _ _ D.i1z.symm Z))
  have nz:=stop z4 W;obtain⟨oe,p1,p2⟩:=W
  exact wpAny_setField_rec z4 (by simp) fun hg _ m5=>q hg e (fun c o O c2 c3 c4 x=>m5.extBut _ _ O (m4 _ _ c4 (J.extBut _ _ c2 (F.extBut _ _ c3 (m1.extBut _ _ O x))))) ⟨oe,m5.extBut _ _ nz p1,p2⟩
theorem vV{x y:Value}{Q:Option Value→Shared→Prop}(D:ZipApart z TI TO i1 i2 t1 t2)(J:IsZip s.heap z TI TO .none)(gI:IsPair s.heap TI (.ref i1) (.ref i2))(gO:IsPair s.heap TO a b)
  (g1:Gg i1 t1 xs k1 s.heap) (W:Gi i2 t2 ys k2 s.heap) (hx:xs[k1]? = some x) (hy:ys[k2]? = some y)
  (q:∀ h',IsZip h' z TI TO (rawInt s.heap.objs.size)→IsPair h' TO x y→Gg i1 t1 xs (k1+1) h'→Gi i2 t2 ys (k2+1) h'→IsPair h' s.heap.objs.size x y→h'.objs.size=s.heap.objs.size+1→
   (∀ c o,c≠z→c≠TO→c≠i1→c≠i2→s.heap.get? c=some o→h'.get? c=some o)→Q (some (.ref s.heap.objs.size)) { s with heap:=h' }):wpAny (model prog w) A (pyNext (.ref z)) Q E s:=by
 have ty:s.TypeIs (.ref z) "zip" := ⟨_,J,rfl⟩
 unfold pyNext
 exact HG (wpAny_attempt (wpAny_callSpecial?_slot (name:=Str.ofString "__next__") ty zbL (wpAny_call_entry zbL ty Io
  (yJ D J gI gO g1 W hx hy fun h' O S Y a4 a5 a6 Z=>HI (q h' O S Y a4 a5 a6 Z)) (Il _))))
theorem x5{Q:Option Value→Shared→Prop}(hh:A.handled=none)(D:ZipApart z TI TO i1 i2 t1 t2)(O:IsZip s.heap z TI TO .none)(Y:IsPair s.heap TI (.ref i1) (.ref i2))(Z:IsPair s.heap TO a b)
  (g1:Gg i1 t1 xs k1 s.heap) (W:Gi i2 t2 ys k2 s.heap) (J:xs[k1]? = none∨ys[k2]? = none)
  (q:∀ h',(∀ c o,c≠z→c≠TO→c≠i1→c≠i2→s.heap.get? c=some o→h'.get? c=some o)→Q none { s with heap:=h' }):wpAny (model prog w) A (pyNext (.ref z)) Q E s:=by
 have ty:s.TypeIs (.ref z) "zip" := ⟨_,O,rfl⟩
 unfold pyNext
 refine HG (wpAny_attempt (wpAny_callSpecial?_slot (name:=Str.ofString "__next__") ty zbL (wpAny_call_entry zbL ty Io
  (zt hh D O Y Z g1 W J fun h' e kk he=>?_) (Il _))))
 obtain⟨o,ho,S⟩:=he
 exact HG (wpAny_isInstance (T := "StopIteration") (b:=true) ⟨o,ho,S⟩ isSubtype_stop (HI (q _ kk)))
abbrev Ba (h:Heap) (t1:Addr):Heap:=h.push { cls:=.type "list_iterator", data:=.fields #[.ref t1,.int 0 0] }
abbrev Bq (h:Heap) (t1 t2:Addr):Heap:=(Ba h t1).push { cls:=.type "tuple_iterator", data:=.fields #[.ref t2,.int 0 0] }
abbrev AT (h:Heap) (t1 t2:Addr):Heap:=(Bq h t1 t2).push { cls:=.type "tuple", data:=.seq #[.ref h.objs.size,.ref (Ba h t1).objs.size] }
abbrev A2 (h:Heap) (t1 t2:Addr):Heap:=(AT h t1 t2).push { cls:=.type "tuple", data:=.seq #[.none,.none] }
abbrev n6 (h:Heap) (t1 t2:Addr):Heap:=(A2 h t1 t2).push { cls:=.type "zip", data:=.fields #[.none,.bool false,.bool false,.ref (Bq h t1 t2).objs.size,.ref (AT h t1 t2).objs.size] }
theorem vO(t1 t2:Addr)(xs ys:Array Value):Meets (Builtin.«zip.__new__» ⟨[.type "zip", .ref t1,.ref t2],[]⟩) (fun _ R s=>s.heap.IsList t1 xs∧s.heap.IsTuple t2 ys∧
   R (.ok (.ret (.ref (A2 s.heap t1 t2).objs.size))) { s with heap:=n6 s.heap t1 t2 }):=
 .of_wp fun prog w A R s q=>by
  obtain⟨hp,g,d,F,os⟩:=s
  obtain⟨Y,O,q⟩:=q
  have J:=sub_zip;have W:Heap.IsList (Shared.heap ⟨hp,g,d,F,os⟩) t1 xs:=Y
  have S:Heap.IsTuple (Shared.heap ⟨hp.push { cls:=.type "list_iterator", data:=.fields #[.ref t1,.int 0 0] },g,d,F,os⟩) t2 ys:=Heap.IsTuple.push O _
  wp_walk using wpAny_pyIter_list W,wpAny_pyIter_tuple S
  exact⟨_,rfl,q⟩
theorem wn{Q:Value→Shared→Prop}(e1:s.heap.IsList t1 xs)(Z:s.heap.IsTuple t2 ys)
  (q:∀ h',IsZip h' (s.heap.objs.size+4) (s.heap.objs.size+2) (s.heap.objs.size+3) .none→IsPair h' (s.heap.objs.size+2) (.ref s.heap.objs.size) (.ref (s.heap.objs.size+1))→
   IsPair h' (s.heap.objs.size+3) .none .none→Gg s.heap.objs.size t1 xs 0 h'→Gi (s.heap.objs.size+1) t2 ys 0 h'→
   (∀ c o,s.heap.get? c=some o→h'.get? c=some o)→Q (.ref (s.heap.objs.size+4)) { s with heap:=h' }):wpAny (model prog w) A (call (.type "zip") [.ref t1,.ref t2]) Q E s:=by
 refine callType_new F.called_zip (by decide) (F.typeCall_zip_2 _ _) (F.newCall_zip_2 _ _) (fun obj=>F.args_object_init_3 obj _ _) F.entry_zip_new (vO t1 t2 xs ys) ⟨e1,Z,?_⟩
 have S:(Ba s.heap t1).objs.size=s.heap.objs.size+1:=u3 ..
 have J:(Bq s.heap t1 t2).objs.size=s.heap.objs.size+2:=by rw[u3,S]
 have O:(AT s.heap t1 t2).objs.size=s.heap.objs.size+3:=by rw[u3,J]
 have Y:(A2 s.heap t1 t2).objs.size=s.heap.objs.size+4:=by rw[u3,O]
 have p:∀ {h:Heap} {o:Obj} {c:Addr} {u:Obj},h.get? c=some u→(h.push o).get? c=some u:=fun e=>zD _ e
 have kk:∀ c o,s.heap.get? c=some o→(n6 s.heap t1 t2).get? c=some o:=fun c o e=>p (p (p (p (p e))))
 have W:(n6 s.heap t1 t2).get? (A2 s.heap t1 t2).objs.size=some _:=wd _ rfl
 have g4:(n6 s.heap t1 t2).get? (AT s.heap t1 t2).objs.size=some _:=p (wd _ rfl)
 have g3:(n6 s.heap t1 t2).get? (Bq s.heap t1 t2).objs.size=some _:=p (p (wd _ rfl))
 have g2:(n6 s.heap t1 t2).get? (Ba s.heap t1).objs.size=some _:=p (p (p (wd _ rfl)))
 have g1:(n6 s.heap t1 t2).get? s.heap.objs.size=some _:=p (p (p (p (wd _ rfl))))
 show _∧_
 rw[J,O,Y]at W
 rw[S,J]at g3
 rw[O]at g4
 rw[S]at g2
 rw[Y];have tt:∀ {t zs},s.heap.IsTuple t zs→(n6 s.heap t1 t2).IsTuple t zs:=fun ⟨o,e,r⟩=>⟨o,kk _ _ e,r⟩
 have tl:∀ {t zs},s.heap.IsList t zs→(n6 s.heap t1 t2).IsList t zs:=fun ⟨o,e,r⟩=>⟨o,kk _ _ e,r⟩
 exact⟨⟨_,W,rfl⟩,q _ W g3 g4 ⟨⟨_,g1,rfl,rfl⟩,tl e1⟩ ⟨⟨_,g2,rfl,rfl⟩,tt Z⟩ kk⟩
end
def A8(K:W.Frag)(a b:Addr):It:=
  ⟨fun i H=>∃ xs ys x y,rd K H a xs∧C3 K H b ys∧xs[i]? = some x∧ys[i]? = some y,
   fun i H v H'=>∃ t x y,H t=none∧v = .ref t∧H'=upd H t (.tup [x,y])∧(∀ xs,rd K H a xs→xs[i]? = some x)∧∀ ys,C3 K H b ys→ys[i]? = some y,
   fun i H=>∃ xs ys,rd K H a xs∧C3 K H b ys∧(xs.length≤i∨ys.length≤i)⟩
def MZ(z TI TO i1 i2 l1 l2:Addr)(i:Nat)(h:Heap):Prop:=
 IsZip h z TI TO .none∧IsPair h TI (.ref i1) (.ref i2)∧(∃ a b,IsPair h TO a b)∧h.IsListIter i1 l1 i∧h.IsTupleIter i2 l2 i
theorem Bi{z TI TO i1 i2 F l2:Addr}{i:Nat}{h:Heap}{xs:Array Value}(st:MZ z TI TO i1 i2 F l2 i h)(h1:h.IsList F xs):∀ c∈[z,TI,TO,i1,i2],F≠c:=by
 obtain⟨s1,s2,⟨a,b,Z⟩,⟨o4,s4,c4,_⟩,⟨S,s5,c5,_⟩⟩:=st
 have n4:o4.cls ≠ .type "list" := by rw[c4]; decide
 have W:S.cls ≠ .type "list" := by rw[c5]; decide
 have Y:Value.type "zip" ≠ Value.type "list" := by decide
 have O:Value.type "tuple" ≠ Value.type "list" := by decide
 intro c J
 simp only[vB,Gu,or_false]at J
 rcases J with rfl | rfl | rfl | rfl | rfl
 ·exact kj h1 s1 Y
 ·exact kj h1 s2 O
 ·exact kj h1 Z O
 ·exact kj h1 s4 n4
 ·exact kj h1 s5 W
theorem wz{P:Program}{w:World}{K:W.Frag}{a8:List Expr}{k:Nat}{pos:Pos}{z TI TO i1 i2 l1 l2:Addr}(D:xh z TI TO i1 i2):mP P w K (.Tuple a8 k pos) (A8 K l1 l2) [z,TI,TO,i1,i2] z (MZ z TI TO i1 i2 l1 l2) where
 mem:=by simp
 obj:=fun i h st b J=>by
  obtain⟨s1,Y,⟨_,_,s3⟩,⟨o4,s4,c4,d4⟩,⟨o5,Z,c5,d5⟩⟩:=st
  simp only[vB,Gu,or_false]at J
  rcases J with rfl | rfl | rfl | rfl | rfl
  ·exact⟨_,s1,fun v e=>by cases e⟩
  ·exact⟨_,Y,fun v e=>by cases e⟩
  ·exact⟨_,s3,fun v e=>by cases e⟩
  ·exact⟨_,s4,fun v e=>by rw[d4]at e; cases e⟩
  ·exact⟨_,Z,fun v e=>by rw[d5]at e; cases e⟩
 keep:=fun i h h' st kk=>by
  obtain⟨s1,Y,⟨a,b,s3⟩,s4,Z⟩:=st
  exact⟨kk z (by simp) _ s1,kk TI (by simp) _ Y,⟨a,b,kk TO (by simp) _ s3⟩,s4.at fun o e=>kk i1 (by simp) o e,Z.at fun o e=>kk i2 (by simp) o e⟩
 item:=by
  intro X hP hw hK hc i pins s σ H E I hf st hg
  subst hP hw hK;obtain⟨xs,ys,x,y,q1,q2,hx,hy⟩:=hg
  obtain⟨ad,as,p1,_⟩:=I.list q1
  obtain⟨aa,ag,p2,_⟩:=I.tuple q2
  obtain⟨u1,bz,bA⟩:=as.get hx
  obtain⟨u2,be,bS⟩:=ag.get hy
  have n1:∀ c∈[z,TI,TO,i1,i2],_≠c:=fun c F=>Bi st p1.isList c F
  have S:∀ c∈[z,TI,TO,i1,i2],l2≠c:=fun c F=>C3.apart I (hf c F) q2
  have D':ZipApart z TI TO i1 i2 l1 l2:=⟨D.TIz,D.TOz,D.i1z,D.i2z,D.TITO,D.TIi1,D.TIi2,D.TOi1,D.TOi2,D.i12,n1 _ (by simp),n1 _ (by simp),n1 _ (by simp),n1 _ (by simp),S _ (by simp),S _ (by simp),S _ (by simp),S _ (by simp)⟩
  obtain⟨s1,Y,⟨a,b,s3⟩,s4,Z⟩:=st
  have e1:s.heap.IsList l1 ad.toArray:=p1.isList
  have e2:s.heap.IsTuple l2 aa.toArray:=p2
  refine vV D' s1 Y s3 ⟨s4,e1⟩ ⟨Z,e2⟩ (x:=u1) (y:=u2) (by simpa using bz) (by simpa using be) fun h' a1 a2 a3 a4 a5 a6 kk=>?_
  refine⟨_,rfl,wpAny_letOwnedTupleGo_zip a1 fun a0 bp O=>?_⟩
  have lt:∀ {c o},s.heap.get? c=some o→s.heap.objs.size≠c:=fun e=>su (zA e)
  have b1:s.heap.objs.size≠z:=lt s1
  have an:∀ b o,b∉[z,TI,TO,i1,i2]→s.heap.get? b=some o→a0.get? b=some o:=fun b o J e=>by
   simp only[vB,Gu,or_false,not_or]at J
   exact O.extBut _ _ J.1 (kk b o J.1 J.2.2.1 J.2.2.2.1 J.2.2.2.2 e)
  have hsz:H s.heap.objs.size=none:=I.hok.fresh (zg _)
  have a7:IsPair a0 s.heap.objs.size u1 u2:=O.extBut _ _ b1 a5
  have bB:∀ c∈[z,TI,TO,i1,i2],c≠s.heap.objs.size:=fun c F=>by
   obtain⟨o4,e4,_⟩:=id s4
   obtain⟨o5,e5,_⟩:=id Z
   simp only[vB,Gu,or_false]at F
   rcases F with rfl | rfl | rfl | rfl | rfl
   ·exact(lt s1).symm
   ·exact(lt Y).symm
   ·exact(lt s3).symm
   ·exact(lt e4).symm
   ·exact(lt e5).symm
  refine⟨.ref s.heap.objs.size,upd H s.heap.objs.size (.tup [x,y]),I.turnedLaid (t':=s.toks) an hf (zg _) ⟨bG (by show 2≤1000000; decide),[u1,u2],.cons bA (.cons bS .nil),⟨_,a7,rfl,rfl,0,rfl⟩⟩,rfl,⟨_,x,y,hsz,rfl,rfl,fun b2 q'=>?_,fun b3 q'=>?_⟩,
   ⟨bp,O.extBut _ _ D.TIz (kk _ _ D.TIz D.TITO D.TIi1 D.TIi2 Y),⟨_,_,O.extBut _ _ D.TOz a2⟩,a3.1.extBut O.extBut D.i1z,a4.1.extBut O.extBut D.i2z⟩,fun c F=>?_⟩
  ·rw[I.list_inj q' q1]; exact hx
  ·rw[I.tuple_inj q' q2]; exact hy
  ·rw[al (bB c F)]; exact(hf c F).1
 done:=by
  intro X hP hw hK hc i pins s σ H E I hf st hg
  subst hP hw hK;obtain⟨xs,ys,q1,q2,a9⟩:=hg
  obtain⟨ad,as,p1,_⟩:=I.list q1
  obtain⟨aa,ag,p2,_⟩:=I.tuple q2
  have l1:=as.length;have l2:=ag.length;have n1:∀ c∈[z,TI,TO,i1,i2],_≠c:=fun c F=>Bi st p1.isList c F
  have S:∀ c∈[z,TI,TO,i1,i2],_≠c:=fun c F=>C3.apart I (hf c F) q2
  have D':ZipApart z TI TO i1 i2 _ _:=⟨D.TIz,D.TOz,D.i1z,D.i2z,D.TITO,D.TIi1,D.TIi2,D.TOi1,D.TOi2,D.i12,n1 _ (by simp),n1 _ (by simp),n1 _ (by simp),n1 _ (by simp),S _ (by simp),S _ (by simp),S _ (by simp),S _ (by simp)⟩
  obtain⟨s1,Y,⟨a,b,s3⟩,s4,Z⟩:=st
  have e1:s.heap.IsList _ ad.toArray:=p1.isList
  have e2:s.heap.IsTuple _ aa.toArray:=p2
  refine x5 (I.ok.hd hc) D' s1 Y s3 ⟨s4,e1⟩ ⟨Z,e2⟩ ?_ fun h' kk=>⟨rfl,I.turnedL (t':=s.toks) (fun b o J e=>?_) hf⟩
  ·rcases a9 with z | z
   ·exact .inl (by simp; omega)
   ·exact .inr (by simp; omega)
  ·simp only[vB,Gu,or_false,not_or]at J
   exact kk b o J.1 J.2.2.1 J.2.2.2.1 J.2.2.2.2 e
 self:=fun A i s Q E st h=>wpAny_pyIter_zip st.1 h
def A0(K:W.Frag)(ta:TA):TI:=fun σ H R=>ta σ H fun vs H1=>∃ a b:Addr,vs=[.ref a,.ref b]∧(∃ xs,rd K H1 a xs)∧(∃ ys,C3 K H1 b ys)∧R (A8 K a b) H1
theorem zi(K:W.Frag)(ta:TA){σ : St}{H:Hp}{R:It→Hp→Prop}:A0 K ta σ H R=ta σ H fun F H1=>∃ a b:Addr,F=[.ref a,.ref b]∧(∃ xs,rd K H1 a xs)∧(∃ ys,C3 K H1 b ys)∧R (A8 K a b) H1:=rfl
theorem BN(K:W.Frag){X:Cx}{F:List Expr}{k:Nat}{O:Pos}{a b:Expr}{ta:TA}{p pos:Pos}(hg:Gl X "zip") (hm:X.mg "zip" = none) (ha:PA X [a,b] ta) (hs:starEach [a,b] X.env=[(false,eval a X.env),(false,eval b X.env)]:=by rfl) (hs2:starEach [b] X.env=[(false,eval b X.env)]:=by rfl) (hK:X.K=K:=by rfl) :
  PI X (.Tuple F k O) (.Call (.Name "zip" p) [a,b] [] pos) (A0 K ta):=by
 subst hK;intro pins s σ H R I h
 refine Call_ (iI I hg hm sU (zaW (bc (ha pos pins s σ H _ I h) fun us s1 ⟨vs,H1,J,Z,q1⟩=>?_) (by rw[hs,hs2]) (by rw[hs2]; rfl)))
 obtain⟨l1,l2,e,⟨xs,h1⟩,⟨ys,h2⟩,q⟩:=q1
 subst e;obtain⟨u1,u2,rfl,Z,r2⟩:=l7 Z
 cases Z
 cases r2;obtain⟨aa,_,p1,_⟩:=J.list h1
 obtain⟨Y,_,p2,_⟩:=J.tuple h2
 refine wn (show s1.heap.IsList l1 aa.toArray from p1.isList) (show s1.heap.IsTuple l2 Y.toArray from p2) fun h' a1 a2 a3 a4 a5 kk=>?_
 refine wpAny_pyIter_zip a1 ⟨_,[s1.heap.objs.size+4,s1.heap.objs.size+2,s1.heap.objs.size+3,s1.heap.objs.size,s1.heap.objs.size+1],_,_,H1,rfl,J.kept (t':=s1.toks) kk,
  wz (z:=s1.heap.objs.size+4) (TI:=s1.heap.objs.size+2) (TO:=s1.heap.objs.size+3) (i1:=s1.heap.objs.size) (i2:=s1.heap.objs.size+1) (FK _),⟨a1,a2,⟨_,_,a3⟩,a4.1,a5.1⟩,fun b hb=>?_,q⟩
 have S:s1.heap.objs.size≤b:=by
  simp only[vB,Gu,or_false]at hb
  rcases hb with rfl | rfl | rfl | rfl | rfl <;> first | exact zg _ | exact Gh _ _
 exact J.fpOk S (J.hok.fresh S)
section
variable{K:W.Frag}{a b:Addr}{xs ys:List V}{g:TG}{te:TE}{nT:Nat}{σ : St}{D:Addr}{Q:VK}{H:Hp}
theorem v_(F:Nat→List V→Hp→Prop)(S:xs.length=ys.length)(Z:F 0 [] H)(hl:∀ i zs H,i≤xs.length→F i zs H→rd K H a xs∧C3 K H b ys)
  (J:∀ i zs H x y t,xs[i]? = some x→ys[i]? = some y→i<xs.length→F i zs H→H t=none→g (.ref t) (σ++List.replicate nT none) (upd H t (.tup [x,y])) (ky xs.length i F D zs te))
  (hd:∀ zs H,F xs.length zs H→Q (.ref D) H):gs (A8 K a b) g nh te nT σ D Q H:=by
 refine kM xs.length F Z (fun i zs H hi p=>⟨xs,ys,xs[i],ys[i],(hl i zs H (uV hi) p).1,(hl i zs H (uV hi) p).2,by simp[hi],by simp[S ▸ hi]⟩) (fun zs H p=>⟨xs,ys,(hl _ zs H (zg _) p).1,(hl _ zs H (zg _) p).2,.inl (zg _)⟩) (fun i zs H v H' hi p yl=>?_) hd
 obtain⟨t,x,y,Y,rfl,rfl,W,O⟩:=yl
 exact J i zs H x y t (W xs (hl i zs H (uV hi) p).1) (O ys (hl i zs H (uV hi) p).2) hi p Y
end
end L2
namespace L2
open PySem PySem.Spec PyProof PyProof.Rows PySem.SeqAt
theorem oT{α : Type}[BEq α][LawfulBEq α]{y:α}:∀ {l:List α} {j:Nat},j<l.idxOf y→∀ (h:j<l.length),l[j]≠y
 | n::r,0,h,_=>by
  intro e
  have F:n=y:=e
  subst F;simp at h
 | n::r,j+1,h,h2=>by
  rw[za4]at h
  cases hb:n == y with
  | true=>rw[hb]at h; exact absurd h (G0 _)
  | false=>
   rw[hb]at h
   have h':j+1<r.idxOf y+1:=h
   have q:=oT (y:=y) (l:=r) (j:=j) (by omega) (by simpa using h2)
   simpa using q
section
variable{X:Cx}
def B6(K:W.Frag):V→List V→Hp→VK→Prop:=fun x vs H Q=>∃ (p:Addr) (ss:List (Option Int)) (y:Option Int),x = .ref p∧vs=[bU y]∧rd K H p (ss.map bU)∧y∈ss∧Q (.int (ss.idxOf y:Nat)) H
theorem yd(K:W.Frag)(hK:X.K=K:=by rfl):GI X "list.index" (B6 K):=by
 subst hK;intro pins s σ H x xs v us Q I rx r h
 obtain⟨p,ss,y,rfl,rfl,hq,hy,q⟩:=h
 cases rx;obtain⟨u,rfl,ru⟩:=dU r
 obtain⟨J,rv,pl,hz⟩:=I.list hq
 have Y:J.length=ss.length:=by rw[← rv.length,zc]
 rw[zc]at hz
 have hs:sizeLine=16777216:=sizeLine_eq
 obtain⟨⟨cls,dd,data,sl⟩,ho,hc,n,hd⟩:=pl.isList
 simp only at hc hd
 subst hc hd;have hj:ss.idxOf y<ss.length:=HM.mpr hy
 have O:∀ (i:Nat) (h:i<J.length),RelV (bU (ss[i]'(by omega))) J[i]:=fun i h=>by
  obtain⟨x,hx,rx⟩:=rv.of (i:=i) (u:=J[i]) (za h)
  rw[ze,za (by omega)]at hx
  have ad:bU (ss[i]'(by omega))=x:=Option.some.inj hx
  subst ad;exact rx
 have S:∀ (i:Nat) (h:i<J.length),ef (bU y) J[i]=decide (ss[i]'(by omega)=y):=fun i h=>by
  rw[j9 (O i h) (cY _),l8]
 refine call_meets zbj ⟨_,ho,rfl⟩ F.entry_list_index (F.args_list_index_2 _ _)
  (list_indexAt p J.toArray n dd sl u (ef (bU y)) (ss.idxOf y) (by simpa [Y] using hj) (by omega) ?_ ?_) ⟨ho,fun z hz=>?_,⟨.int _,H,I.tok _,⟨_,rfl⟩,q⟩⟩
 ·show ef (bU y) J[ss.idxOf y]=true
  rw[S _ (by omega),gV hj]; simp
 ·intro j ag an
  have Z:j<J.length:=by simpa using ag
  show ef (bU y) J[j]=false
  rw[S j Z];exact decide_eq_false (oT an _)
 ·have aa:z∈J:=by simpa using hz
  obtain⟨i,hi,rfl⟩:=HN.mp aa
  rw[j9 (O i hi) (cY _)];exact iH (A:=X.A.in1) (s:=s) (O i hi) ru (cY _) (cY _)
end
theorem oB{M:Model}{A:Around}{E:Value→Shared→Prop}{s s':Shared}{β : Type}(f:Nat→β→Sem (ForInStep β))(b O:β)(j:Nat)(J:∀ m,m<j→∀ R:ForInStep β→Shared→Prop,R (.yield b) s→wpAny M A (f m b) R E s)(F:∀ R:ForInStep β→Shared→Prop,R (.done O) s'→wpAny M A (f j b) R E s){Q:β→Shared→Prop}(q:Q O s') :
  ∀ (n i:Nat),i≤j→j<i+n→wpAny M A (forIn (List.range' i n) b f) Q E s
 | 0,i,h1,h2=>by omega
 | n+1,i,h1,h2=>by
  rw[List.range'_succ,HA];refine HG ?_
  rcases x6 i j with h | h
  ·exact J i h _ (oB f b O j J F q n (i+1) h (by omega))
  ·have e:i=j:=by omega
   subst e;exact F _ (HI q)
theorem qJ(t:Addr)(F:Array Value)(x:Value)(e:Value→Bool)(j:Nat)(Y:j<F.size)
  (O:e F[j]=true) (W:∀ m (Z:m<F.size),m<j→e F[m]=false) :
  Meets (Builtin.«tuple.index» ⟨[.ref t,x],[]⟩)
   (fun A R s=>IsTup s.heap t F∧(∀ y,y∈F→EqAt A.in1 s y x (e y))∧R (.ok (.ret (.int j s.toks))) { s with toks:=s.toks+1 }):=by
 intro prog w A R s h
 obtain⟨ht,he,h⟩:=h
 show wpAny _ _ (Builtin.Tuple.tupleItemsOf (.ref t) >>= fun _=>_) _ _ s
 refine HG (tupleItemsOf_ ht ?_)
 simp only[pure_bind]
 rw[Nat.min_self,Std.Legacy.Range.forIn_eq_forIn_range'];refine HG (oB _ (none,()) (some (.done (.ret (.int j s.toks))),()) j (s':={ s with toks:=s.toks+1 }) (fun m Z R' S=>?_) (fun R' S=>?_) ?_ _ 0 (yT _) ?_)
 ·have J:m<F.size:=by omega
  rw[GD J];refine HG (he _ (Array.getElem_mem J) prog w _ _ ?_)
  rw[W m J Z];exact HI S
 ·rw[GD Y]
  refine HG (he _ (Array.getElem_mem Y) prog w _ _ ?_)
  rw[O];refine HG ?_
  show wpAny _ _ (mkInt (j:Int) >>= fun v=>ret v) _ _ _
  exact HG (wpAny_mkInt (HI (HI S)))
 ·exact HI h
 ·simp[Std.Legacy.Range.size]; exact Y
section
variable{X:Cx}
def An(K:W.Frag):V→List V→Hp→VK→Prop:=fun x vs H Q=>∃ (p:Addr) (ss:List (Option Int)) (y:Option Int),x = .ref p∧vs=[bU y]∧C3 K H p (ss.map bU)∧y∈ss∧Q (.int (ss.idxOf y:Nat)) H
theorem vi(K:W.Frag)(hK:X.K=K:=by rfl):GI X "tuple.index" (An K):=by
 subst hK;intro pins s σ H x xs v us Q I rx r h
 obtain⟨p,ss,y,rfl,rfl,hq,hy,q⟩:=h
 cases rx;obtain⟨u,rfl,ru⟩:=dU r
 obtain⟨J,rv,pl,hz⟩:=I.tuple hq
 have S:J.length=ss.length:=by rw[← rv.length,zc]
 have hj:ss.idxOf y<ss.length:=HM.mpr hy
 have O:∀ (i:Nat) (h:i<J.length),RelV (bU (ss[i]'(by omega))) J[i]:=fun i h=>by
  obtain⟨x,hx,rx⟩:=rv.of (i:=i) (u:=J[i]) (za h)
  rw[ze,za (by omega)]at hx
  have Z:bU (ss[i]'(by omega))=x:=Option.some.inj hx
  subst Z;exact rx
 have Y:∀ (i:Nat) (h:i<J.length),ef (bU y) J[i]=decide (ss[i]'(by omega)=y):=fun i h=>by
  rw[j9 (O i h) (cY _),l8]
 have pt:IsTup s.heap p J.toArray:=pl
 refine call_meets F.slot_tuple_index pt.typeIs F.entry_tuple_index (F.args_tuple_index_2 _ _)
  (qJ p J.toArray u (ef (bU y)) (ss.idxOf y) (by simpa [S] using hj) ?_ ?_) ⟨pt,fun z hz=>?_,⟨.int _,H,I.tok _,⟨_,rfl⟩,q⟩⟩
 ·show ef (bU y) J[ss.idxOf y]=true
  rw[Y _ (by omega),gV hj]; simp
 ·intro j ag an
  have ad:j<J.length:=by simpa using ag
  show ef (bU y) J[j]=false
  rw[Y j ad];exact decide_eq_false (oT an _)
 ·have aa:z∈J:=by simpa using hz
  obtain⟨i,hi,rfl⟩:=HN.mp aa
  rw[j9 (O i hi) (cY _)];exact iH (A:=X.A.in1) (s:=s) (O i hi) ru (cY _) (cY _)
end
section
variable{X:Cx}
def Gk:R2:=fun x y H Q=>∃ a kvs k,y = .ref a∧x=kV k∧H a=some (.dK kvs)∧Q (.bl (aN kvs k).isSome) H
theorem D7{n:Nat}(hr:Di n X.A):D0 X (compareOp .In) Gk:=by
 intro pins s σ H x y v u Q I J F h
 obtain⟨a,kvs,k,rfl,rfl,e,q⟩:=h
 cases F;exact IZ (by have:=hr.un; omega) I (Gr.k e) J fun s' O=>⟨.bl _,H,O,rfl,q⟩
end
end L2
namespace L2
open PySem PySem.Spec PyProof PyProof.Rows
section
variable{X:Cx}
def E6(r:V→List V→Hp→VK→Prop)(to:TE)(t:TA):TE:=fun σ H Q=>to σ H fun x H1=>∃ p xs,x = .ref p∧H1 p=some (.tup xs)∧t σ H1 fun ys H2=>r x ys H2 Q
theorem Cr{σ : St}{H:Hp}{Q:VK}(r:V→List V→Hp→VK→Prop)(to:TE)(t:TA):E6 r to t σ H Q=to σ H fun x H1=>∃ p xs,x = .ref p∧H1 p=some (.tup xs)∧t σ H1 fun ys H2=>r x ys H2 Q:=rfl
theorem C8{o e:Expr}{es:List Expr}{to:TE}{t:TA}{name:Str}{apos cpos:Pos}{id:String}{r:V→List V→Hp→VK→Prop}(pa:PlainAttrs "tuple") (slot:Slot "tuple" name id) (O:typeOf (.builtin id)=pure (.type "method_descriptor")) (hm:GI X id r) (ho:PE X o to) (ha:PA X (e::es) t)
  (J:attributeBase o name X.env (eval o X.env)=eval o X.env:=by rfl)
  (hfew:((backTo cpos (starEach (e::es) X.env)).all (fun x=>!x.1)&&(backToKw cpos (keywordEach [] X.env)).all (fun x=>x.1.isSome)&&decide ((e::es).length+([]:List Keyword).length+(if ([]:List Keyword).isEmpty then 0 else 1)<30))=true:=by rfl)
  (hline:(apos.endLine == cpos.line)=true:=by rfl) (hs:starEach (e::es) X.env=(false,eval e X.env)::starEach es X.env:=by rfl) (hplain:(backTo cpos (starEach es X.env)).any (·.1)=false:=by rfl) :
  PE X (.Call (.Attribute o name apos) (e::es) [] cpos) (E6 r to t):=by
 intro pins s σ H Q I h
 refine wpAny_Call_method_late J hfew hline rfl (bc (ho pins s σ H _ I h) fun v s1 ⟨x,H1,Y,r1,p,xs,ex,hp,q1⟩=>?_)
 subst ex
 cases r1;obtain⟨_,F,_,ob,W,e2,e3,_⟩ : xs.length≤sizeLine∧∃ F:List Value,wh xs F∧Ez s1.heap p F.toArray:=Y.hok p _ hp
 refine⟨"tuple", id,pa,slot,O,⟨ob,W,e2⟩,fun a ea=>?_,?_⟩
 ·cases ea; exact⟨ob,W,e3⟩
 have S:=ha cpos pins s1 σ H1 _ Y q1;rw[hs]at S ⊢
 refine zbR (by show (false||(backTo cpos (starEach es X.env)).any (·.1))=false; rw[hplain] <;> rfl) (zbC ?_)
 exact bc S fun us s2 ⟨vs,H2,I2,r2,Z⟩=>hm pins s2 σ H2 (.ref p) vs (.ref p) us Q I2 rfl r2 Z
end
end L2
namespace L2
open PySem PySem.Spec PyProof.Rows
abbrev D1:=Str × List (Option Int)
abbrev jD (h:Heap) (z TI TO T:Addr) (f:Bool):Prop:=
 h.get? z=some { cls:=.type "zip", dict:=none,data:=.fields #[rawInt T,.bool f,.bool false,.ref TI,.ref TO],slots:=#[] }
section
variable{prog:Program}{w:World}{A:Around}{E:Value→Shared→Prop}{s:Shared}
theorem mi{a:Addr}{Q:Option Obj→Shared→Prop}(h:Q (s.heap.get? a) s):wpAny (model prog w) A (loadIfAlive a) Q E s:=fun _ _ _=>h
theorem qc{z TI TO T:Addr}{f:Bool}{Q:Bool→Shared→Prop}(hz:jD s.heap z TI TO T f)(W:∃ o,s.heap.get? T=some o)(O:∀ h',jD h' z TI TO T true→Heap.SameBut z s.heap h'→Q false { s with heap:=h' }) :
  wpAny (model prog w) A (Builtin.SmallTypes.ownedTupleIsFree (.ref z)) Q E s:=by
 obtain⟨o,S⟩:=W
 unfold Builtin.SmallTypes.ownedTupleIsFree;refine HG (wpAny_field hz rfl (x:=rawInt T) rfl ?_)
 show wpAny _ _ (loadIfAlive T >>= _) _ _ _
 refine HG (mi ?_)
 rw[S];show wpAny _ _ (field (.ref z) 1 >>= _) _ _ _
 refine HG (wpAny_field hz rfl (x:=.bool f) rfl ?_)
 cases f with
 | false=>
  show wpAny _ _ (setField (.ref z) 1 (.bool true) >>= _) _ _ _
  refine HG (wpAny_setField_rec hz (by simp) fun h1 F J=>HI (O h1 F J))
 | true=>
  refine HI (O s.heap hz ⟨rfl,fun _ _=>rfl⟩)
theorem wR{z TI TO T i1 i2 W Y:Addr}{f:Bool}{k1 k2:Nat}{xs ys:Array Value}{x y:Value}{Q:Value→Shared→Prop}(D:ZipApart z TI TO i1 i2 W Y)
  (hz:jD s.heap z TI TO T f) (hT:∃ o,s.heap.get? T=some o) (a0:IsPair s.heap TI (.ref i1) (.ref i2))
  (h1:s.heap.IsListIter i1 W k1) (h2:s.heap.IsListIter i2 Y k2) (as:s.heap.IsList W xs) (an:s.heap.IsList Y ys) (hx:xs[k1]? = some x) (hy:ys[k2]? = some y)
  (hQ:∀ h',jD h' z TI TO T true→h'.IsListIter i1 W (k1+1)→h'.IsListIter i2 Y (k2+1)→IsPair h' s.heap.objs.size x y→h'.objs.size=s.heap.objs.size+1→
   (∀ c o,c≠z→c≠i1→c≠i2→s.heap.get? c=some o→h'.get? c=some o)→Q (.ref s.heap.objs.size) { s with heap:=h' }) :
  wpAny (model prog w) A (Builtin.«zip.__next__» ⟨[.ref z],[]⟩) (fun Z s'=>∃ v,Z = .done (.ret v)∧Q v s') E s:=by
 show wpAny _ _ (field (.ref z) 2 >>= _) _ _ _
 refine HG (wpAny_field hz rfl (x:=.bool false) rfl ?_)
 show wpAny _ _ (field (.ref z) 3 >>= _) _ _ _
 refine HG (wpAny_field hz rfl (x:=.ref TI) rfl ?_)
 refine HG (wpAny_seqItems a0 rfl ?_)
 show wpAny _ _ (Builtin.SmallTypes.ownedTupleIsFree (.ref z) >>= _) _ _ _
 refine HG (qc hz hT fun ha a2 F=>?_)
 simp only[sT,if_false]
 refine HG ?_
 rw[← zbG];simp only[HA,za9]
 refine HG (HG (wpAny_holding ?_))
 show wpAny _ _ (Builtin.SmallTypes.nextOf (.ref i1) >>= _) _ _ _
 refine HG (wpAny_nextOf_list_item (h1.extBut F.extBut D.i1z) (as.extBut F.extBut D.l1z) hx fun hb aa J=>HI ?_)
 refine HI ?_
 refine HG (HG (wpAny_holding ?_))
 show wpAny _ _ (Builtin.SmallTypes.nextOf (.ref i2) >>= _) _ _ _
 refine HG (wpAny_nextOf_list_item ((h2.extBut F.extBut D.i2z).extBut J.extBut D.i12.symm) ((an.extBut F.extBut D.l2z).extBut J.extBut D.l2i1) hy fun S a1 O=>HI ?_)
 refine HI (HI ?_)
 refine HG (wpAny_newTuple ?_ (by show 2≤sizeLine; rw[sizeLine_eq]; decide))
 have hsz:S.objs.size=s.heap.objs.size:=by rw[O.1,J.1,F.1]
 have ad:jD S z TI TO T true:=O.extBut _ _ D.i2z.symm (J.extBut _ _ D.i1z.symm a2)
 have kc:∀ c o,c≠z→c≠i1→c≠i2→s.heap.get? c=some o→S.get? c=some o:=fun c o c1 c3 c4 e=>O.extBut _ _ c4 (J.extBut _ _ c3 (F.extBut _ _ c1 e))
 have ag:S.IsListIter i1 W (k1+1):=aa.extBut O.extBut D.i12
 refine HI ⟨_,rfl,?_⟩
 show Q (.ref S.objs.size) _
 rw[hsz];refine hQ (S.push { cls:=.type "tuple", data:=.seq #[x,y] }) (zD _ ad) (ag.at fun o e=>zD _ e) (a1.at fun o e=>zD _ e) ?_ (by rw[u3,hsz]) fun c o c1 c3 c4 e=>zD _ (kc c o c1 c3 c4 e)
 show (S.push _).get? s.heap.objs.size=_
 rw[← hsz];exact wd _ rfl
theorem yX{z TI TO T i1 i2 l1 l2:Addr}{f:Bool}{k1 k2:Nat}{xs ys:Array Value}{Q:Fin→Shared→Prop}(hh:A.handled=none)(D:ZipApart z TI TO i1 i2 l1 l2)
  (hz:jD s.heap z TI TO T f) (hT:∃ o,s.heap.get? T=some o) (ad:IsPair s.heap TI (.ref i1) (.ref i2))
  (h1:s.heap.IsListIter i1 l1 k1) (h2:s.heap.IsListIter i2 l2 k2) (S:s.heap.IsList l1 xs) (aa:s.heap.IsList l2 ys) (O:xs[k1]? = none∨ys[k2]? = none)
  (hE:∀ h' e,(∀ c o,c≠z→c≠i1→c≠i2→s.heap.get? c=some o→h'.get? c=some o)→(∃ o,h'.get? e=some o∧o.cls = .type "StopIteration")→E (.ref e) { s with heap:=h' }) :
  wpAny (model prog w) A (Builtin.«zip.__next__» ⟨[.ref z],[]⟩) Q E s:=by
 show wpAny _ _ (field (.ref z) 2 >>= _) _ _ _
 refine HG (wpAny_field hz rfl (x:=.bool false) rfl ?_)
 show wpAny _ _ (field (.ref z) 3 >>= _) _ _ _
 refine HG (wpAny_field hz rfl (x:=.ref TI) rfl ?_)
 refine HG (wpAny_seqItems ad rfl ?_)
 show wpAny _ _ (Builtin.SmallTypes.ownedTupleIsFree (.ref z) >>= _) _ _ _
 refine HG (qc hz hT fun ha an F=>?_)
 simp only[sT,if_false]
 refine HG ?_
 rw[← zbG];simp only[HA,za9]
 refine HG (HG (wpAny_holding ?_))
 show wpAny _ _ (Builtin.SmallTypes.nextOf (.ref i1) >>= _) _ _ _
 cases hx:xs[k1]? with
 | none=>
  refine HG (wpAny_nextOf_list_end hh (h1.extBut F.extBut D.i1z) (S.extBut F.extBut D.l1z) hx fun hb e J he=>?_)
  exact hE hb e (fun c o Y Z _ x=>J _ _ Z (F.extBut _ _ Y x)) he
 | some x=>
  have hy:ys[k2]? = none:=by rcases O with h | h; rw[hx]at h; cases h; exact h
  refine HG (wpAny_nextOf_list_item (h1.extBut F.extBut D.i1z) (S.extBut F.extBut D.l1z) hx fun hb ag J=>HI ?_)
  refine HI ?_
  refine HG (HG (wpAny_holding ?_))
  show wpAny _ _ (Builtin.SmallTypes.nextOf (.ref i2) >>= _) _ _ _
  refine HG (wpAny_nextOf_list_end hh ((h2.extBut F.extBut D.i2z).extBut J.extBut D.i12.symm) ((aa.extBut F.extBut D.l2z).extBut J.extBut D.l2i1) hy fun hc e W he=>?_)
  exact hE hc e (fun c o Y Z c4 x=>W _ _ c4 (J.extBut _ _ Z (F.extBut _ _ Y x))) he
def GE(z TI TO i1 i2 l1 l2:Addr)(xs ys:Array Value)(i:Nat)(h:Heap):Prop:=
 (IsZip h z TI TO .none∨∃ T f,jD h z TI TO T f∧∃ o,h.get? T=some o)∧IsPair h TI (.ref i1) (.ref i2)∧(∃ a b,IsPair h TO a b)∧h.IsListIter i1 l1 i∧h.IsListIter i2 l2 i∧h.IsList l1 xs∧h.IsList l2 ys
theorem zC{z TI TO i1 i2 l1 l2:Addr}{i:Nat}{xs ys:Array Value}{x y:Value}{Q:Option Value→Shared→Prop}(D:ZipApart z TI TO i1 i2 l1 l2)(h:GE z TI TO i1 i2 l1 l2 xs ys i s.heap)(hx:xs[i]? = some x)(hy:ys[i]? = some y)
  (hQ:∀ h',GE z TI TO i1 i2 l1 l2 xs ys (i+1) h'→IsPair h' s.heap.objs.size x y→h'.objs.size=s.heap.objs.size+1→(∀ c o,c≠z→c≠TO→c≠i1→c≠i2→s.heap.get? c=some o→h'.get? c=some o)→Q (some (.ref s.heap.objs.size)) { s with heap:=h' }) :
  wpAny (model prog w) A (pyNext (.ref z)) Q E s:=by
 obtain⟨hz,W,⟨a,b,Y⟩,h1,h2,S,O⟩:=h
 rcases hz with hz | ⟨T,f,hz,hT⟩
 ·refine wpAny_pyNext_zip_item D hz W Y h1 h2 S O hx hy fun h' a1 a2 a3 a4 a5 a6 J=>?_
  exact hQ h' ⟨.inr ⟨s.heap.objs.size,false,a1,_,a5⟩,J _ _ D.TIz D.TITO D.TIi1 D.TIi2 W,⟨_,_,a2⟩,a3,a4,S.at fun o e=>J _ o D.l1z D.l1TO D.l1i1 D.l1i2 e,O.at fun o e=>J _ o D.l2z D.l2TO D.l2i1 D.l2i2 e⟩ a5 a6 J
 ·have Z:s.TypeIs (.ref z) "zip" := ⟨_,hz,rfl⟩
  unfold pyNext
  refine HG (wpAny_attempt (wpAny_callSpecial?_slot (name:=Str.ofString "__next__") Z F.slot_zip_next
   (wpAny_call_entry F.slot_zip_next Z Io
    (wR D hz hT W h1 h2 S O hx hy fun h' a1 a3 a4 a5 a6 J=>HI (hQ h' ⟨.inr ⟨T,true,a1,?_⟩,J _ _ D.TIz D.TIi1 D.TIi2 W,⟨_,_,J _ _ D.TOz D.TOi1 D.TOi2 Y⟩,a3,a4,S.at fun o e=>J _ o D.l1z D.l1i1 D.l1i2 e,O.at fun o e=>J _ o D.l2z D.l2i1 D.l2i2 e⟩ a5 a6 fun c o c1 _ c3 c4 e=>J c o c1 c3 c4 e)) (Il _))))
  obtain⟨o,ho⟩:=hT
  by_cases c1:T=z
  ·exact⟨_,by rw[c1]; exact a1⟩
  by_cases c2:T=i1
  ·obtain⟨o',e',_⟩:=a3; exact⟨o',by rw[c2]; exact e'⟩
  by_cases c3:T=i2
  ·obtain⟨o',e',_⟩:=a4; exact⟨o',by rw[c3]; exact e'⟩
  exact⟨o,J _ _ c1 c2 c3 ho⟩
theorem B8{z TI TO i1 i2 l1 l2:Addr}{i:Nat}{xs ys:Array Value}{Q:Option Value→Shared→Prop}(hh:A.handled=none)(D:ZipApart z TI TO i1 i2 l1 l2)(h:GE z TI TO i1 i2 l1 l2 xs ys i s.heap)(J:xs[i]? = none∨ys[i]? = none)
  (hQ:∀ h',(∀ c o,c≠z→c≠TO→c≠i1→c≠i2→s.heap.get? c=some o→h'.get? c=some o)→Q none { s with heap:=h' }):wpAny (model prog w) A (pyNext (.ref z)) Q E s:=by
 obtain⟨hz,S,⟨a,b,Z⟩,h1,h2,O,Y⟩:=h
 rcases hz with hz | ⟨T,f,hz,hT⟩
 ·exact wpAny_pyNext_zip_end hh D hz S Z h1 h2 O Y J hQ
 ·have W:s.TypeIs (.ref z) "zip" := ⟨_,hz,rfl⟩
  unfold pyNext
  refine HG (wpAny_attempt (wpAny_callSpecial?_slot (name:=Str.ofString "__next__") W F.slot_zip_next
   (wpAny_call_entry F.slot_zip_next W Io (yX hh D hz hT S h1 h2 O Y J fun h' e hk he=>?_) (Il _))))
  obtain⟨o,ho,hc⟩:=he
  refine HG (wpAny_isInstance (T := "StopIteration") (b:=true) ⟨o,ho,hc⟩ isSubtype_stop ?_)
  exact HI (hQ _ fun c o c1 _ c3 c4 e=>hk c o c1 c3 c4 e)
theorem GE.at{z TI TO i1 i2 F W:Addr}{xs ys:Array Value}{i:Nat}{h h':Heap}(x:GE z TI TO i1 i2 F W xs ys i h)(k:∀ b o,h.get? b=some o→((b=z∨b=TI∨b=TO∨b=i1∨b=i2∨b=F∨b=W)→h'.get? b=some o)∧∃ o',h'.get? b=some o'):GE z TI TO i1 i2 F W xs ys i h':=by
 obtain⟨hz,S,⟨a,b,J⟩,h1,h2,O,Y⟩:=x
 refine⟨?_,(k _ _ S).1 (by simp),⟨a,b,(k _ _ J).1 (by simp)⟩,h1.at fun o e=>(k _ _ e).1 (by simp),h2.at fun o e=>(k _ _ e).1 (by simp),O.at fun o e=>(k _ _ e).1 (by simp),Y.at fun o e=>(k _ _ e).1 (by simp)⟩
 rcases hz with hz | ⟨T,f,hz,o,Z⟩
 ·exact .inl ((k _ _ hz).1 (by simp))
 ·exact .inr ⟨T,f,(k _ _ hz).1 (by simp),(k _ _ Z).2⟩
def xJ(xs ys:Array Value)(B:Nat)(acc:Array Value)(i:Nat)(h:Heap):Prop:=acc.size=i∧∀ j v,acc[j]? = some v→∃ x y,v = .ref (B+j)∧xs[j]? = some x∧ys[j]? = some y∧IsPair h (B+j) x y
theorem vk{R:Result→Shared→Prop}{z TI TO i1 i2 l1 l2:Addr}{xs ys:Array Value}{n:Nat}(hh:A.handled=none)(D:ZipApart z TI TO i1 i2 l1 l2)(hn:n≤1000)(b2:∀ i,i<n→∃ x y,xs[i]? = some x∧ys[i]? = some y)(a3:xs[n]? = none∨ys[n]? = none)
  (S:Addr) (B:Nat) (Z:S<B) (hS:∀ b,(b=z∨b=TI∨b=TO∨b=i1∨b=i2∨b=l1∨b=l2)→b<S) (res:Value) :
  ∀ (k i:Nat) (s:Shared) (acc:Array Value) (c:Nat),n - i=k→i≤n→GE z TI TO i1 i2 l1 l2 xs ys i s.heap→s.heap.get? S=some { cls:=.type "list", dict:=none,data:=.seq acc c,slots:=#[] }→xJ xs ys B acc i s.heap→s.heap.objs.size=B+i→
  (∀ h' W c',(∀ b o,b≠S→b≠z→b≠TO→b≠i1→b≠i2→s.heap.get? b=some o→h'.get? b=some o)→h'.get? S=some { cls:=.type "list", dict:=none,data:=.seq W c',slots:=#[] }→xJ xs ys B W n h'→R (.ok (.ret res)) { s with heap:=h' })→
  codeAny (model prog w) A (.builtin "list.extend.loop" ⟨[.ref S,.ref z,res],[]⟩) R s:=by
 have sz:S≠z:=su (hS z (by simp))
 have a8:S≠TO:=su (hS TO (by simp))
 have a1:S≠i1:=su (hS i1 (by simp))
 have a9:S≠i2:=su (hS i2 (by simp))
 have bz:∀ j,B+j≠z:=fun j=>su (va (GH (hS z (by simp)) Z) (Gh _ _))
 have as:∀ j,B+j≠TO:=fun j=>su (va (GH (hS TO (by simp)) Z) (Gh _ _))
 have a5:∀ j,B+j≠i1:=fun j=>su (va (GH (hS i1 (by simp)) Z) (Gh _ _))
 have be:∀ j,B+j≠i2:=fun j=>su (va (GH (hS i2 (by simp)) Z) (Gh _ _))
 have bS:∀ j,B+j≠S:=fun j=>su (va Z (Gh _ _))
 intro k
 induction k with
 | zero=>
  intro i s acc c hk hi an ag J hsz hR
  have bA:i=n:=by omega
  subst bA;refine codeAny_builtin F.entry_extend_loop ?_
  rw[Hx za8 _];show wpAny _ A.in1 (pyNext (.ref z) >>= _) _ _ s
  refine HG (B8 (A:=A.in1) hh D an a3 fun h' O=>?_)
  refine HI (hR h' acc c (fun b o _ c1 c2 c3 c4 e=>O b o c1 c2 c3 c4 e) (O _ _ sz a8 a1 a9 ag) ⟨J.1,fun j v e=>?_⟩)
  obtain⟨x,y,e1,e2,e3,e4⟩:=J.2 j v e
  exact⟨x,y,e1,e2,e3,O _ _ (bz j) (as j) (a5 j) (be j) e4⟩
 | succ k ih=>
  intro i s acc c hk hi an ag J hsz hR
  have a2:i<n:=by omega
  obtain⟨x,y,hx,hy⟩:=b2 i a2
  refine codeAny_builtin F.entry_extend_loop ?_
  rw[Hx za8 _];show wpAny _ A.in1 (pyNext (.ref z) >>= _) _ _ s
  refine HG (zC (A:=A.in1) D an hx hy fun h' a0 hp a6 O=>?_)
  have a7:=O _ _ sz a8 a1 a9 ag;have b3:sizeLine=16777216:=sizeLine_eq
  show wpAny _ A.in1 (updateSeq S (·.push (.ref s.heap.objs.size)) >>= _) _ _ _
  refine HG ?_
  refine wpAny_updateSeq a7 rfl (HI ⟨plainId_quiet za8 _,?_⟩) (by rw[J.1]; omega) (by show (acc.push _).size≤sizeLine+1; rw[Array.size_push,J.1]; omega)
  have Y:∀ b o,b≠S→h'.get? b=some o→(h'.update S (Obj.mapSeq (·.push (.ref s.heap.objs.size)))).get? b=some o:=fun b o hb e=>(Ha _ _ (zB hb)).trans e
  have aa:=Gb (Obj.mapSeq (·.push (.ref s.heap.objs.size))) a7 rfl;have a4:(h'.update S (Obj.mapSeq (·.push (.ref s.heap.objs.size)))).objs.size=h'.objs.size:=(rB ..).1
  refine ih (i+1) _ (acc.push (.ref s.heap.objs.size)) _ (by omega) a2 (a0.at fun b o e=>⟨fun hb=>Y b o (zM (hS b hb)) e,?_⟩) aa ⟨by rw[Array.size_push,J.1],fun j v e=>?_⟩ ?_ fun bp W c' bB b1 ad=>?_
  ·by_cases hb:b=S
   ·subst hb; exact⟨_,aa⟩
   ·exact⟨o,Y b o hb e⟩
  ·rw[Array.getElem?_push]at e
   split at e
   ·rename_i ej
    rw[J.1]at ej
    subst ej
    cases e;refine⟨x,y,by rw[hsz],hx,hy,?_⟩
    rw[← hsz];exact Y _ _ (by rw[hsz]; exact bS _) hp
   ·obtain⟨x',y',e1,e2,e3,e4⟩:=J.2 j v e
    exact⟨x',y',e1,e2,e3,Y _ _ (bS j) (O _ _ (bz j) (as j) (a5 j) (be j) e4)⟩
  ·show (h'.update S _).objs.size=_
   rw[a4,a6,hsz]; omega
  ·refine hR bp W c' (fun b o c0 c1 c2 c3 c4 e=>bB b o c0 c1 c2 c3 c4 (Y b o c0 (O b o c1 c2 c3 c4 e))) b1 ad
theorem vK:typeLookup (.type "zip") "__len__" = pure none:=by rw[typeLookup_type,builtinLookup_eq_fast]; kernel_rfl
theorem tu:typeLookup (.type "zip") "__length_hint__" = pure none:=by rw[typeLookup_type,builtinLookup_eq_fast]; kernel_rfl
theorem GE.typ{z TI TO i1 i2 J F:Addr}{xs ys:Array Value}{i:Nat}(h:GE z TI TO i1 i2 J F xs ys i s.heap):s.TypeIs (.ref z) "zip" := by
 rcases h.1 with hz | ⟨T,f,hz,_⟩
 ·exact⟨_,hz,rfl⟩
 ·exact⟨_,hz,rfl⟩
theorem s_{R:Result→Shared→Prop}{z TI TO i1 i2 l1 l2:Addr}{xs ys:Array Value}{n:Nat}(hh:A.handled=none)(D:ZipApart z TI TO i1 i2 l1 l2)(hn:n≤1000)(a2:∀ i,i<n→∃ x y,xs[i]? = some x∧ys[i]? = some y)(aa:xs[n]? = none∨ys[n]? = none)
  (S:Addr) (hS:∀ b,(b=z∨b=TI∨b=TO∨b=i1∨b=i2∨b=l1∨b=l2)→b<S) (res:Value) (c₀ : Nat) (hz:IsZip s.heap z TI TO .none) (ag:GE z TI TO i1 i2 l1 l2 xs ys 0 s.heap) (ad:s.heap.get? S=some { cls:=.type "list", data:=.seq #[] c₀ }) (hsz:s.heap.objs.size=S+1)
  (hR:∀ h' F Y,(∀ b o,b≠S→b≠z→b≠TO→b≠i1→b≠i2→s.heap.get? b=some o→h'.get? b=some o)→h'.get? S=some { cls:=.type "list", dict:=none,data:=.seq F Y,slots:=#[] }→xJ xs ys (S+1) F n h'→R (.ok (.ret res)) { s with heap:=h' }) :
  wpAny (model prog w) A.in1 (Builtin.List.listExtendWith (.ref S) (.ref z) res)
   (fun a0 s'=>match a0 with | .done f=>R (.ok f) s' | .again Y=>Y.quiet=true∧codeAny (model prog w) A Y R s') (fun e s'=>R (.error e) s') s:=by
 have sz:S≠z:=su (hS z (by simp))
 have W:=ag.typ;unfold Builtin.List.listExtendWith;refine HG (wpAny_typeOf W ?_)
 have h1:Builtin.List.listSameRef (.ref S) (.ref z)=false:=by simp[Builtin.List.listSameRef,sz]
 have h2:(Value.type "zip" == Value.type "list")=false:=by decide
 have h3:(Value.type "zip" == Value.type "tuple")=false:=by decide
 simp only[h1,h2,h3,Bool.or_false,sT,if_false]
 refine HG (wpAny_pyIter_zip hz ?_)
 refine HG (wpAny_holding ?_)
 unfold Builtin.List.listLengthHint;refine HG (wpAny_specialOf W vK ?_)
 show wpAny _ A.in1 (specialOf (Value.ref z) (Str.ofString "__length_hint__") >>= _) _ _ _
 refine HG (wpAny_specialOf W tu ?_)
 refine HI ?_
 show wpAny _ A.in1 (rule "list.extend.makes-room" >>= fun _=>Builtin.List.listTouch (.ref S) >>= fun _=>
  again (.builtin "list.extend.loop" ⟨[.ref S,.ref z,res],[]⟩)) _ _ _
 refine HG (wpAny_rule ?_)
 refine HG ?_
 show wpAny _ A.in1 (updateSeq S (·.push .none) >>= fun _=>updateSeq S (·.pop)) _ _ _
 refine HG (wpAny_updateSeq ad rfl ?_)
 have an:=Gb (Obj.mapSeq (·.push Value.none)) ad rfl;refine wpAny_updateSeq an rfl ?_
 have Z:=Gb (Obj.mapSeq (·.pop)) an rfl
 have J:∀ b o,b≠S→s.heap.get? b=some o→((s.heap.update S (Obj.mapSeq (·.push Value.none))).update S (Obj.mapSeq (·.pop))).get? b=some o:=
  fun b o O e=>(Ha _ _ (zB O)).trans ((Ha _ _ (zB O)).trans e)
 have a1:((s.heap.update S (Obj.mapSeq (·.push Value.none))).update S (Obj.mapSeq (·.pop))).objs.size=S+1:=by
  rw[(rB ..).1,(rB ..).1,hsz]
 refine HI ⟨plainId_quiet za8 _,vk (A:=A) hh D hn a2 aa S (S+1) (zbF _) hS res n 0 _ _ _ rfl (yT _) (ag.at fun b o e=>⟨fun O=>J b o (zM (hS b O)) e,?_⟩) Z ⟨rfl,fun j v e=>by simp at e⟩ a1 fun h' F Y hk a3 as=>?_⟩
 ·by_cases O:b=S
  ·subst O; exact⟨_,Z⟩
  ·exact⟨o,J b o O e⟩
 ·exact hR h' F Y (fun b o c0 c1 c2 c3 c4 e=>hk b o c0 c1 c2 c3 c4 (J b o c0 e)) a3 as
theorem qB{Q:Value→Shared→Prop}{z TI TO i1 i2 l1 l2:Addr}{xs ys:Array Value}{n:Nat}(hh:A.handled=none)(D:ZipApart z TI TO i1 i2 l1 l2)(hn:n≤1000)(a0:∀ i,i<n→∃ x y,xs[i]? = some x∧ys[i]? = some y)(S:xs[n]? = none∨ys[n]? = none)
  (hz:IsZip s.heap z TI TO .none) (W:GE z TI TO i1 i2 l1 l2 xs ys 0 s.heap)
  (hQ:∀ h' J c',(∀ b o,b≠z→b≠TO→b≠i1→b≠i2→s.heap.get? b=some o→h'.get? b=some o)→
   h'.get? s.heap.objs.size=some { cls:=.type "list", dict:=none,data:=.seq J c',slots:=#[] }→xJ xs ys (s.heap.objs.size+1) J n h'→Q (.ref s.heap.objs.size) { s with heap:=h' }) :
  wpAny (model prog w) A (call (.type "list") [.ref z]) Q E s:=by
 have lt:∀ b,(b=z∨b=TI∨b=TO∨b=i1∨b=i2∨b=l1∨b=l2)→b<s.heap.objs.size:=fun b hb=>by
  obtain⟨_,as,⟨a',b',aa⟩,⟨_,h1,_⟩,⟨_,h2,_⟩,⟨_,an,_⟩,⟨_,ag,_⟩⟩:=id W
  rcases hb with rfl | rfl | rfl | rfl | rfl | rfl | rfl
  ·exact zA hz
  ·exact zA as
  ·exact zA aa
  ·exact zA h1
  ·exact zA h2
  ·exact zA an
  ·exact zA ag
 refine callType_codes (Q₁:=fun obj s₁=>obj = .ref s.heap.objs.size∧s₁={ s with heap:=s.heap.push { cls:=.type "list", data:=.seq #[] } }) F.called_list (F.typeCall_list_1 _) F.entry_list_init
  (code_list_new _ ⟨rfl,rfl⟩) fun obj s₁ h₁=>?_
 obtain⟨rfl,rfl⟩:=h₁
 have Z:(s.heap.push { cls:=.type "list", data:=.seq #[] }).get? s.heap.objs.size=some { cls:=.type "list", data:=.seq #[] }:=wd _ rfl
 refine⟨⟨_,Z,rfl⟩,F.args_list_init_2 _ _,?_⟩
 show wpAny _ _ (do let old ← Builtin.List.listItems (.ref s.heap.objs.size); Builtin.List.listUpdate (.ref s.heap.objs.size) (fun _=>#[]); letGo old.toList.reverse; Builtin.List.listExtendWith (.ref s.heap.objs.size) (.ref z) .none) _ _ _
 refine HG ?_
 unfold Builtin.List.listItems;refine HG (wpAny_seqItems Z rfl (HI ?_))
 show wpAny _ _ (updateSeq s.heap.objs.size (fun _=>#[]) >>= fun _=>letGo (#[]:Array Value).toList.reverse >>= fun _=>Builtin.List.listExtendWith (.ref s.heap.objs.size) (.ref z) .none) _ _ _
 refine HG (wpAny_updateSeq Z rfl ?_)
 have a2:=Gb (Obj.mapSeq (fun _=>(#[]:Array Value))) Z rfl
 have ad:∀ b o,b≠s.heap.objs.size→s.heap.get? b=some o→((s.heap.push { cls:=.type "list", data:=.seq #[] }).update s.heap.objs.size (Obj.mapSeq (fun _=>(#[]:Array Value)))).get? b=some o:=
  fun b o hb e=>(Ha _ _ (zB hb)).trans (zD _ e)
 refine HG (wpAny_letGo ?_)
 have O:∀ b o,s.heap.get? b=some o→((s.heap.push { cls:=.type "list", data:=.seq #[] }).update s.heap.objs.size (Obj.mapSeq (fun _=>(#[]:Array Value)))).get? b=some o:=fun b o e=>ad b o (zM (zA e)) e
 refine s_ (A:=A.in1) hh D hn a0 S s.heap.objs.size lt .none _ (O _ _ hz) (W.at fun b o e=>⟨fun _=>O b o e,o,O b o e⟩) a2 (by show (Heap.update _ _ _).objs.size=_; rw[(rB ..).1,u3]) fun h' J c' hk a1 Y=>?_
 exact⟨rfl,hQ h' J c' (fun b o c1 c2 c3 c4 e=>hk b o (zM (zA e)) c1 c2 c3 c4 (O b o e)) a1 Y⟩
end
section
variable{X:Cx}{pins:List (Addr × Obj)}{σ : St}{H:Hp}{s:Shared}
theorem Inv.trk{a:Addr}{o:HO}(I:Inv X pins σ H s)(F:H a=none)(Y:∀ b ob,X.s₀.heap.get? b=some ob→b≠a)(hl:X.env.locals≠a)(S:∀ x c,X.env.cells.lookup x=some c→c≠a)
  (hp:∀ p∈X.pn++pins,p.1≠a) (ok:Ax X.prog X.w (upd H a o) s.heap a o):Inv X pins σ (upd H a o) s:=by
 refine⟨I.ok,I.os,I.bare,⟨I.base.keep,I.base.slot,fun b ob q n z=>?_,I.base.there,fun b xs q=>?_,fun b ob xs q=>?_,fun b ps q=>?_⟩,I.loc,I.cell,?_,fun x c q=>?_,fun p J=>?_,fun b ob q=>?_,I.len⟩
 ·rw[al (Y b ob q)]; exact I.base.free b ob q n z
 ·have:=I.base.tups b xs q; rw[al (au this F)]; exact this
 ·have:=I.base.frzs b ob xs q; rw[al (au this F)]; exact this
 ·obtain⟨m,e⟩:=I.base.tbls b ps q; exact⟨m,by rw[al (au e F)]; exact e⟩
 ·rw[al hl]; exact I.free
 ·rw[al (S x c q)]; exact I.freeC x c q
 ·obtain⟨Z,O,W⟩:=I.pin p J
  exact⟨Z,by rw[al (hp p J)]; exact O,W⟩
 ·by_cases e:b=a
  ·subst e; rw[show upd H b o b=some o from HS rfl]at q; cases q; exact ok
  ·rw[al e]at q
   exact(I.hok b ob q).stay (fun _ _ _ z=>z) (fun c z=>by rw[al (au z F)]; exact z) fun c xs z=>by rw[al (au z F)]; exact z
end
def Bc(K:W.Frag)(ta:TA):TE:=fun σ H Q=>ta σ H fun vs H1=>∃ (a b:Addr) (xs ys:List V),vs=[.ref a,.ref b]∧rd K H1 a xs∧rd K H1 b ys∧xs.length=ys.length∧xs.length≤1000∧
 ∀ (p:Addr) (ts:List Addr) (H2:Hp),mu H1 H2→H1 p=none→H2 p=some (.lst (ts.map V.ref))→ts.length=xs.length→(∀ (j:Nat) (t:Addr),ts[j]? = some t→∃ x y,xs[j]? = some x∧ys[j]? = some y∧H2 t=some (.tup [x,y])∧H1 t=none)→Q (.ref p) H2
section
variable{X:Cx}{pins:List (Addr × Obj)}{σ : St}{H H1:Hp}{s s1:Shared}
theorem Inv.trkF{a:Addr}{o:HO}(I:Inv X pins σ H s)(J:Inv X pins σ H1 s1)(O:s1.heap.objs.size≤a)(F:H a=none)(ok:Ax X.prog X.w (upd H a o) s.heap a o):Inv X pins σ (upd H a o) s:=by
 obtain⟨_,S,_,_,W,Y⟩:=J.fpOk (H':=H) O F
 exact I.trk F (fun b ob e=>zM (va (zA e) (vg J.sz O))) (fun z=>S z.symm) W Y ok
theorem uJ(O:Inv X pins σ H1 s1)(B:Nat)(W:s1.heap.objs.size≤B):∀ (L:List (V × V)) (j:Nat) (H:Hp),Inv X pins σ H s→(∀ i,j≤i→H (B+i)=none)→(∀ i p,L[i]? = some p→∃ u v,RelV p.1 u∧RelV p.2 v∧IsPair s.heap (B+(j+i)) u v)→
  ∃ H2,Inv X pins σ H2 s∧mu H H2∧∀ i p,L[i]? = some p→H2 (B+(j+i))=some (.tup [p.1,p.2])
 | [],j,H,I,_,_=>⟨H,I,fun _ _ e=>e,fun i p e=>by simp at e⟩
 | p::L,j,H,I,hn,hp=>by
  obtain⟨u,v,ru,rv,e0⟩:=hp 0 p rfl
  have Y:sizeLine=16777216:=sizeLine_eq
  have F:=hn j (zg _);have I2:=I.trkF (a:=B+j) (o:=.tup [p.1,p.2]) O (vg W (Gh _ _)) F ⟨by simp[Y],[u,v],.cons ru (.cons rv .nil),_,e0,rfl,rfl,_,rfl⟩
  obtain⟨H2,J,S,hh⟩:=uJ O B W L (j+1) (upd H (B+j) (.tup [p.1,p.2])) I2 (fun i hi=>by
   have ne:B+i≠B+j:=(show (@Ne Nat (B+i) (B+j):Prop) by omega)
   rw[al ne]; exact hn i (by omega)) (fun i q e=>by
   obtain⟨u',Z,r1,r2,r3⟩:=hp (i+1) q (by rw[Hb]; exact e)
   refine⟨u',Z,r1,r2,?_⟩
   rw[show B+(j+1+i)=B+(j+(i+1)) by omega]; exact r3)
  refine⟨H2,J,(ay F _).trans S,fun i q e=>?_⟩
  cases i with
  | zero=>cases e; exact S _ _ ak
  | succ i=>
   rw[show B+(j+(i+1))=B+(j+1+i) by omega]
   exact hh i q (by rw[Hb]at e; exact e)
end
theorem IU{n J F:Addr}(h1:J<n)(h2:F<n):ZipApart (n+4) (n+2) (n+3) n (n+1) J F:=by
 have a:=FK n;have k1:∀ j,J≠n+j:=fun j=>zM (va h1 (Gh _ _))
 have k2:∀ j,F≠n+j:=fun j=>zM (va h2 (Gh _ _))
 exact⟨a.TIz,a.TOz,a.i1z,a.i2z,a.TITO,a.TIi1,a.TIi2,a.TOi1,a.TOi2,a.i12,k1 4,k1 3,zM h1,k1 1,k2 4,k2 3,zM h2,k2 1⟩
theorem vA(K:W.Frag){X:Cx}{m:Nat}{a b:Expr}{ta:TA}{p p2 pos J:Pos}(hr:Di m X.A)(hg:Gl X "list") (hm:X.mg "list" = none) (a7:Gl X "zip") (a9:X.mg "zip" = none) (ha:PA X [a,b] ta)
  (hs:starEach [a,b] X.env=[(false,eval a X.env),(false,eval b X.env)]:=by rfl) (hs1:starEach [b] X.env=[(false,eval b X.env)]:=by rfl) (hs2:starEach [.Call (.Name "zip" p2) [a,b] [] J] X.env=[(false,eval (.Call (.Name "zip" p2) [a,b] [] J) X.env)]:=by rfl) (hK:X.K=K:=by rfl) :
  PE X (.Call (.Name "list" p) [.Call (.Name "zip" p2) [a,b] [] J] [] pos) (Bc K ta):=by
 subst hK;intro pins s σ H Q I h
 refine Call_ (iI I hg hm Bz (zaW ?_ hs2 rfl))
 rw[hs2];show wpAny _ _ (spliced ((false,eval (.Call (.Name "zip" p2) [a,b] [] J) X.env)::[])) _ _ s
 refine Calls.spliced_cons ?_
 refine Call_ (iI I a7 a9 sU (zaW (bc (ha J pins s σ H _ I h) fun us s1 ⟨vs,H1,I1,r1,q1⟩=>?_) (by rw[hs,hs1]) (by rw[hs1]; rfl)))
 obtain⟨l1,l2,xs,ys,e,h1,h2,ad,be,q⟩:=q1
 subst e;obtain⟨u1,u2,rfl,r1,r2⟩:=l7 r1
 cases r1
 cases r2;obtain⟨Z,v1,p1,_⟩:=I1.list h1
 obtain⟨S,v2,p2,_⟩:=I1.list h2
 have n1:Z.length=xs.length:=v1.length.symm
 have n2:S.length=xs.length:=by rw[ad]; exact v2.length.symm
 refine call_zip_2 p1.isList p2.isList fun h' a1 a2 a3 a4 a5 a6 kk=>?_
 refine Calls.spliced_nil ?_
 obtain⟨_,b1,_⟩:=id p1.isList
 obtain⟨_,b2,_⟩:=id p2.isList
 refine qB (s:={ s1 with heap:=h' }) (xs:=Z.toArray) (ys:=S.toArray) (n:=xs.length) hr.hd (IU (zA b1) (zA b2)) be (fun i hi=>⟨Z[i]'(by omega),S[i]'(by omega),by simp[n1,hi],by simp[n2,hi]⟩) (.inl (by simp[n1])) a1 ⟨.inl a1,a2,⟨_,_,a3⟩,a4,a5,p1.isList.at fun o e=>kk _ o e,p2.isList.at fun o e=>kk _ o e⟩ fun aa F c' hk hS as=>?_
 have I2:Inv X pins σ H1 { s1 with heap:=aa }:=I1.kept (t':=s1.toks) fun b o e=>by
  have hb:=zA e;have ne:∀ j,b≠s1.heap.objs.size+j:=fun j=>zM (va hb (Gh _ _))
  exact hk b o (ne 4) (ne 3) (zM hb) (ne 1) (kk b o e)
 have a8:aa.get? h'.objs.size=some { cls:=.type "list", dict:=none,data:=.seq F c',slots:=#[] }:=hS
 have O:xJ Z.toArray S.toArray (h'.objs.size+1) F xs.length aa:=as
 have hsz:s1.heap.objs.size≤h'.objs.size:=by rw[a6]; exact Gh _ _
 have bp:sizeLine=16777216:=sizeLine_eq
 have Y:∀ b,h'.objs.size≤b→H1 b=none:=fun b hb=>I1.hok.fresh (vg hsz hb)
 have an:∀ j,j<xs.length→F[j]? = some (.ref (h'.objs.size+1+j))∧∃ u v,Z[j]? = some u∧S[j]? = some v∧IsPair aa (h'.objs.size+1+j) u v:=fun j hj=>by
  have a0:j<F.size:=by rw[O.1]; exact hj
  have e:=GD a0;obtain⟨x,y,e1,e2,e3,e4⟩:=O.2 j _ e
  exact⟨by rw[e,e1],x,y,by simpa using e2,by simpa using e3,e4⟩
 have I3:=I2.trkF (a:=h'.objs.size) (o:=.lst (((List.range xs.length).map fun j=>h'.objs.size+1+j).map V.ref)) I1 hsz (Y _ (zg _)) ⟨by simp; omega,F.toList,c',um _ _ (by simp[O.1]) fun j x w' e1 e2=>by
  have hj:j<xs.length:=by
   refine iO fun hn=>?_
   rw[oQ (by simp; omega)]at e1; cases e1
  rw[ze,ze,Gn hj]at e1
  cases e1;have e3:=(an j hj).1;rw[← zbl,e2]at e3
  cases e3;exact rfl,by simpa using a8⟩
 obtain⟨H2,I4,sm,ht⟩:=uJ I1 (h'.objs.size+1) (vg hsz (GZ _)) (xs.zip ys) 0 _ I3 (fun i _=>by
  have ne:h'.objs.size+1+i≠h'.objs.size:=(show (@Ne Nat (h'.objs.size+1+i) (h'.objs.size):Prop) by omega)
  rw[al ne]
  exact Y _ (vg (GZ _) (Gh _ _))) (fun i p e=>by
  have hi:i<xs.length:=by have:=(HL.mp e).1; rw[List.length_zip,← ad,Nat.min_self]at this; exact this
  obtain⟨_,u,v,f1,f2,f3⟩:=an i hi
  rw[zbE]at e
  refine⟨u,v,kz v1 e.1 f1,kz v2 e.2 f2,?_⟩
  rw[Gq]; exact f3)
 refine⟨.ref h'.objs.size,H2,I4,rfl,q h'.objs.size ((List.range xs.length).map fun j=>h'.objs.size+1+j) H2 ((ay (Y _ (zg _)) _).trans sm) (Y _ (zg _)) (sm _ _ ak) (by simp) (fun j t e=>?_)⟩
 have hj:j<xs.length:=by have:=(HL.mp e).1; simpa using this
 rw[ze,Gn hj]at e
 cases e;have ag:j<ys.length:=by omega
 refine⟨xs[j],ys[j],za hj,za ag,?_,Y _ (vg (GZ _) (Gh _ _))⟩
 have:=ht j (xs[j],ys[j]) (by rw[zbE]; exact⟨za hj,za ag⟩)
 rw[Gq]at this
 exact this
end L2
namespace L2
open PySem
def gM(M i:Nat):Nat:=(i * 5+1) % M
def mj(M:Nat):Nat→Nat→Nat
 | 0,i=>i
 | t+1,i=>mj M t (gM M i)
theorem l4(M:Nat):∀ (a b i:Nat),mj M (a+b) i=mj M b (mj M a i)
 | 0,b,i=>by rw[Gq]; rfl
 | a+1,b,i=>by rw[show a+1+b=(a+b)+1 by omega]; exact l4 M a b (gM M i)
def Ab(M:Nat):Nat→Nat→List Nat
 | 0,_=>[]
 | n+1,i=>i::Ab M n (gM M i)
theorem uM(M:Nat):∀ (n i e:Nat),e∈Ab M n i→∃ t,t<n∧mj M t i=e
 | 0,i,e,h=>by cases h
 | n+1,i,e,h=>by
  rcases HW.mp h with rfl | h
  ·exact⟨0,by omega,rfl⟩
  ·obtain⟨t,F,q⟩:=uM M n (gM M i) e h
   exact⟨t+1,by omega,q⟩
theorem Cp{M:Nat}(Y:M∈[8,16,32,64,128,256]){i e:Nat}(hi:i<M)(O:e<M):∃ t,t<M∧mj M t i=e:=by
 have h1:∀ M∈[8,16,32,64,128,256],mj M M 0=0∧(List.range M).all (fun e=>(Ab M M 0).contains e)=true:=by decide +kernel
 obtain⟨Z,J⟩:=h1 M Y
 rw[za2]at J
 have F:∀ e,e<M→∃ t,t<M∧mj M t 0=e:=fun e O=>uM M M 0 e (by have:=J e (HV.mpr O); simpa using this)
 obtain⟨a,ha,S⟩:=F i hi
 obtain⟨b,hb,W⟩:=F e O
 rcases x6 b a with z | z
 ·refine⟨b+M - a,by omega,?_⟩
  rw[← S,← l4,show a+(b+M - a)=M+b by omega,l4,Z,W]
 ·refine⟨b - a,by omega,?_⟩
  rw[← S,← l4,show a+(b - a)=b by omega,W]
def k8(mask:Nat):Nat→Nat→Nat→Nat
 | 0,i,p=>i
 | t+1,i,p=>k8 mask t ((i * 5+1+p / 32) % (mask+1)) (p / 32)
theorem rV(F:Nat):∀ (t i:Nat),k8 F t i 0=mj (F+1) t i
 | 0,i=>rfl
 | t+1,i=>by
  show k8 F t ((i * 5+1+0 / 32) % (F+1)) (0 / 32)=mj (F+1) t (gM (F+1) i)
  rw[Nat.zero_div,Nat.add_zero];exact rV F t _
theorem uK(F:Nat):∀ (a b i p:Nat),k8 F (a+b) i p=k8 F b (k8 F a i p) (p / 32 ^ a)
 | 0,b,i,p=>by rw[Gq,Nat.pow_zero,Nat.div_one]; rfl
 | a+1,b,i,p=>by
  rw[show a+1+b=(a+b)+1 by omega]
  show k8 F (a+b) _ (p / 32)=k8 F b (k8 F a _ (p / 32)) _
  rw[uK F a b,Nat.div_div_eq_div_mul,Nat.pow_succ,Nat.mul_comm (32 ^ a) 32]
theorem wk(F:Nat):∀ (t i p:Nat),i≤F→k8 F t i p≤F
 | 0,i,p,h=>h
 | t+1,i,p,h=>wk F t _ _ (by have:=Nat.mod_lt (i * 5+1+p / 32) (show 0<F+1 by omega); omega)
theorem Ew(F i:Nat):i≤SetTable.runEnd F i:=by unfold SetTable.runEnd; split <;> omega
theorem p_{F:Nat}{owner:Array (Option Nat)}:∀ (f i p:Nat),SetTable.layClean.free F owner f i p=none→∀ t,t<f→(owner.getD (k8 F t i p) (some 0)).isNone=false
 | 0,i,p,h,t,ht=>by omega
 | f+1,i,p,h,t,ht=>by
  unfold SetTable.layClean.free at h;split at h
  ·cases h
  ·rename_i hf
   rw[List.find?_eq_none]at hf
   cases t with
   | zero=>
    have t:=hf 0 (HV.mpr (by have:=Ew F i; omega))
    rw[Nat.add_zero]at t
    exact Bool.eq_false_iff.mpr t
   | succ t=>exact p_ f _ _ h t (by omega)
theorem qi{F:Nat}{owner:Array (Option Nat)}{j:Nat}:∀ (f i p:Nat),SetTable.layClean.free F owner f i p=some j→(owner.getD j (some 0)).isNone=true
 | 0,i,p,h=>by unfold SetTable.layClean.free at h; cases h
 | f+1,i,p,h=>by
  unfold SetTable.layClean.free at h;split at h
  ·rename_i k hf
   cases h;exact @List.find?_some _ (fun k=>(owner.getD (i+k) (some 0)).isNone) _ _ hf
  ·exact qi f _ _ h
theorem BK(h:Int):SetTable.bits h<2 ^ 64:=by
 unfold SetTable.bits;omega
theorem Cv{F:Nat}(W:F+1∈[8,16,32,64,128,256]){owner:Array (Option Nat)}{e:Nat}(Z:e≤F)(O:(owner.getD e (some 0)).isNone=true)(h:Int) :
  ∃ j,SetTable.layClean.free F owner (SetTable.turns F) (SetTable.bits h % (F+1)) (SetTable.bits h)=some j∧(owner.getD j (some 0)).isNone=true:=by
 cases q:SetTable.layClean.free F owner (SetTable.turns F) (SetTable.bits h % (F+1)) (SetTable.bits h) with
 | some j=>exact⟨j,rfl,qi _ _ _ q⟩
 | none=>
  exfalso
  have J:=p_ _ _ _ q;have hi:SetTable.bits h % (F+1)≤F:=by have:=Nat.mod_lt (SetTable.bits h) (show 0<F+1 by omega); omega
  obtain⟨t,Y,S⟩:=Cp W (i:=k8 F 13 (SetTable.bits h % (F+1)) (SetTable.bits h)) (e:=e) (by have:=wk F 13 _ (SetTable.bits h) hi; omega) (by omega)
  have z:=J (13+t) (by unfold SetTable.turns; omega)
  have hz:SetTable.bits h / 32 ^ 13=0:=Nat.div_eq_of_lt (va (BK h) (by decide))
  rw[uK,hz,rV,S,O]at z
  cases z
theorem xE{α : Type}(f g:Nat→Option α)(j:Nat)(k:α)(hf:f j=none)(hg:g j=some k)(F:∀ i,i≠j→g i=f i):∀ (l:List Nat),l.Nodup→(j∈l→(l.filterMap g).Perm (k::l.filterMap f))∧(j∉l→l.filterMap g=l.filterMap f)
 | [],_=>⟨fun h=>(nomatch h),fun _=>rfl⟩
 | a::l,nd=>by
  rw[zbP]at nd
  have ih:=xE f g j k hf hg F l nd.2
  by_cases e:a=j
  ·subst e
   refine⟨fun _=>?_,fun h=>absurd wZ h⟩
   rw[Hj hg,Hw hf,ih.2 nd.1]
  ·refine⟨fun h=>?_,fun h=>?_⟩
   ·have hl:j∈l:=by
     rcases HW.mp h with z | z
     ·exact absurd z.symm e
     ·exact z
    have:=ih.1 hl
    cases q:f a with
    | none=>rw[Hw (by rw[F a e]; exact q),Hw q]; exact this
    | some x=>
     rw[Hj (by rw[F a e]; exact q),Hj q]
     exact(this.cons x).trans (List.Perm.swap _ _ _)
   ·have hl:j∉l:=fun z=>h (zU _ z)
    cases q:f a with
    | none=>rw[Hw (by rw[F a e]; exact q),Hw q,ih.2 hl]
    | some x=>rw[Hj (by rw[F a e]; exact q),Hj q,ih.2 hl]
structure ut (mask:Nat) (owner:Array (Option Nat)) (k:Nat):Prop where
 sz:owner.size=mask+1
 pm:((List.range (mask+1)).filterMap (fun j=>owner.getD j none)).Perm (List.range k)
theorem Af{F:Nat}{owner:Array (Option Nat)}{k j:Nat}(h:ut F owner k)(O:(owner.getD j (some 0)).isNone=true):ut F (owner.setIfInBounds j (some k)) (k+1):=by
 have J:j<owner.size:=by
  rcases x6 j owner.size with z | z
  ·exact z
  ·rw[zba,zbS z]at O; cases O
 have S:owner.getD j none=none:=by
  rw[zba,GD J]at O ⊢
  simpa using O
 refine⟨by rw[Array.size_setIfInBounds]; exact h.sz,?_⟩
 have:=(xE (fun i=>owner.getD i none) (fun i=>(owner.setIfInBounds j (some k)).getD i none) j k S (by simp[zba,Array.getElem?_setIfInBounds,J]) (fun i hi=>by simp[zba,Array.getElem?_setIfInBounds,zB hi]) (List.range (F+1)) List.nodup_range).1 (HV.mpr (by have:=h.sz; omega))
 refine this.trans ((h.pm.cons k).trans ?_)
 rw[Gz];exact(List.perm_append_comm (l₁:=[k]) (l₂:=List.range k))
theorem y3{F:Nat}{owner:Array (Option Nat)}{k:Nat}(h:ut F owner k)(hk:k≤F):∃ e,e≤F∧(owner.getD e (some 0)).isNone=true:=by
 refine iO fun Z=>?_
 have J:∀ e∈List.range (F+1),(owner.getD e none).isSome=true:=fun e W=>by
  have O:=HV.mp W;have S:e<owner.size:=by rw[h.sz]; exact O
  cases q:(owner.getD e (some 0)).isNone with
  | true=>exact absurd ⟨e,by omega,q⟩ Z
  | false=>
   rw[zba,GD S]at q ⊢
   cases z:owner[e] with
   | none=>rw[z]at q; cases q
   | some x=>simp[z]
 have hl:((List.range (F+1)).filterMap (fun j=>owner.getD j none)).length=F+1:=by
  have gen:∀ (l:List Nat),(∀ e∈l,(owner.getD e none).isSome=true)→(l.filterMap (fun j=>owner.getD j none)).length=l.length:=by
   intro l
   induction l with
   | nil=>intro _; rfl
   | cons a l ih=>
    intro Y
    obtain⟨x,hx⟩:=Ii.mp (Y a wZ)
    rw[Hj (f:=fun j=>owner.getD j none) hx,vR,vR,ih fun e W=>Y e (zU _ W)]
  rw[gen _ J,iP]
 have:=h.pm.length_eq
 rw[hl,iP]at this
 omega
theorem q_{F:Nat}(O:F+1∈[8,16,32,64,128,256]):∀ (J:List Int) (owner:Array (Option Nat)) (k:Nat),ut F owner k→k+J.length≤F+1→
  ∃ owner',J.foldl (fun (acc:Option (Array (Option Nat) × Nat)) h=>do
   let (owner,k) ← acc
   let j ← SetTable.layClean.free F owner (SetTable.turns F) (SetTable.bits h % (F+1)) (SetTable.bits h)
   pure (owner.setIfInBounds j (some k),k+1)) (some (owner,k))=some (owner',k+J.length)∧ut F owner' (k+J.length)
 | [],owner,k,h,_=>⟨owner,rfl,h⟩
 | x::J,owner,k,h,hl=>by
  rw[vR]at hl
  obtain⟨e,he,Y⟩:=y3 h (by omega)
  obtain⟨j,W,Z⟩:=Cv O he Y x
  obtain⟨o',S,h'⟩:=q_ O J _ (k+1) (Af h Z) (by omega)
  refine⟨o',?_,by rw[vR,show k+(J.length+1)=k+1+J.length by omega]; exact h'⟩
  rw[zaY,vR,show k+(J.length+1)=k+1+J.length by omega,← S]
  congr 1
  show (some (owner,k)).bind _=_
  rw[Option.bind_some];show (SetTable.layClean.free F owner (SetTable.turns F) (SetTable.bits x % (F+1)) (SetTable.bits x)).bind _=_
  rw[W]; rfl
theorem Cq(F:Nat):ut F (Array.replicate (F+1) none) 0:=by
 refine⟨by simp,?_⟩
 have:(List.range (F+1)).filterMap (fun j=>(Array.replicate (F+1) (none:Option Nat)).getD j none)=[]:=by
  rw[List.filterMap_eq_nil_iff];intro j _
  rw[zba,Array.getElem?_replicate];split <;> rfl
 rw[this];exact zbb _
theorem uL{F:Nat}(S:F+1∈[8,16,32,64,128,256])(f m:Nat)(led plain:Bool)(J:Array Int)(hl:J.size≤F) :
  ∃ t order,SetTable.laid F f m led plain J=some (t,order)∧order.toList.Perm (List.range J.size)∧t.mask=F∧t.place.size=J.size∧t.dummies = #[]∧t.led=led:=by
 obtain⟨owner,e,h⟩:=q_ S J.toList _ 0 (Cq F) (by simp; omega)
 rw[Gq]at e h
 have W:SetTable.layClean F J=some owner:=by
  unfold SetTable.layClean;rw[← Array.foldl_toList];rw[e]; rfl
 unfold SetTable.laid;rw[W];refine⟨_,_,rfl,?_,rfl,?_,rfl,rfl⟩
 ·show (((List.range (F+1)).filterMap fun j=>(owner.getD j none).map (j,·)).map (·.2)).toArray.toList.Perm _
  rw[List.map_filterMap]
  have:(fun j=>Option.map (fun x:Nat × Nat=>x.2) ((owner.getD j none).map (j,·)))=fun j=>owner.getD j none:=by
   funext j
   cases owner.getD j none <;> rfl
  rw[this]
  simpa using h.pm
 ·show (((List.range (F+1)).filterMap fun j=>(owner.getD j none).map (j,·)).map (·.1)).toArray.size=_
  have h2:=h.pm.length_eq
  have O:((List.range (F+1)).filterMap fun j=>(owner.getD j none).map (j,·)).length=((List.range (F+1)).filterMap fun j=>owner.getD j none).length:=by
   have:((List.range (F+1)).filterMap fun j=>owner.getD j none)=((List.range (F+1)).filterMap fun j=>(owner.getD j none).map (j,·)).map (·.2):=by
    rw[List.map_filterMap]
    congr 1
    funext j
    cases owner.getD j none <;> rfl
   rw[this,zc]
  simp only[vx,zc]
  rw[O,h2,iP]; simp
theorem AI:∀ n,n≤240→SetTable.sizeAbove n - 1+1∈[8,16,32,64,128,256]∧n≤SetTable.sizeAbove n - 1:=by decide +kernel
end L2
namespace L2
open PySem PySem.Spec PyProof.Rows PySem.SeqAt
section
variable{prog:Program}{w:World}{K:Type}[DecidableEq K]{knd:KeyKind prog w K}{A:Around}{E:Value→Shared→Prop}{s:Shared}{L:Bool}
theorem wG{es:Array (Int × Value)}{F:Array Nat}(hp:F.toList.Perm (List.range es.size)):(F.filterMap (es[·]?)).toList.Perm es.toList:=by
 rw[Array.toList_filterMap];exact(hp.filterMap _).trans (by rw[filterMap_getElem?_range])
theorem nJ{F f m:Nat}{led plain:Bool}{S:Array Int}{t:SetTable}{J:Array Nat}(e:SetTable.laid F f m led plain S=some (t,J)):gn t.place:=by
 unfold SetTable.laid at e
 cases ho:SetTable.layClean F S with
 | none=>rw[ho]at e; cases e
 | some owner=>
  rw[ho]at e
  cases e;refine iS ?_
  refine HZ.mpr ?_
  refine List.Pairwise.filterMap _ ?_ zbH
  intro a b O x hx y W
  obtain⟨k,_,rfl⟩:=Ib.mp hx
  obtain⟨Y,_,rfl⟩:=Ib.mp W
  exact O
def El(mask:Nat):Prop:=mask+1∈[8,16,32,64,128,256]
def Ga(knd:KeyKind prog w K)(L:Bool)(h:Heap)(a:Addr)(S:K→Bool)(n m:Nat):Prop:=∃ o es ep t,h.get? a=some o∧lB knd (bE L) o es ep t S n∧El t.mask∧m≤t.mask∧t.dummies = #[]
theorem Ga.g{h:Heap}{a:Addr}{S:K→Bool}{n m:Nat}(x:Ga knd L h a S n m):Du knd (bE L) h a S n:=let ⟨o,es,ep,t,ho,T,_⟩:=x; ⟨o,es,ep,t,ho,T⟩
theorem mO{o:Obj}{es es':Array (Int × Value)}{J:Nat}{t t':SetTable}{S:K→Bool}{n:Nat}(T:lB knd (bE L) o es J t S n)(hp:es'.toList.Perm es.toList)(hf:t'.fits es'.size=true)(hg:bE L t'):∀ {o':Obj} {ep':Nat},o'.ExactSet→o'.data = .set es' ep' t'→lB knd (bE L) o' es' ep' t' S n:=fun {o' ep'} ex W=>by
 have hsz:es'.size=es.size:=by rw[← y0,hp.length_eq,y0]
 exact⟨ex,W,T.el.perm hp,fun O=>(T.mem O).trans ⟨fun ⟨e,F,q⟩=>⟨e,hp.mem_iff.mpr F,q⟩,fun ⟨e,F,q⟩=>⟨e,hp.mem_iff.mp F,q⟩⟩,by rw[hsz]; exact T.few,hf,by rw[hsz]; exact T.num,hg,T.apart.perm hp⟩
theorem ud{t:SetTable}{n:Nat}(h1:t.place.size=n)(h2:t.dummies = #[])(F:n≤t.mask):t.fits n=true:=by
 unfold SetTable.fits SetTable.fill;rw[h1,h2];simp
 omega
theorem xy{a:Addr}{S:K→Bool}{n F:Nat}{Q:Unit→Shared→Prop}(hS:Du knd (bE L) s.heap a S n)(hw:F≤240)(hn:n≤F)
  (h:∀ h',Heap.SameBut a s.heap h'→Ga knd L h' a S n F→Q () { s with heap:=h' }):wpAny (model prog w) A (setRelay a F) Q E s:=by
 obtain⟨o,es,ep,t,ho,T⟩:=hS
 obtain⟨hM,hm⟩:=AI F hw
 unfold setRelay;refine HG (wpAny_setState_of ho T.dat T.fit ?_)
 dsimp only
 have an:¬ SetTable.sizeAbove F>sizeLine:=by
  have:SetTable.sizeAbove F - 1+1≤256:=by
   simp only[vB,Hk,or_false]at hM
   omega
  have hs:sizeLine=16777216:=sizeLine_eq
  omega
 rw[HP an];obtain⟨t',J,e,hp,O,aa,W,Y⟩:=uL hM t.finger (t.movedTo (SetTable.sizeAbove F - 1)) t.led t.plain (es.map (·.1)) (by rw[Array.size_map,T.num]; omega)
 rw[Array.size_map]at hp aa
 have hr:t.relaid (es.map (·.1)) F=some (t',J):=e
 rw[hr];have Z:=wG hp;have hsz:(J.filterMap (es[·]?)).size=es.size:=by rw[← y0,Z.length_eq,y0]
 refine HG ?_
 show wpAny _ _ (if ((J.filterMap (es[·]?)).size != es.size)=true then _ else pure (J.filterMap (es[·]?),t')) _ _ _
 rw[HP (by rw[hsz]; simp)]
 refine HI ?_
 dsimp only
 have ad:t'.fits (J.filterMap (es[·]?)).size=true:=by rw[hsz]; exact ud aa W (by rw[O,T.num]; omega)
 have hg':bE L t':=⟨Y.trans T.good.led,nJ e⟩
 obtain⟨o1,ag,U1⟩:=stored (es':=J.filterMap (es[·]?)) (t':=t') (S':=S) (n':=n) ho T fun o' ex da=>mO T Z ad hg' ex da
 refine wpAny_storeSet_of ho T.dat ?_ (fits_of_scanBound U1.few)
 exact h _ (rB ..) ⟨o1,_,_,_,ag,U1,by unfold El; rw[O]; exact hM,by rw[O]; exact hm,W⟩
theorem Fw{a:Addr}{S:K→Bool}{F:Nat}{Q:Unit→Shared→Prop}(hS:Ga knd L s.heap a S 0 7)(hm:F≤60)
  (h:∀ h',Heap.SameBut a s.heap h'→Ga knd L h' a S 0 F→Q () { s with heap:=h' }):wpAny (model prog w) A (setRoomFor a F) Q E s:=by
 obtain⟨o,es,ep,t,Z,T,hP,h7,hd⟩:=id hS
 have O:t.place.size=0:=by
  have:=T.fit
  unfold SetTable.fits at this;simp only[sG,beq_iff_eq]at this
  rw[this.1]; exact T.num
 have J:t.fill=0:=by unfold SetTable.fill; rw[O,hd]; rfl
 unfold setRoomFor;refine HG (wpAny_setState_of Z T.dat T.fit ?_)
 dsimp only
 unfold SetTable.roomFor;rw[J,O,Gq]
 by_cases c:F * 5≥t.mask * 3
 ·rw[HS c]
  refine xy hS.g (by omega) (by omega) fun h' sb x=>h h' sb ?_
  obtain⟨o1,W,Y,t1,z1,z2,z3,z4,z5⟩:=x
  exact⟨o1,W,Y,t1,z1,z2,z3,by omega,z5⟩
 ·rw[HP c]
  refine HI ?_
  have e:s={ s with heap:=s.heap }:=by cases s; rfl
  rw[e];exact h s.heap (za6 _ _) ⟨o,es,ep,t,Z,T,hP,by omega,hd⟩
theorem FD{a:Addr}{S:K→Bool}{n F:Nat}{Q:Unit→Shared→Prop}(O:Du knd (bE L) s.heap a S n)(Z:n+F≤120)
  (h:∀ h',Heap.SameBut a s.heap h'→Du knd (bE L) h' a S n→Q () { s with heap:=h' }):wpAny (model prog w) A (setRoomFor a F) Q E s:=by
 obtain⟨o,es,ep,t,Y,T⟩:=id O
 have J:t.place.size=n:=by
  have:=T.fit
  unfold SetTable.fits at this;simp only[sG,beq_iff_eq]at this
  rw[this.1]; exact T.num
 unfold setRoomFor;refine HG (wpAny_setState_of Y T.dat T.fit ?_)
 dsimp only
 unfold SetTable.roomFor;rw[J]
 by_cases c:(t.fill+F) * 5≥t.mask * 3
 ·rw[HS c]
  exact xy O (by omega) (by omega) fun h' W x=>h h' W x.g
 ·rw[HP c]
  refine HI ?_
  have e:s={ s with heap:=s.heap }:=by cases s; rfl
  rw[e];exact h s.heap (za6 _ _) O
theorem w5{a b:Addr}{S0 S:K→Bool}{n:Nat}{ad:Sem Unit}{Q:Unit→Shared→Prop}(a4:a≠b)(h0:Ga knd L s.heap a S0 0 7)(hS:Du knd (bE L) s.heap b S n)(hn:n≤60)
  (h:∀ h',Heap.SameBut a s.heap h'→(n=0→h'=s.heap)→Du knd (bE L) h' a S n→Q () { s with heap:=h' }):wpAny (model prog w) A (setMerge a b ad) Q E s:=by
 obtain⟨o,es,ep,t,ho,T⟩:=id hS
 unfold setMerge;rw[HP (by simpa using a4)]
 refine HG (wpAny_setState_of ho T.dat T.fit ?_)
 dsimp only
 by_cases he:es.isEmpty=true
 ·rw[HS he]
  have a9:n=0:=by rw[← T.num]; simpa using he
  refine HI ?_
  have e:s={ s with heap:=s.heap }:=by cases s; rfl
  rw[e];refine h s.heap (za6 _ _) (fun _=>rfl) ?_
  obtain⟨o0,as,a8,t0,bA,T0,_⟩:=h0
  have bz:S0=S:=by
   funext k
   have e1:S0 k=false:=by
    cases q:S0 k with
    | false=>rfl
    | true=>
     obtain⟨x,hx,_⟩:=(T0.mem k).mp q; have:as = #[]:=by simpa using T0.num
     rw[this]at hx; cases hx
   have e2:S k=false:=by
    cases q:S k with
    | false=>rfl
    | true=>
     obtain⟨x,hx,_⟩:=(T.mem k).mp q; have:es = #[]:=by simpa using he
     rw[this]at hx; cases hx
   rw[e1,e2]
  subst bz; subst a9
  exact⟨o0,as,a8,t0,bA,T0⟩
 ·rw[HP he]
  refine HG (Fw h0 (by rw[T.num]; exact hn) fun h1 a7 x1=>?_)
  rw[T.num]at x1
  obtain⟨o1,bB,a0,t1,Y,J,be,a5,bp⟩:=x1
  refine HG (wpAny_setState_of Y J.dat J.fit ?_)
  dsimp only
  have ag:t1.place.size=0:=by
   have:=J.fit
   unfold SetTable.fits at this;simp only[sG,beq_iff_eq]at this
   rw[this.1]; exact J.num
  have W:t1.road t=if (t1.mask == t.mask&&t.dummies.isEmpty)=true then .slotForSlot else .clean:=by
   unfold SetTable.road SetTable.fill;rw[ag,bp]; rfl
  have aa:∀ (es':Array (Int × Value)) (t':SetTable),es'.toList.Perm es.toList→t'.fits es'.size=true→bE L t'→wpAny (model prog w) A (storeSet a es' t') Q E { s with heap:=h1 }:=fun es' t' hp hf hg=>by
   have a3:=putSet_of es' t' J.dat;have O:=Gb (Obj.putSet es' t') Y (by rw[a3]; rfl)
   rw[a3]at O
   have U:=mO T hp hf hg (o':={ o1 with data:=.set es' (a0+1) t' }) (ep':=a0+1) J.ex rfl;refine wpAny_storeSet_of Y J.dat ?_ (fits_of_scanBound U.few)
   exact h _ (a7.trans (rB ..)) (fun z=>absurd (by simpa using T.num.trans z) (by simpa using he)) ⟨_,_,_,_,O,U⟩
  rw[W]
  by_cases c:(t1.mask == t.mask&&t.dummies.isEmpty)=true
  ·rw[HS c]
   refine aa es _ (zbb _) ?_ ?_
   ·have:=T.fit
    exact this
   ·exact⟨by show (t1.led&&t.led)=L; rw[J.good.led,T.good.led,Bool.and_self],T.good.rise⟩
  ·rw[HP c]
   obtain⟨t',F,e,hp,Z,a2,a6,an⟩:=uL be t1.finger t1.moves (t1.led&&t.led) (t1.plain&&t.plain) (es.map (·.1)) (by rw[Array.size_map,T.num]; omega)
   rw[Array.size_map]at hp a2
   dsimp only
   rw[e];have a1:=wG hp;have hsz:(F.filterMap (es[·]?)).size=es.size:=by rw[← y0,a1.length_eq,y0]
   refine HG ?_
   show wpAny _ _ (if ((F.filterMap (es[·]?)).size != es.size)=true then _ else pure (F.filterMap (es[·]?),t')) _ _ _
   rw[HP (by rw[hsz]; simp)]
   refine HI ?_
   dsimp only
   exact aa _ _ a1 (by rw[hsz]; exact ud a2 a6 (by rw[Z,T.num]; exact a5)) ⟨by rw[an,J.good.led,T.good.led,Bool.and_self],nJ e⟩
theorem Fv{a:Addr}{o:Obj}{es:Array (Int × Value)}{O:Nat}{t:SetTable}{Q:Array (Int × Value)→Shared→Prop}(S:s.heap.get? a=some o)(hd:o.data = .set es O t)(hf:t.fits es.size=true)(hg:bE (bv w) t)(hp:w.params.followText "set-order" = true∨t.plain=true∨es.size≤1)
  (h:∀ arr,arr.toList.Perm es.toList→Q arr s):wpAny (model prog w) A (setWalk a) Q E s:=by
 unfold setWalk;refine HG (wpAny_setState_of S hd hf ?_)
 dsimp only
 refine HG ?_
 unfold setsByText;refine HG (wpAny_askSetting (HI ?_))
 show wpAny _ _ (if w.params.followText "set-order" = true then _ else _) _ _ _
 cases hb:w.params.followText "set-order" with
 | true=>
  simp only[if_true]
  refine HG (wpAny_askSetting (HI ?_))
  exact h _ (qj _ _)
 | false=>
  simp only[sT,if_false]
  have J:¬ ((!t.plain&&decide (es.size>1))=true):=by
   rw[hb]at hp
   rcases hp with z | z | z
   ·cases z
   ·rw[z]; simp
   ·simp; omega
  show wpAny _ _ (if (!t.plain&&decide (es.size>1))=true then _ else _) _ _ _
  rw[HP J];have F:t.led=true:=by rw[hg.led]; unfold bv; rw[hb]; rfl
  refine HG ?_
  show wpAny _ _ (if (!t.led&&decide (es.size>1))=true then _ else _) _ _ _
  rw[F];refine HI (HI ?_)
  exact h es (zbb _)
theorem E_{Q:Bool→Shared→Prop}:∀ (F:List Addr),(∀ a∈F,∃ o es ep t,s.heap.get? a=some o∧o.data = .set es ep t∧t.fits es.size=true∧∀ e∈es.toList,e.2.scannable=true)→Q true s→wpAny (model prog w) A (setsQuiet F) Q E s:=by
 intro F hs h
 unfold setsQuiet;refine HG (wpAny_forIn_list _ (fun Dk b s'=>b.1=none∧s'=s∧∀ a∈Dk,a∈F) _ ?_ ?_ _ _ ⟨rfl,rfl,fun _ z=>z⟩)
 ·rintro a Dk b s' ⟨hb,rfl,hm⟩
  obtain⟨o,es,ep,t,ho,hd,hf,Y⟩:=hs a (hm a wZ)
  refine HG (wpAny_setEntries_of ho hd hf ?_)
  refine HG (MeetsSeq2.wpAny_forIn_array _ (fun J W Z=>W.1=none∧Z=s'∧∀ e∈J,e∈es.toList) _ ?_ ?_ _ _ ⟨rfl,rfl,fun _ z=>z⟩)
  ·rintro⟨hh,x⟩ J W Z ⟨S,rfl,O⟩
   have hx:=Y _ (O _ wZ)
   dsimp only at hx ⊢
   cases x with
   | ref c=>cases hx
   | _=>exact HI ⟨rfl,rfl,fun e he=>O e (zU _ he)⟩
  ·rintro W Z ⟨S,rfl,_⟩
   obtain⟨b1,b2⟩:=W
   cases S;exact HI ⟨rfl,rfl,fun a' aa=>hm a' (zU _ aa)⟩
 ·rintro b s' ⟨hb,rfl,_⟩
  obtain⟨b1,b2⟩:=b
  cases hb;exact HI h
theorem BY{a f:Addr}{S1 S2:K→Bool}{n1 n2:Nat}{Q:Array (Int × Value)→Shared→Prop}(an:a≠f)(hA:Du knd (bE (bv w)) s.heap a S2 n2)(hF:Du knd (bE (bv w)) s.heap f S1 n1)
  (h:∀ F h' es,(∃ o Y t,s.heap.get? a=some o∧lB knd (bE (bv w)) o es Y t S2 n2)→F.toList.Perm es.toList→Heap.SameBut f s.heap h'→Du knd (bE (bv w)) h' f S1 n1→Q F { s with heap:=h' }):wpAny (model prog w) A (setWalkUnseen a [f] (some f)) Q E s:=by
 obtain⟨o,es,Y,t,Z,T⟩:=id hA
 obtain⟨of,W,ag,O,S,J⟩:=id hF
 have ad:s={ s with heap:=s.heap }:=by cases s; rfl
 have keep:∀ F:Array (Int × Value),F.toList.Perm es.toList→Q F s:=fun F hp=>by
  rw[ad]; exact h F s.heap es ⟨o,Y,t,Z,T⟩ hp (za6 _ _) hF
 unfold setWalkUnseen;refine HG (wpAny_setState_of Z T.dat T.fit ?_)
 dsimp only
 refine HG ?_
 unfold setsByText;refine HG (wpAny_askSetting (HI ?_))
 show wpAny _ _ (if (w.params.followText "set-order" || t.led&&t.plain||decide (es.size≤1))=true then _ else _) _ _ _
 by_cases c:(w.params.followText "set-order" || t.led&&t.plain||decide (es.size≤1))=true
 ·rw[HS c]
  refine Fv Z T.dat T.fit T.good ?_ keep
  simp only[GW,sG,decide_eq_true_eq]at c
  rcases c with (z | z) | z
  ·exact .inl z
  ·exact .inr (.inl z.2)
  ·exact .inr (.inr z)
 ·rw[HP c]
  refine HG (E_ [a,f] (fun b hb=>?_) ?_)
  ·simp only[vB,Hk,or_false]at hb
   rcases hb with rfl | rfl
   ·exact⟨o,es,Y,t,Z,T.dat,T.fit,fun e he=>(T.el e he).2⟩
   ·exact⟨of,W,ag,O,S,J.dat,J.fit,fun e he=>(J.el e he).2⟩
  ·simp only[GG,sT,if_false]
   refine HG (wpAny_rule ?_)
   refine HG (wpAny_setState_of S J.dat J.fit ?_)
   dsimp only
   by_cases c2:(O.led && !t.led||O.plain && !t.plain)=true
   ·rw[HS c2]
    obtain⟨o1,aa,U1⟩:=stored (es':=W) (t':={ O with led:=O.led&&t.led,plain:=O.plain&&t.plain }) (S':=S1) (n':=n1) S J fun o' ex da=>mO (t':={ O with led:=O.led&&t.led,plain:=O.plain&&t.plain }) J (zbb _) J.fit ⟨by show (O.led&&t.led)=_; rw[J.good.led,T.good.led,Bool.and_self],J.good.rise⟩ ex da
    refine HG (wpAny_storeSet_of S J.dat ?_ (fits_of_scanBound U1.few))
    exact HI (h es _ es ⟨o,Y,t,Z,T⟩ (zbb _) (rB ..) ⟨_,_,_,_,aa,U1⟩)
   ·rw[HP c2]
    exact HI (keep es (zbb _))
theorem Ex{a b:Addr}{S1 S2:K→Bool}{n1 n2:Nat}{O:Sem Unit}{Q:Unit→Shared→Prop}(J:a≠b)(h1:Du knd (bE (bv w)) s.heap a S1 n1)(h2:Du knd (bE (bv w)) s.heap b S2 n2)(a9:1≤n1)(hn:n1+n2≤60)
  (W:∀ (s':Shared) (R:Unit→Shared→Prop),(∀ o,s.heap.get? b=some o→s'.heap.get? b=some o)→R () s'→wpAny (model prog w) A O R E s')
  (h:∀ h' m,Heap.SameBut a s.heap h'→m≤n1+n2→Du knd (bE (bv w)) h' a (fun k=>S1 k||S2 k) m→Q () { s with heap:=h' }):wpAny (model prog w) A (setMerge a b O) Q E s:=by
 obtain⟨o,es,ep,t,ho,T⟩:=id h2
 unfold setMerge;rw[HP (by simpa using J)]
 refine HG (wpAny_setState_of ho T.dat T.fit ?_)
 dsimp only
 by_cases he:es.isEmpty=true
 ·rw[HS he]
  have bp:n2=0:=by rw[← T.num]; simpa using he
  refine HI ?_
  have e:s={ s with heap:=s.heap }:=by cases s; rfl
  rw[e];refine h s.heap n1 (za6 _ _) (by omega) (h1.at' (fun _ z=>z) (fun k=>?_) rfl)
  have e2:S2 k=false:=by
   cases q:S2 k with
   | false=>rfl
   | true=>
    obtain⟨x,hx,_⟩:=(T.mem k).mp q; have:es = #[]:=by simpa using he
    rw[this]at hx; cases hx
  rw[e2,Bool.or_false]
 ·rw[HP he]
  refine HG (FD h1 (by rw[T.num]; omega) fun g1 an x1=>?_)
  have Y:g1.get? b=some o:=by rw[an.2 b (zB J)]; exact ho
  obtain⟨o1,be,bz,t1,a4,T1⟩:=id x1
  refine HG (wpAny_setState_of a4 T1.dat T1.fit ?_)
  dsimp only
  have S:t1.road t = .oneByOne:=by
   have ag:t1.place.size=n1:=by
    have:=T1.fit
    unfold SetTable.fits at this;simp only[sG,beq_iff_eq]at this
    rw[this.1]; exact T1.num
   unfold SetTable.road SetTable.fill;rw[HS (by rw[ag]; simp; omega)]
  rw[S]
  dsimp only
  refine HG (BY (s:={ s with heap:=g1 }) (zB J) ⟨o,es,ep,t,Y,T⟩ x1 fun bA g2 es' a8 hp a7 x2=>?_)
  obtain⟨o',ep',t',a6,T'⟩:=a8
  have eo:o'=o:=by
   have:g1.get? b=some o':=a6
   rw[Y]at this; cases this; rfl
  subst eo
  have a3:es'=es:=by
   have q1:=T'.dat;rw[T.dat]at q1
   cases q1; rfl
  subst a3;have as:Heap.SameBut a s.heap g2:=an.trans a7
  have a2:∀ (done:List (Int × Value)),done.Perm es'.toList→∀ k,(S1 k||done.any fun e=>knd.is k e.2)=(S1 k||S2 k):=fun done hd k=>by
   congr 1
   rw[Hg,T.mem k,Hl];exact⟨fun ⟨e,z,q⟩=>⟨e,hd.mem_iff.mp z,q⟩,fun ⟨e,z,q⟩=>⟨e,hd.mem_iff.mpr z,q⟩⟩
  refine HG (MeetsSeq2.wpAny_forIn_array _ (fun Dk _ s'=>∃ h' m done,s'={ s with heap:=h' }∧Heap.SameBut a s.heap h'∧(done++Dk).Perm es'.toList∧m+Dk.length≤n1+n2∧Du knd (bE (bv w)) h' a (fun k=>S1 k||done.any fun e=>knd.is k e.2) m) _ ?_ ?_ _ _
   ⟨g2,n1,[],rfl,as,hp,by rw[hp.length_eq,y0,T.num]; exact zg _,x2.at' (fun _ z=>z) (fun k=>by simp) rfl⟩)
  ·rintro⟨hh,v⟩ Dk u s' ⟨h',m,done,rfl,sb,F,hm,hS⟩
   obtain⟨⟨k,hk,a0⟩,ad⟩:=T.el (hh,v) (F.mem_iff.mp (by simp))
   dsimp only at hk a0 ad ⊢
   subst a0;rw[vR]at hm
   refine HG (wpAny_holding (Ej (G:=bE (bv w)) (knd:=knd) (s:={ s with heap:=h' }) (fun t es h x g=>mC g es h x) (fun t es m g=>oC g es m) (fun t g=>ow g) hk ad hS (by unfold scanBound; omega) fun h2 a1 a5=>?_))
   have Z:Heap.SameBut a s.heap h2:=sb.trans a1
   have aa:h2.get? b=some o':=by rw[Z.2 b (zB J)]; exact ho
   refine HG (W _ _ (fun o z=>by rw[ho]at z; cases z; exact aa) ?_)
   refine HG (wpAny_setState_of aa T.dat T.fit ?_)
   rw[HP (by simp)]
   refine HI ⟨h2,_,done++[(knd.hash k,v)],rfl,Z,by rw[GC]; exact F,?_,a5.at' (fun _ z=>z) (fun k'=>?_) rfl⟩
   ·split <;> omega
   ·rw[List.any_append,Bool.or_assoc]
    congr 2
    rw[zaX,List.any_nil,Bool.or_false,KeyKind.is_eq_decide hk k']
  ·rintro u s' ⟨h',m,done,rfl,sb,F,hm,hS⟩
   rw[Gp]at F
   exact HI (h h' m sb (by simpa using hm) (hS.at' (fun _ z=>z) (a2 done F) rfl))
end
theorem sS:entryFor table "set.__or__" = some Builtin.«frozenset.__or__»:=entryFor_alias (id' := "frozenset.__or__") (by kernel_rfl) rfl (by decide +kernel) (by kernel_rfl)
section
variable{prog:Program}{w:World}{K:Type}[DecidableEq K]{knd:KeyKind prog w K}{A:Around}{E:Value→Shared→Prop}{s:Shared}
theorem Du.ty{G:SetTable→Prop}{h:Heap}{a:Addr}{S:K→Bool}{n:Nat}(x:Du knd G h a S n)(s:Shared)(e:s.heap=h):s.TypeIs (.ref a) "set" := by
 obtain⟨o,es,J,t,F,T⟩:=x
 subst e;exact⟨o,F,T.ex.1⟩
theorem EA{a b:Addr}{S1 S2:K→Bool}{n1 Y:Nat}{Q:Value→Shared→Prop}(ag:a≠b)(ha:Du knd (bE (bv w)) s.heap a S1 n1)(hb:Du knd (bE (bv w)) s.heap b S2 Y)(hn:n1+Y≤60)
  (h:∀ h' m tk,(∀ c o,s.heap.get? c=some o→h'.get? c=some o)→m≤n1+Y→Du knd (bE (bv w)) h' s.heap.objs.size (fun k=>S1 k||S2 k) m→Q (.ref s.heap.objs.size) { s with heap:=h',toks:=tk }) :
  wpAny (model prog w) A (binaryOp .BitOr (.ref a) (.ref b)) Q E s:=by
 have ta:s.TypeIs (.ref a) "set" := ha.ty s rfl
 have tb:s.TypeIs (.ref b) "set" := hb.ty s rfl
 refine wpAny_binaryOp_same (T := "set") ta tb F.fills_set_or F.slot_set_or (wpAny_call_entry F.slot_set_or ta sS ?_ (F.args_set_or_2 _ _))
 unfold Builtin.«frozenset.__or__»
 show wpAny _ _ (Builtin.Frozenset.slot1 "__or__" ⟨[.ref a,.ref b],[]⟩ >>= _) _ _ _
 refine HG (m:=Builtin.Frozenset.slot1 "__or__" ⟨[.ref a,.ref b],[]⟩) (HI (a:=(Value.ref a,Value.ref b)) ?_)
 dsimp only
 simp only[sT,if_false]
 have S:∀ (c:Addr) (s':Shared) (R:Bool→Shared→Prop),s'.TypeIs (.ref c) "set" → R true s'→wpAny (model prog w) A.in1 (Builtin.Frozenset.isAnySet (.ref c)) R E s':=fun c s' R ht hR=>by
  unfold Builtin.Frozenset.isAnySet;show wpAny _ _ (isInstance (Value.ref c) (Value.type "set") >>= _) _ _ _
  refine HG (wpAny_isInstance ht sub_set_self ?_)
  exact HI hR
 have a2:s={ s with heap:=s.heap }:=by cases s; rfl
 refine HG ?_
 show wpAny _ _ (Builtin.Frozenset.isAnySet (Value.ref a) >>= _) _ _ _
 refine HG (S a s _ ta ?_)
 refine S b s _ tb ?_
 simp only[GG,sT,if_false]
 refine HG (HI ?_)
 refine HG ?_
 show wpAny _ _ (Builtin.Frozenset.copyOf a >>= _) _ _ _
 unfold Builtin.Frozenset.copyOf Builtin.Frozenset.baseOf;refine HG ?_
 refine HG ?_
 refine HG (wpAny_isInstance ta sub_set_self ?_)
 refine HI ?_
 simp only[if_true]
 unfold newSet setsByText;refine HG ?_
 refine HG (HG (wpAny_askSetting (HI ?_)))
 dsimp only
 simp only[newObj]
 refine HG (wpAny_alloc (HI ?_))
 generalize hh0:s.heap.push _=g0
 have k0:∀ c o,s.heap.get? c=some o→g0.get? c=some o:=fun c o e=>by rw[← hh0]; exact zD _ e
 have n0:g0.get? s.heap.objs.size=some { cls:=.type "set", dict:=none,data:=.set #[] 0 (.fresh 0 0 (bv w)) }:=by rw[← hh0]; exact wd _ rfl
 have x0:Ga knd (bv w) g0 s.heap.objs.size (fun _=>false) 0 7:=⟨_,#[],0,_,n0,⟨⟨rfl,rfl,rfl⟩,rfl,fun e he=>by simp at he,fun k=>by simp,by decide,rfl,rfl,⟨rfl,fun a b ha=>absurd ha (G0 _)⟩,List.Pairwise.nil⟩,by show (7:Nat)+1∈[8,16,32,64,128,256]; decide,zg _,rfl⟩
 have na:s.heap.objs.size≠a:=by
  obtain⟨o,_,_,_,ho,_⟩:=ha
  exact zB (zM (zA ho))
 have nb:s.heap.objs.size≠b:=by
  obtain⟨o,_,_,_,ho,_⟩:=hb
  exact zB (zM (zA ho))
 refine HG (HI ?_)
 refine HG (w5 (s:={ s with heap:=g0 }) na x0 (ha.at' (fun o e=>k0 a o e) (fun _=>rfl) rfl) (by omega) fun W as a0 x1=>?_)
 refine HI ?_
 rw[HS (by simpa using zB ag)]
 refine HG (HI ?_)
 have k1:∀ c o,s.heap.get? c=some o→W.get? c=some o:=fun c o e=>by
  have hc:c≠s.heap.objs.size:=zM (zA e)
  rw[as.2 c hc]; exact k0 c o e
 have O:=hb.at' (h':=W) (fun o e=>k1 b o e) (fun _=>rfl) rfl
 refine HG (wpAny_holding ?_)
 unfold Builtin.Frozenset.updateFrom;refine HG (S b _ _ (O.ty _ rfl) ?_)
 simp only[if_true]
 refine HG (HI ?_)
 unfold Builtin.Frozenset.merge;obtain⟨ob,eb,pb,a3,ad,Tb⟩:=id O
 have aa:∀ (s':Shared) (R:Nat→Shared→Prop),s'.heap.get? b=some ob→R pb s'→wpAny (model prog w) A.in1 (setEpoch b) R E s':=fun s' R hg hR=>by
  unfold setEpoch;exact HG (wpAny_setState_of hg Tb.dat Tb.fit (HI hR))
 refine HG (aa _ _ ad ?_)
 have J:∀ h' m,Heap.SameBut s.heap.objs.size W h'→m≤n1+Y→Du knd (bE (bv w)) h' s.heap.objs.size (fun k=>S1 k||S2 k) m→wpAny (model prog w) A.in1 (pure (Value.ref s.heap.objs.size)) (fun a s'=>wpAny (model prog w) A.in1 (ret a) (fun J s'=>∃ v,J=Fin.done (Flow.ret v)∧v≠Value.notImplemented∧Q v s') E s') E { s with heap:=h' }:=fun h' m Z hm x=>by
  refine HI (HI ⟨_,rfl,fun z=>(nomatch z),h h' m s.toks (fun c o e=>?_) hm x⟩)
  have hc:c≠s.heap.objs.size:=zM (zA e)
  rw[Z.2 c hc]; exact k1 c o e
 by_cases hn0:n1=0
 ·have eg:=a0 hn0
  have a1:W=g0:=eg
  subst a1
  have an:∀ k,S1 k=false:=fun k=>by
   obtain⟨o,es,ep,t,ho,T⟩:=x1
   cases q:S1 k with
   | false=>rfl
   | true=>
    obtain⟨x,hx,_⟩:=(T.mem k).mp q
    have:es = #[]:=by have:=T.num; rw[hn0]at this; simpa using this
    rw[this]at hx; cases hx
  refine w5 (s:={ s with heap:=W }) nb x0 O (by omega) fun h' Z _ x=>J h' Y Z (by omega) (x.at' (fun _ z=>z) (fun k=>by rw[an k]; rfl) rfl)
 ·refine Ex (s:={ s with heap:=W }) nb x1 O (by omega) hn (fun s' R hg hR=>?_) fun h' m Z hm x=>J h' m Z hm x
  unfold Builtin.Frozenset.unchanged;refine HG (aa s' _ (hg ob ad) ?_)
  rw[HP (by simp)]
  exact HI hR
end
def dX(P:Program)(w:World)(a:Addr)(ds:List Str):HO:=.ext fun h=>∃ S n,Du (strKind P w) (bE (bv w)) h a S n∧(∀ k,S k=true ↔ k∈ds)∧ds.Nodup∧ds.length=n
def Bo(K:W.Frag)(SO:Addr→List Str→HO):List V→Hp→VK→Prop:=fun xs H Q=>∃ p,∃ ns:List Str,xs=[.ref p]∧rd K H p (ns.map V.str)∧ns.length≤60∧∀ (l:Addr) (ds:List Str),H l=none→ds.Nodup→(∀ x,x∈ds ↔ x∈ns)→ds.length≤ns.length→Q (.ref l) (upd H l (SO l ds))
def Eb(SO:Addr→List Str→HO):R2:=fun x y H Q=>∃ a b ds es,x = .ref a∧y = .ref b∧a≠b∧H a=some (SO a ds)∧H b=some (SO b es)∧ds.length+es.length≤60∧∀ (l:Addr) (us:List Str),H l=none→us.Nodup→(∀ x,x∈us ↔ x∈ds∨x∈es)→us.length≤ds.length+es.length→Q (.ref l) (upd H l (SO l us))
section
variable{X:Cx}
theorem uO{P:Program}{w:World}{H:Hp}{h:Heap}{a:Addr}{ds:List Str}{S:Str→Bool}{n:Nat}(x:Du (strKind P w) (bE (bv w)) h a S n)(J:∀ k,S k=true ↔ k∈ds)(nd:ds.Nodup)(hl:ds.length=n):Ax P w H h a (dX P w a ds):=by
 obtain⟨o,es,O,t,F,T⟩:=id x
 exact⟨⟨S,n,x,J,nd,hl⟩,⟨o,F⟩,fun h1 h2 ⟨S,n,g,r⟩ k=>⟨S,n,g.at' (fun o e=>k o e) (fun _=>rfl) rfl,r⟩⟩
theorem xu{m:Nat}(hr:Di m X.A){K:W.Frag}(hK:X.K=K):CV X (.type "set") (Bo K (dX X.prog X.w)):=by
 subst hK;intro pins s σ H xs us Q I r h
 obtain⟨p,ns,rfl,hq,h60,q⟩:=h
 obtain⟨u,rfl,ru⟩:=dU r
 cases ru;obtain⟨J,Z,pl,hz⟩:=I.list hq
 have Y:J.length=ns.length:=by rw[← Z.length,zc]
 refine xG (ns:=ns) hr.hd pl.isList (by simpa using ly Z) (by simp only[vx]; unfold scanBound; omega) fun h' tk hS hk=>?_
 obtain⟨ds,hg,O,F,S⟩:=sg hS
 refine⟨.ref s.heap.objs.size,_,I.laid (fun b o e=>hk b o (zA e) e) (zg _) (show Ax X.prog X.w _ h' _ (dX X.prog X.w s.heap.objs.size ds) from uO hS (fun k=>(F k).symm) O S),rfl,q _ ds (I.hok.fresh (zg _)) O (fun x=>?_) ?_⟩
 ·rw[F,uf]
  simp only[vx,List.any_map,Hl,HV]
  constructor
  ·rintro⟨i,hi,e⟩
   have e':ns.getD i "" = x:=by simpa using e
   rw[← e',zp,za (by omega)]
   exact zl _
  ·intro hx
   obtain⟨i,hi,e⟩:=HN.mp hx
   exact⟨i,by omega,by simp[zp,za hi,e]⟩
 ·rw[S]
  have:=oV (fun i=>ns.getD i "") J.toArray.size
  simp only[vx]at this ⊢
  omega
theorem Dg:D0 X (binaryOp .BitOr) (Eb (dX X.prog X.w)):=by
 intro pins s σ H x y v u Q I Z ry h
 obtain⟨a,b,ds,es,rfl,rfl,S,ha,hb,hn,q⟩:=h
 cases Z
 cases ry;obtain⟨S1,n1,g1,m1,d1,l1⟩:=(show Ax X.prog X.w H s.heap a (dX X.prog X.w a ds) from I.hok a _ ha).1
 obtain⟨S2,n2,g2,m2,d2,l2⟩:=(show Ax X.prog X.w H s.heap b (dX X.prog X.w b es) from I.hok b _ hb).1
 refine EA S g1 g2 (by omega) fun h' m Y hk hm W=>?_
 obtain⟨us,hg,J,F,O⟩:=sg W
 refine⟨.ref s.heap.objs.size,_,I.laid (t':=Y) hk (zg _) (show Ax X.prog X.w _ h' _ (dX X.prog X.w s.heap.objs.size us) from uO W (fun k=>(F k).symm) J O),rfl,q _ us (I.hok.fresh (zg _)) J (fun x=>?_) (by omega)⟩
 rw[F,GW,m1,m2]
theorem v4{m:Nat}(hr:Di m X.A):CV X (.builtin "sorted") (qf (dX X.prog X.w)):=by
 intro pins s σ H xs us Q I r h
 obtain⟨p,ds,rfl,e,h60,q⟩:=h
 obtain⟨u,rfl,ru⟩:=dU r
 cases ru;obtain⟨S,n,g,hm,nd,hl⟩:=(show Ax X.prog X.w H s.heap p (dX X.prog X.w p ds) from I.hok p _ e).1
 obtain⟨es',hg,aa,W,an⟩:=sg g
 obtain⟨o,es,ep,t,ho,hx,hd,ag,hf,ad,Y,Z⟩:=hg
 have O:es'.Perm ds:=(List.perm_ext_iff_of_nodup aa nd).mpr fun k=>by rw[W,hm]
 have hz:es.size≤60:=by
  have:=O.length_eq
  rw[← Z,zc,y0]at this
  omega
 have hs:sizeLine=16777216:=sizeLine_eq
 refine vw hr.hd ho hx hd hf (by omega) ad Y fun h' d' tk qa out c J hk hq hc a1 a2 a3=>?_
 have hl:J.length≤60:=by rw[a2.length_eq,zc,y0]; exact hz
 have F:=I.laid (t':=tk) (a:=qa) (o:=.lst (J.map V.str)) hk hq (show Ax X.prog X.w _ h' _ (.lst (J.map V.str)) from ⟨by rw[zc]; omega,out.toList,c,lH a1,by simpa using hc⟩)
 refine⟨.ref qa,_,?_,rfl,q _ J (I.hok.fresh hq) ((by rw[← Z]at O; exact a2.trans O)) a3⟩
 exact⟨F.ok,F.os,F.bare,F.base,F.loc,F.cell,F.free,F.freeC,F.pin,F.hok,F.len⟩
theorem kB{m:Nat}(K:W.Frag)(P:Program)(w:World)(hr:Di m X.A)(F:X.K=K:=by rfl)(hw:X.w=w:=by rfl)(hP:X.prog=P:=by rfl):CV X (.type "set") (Bo K (dX P w)):=hP ▸ hw ▸ xu hr F
theorem mq{m:Nat}(P:Program)(w:World)(hr:Di m X.A)(F:X.w=w:=by rfl)(hP:X.prog=P:=by rfl):CV X (.builtin "sorted") (qf (dX P w)):=hP ▸ F ▸ v4 hr
theorem BW(P:Program)(w:World)(F:X.w=w:=by rfl)(hP:X.prog=P:=by rfl):D0 X (binaryOp .BitOr) (Eb (dX P w)):=hP ▸ F ▸ Dg
end
def jP(xs:List V)(lo hi st:Option Int):List V:=(sliceRange (sliceBounds lo hi st xs.length).1 (sliceBounds lo hi st xs.length).2.1 (sliceBounds lo hi st xs.length).2.2).filterMap fun i=>xs[i]?
theorem lI{xs:List V}{us:List Value}(r:wh xs us):∀ is:List Nat,wh (is.filterMap fun i=>xs[i]?) (is.filterMap fun i=>us.toArray[i]?)
 | []=>.nil
 | i::is=>by
  cases e:xs[i]? with
  | none=>
   have F:us.toArray[i]? = none:=by simpa using r.none_of e
   rw[Hw e,Hw F];exact lI r is
  | some x=>
   obtain⟨u,J,O⟩:=r.get e
   have F:us.toArray[i]? = some u:=by simpa using J
   rw[Hj e,Hj F];exact .cons O (lI r is)
theorem As{xs:List V}{lo hi st:Option Int}{v:V}(h:v∈jP xs lo hi st):v∈xs:=by
 obtain⟨i,_,e⟩:=Ik.mp h
 exact zX e
def GM(K:W.Frag):V→Option Int→Option Int→Option Int→Hp→VK→Prop:=fun x lo hi st H Q=>∃ a xs,x = .ref a∧rd K H a xs∧st≠some 0∧(jP xs lo hi st).length≤sizeLine∧∀ p,H p=none→Q (.ref p) (upd H p (.lst (jP xs lo hi st)))
def Fc(r:V→Option Int→Option Int→Option Int→Hp→VK→Prop)(te:TE)(tl th ts:TO):TE:=fun σ H Q=>te σ H fun x H1=>tl σ H1 fun l H2=>th σ H2 fun u H3=>ts σ H3 fun k H4=>r x l u k H4 Q
theorem Co{r:V→Option Int→Option Int→Option Int→Hp→VK→Prop}{te:TE}{tl th ts:TO}{σ : St}{H:Hp}{Q:VK}:Fc r te tl th ts σ H Q=te σ H fun x H1=>tl σ H1 fun l H2=>th σ H2 fun u F=>ts σ F fun k J=>r x l u k J Q:=rfl
section
variable{X:Cx}{e:Expr}{te:TE}{lo hi:Option Expr}{st:Expr}{tl th ts:TO}{pos p2:Pos}
theorem yE(K:W.Frag)(he:PE X e te)(hl:PO X lo tl)(hu:PO X hi th)(Z:PO X (some st) ts)(hK:X.K=K:=by rfl):PE X (.Subscript e (.Slice lo hi (some st) p2) pos) (Fc (GM K) te tl th ts):=by
 subst hK;intro pins s σ H Q I h
 refine Subscript_ (bc (he pins s σ H _ I h) fun v s1 ⟨x,H1,I1,r1,q1⟩=>?_)
 refine wpAny_Slice (bc (hl pins s1 σ H1 _ I1 q1) fun vl s2 ⟨l,H2,I2,pl,q2⟩=>bc (hu pins s2 σ H2 _ I2 q2) fun vu s3 ⟨u,H3,I3,pu,q3⟩=>bc (Z pins s3 σ H3 _ I3 q3) fun vs O ⟨k,H4,I4,ps,q4⟩=>?_)
 obtain⟨a,xs,rfl,hx,h0,J,q⟩:=q4
 cases r1;have S:Inv X pins σ H4 { O with heap:=O.heap.push { cls:=.type "slice", data:=.fields #[vl,vu,vs] } }:=I4.kept (t':=O.toks) fun b ob q=>zD _ q
 obtain⟨F,r,ht,hz⟩:=S.list hx
 have Y:=r.length;refine tail_any (ops:=[.ref a,.ref O.heap.objs.size]) ht.isList.typeIs slot_list_getitem.lookup ?_ (by with_unfolding_all rfl)
 refine wpAny_getItem_list_slice ht.isList (Heap.IsSliceOf.new ..) pl pu ps h0 ?_ (by rw[vx] <;> omega)
 have ev:wh (jP xs l u k) ((sliceRange (sliceBounds l u k xs.length).1 (sliceBounds l u k xs.length).2.1 (sliceBounds l u k xs.length).2.2).filterMap fun i=>F.toArray[i]?):=lI r _
 have es:slicePick F.toArray l u k=((sliceRange (sliceBounds l u k xs.length).1 (sliceBounds l u k xs.length).2.1 (sliceBounds l u k xs.length).2.2).filterMap fun i=>F.toArray[i]?).toArray:=by
  unfold slicePick;rw[vx,← Y]
 rw[es];exact⟨.ref _,_,S.laid (t':=O.toks) (o:=.lst (jP xs l u k)) (fun b ob q=>zD _ q) (zg _) ⟨J,_,0,ev,wd _ rfl⟩,rfl,q _ (S.hok.fresh (zg _))⟩
end
end L2
namespace L2
open PySem PySem.Spec PyProof.Rows
section
variable{X:Cx}{n:Nat}(P:Program)(w:World)(hr:Di n X.A)
include hr
theorem nH(F:X.prog=P:=by rfl)(hw:X.w=w:=by rfl):D0 X (compareOp .NotIn) (ug P w):=by subst F hw; exact wN hr
theorem wU(F:X.prog=P:=by rfl)(hw:X.w=w:=by rfl):FH X (Br P w):=by subst F hw; exact Fp hr
theorem nG{F S:Expr}{O J:TE}{pos:Pos}(W:PE X F O)(hv:PE X S J)(Y:X.prog=P:=by rfl)(hw:X.w=w:=by rfl):PE X (.Dict [some F] [S] pos) (pD P w O J):=by subst Y hw; exact x_ hr W hv
end
theorem pC:∀ (names:List (Str × NameKind)) (n:Nat) (acc:List (Str × Addr)) {x:Str} {c:Addr},(cellsFrom n names acc).lookup x=some c→acc.lookup x=some c∨(n≤c∧(x,NameKind.cell)∈names)
 | [],n,acc,x,c,h=>.inl h
 | (nm,k)::r,n,acc,x,c,h=>by
  unfold cellsFrom at h;split at h
  ·rename_i hk
   have J:k = .cell:=by simpa using hk
   rcases pC r (n+1) _ h with z | ⟨O,F⟩
   ·rw[ph]at z
    cases hx:(x == nm) with
    | true=>
     rw[hx]at z
     have W:x=nm:=by simpa using hx
     have S:n=c:=Option.some.inj z
     rw[W,J]; exact .inr ⟨Nat.le_of_eq S,wZ⟩
    | false=>rw[hx]at z; exact .inl z
   ·exact .inr ⟨by omega,zU _ F⟩
  ·rcases pC r n _ h with z | ⟨O,F⟩
   ·exact .inl z
   ·exact .inr ⟨O,zU _ F⟩
theorem q0:∀ (names:List (Str × NameKind)) (n:Nat) (acc:List (Str × Addr)),(∀ (x:Str) (c:Nat),acc.lookup x=some c→c<n)→(∀ x y c,acc.lookup x=some c→acc.lookup y=some c→x=y)→
  ∀ x y c,(cellsFrom n names acc).lookup x=some c→(cellsFrom n names acc).lookup y=some c→x=y
 | [],n,acc,hb,hi=>hi
 | (nm,k)::r,n,acc,hb,hi=>by
  unfold cellsFrom;split
  ·refine q0 r (n+1) _ (fun x c h=>?_) fun x y c h1 h2=>?_
   ·rw[ph]at h
    cases hx:(x == nm) with
    | true=>rw[hx]at h; have q:(n:Nat)=c:=Option.some.inj h; omega
    | false=>rw[hx]at h; have:=hb x c h; omega
   ·rw[ph]at h1 h2
    cases hx:(x == nm) with
    | true=>
     rw[hx]at h1
     have e:(n:Nat)=c:=Option.some.inj h1
     have ex:x=nm:=by simpa using hx
     cases hy:(y == nm) with
     | true=>
      have F:y=nm:=by simpa using hy
      rw[ex,F]
     | false=>rw[hy]at h2; have:=hb y c h2; omega
    | false=>
     rw[hx]at h1
     cases hy:(y == nm) with
     | true=>rw[hy]at h2; have e:(n:Nat)=c:=Option.some.inj h2; have:=hb x c h1; omega
     | false=>rw[hy]at h2; exact hi x y c h1 h2
  ·exact q0 r n acc hb hi
theorem pA:∀ (names:List (Str × NameKind)) (h:Heap) (acc:List (Str × Addr)),(∀ x c,acc.lookup x=some c→∃ v,h.IsCell c v)→∀ x c,(cellsFrom h.objs.size names acc).lookup x=some c→∃ v,(pushCells h names).IsCell c v
 | [],h,acc,ha=>ha
 | (nm,k)::r,h,acc,ha=>by
  unfold cellsFrom pushCells;split
  ·have:=pA r (h.push { cls:=.type "cell", data:=.cell none }) ((nm,h.objs.size)::acc) fun x c e=>by
    rw[ph]at e
    cases hx:(x == nm) with
    | true=>rw[hx]at e; have F:h.objs.size=c:=Option.some.inj e; subst F; exact⟨none,_,wd _ rfl,rfl⟩
    | false=>rw[hx]at e; obtain⟨v,z⟩:=ha x c e; exact⟨v,z.keeps fun b o q=>zD _ q⟩
   rwa [u3]at this
  ·exact pA r h acc ha
theorem oE:∀ (names:List (Str × NameKind)) (n:Nat) (acc:List (Str × Addr)) {x:Str},(∃ c,acc.lookup x=some c)→∃ c,(cellsFrom n names acc).lookup x=some c
 | [],n,acc,x,h=>h
 | (nm,k)::r,n,acc,x,h=>by
  unfold cellsFrom;split
  ·refine oE r (n+1) _ ?_
   rw[ph]
   cases hx:(x == nm) with
   | true=>exact⟨_,rfl⟩
   | false=>exact h
  ·exact oE r n acc h
theorem rC:∀ (names:List (Str × NameKind)) (n:Nat) (acc:List (Str × Addr)) {x:Str},(x,NameKind.cell)∈names→∃ c,(cellsFrom n names acc).lookup x=some c
 | (nm,k)::r,n,acc,x,h=>by
  unfold cellsFrom;rcases HW.mp h with e | h
  ·have J:x=nm:=congrArg (·.1) e
   have F:NameKind.cell=k:=congrArg (·.2) e
   subst J F;rw[HS (by rfl)]
   refine oE r (n+1) _ ⟨n,?_⟩
   rw[ph,beq_self_eq_true]
  ·split
   ·exact rC r _ _ h
   ·exact rC r _ _ h
theorem oU:∀ (names:List (Str × NameKind)) (n:Nat) (acc:List (Str × Addr)) {x:Str},(x,NameKind.cell)∉names→(cellsFrom n names acc).lookup x=acc.lookup x
 | [],n,acc,x,h=>rfl
 | (nm,k)::r,n,acc,x,h=>by
  unfold cellsFrom;split
  ·rename_i hk
   have F:k = .cell:=by simpa using hk
   rw[oU r (n+1) _ fun z=>h (zU _ z),ph]
   cases hx:(x == nm) with
   | true=>exact absurd (by rw[show x=nm by simpa using hx,F]; exact wZ) h
   | false=>rfl
  ·exact oU r n acc fun z=>h (zU _ z)
theorem u6:∀ (names:List (Str × NameKind)) (n n0:Nat) (acc:List (Str × Addr)) {x:Str},n0≤n→(∀ c:Nat,acc.lookup x=some c→n0≤c)→∀ c:Nat,(cellsFrom n names acc).lookup x=some c→n0≤c
 | [],n,n0,acc,x,hn,h=>h
 | (nm,k)::r,n,n0,acc,x,hn,h=>by
  unfold cellsFrom;split
  ·refine u6 r (n+1) n0 _ (by omega) fun c e=>?_
   rw[ph]at e
   cases hx:(x == nm) with
   | true=>rw[hx]at e; have q:(n:Nat)=c:=Option.some.inj e; omega
   | false=>rw[hx]at e; exact h c e
  ·exact u6 r n n0 acc hn h
theorem rW:∀ (names:List (Str × NameKind)) (n:Nat) (acc:List (Str × Addr)) {x:Str},(x,NameKind.cell)∈names→∀ c:Nat,(cellsFrom n names acc).lookup x=some c→n≤c
 | (nm,k)::r,n,acc,x,h,c,e=>by
  unfold cellsFrom at e;rcases HW.mp h with z | h
  ·have J:x=nm:=congrArg (·.1) z
   have F:NameKind.cell=k:=congrArg (·.2) z
   subst J F;rw[HS (by rfl)]at e
   refine u6 r (n+1) n _ (by omega) (fun c q=>?_) c e
   rw[ph,beq_self_eq_true]at q
   have q:(n:Nat)=c:=Option.some.inj q; omega
  ·split at e
   ·have:=rW r _ _ h c e; omega
   ·exact rW r _ _ h c e
theorem fo{env:Env}{x:Str}{k:NameKind}:∀ {names:List (Str × NameKind)},
  (names.map fun (n,k)=>if (k == NameKind.free&&env.scope.kind == .function&&env.kindOf n == some .cell) then (n,NameKind.cell) else (n,k)).lookup x=some k→(k = .cell∨k = .free)→(x,NameKind.free)∈names∨(x,NameKind.cell)∈names
 | [],h,_=>by simp at h
 | (n,k0)::r,h,hk=>by
  have ih:=@fo env x k r;rw[xq]at h
  by_cases hf:(k0 == NameKind.free&&env.scope.kind == .function&&env.kindOf n == some .cell)=true
  ·have F:k0 = .free:=by
    have:(k0 == NameKind.free)=true:=by
     rw[sG,sG]at hf; exact hf.1.1
    simpa using this
   dsimp only at h
   rw[HS hf,ph]at h
   cases hx:(x == n) with
   | true=>
    have:x=n:=by simpa using hx
    rw[this,F]; exact .inl wZ
   | false=>
    rw[hx]at h
    rcases ih h hk with z | z
    ·exact .inl (zU _ z)
    ·exact .inr (zU _ z)
  ·dsimp only at h
   rw[HP hf,ph]at h
   cases hx:(x == n) with
   | true=>
    rw[hx]at h
    have e:k0=k:=Option.some.inj h
    have:x=n:=by simpa using hx
    rcases hk with z | z
    ·rw[this,e,z]; exact .inr wZ
    ·rw[this,e,z]; exact .inl wZ
   | false=>
    rw[hx]at h
    rcases ih h hk with z | z
    ·exact .inl (zU _ z)
    ·exact .inr (zU _ z)
theorem tz{env:Env}{x:Str}:∀ {names:List (Str × NameKind)},(names.map fun (n,k)=>if (k == NameKind.free&&env.scope.kind == .function&&env.kindOf n == some .cell) then (n,NameKind.cell) else (n,k)).lookup x=some .local→(x,NameKind.local)∈names:=by
 intro names
 induction names with
 | nil=>intro z; simp at z
 | cons y r ih=>
  obtain⟨n,k⟩:=y
  intro z
  rw[xq]at z
  dsimp only at z
  by_cases hfk:(k == NameKind.free&&env.scope.kind == .function&&env.kindOf n == some .cell)=true
  ·rw[HS hfk,ph]at z
   cases hx:(x == n) with
   | true=>rw[hx]at z; cases z
   | false=>rw[hx]at z; exact zU _ (ih z)
  ·rw[HP hfk,ph]at z
   cases hx:(x == n) with
   | true=>
    rw[hx]at z
    have J:k = .local:=Option.some.inj z
    have F:x=n:=by simpa using hx
    rw[J,F]; exact wZ
   | false=>rw[hx]at z; exact zU _ (ih z)
theorem BQ{M:Model}{A:Around}{E:Value→Shared→Prop}{s:Shared}{scope:Scope}{J:Addr}{O:List (Str × Addr)}{W:Str}{S:Option Addr}{code:Value}{env:Env}{F:Addr}{Q:Env→Shared→Prop}
  (Y:Q (newEnv scope s.heap.objs.size J (cellsFrom (s.heap.objs.size+1) scope.names O) W S code (some env) F) { s with heap:=pushCells (s.heap.push { cls:=.type "dict", data:=.dict #[] }) scope.names }) :
  wpAny M A (newFunctionEnv scope J O [] W S code (some env) F) Q E s:=by
 simp only[newFunctionEnv,Option.isSome_some,if_true]
 refine HG (wpAny_alloc ?_)
 refine HG (wpAny_layCells _ (fun name kind cells=>by cases hkc:kind == NameKind.cell <;> simp[hkc]) _ _ _ _ ?_)
 rw[show ({ s with heap:=s.heap.push { cls:=.type "dict", data:=.dict #[] } }:Shared).heap.objs.size=s.heap.objs.size+1 from u3 ..];refine HG ?_
 rw[za9];exact HI (HI Y)
def y_(scope:Scope)(x:Str):Bool:=scope.names.any fun y=>y.1 == x&&y.2 == .cell
def cg(X:Cx)(N0 T:List Str)(scope:Scope)(C:Addr)(fp:List Addr)(s:Shared)(H:Hp):Cx:=
 { X with N:=N0++T,s₀:=s,H₀:=H,env:=compEnvC scope (cellsFrom (C+1) scope.names (cZ X.env.cells scope.names [])) C X.env,outer:=X.stack,stack:=X.stack,ex:=fp,fn:=y_ scope,pn:=[],xe:=fun _ _=>False }
structure kI (X:Cx) (N0 T:List Str) (scope:Scope):Prop where
 kind:scope.kind = .function
 names:∀ y∈scope.names,y.2 = .local→scope.names.lookup y.1=some .local
 free:∀ y∈scope.names,y.2 = .free→X.env.kindOf y.1=some .cell∨X.env.kindOf y.1=some .free
 apart:∀ y∈scope.names,y.2 = .local∨y.2 = .cell→y.1∉N0
 len0:N0.length=X.N.length
 same:∀ (i:Nat) (x:Str) (k:NameKind),N0[i]? = some x→(x,k)∈scope.names→X.N[i]? = some x
section
variable{X:Cx}{N0 T:List Str}{scope:Scope}{tg elt Ai:Expr}{ifs:List Expr}{pos:Pos}{wi:TI}{g:TG}{tc:TT}{te:TE}
theorem vM{pins:List (Addr × Obj)}{σ : St}{H:Hp}{s:Shared}{E:Value→Shared→Prop}{it:Addr}{fp:List Addr}{tn:Nat→Heap→Prop}{J:It}{Q:VK}{RR:Value→Addr→Result→Shared→Prop}
  (S:kI X N0 T scope) (hc:X.calm=true)
  (hg:∀ C fp s H,PG (cg X N0 T scope C fp s H) tg g) (cm:p5 g X.N.length) (hi:∀ C fp s H,FX (cg X N0 T scope C fp s H) ifs tc) (he:∀ C fp s H,PE (cg X N0 T scope C fp s H) elt te)
  (I:Inv X pins σ H s) (Tn:mP X.prog X.w X.K tg J fp it tn) (st:tn 0 s.heap) (hf:∀ b∈fp,iA X pins H b)
  (h:∀ D,H D=none→gs J g tc te T.length σ D Q (upd H D (.lst [])))
  (b9:∀ D C s' H' m,s'.heap.Ns C m→H' C=none→C≠X.env.locals→(∀ x c,X.env.cells.lookup x=some c→c≠C)→(∀ p∈X.pn++pins,p.1≠C)→X.s₀.heap.objs.size≤C→Inv X pins σ H' s'→
   (∀ h',Heap.SameBut C s'.heap h'→Inv X pins σ H' { s' with heap:=h' })→Q (.ref D) H'→RR (.ref D) C (.ok .next) s') :
  wpAny (model X.prog X.w) X.A (newList []) (fun acc s₃=>wpAny (model X.prog X.w) X.A (newFunctionEnv scope X.env.globals (cZ X.env.cells scope.names []) [] X.env.qual none .none (some X.env)) (fun a0 s₄=>
   codeAny (model X.prog X.w) X.A (.compStart (.ListComp elt [⟨tg,Ai,ifs,0⟩] scope pos) 0 (.ref it) acc { a0 with scope:=relabel scope X.env }) (RR acc a0.locals) s₄) E s₃) E s:=by
 refine wpAny_newObj_type (BQ ?_)
 dsimp only
 generalize hH2:s.heap.push { cls:=.type "list", dict:=none,data:=.seq ([]:List Value).toArray }=P2 at ⊢;have hC:P2.objs.size=s.heap.objs.size+1:=by rw[← hH2,u3]
 -- the new list D, the block's names C
 obtain⟨D,hD⟩ : ∃ D:Nat,D=s.heap.objs.size:=⟨_,rfl⟩
 obtain⟨C,ad⟩ : ∃ C:Nat,C=P2.objs.size:=⟨_,rfl⟩
 obtain⟨h₁,as⟩ : ∃ h₁:Heap,h₁=pushCells (P2.push { cls:=.type "dict", data:=.dict #[] }) scope.names:=⟨_,rfl⟩
 have b4:∀ b o,P2.get? b=some o→h₁.get? b=some o:=fun b o e=>as ▸ pushCells_keeps _ _ b o (zD _ e)
 have b1:h₁.Ns C (fun _=>none):=by rw[as,ad]; exact(Heap.Ns.new P2 (.type "dict")).keeps (pushCells_keeps _ _)
 have bS:(P2.push { cls:=.type "dict", data:=.dict #[] }).objs.size=C+1:=by rw[u3,ad]
 rw[← as,← ad];rw[← hD]at hC ⊢
 rw[← ad]at hC
 have cl:D≠C:=by omega
 have Z:D<C:=by omega
 have a7:∀ b o,s.heap.get? b=some o→b≠D:=fun b o e=>hD ▸ zM (zA e)
 have Y:∀ b o,s.heap.get? b=some o→b≠C:=fun b o e=>zM (GH (hD ▸ zA e) Z)
 have ag:∀ b o,s.heap.get? b=some o→h₁.get? b=some o:=fun b o e=>b4 b o (hH2 ▸ zD _ e)
 have bA:H D=none:=I.hok.fresh (by omega)
 have cn:H C=none:=I.hok.fresh (by omega)
 have dat:h₁.get? D=some { cls:=.type "list", data:=.seq ([]:List Value).toArray 0 }:=by
  refine b4 _ _ ?_
  rw[← hH2,hD];exact wd _ rfl
 -- the block's context stands
 have O:∀ x c,(cZ X.env.cells scope.names []).lookup x=some c→X.env.cells.lookup x=some c:=fun x c e=>
  jT (fun y hy hk=>I.ok.has y.1 (S.free y hy hk)) (fun y c z=>by simp at z) e
 have cp:∀ (x:Str) (c:Nat),X.env.cells.lookup x=some c→c<D:=fun x c e=>by obtain⟨v,z⟩:=I.cell x c e; rw[hD]; exact z.lt
 have b3:∀ (x:Str) (c:Nat),(cellsFrom (C+1) scope.names (cZ X.env.cells scope.names [])).lookup x=some c→X.env.cells.lookup x=some c∨C<c:=fun x c e=>by
  rcases pC _ _ _ e with z | ⟨z,_⟩
  ·exact .inl (O x c z)
  ·exact .inr z
 have aa:(cg X N0 T scope C fp s H).Ok:=by
  refine⟨I.ok.mod,?_,I.ok.glob,I.ok.blt,?_,q0 _ _ _ (fun x c e=>?_) (fun x y c e1 e2=>I.ok.inj x y c (O x c e1) (O y c e2)),fun x hx=>?_,fun x c z e=>?_,I.ok.hd,I.ok.frames,.inl rfl,fun b F=>⟨?_,fun x c e=>?_⟩,
   I.bs,?_,fun b o e F=>?_,fun b F z=>?_,I.stack,I.stkFree⟩
  ·show (relabel scope X.env).kind = .function
   exact S.kind
  ·show s.heap.objs.size≤C
   omega
  ·have:=cp x c (O x c e); omega
  ·have cb:(relabel scope X.env).names.lookup x=some .cell∨(relabel scope X.env).names.lookup x=some .free:=hx
   have m:(x,NameKind.free)∈scope.names∨(x,NameKind.cell)∈scope.names:=by
    rcases cb with z | z
    ·exact fo z (.inl rfl)
    ·exact fo z (.inr rfl)
   rcases m with m | m
   ·exact oE _ _ _ (gq m)
   ·exact rC _ _ _ m
  ·have m:(x,NameKind.cell)∈scope.names:=by
    obtain⟨y,hy,q⟩:=List.any_eq_true.mp (show y_ scope x=true from z)
    rw[sG]at q
    have q1:y.1=x:=by simpa using q.1
    have q2:y.2 = .cell:=by simpa using q.2
    rw[← q1,← q2]; exact hy
   have:=rW _ _ _ m c e
   show s.heap.objs.size≤c
   omega
  ·show b≠C
   obtain⟨o,e,_⟩:=Tn.obj 0 _ st b F
   exact Y b o e
  ·rcases b3 x c e with z | z
   ·exact(hf b F).2.2.2.2.1 x c z
   ·obtain⟨o,e,_⟩:=Tn.obj 0 _ st b F
    have q:@LT.lt Nat _ b s.heap.objs.size:=zA e
    intro ca
    have cq:@Eq Nat c b:=ca
    have zz:C<c:=z
    omega
  ·exact vg I.ok.bsz I.sz
  ·obtain⟨_,_,_,z,_⟩:=hf b F
   rcases z with z | z
   ·exact I.ok.noex b o e z
   ·exact absurd (va (va (zA e) I.ok.bsz) z) (Hc _)
  ·obtain⟨_,z1,z2,_⟩:=hf b F
   rcases HW.mp (I.stkSub b z) with q | q
   ·exact z1 q
   ·exact z2 q
 have I1:Inv (cg X N0 T scope C fp s H) [] (σ++List.replicate T.length none) (upd H D (.lst [])) { s with heap:=h₁ }:=by
  refine⟨aa,rfl,I.bare,Un.laid (h:=s.heap) ag (by omega) bA,⟨_,b1,fun i x v e1 e2 e3=>?_⟩,fun x c e=>?_,?_,fun x c e=>?_,fun p hp=>(by simp[cg]at hp),I.hok.laid ag (by omega) ?_,?_⟩
  ·have a3:(N0++T)[i]? = some x:=e1
   have hl:=I.len;have cr:=S.len0
   have hi:i<σ.length:=by
    rcases x6 i σ.length with z | z
    ·exact z
    ·rw[yS z]at e2
     rw[Hi]at e2
     split at e2 <;> cases e2
   rw[vt hi]at e2
   rw[vt (by omega)]at a3
   have b2:x∈N0:=zX a3
   have cf:(relabel scope X.env).names.lookup x=some .local∨(relabel scope X.env).names.lookup x=some .cell∨(relabel scope X.env).names.lookup x=some .free:=e3
   have a4:(x,NameKind.cell)∉scope.names:=fun m=>S.apart _ m (.inr rfl) b2
   have fr:(relabel scope X.env).names.lookup x=some .cell∨(relabel scope X.env).names.lookup x=some .free:=by
    rcases cf with z | z | z
    ·exact absurd b2 (S.apart (x,.local) (tz z) (.inl rfl))
    ·exact .inl z
    ·exact .inr z
   have m:(x,NameKind.free)∈scope.names:=by
    rcases fr with z | z
    ·exact(fo z (.inl rfl)).resolve_right a4
    ·exact(fo z (.inr rfl)).resolve_right a4
   have kX:=S.free _ m rfl;obtain⟨mm,hn,b8⟩:=I.loc
   obtain⟨u,r,lk⟩:=b8 i x v (S.same i x _ a3 m) e2 (.inr kX)
   refine⟨u,r,.inr ⟨fr,?_⟩⟩
   rcases lk with ⟨z,_⟩ | ⟨_,c,ec,cc⟩
   ·rcases kX with q | q
    ·rw[q]at z; cases z
    ·rw[q]at z; cases z
   ·obtain⟨c',bp⟩:=gq (cells:=X.env.cells) (acc:=[]) m
    have:=O x c' bp
    rw[ec]at this; cases this
    exact⟨c,(oU _ _ _ a4).trans bp,cc.keeps ag⟩
  ·have q:=pA scope.names (P2.push { cls:=.type "dict", data:=.dict #[] }) (cZ X.env.cells scope.names []) (fun x c e=>by
    obtain⟨v,z⟩:=I.cell x c (O x c e)
    exact⟨v,z.keeps fun b o q=>zD _ (hH2 ▸ zD _ q)⟩) x c
   rw[bS,← as]at q
   exact q e
  ·show upd H D (.lst []) C=none
   rw[al (zB cl)]; exact cn
  ·rcases b3 x c e with e | e
   ·have q:=I.freeC x c e
    obtain⟨v,o,z,_⟩:=I.cell x c e
    rw[al (a7 c o z)]; exact q
   ·have e':C<c:=e
    have q1:c≠D:=fun q=>by have q':@Eq Nat c D:=q; omega
    rw[al q1]; exact I.hok.fresh (by omega)
  ·exact⟨yT _,[],0,.nil,dat⟩
  ·show (σ++List.replicate T.length none).length=(N0++T).length
   rw[zV,zV,zbB,I.len,S.len0]
 have a8:tn 0 h₁:=Tn.keep _ _ _ st fun b _ o e=>ag b o e
 have a6:∀ {H':Hp},(∀ b∈fp,H' b=none)→∀ b∈fp,iA (cg X N0 T scope C fp s H) [] H' b:=fun hn b F=>
  ⟨hn b F,(aa.exf b F).1,aa.exfs b F,.inl F,(aa.exf b F).2,fun p hp=>(by simp[cg]at hp)⟩
 have b6:∀ b∈fp,upd H D (.lst []) b=none:=fun b F=>by
  obtain⟨o,e,_⟩:=Tn.obj 0 _ st b F
  rw[al (a7 b o e)]; exact(hf b F).1
 obtain⟨W,⟨m0,w0⟩,bB⟩:=h D bA
 have a1:∀ s₃ : Shared,s₃={ s with heap:=h₁ }→
   codeAny (model X.prog X.w) X.A (.compLoop (.ListComp elt [⟨tg,Ai,ifs,0⟩] scope pos) 0 (.ref it) (.ref D) (compEnvC scope (cellsFrom (C+1) scope.names (cZ X.env.cells scope.names [])) C X.env)) (RR (.ref D) C) s₃:=by
  rintro s₃ rfl
  refine gD (fun n s'=>∃ i H' ys,Inv (cg X N0 T scope C fp s H) [] (σ++List.replicate T.length none) H' s'∧tn i s'.heap∧(∀ b∈fp,H' b=none)∧W i n ys H') ?_ m0 ⟨0,_,[],I1,a8,b6,w0⟩
  rintro n s3 ⟨i,H3,ys,I3,bz,a9,w3⟩
  rcases bB i n ys H3 w3 with ⟨stop,qn⟩ | ⟨go,step⟩
  ·refine bc (Tn.done (cg X N0 T scope C fp s H) rfl rfl rfl hc i [] s3 _ H3 (fun _ _=>False) I3 (a6 a9) bz stop) fun r s4 ⟨hr,I4⟩=>?_
   subst hr;obtain⟨m,hm,_⟩:=I4.loc
   have be:∀ b∈fp,(b∈X.ex∨X.s₀.heap.objs.size≤b)∧b≠X.env.locals∧(∀ x c,X.env.cells.lookup x=some c→c≠b)∧∀ p∈X.pn++pins,p.1≠b:=fun b F=>
    ⟨(hf b F).2.2.2.1,(hf b F).2.1,(hf b F).2.2.2.2.1,(hf b F).2.2.2.2.2⟩
   have u4:Un (eO X.stack) fp H H3 s.heap s4.heap:=I4.base
   refine b9 D C s4 H3 m hm I4.free (zB (zM (GH (hD ▸ I.lt) Z))) (fun x c e=>?_) (fun p hp=>?_) (vg (hD ▸ I.sz) (uV Z)) (I.call' (ch:=fp) I4.os u4 I4.hok I4.bare be) (fun h' an=>?_) qn
   ·obtain⟨v,o,q,_⟩:=I.cell x c e
    exact Y c o q
   ·exact Y _ _ (I.pin p hp).1
   ·refine I.call' (ch:=fp) (s':={ s4 with heap:=h' }) I4.os ⟨fun b o q n' F hx=>(an.2 b (Y b o q)).trans (u4.keep b o q n' F hx),fun b o q n' F hx=>?_,u4.free,fun b o q hx=>?_,u4.tups,u4.frzs,u4.tbls⟩ (I4.hok.sameBut an I4.free) I4.bare be
    ·obtain⟨sl,e⟩:=u4.slot b o q n' F hx
     exact⟨sl,(an.2 b (Y b o q)).trans e⟩
    ·obtain⟨o',e⟩:=u4.there b o q hx
     exact⟨o',(an.2 b (Y b o q)).trans e⟩
  ·refine bc (Tn.item (cg X N0 T scope C fp s H) rfl rfl rfl hc i [] s3 _ H3 (fun _ _=>False) I3 (a6 a9) bz go) fun r s4 ⟨u,hr,h4⟩=>?_
   subst hr;refine bc h4 fun _ s5 ⟨x,H5,I5,r5,y5,a5,cd⟩=>?_
   have b5:=I5.pinned (a6 cd) (Tn.obj _ _ a5);refine bc (hg C fp s H _ s5 _ H5 x u _ b5 r5 (cm _ _ _ _ (step x H5 y5))) fun _ s6 ⟨σ6,H6,I6,q6,l6,k6⟩=>?_
   have a2:∀ {H7:Hp} {s7:Shared},Inv (cg X N0 T scope C fp s H) ([]++j0 fp s5.heap) σ6 H7 s7→(∀ {m':Nat} {zs:List V},m'<n→W (i+1) m' zs H7→∃ m,m<n∧∃ i H' ys,Inv (cg X N0 T scope C fp s H) [] (σ++List.replicate T.length none) H' s7∧tn i s7.heap∧(∀ b∈fp,H' b=none)∧W i m ys H'):=fun {H7 s7} I7 {m' zs} hm w7=>by
    refine⟨m',hm,i+1,H7,zs,I7.unpinned.weak (by rw[l6]) (fun j v e=>?_),Tn.keep _ _ _ a5 fun b F o e=>(I7.pin (b,o) (y6 _ (y6 _ (eZ F e)))).1,fun b F=>?_,w7⟩
    ·have hj:j<σ.length:=by
      rcases x6 j σ.length with z | z
      ·exact z
      ·rw[yS z,Hi]at e
       split at e <;> cases e
     rw[k6 j (by rw[← I.len]; exact hj)]
     exact e
    ·obtain⟨o,e,d⟩:=Tn.obj _ _ a5 b F
     exact(I7.pin (b,o) (y6 _ (y6 _ (eZ F e)))).2.1
   refine bc (hi C fp s H _ s6 σ6 H6 _ I6 q6) fun b s7 ⟨H7,I7,q7⟩=>?_
   cases b with
   | false=>
    obtain⟨m',hm,w7⟩:=(show ∃ m',m'<n∧W (i+1) m' ys H7 from by simpa using q7)
    exact a2 I7 hm w7
   | true=>
    rw[HS rfl]at q7
    refine bc (he C fp s H _ s7 σ6 H7 _ I7 q7) fun v s8 ⟨y,H8,I8,r8,b7,hz,m',hm,w8⟩=>?_
    refine bc (ll (X:=cg X N0 T scope C fp s H) _ s8 σ6 H8 (.ref D) [y] (.ref D) [v] (fun _ H9=>H9=upd H8 D (.lst (ys++[y]))) I8 rfl (.cons r8 .nil) ⟨D,ys,y,rfl,rfl,b7,hz,rfl⟩) fun v9 s9 ⟨y9,H9,I9,_,e9⟩=>?_
    subst e9;exact a2 I9 hm w8
 exact codeAny_compStart_list (a1 _ rfl) (Tn.self X.A 0 _ _ _ a8 (a1 _ rfl))
theorem sr(S:kI X N0 T scope)(hc:X.calm=true)(hI:PI X tg Ai wi)
  (hg:∀ C fp s H,PG (cg X N0 T scope C fp s H) tg g) (Z:p5 g X.N.length) (hi:∀ C fp s H,FX (cg X N0 T scope C fp s H) ifs tc) (he:∀ C fp s H,PE (cg X N0 T scope C fp s H) elt te)
  (hs:∀ x,foldedSetIterable Ai X.env x=pure x:=by intro _; rfl):PE X (.ListComp elt [⟨tg,Ai,ifs,0⟩] scope pos) (qQ wi g tc te T.length):=by
 intro pins s σ H Q I h
 rw[eval_ListComp];refine wpAny_comprehension_free (use:=none) rfl hs (iR fun x hx hk=>I.ok.has x.1 (S.free x hx hk)) S.kind S.names (bc (hI pins s σ H _ I h) fun v s1 h1=>bc h1 fun ag s2 h2=>?_)
 obtain⟨it,fp,tn,J,H2,e,I2,Tn,Y,f2,q2⟩:=h2
 subst e;refine vM (RR:=fun acc C=>compPost (model X.prog X.w) X.A X.xe none (EP X pins σ Q) acc C) S hc hg Z hi he I2 Tn Y f2 q2 ?_
 intro D C s' H' m hn hC hL F ad O I' aa q
 exact⟨m,hn,fun h' W=>⟨.ref D,H',aa h' W,rfl,q⟩⟩
end
structure E8 (fsc:Scope) (N N0 T:List Str) (scope:Scope):Prop where
 kind:scope.kind = .function
 names:∀ y∈scope.names,y.2 = .local→scope.names.lookup y.1=some .local
 free:∀ y∈scope.names,y.2 = .free→fsc.names.lookup y.1=some .cell∨fsc.names.lookup y.1=some .free
 apart:∀ y∈scope.names,y.2 = .local∨y.2 = .cell→y.1∉N0
 len0:N0.length=N.length
 same:((N0.zip N).all fun p=>p.1 == p.2 || !(scope.names.any fun y=>y.1 == p.1))=true
theorem E8.to{X:Cx}{fsc:Scope}{N N0 T:List Str}{scope:Scope}(S:E8 fsc N N0 T scope)(h1:X.env.scope=fsc)(h2:X.N=N):kI X N0 T scope:=by
 subst h1 h2;refine⟨S.kind,S.names,S.free,S.apart,S.len0,fun i x k e m=>?_⟩
 have hl:=S.len0;have hi:i<N0.length:=(HL.mp e).1
 have F:X.N[i]? = some X.N[i]:=za (by omega)
 have hz:(x,X.N[i])∈N0.zip X.N:=zX (i:=i) (by rw[zbE]; exact⟨e,F⟩)
 have q:=Im.mp S.same _ hz;simp only[GW,beq_iff_eq,Bool.not_eq_true']at q
 rcases q with q | q
 ·rw[F,← q]
 ·have:(scope.names.any fun y=>y.1 == x)=true:=List.any_eq_true.mpr ⟨_,m,by simp⟩
  rw[this]at q; cases q
section
variable{X:Cx}{N0 T:List Str}{scope:Scope}{C:Addr}{fp:List Addr}{s:Shared}{H:Hp}{x:Str}
theorem zO(fsc:Scope)(h:(bi scope fsc).names.lookup x=some .globalImplicit)(e:X.env.scope=fsc:=by rfl):Gl (cg X N0 T scope C fp s H) x:=by subst e; exact h
theorem vN(fsc:Scope)(h:((bi scope fsc).names.lookup x=some .local||(bi scope fsc).names.lookup x=some .cell||(bi scope fsc).names.lookup x=some .free)=true)(e:X.env.scope=fsc:=by rfl):aq (cg X N0 T scope C fp s H).env.scope x:=by
 subst e;simp only[GW,decide_eq_true_eq]at h
 rcases h with (h | h) | h
 ·exact .inl h
 ·exact .inr (.inl h)
 ·exact .inr (.inr h)
theorem AY(fsc:Scope)(h:((bi scope fsc).names.lookup x=some .local||(bi scope fsc).names.lookup x=some .cell)=true)(e:X.env.scope=fsc:=by rfl):aQ (cg X N0 T scope C fp s H).env.scope x:=by
 subst e;simp only[GW,decide_eq_true_eq]at h
 rcases h with h | h
 ·exact .inl h
 ·exact .inr h
theorem EB(fsc:Scope)(h:(y_ scope x||(bi scope fsc).names.lookup x=some .local)=true)(e:X.env.scope=fsc:=by rfl):(cg X N0 T scope C fp s H).fn x=true∨(cg X N0 T scope C fp s H).env.scope.names.lookup x=some .local:=by
 subst e;simp only[GW,decide_eq_true_eq]at h
 rcases h with h | h
 ·exact .inl h
 ·exact .inr h
end
theorem rS{X:Cx}{n:Nat}(P:Program)(w:World)(hr:Di n X.A){o e:Expr}{F ty:TE}{apos cpos:Pos}(O:PE X o F)(S:PE X e ty)(m:M1 X o "get" apos e cpos) (J:X.prog=P:=by rfl) (hw:X.w=w:=by rfl):PE X (.Call (.Attribute o "get" apos) [e] [] cpos) (oG P w F ty):=by subst J hw; exact B0 hr O S m
theorem ql(P:Program)(w:World)(F ty:TE){σ : St}{H:Hp}{Q:VK}:oG P w F ty σ H Q=F σ H fun x H1=>∃ a kvs,x = .ref a∧DO P w H1 a kvs∧ty σ H1 fun y H2=>∃ b k kvs',y = .ref b∧DO P w H2 a kvs'∧EZ H2 k b∧Q ((aN kvs' k).getD .non) H2:=rfl
theorem nM(P:Program)(w:World)(J F:TE){σ : St}{H:Hp}{Q:VK}:pD P w J F σ H Q=∀ p,H p=none→∀ u,DO P w (upd H p u) p []→J σ (upd H p u) fun y H1=>F σ H1 fun z H2=>∃ b k,y = .ref b∧EZ H2 k b∧DO P w H2 p []∧∀ u',DO P w (upd H2 p u') p [(k,z)]→Q (.ref p) (upd H2 p u'):=rfl
structure vH (P:Program) (w:World) (K:W.Frag) (mg:Str→Option Value) (base:Heap) (k:Nat) (f:Addr) (ps:List Str) (sp:Sp):Prop where
 ex:∃ fd,EV P w K mg base mI k f fd ps sp∧Binds K fd ps []∧W.keepIn K (.ref f)=true
theorem C9.f{P:Program}{w:World}{K:W.Frag}{mg:Str→Option Value}{base:Heap}{k:Nat}{x:Str}{ps:List Str}{sp:Sp}(c:C9 P w K mg base k x ps sp):∃ f,mg x=some (.ref f)∧vH P w K mg base k f ps sp:=by
 obtain⟨f,fd,F,b,kp,m⟩:=c.ex
 exact⟨f,m,fd,F,b,kp⟩
def DQ(i:Nat)(f:Addr)(sp:Sp)(t:TA):TE:=fun σ H Q=>σ[i]? = some (some (.ref f))∧mf sp [] E0 t σ H Q
section
variable{X:Cx}
theorem BG{i j k:Nat}{f:Addr}{x:Str}{ps:List Str}{sp:Sp}{p pos:Pos}{e:Expr}{es:List Expr}{t:TA}(c:vH X.prog X.w X.K X.mg X.base j f ps sp)(hr:Di k X.A)(ha:PA X (e::es) t)(J:j≤k:=by decide)(hN:X.N[i]? = some x:=by rfl)(hv:aq X.env.scope x:=by first | exact vSs (by decide +kernel) | exact Or.inl rfl)
  (hd:(x == ("__debug__" : Str))=false:=by decide) (hcd:(x == ("__classdict__" : Str))=false:=by decide) (he:starEach (e::es) X.env=(false,eval e X.env)::starEach es X.env:=by rfl) (hpl:(backTo pos (starEach es X.env)).any (·.1)=false:=by rfl) :
  PE X (.Call (.Name x p) (e::es) [] pos) (DQ i f sp t):=by
 intro pins s σ H Q I h
 obtain⟨hσ,h⟩:=h
 obtain⟨fd,F,hb,kp⟩:=c.ex
 refine wpAny_Call_Name_kw (bc (ym (pos:=p) hN hv hd hcd pins s σ H (fun v H'=>v = .ref f∧H'=H) I ⟨_,hσ,rfl,rfl⟩) fun u s0 ⟨v,H0,Z,r0,O,S⟩=>?_)
 subst O S;obtain rfl:u=Value.ref f:=r0
 refine W.callWith_K (h₀:=X.base) Z.ok.mod.kin kp (bc (ha pos pins s0 σ H0 _ Z h) fun us s1 ⟨vs,H1,Y,r,q⟩=>⟨Y.kIn,?_⟩) he hpl
 exact wQ F (hr.mono J) hb .nil Bs Y r q
theorem CQ{x:Str}{f:Addr}{pos:Pos}(F:X.mg x=some (.ref f))(hg:Gl X x:=by first | exact Gx (by decide +kernel) | rfl)(hd:(x == ("__debug__" : Str))=false:=by decide):PE X (.Name x pos) (tC (.ref f)):=oN hg F rfl hd
end
end L2
namespace L2
open PySem PySem.Spec PyProof.Rows PySem.SeqAt
section
variable{M:Model}{A:Around}{E:Value→Shared→Prop}{K:W.Frag}
variable{nm q:Str}{C D N:Addr}{bs bm:List Value}{hdct:Bool}{sn:List Str}{sub:List Value}{ab:Bool}{col:Option Bool}{dd:Option Addr}{k0 k1 k2 k3 k5:Option Value}{newId:String}
theorem mZ{h:Heap}{g:Array GenState}{d:Drawn}{t:Nat}{os:OsState}{e:Addr}{S:Obj}{Q:Bool→Shared→Prop}(X:K.In h)
  (Y:h.get? D=some (excClassObj nm q D N bs bm hdct sn sub ab col dd k0 k1 k2 k3 k5 newId)) (he:h.get? e=some S) (J:S.cls = .ref C) (F:bm.contains (.type "BaseException")=true)
  (Z:W.subIn K (.ref C) (.ref D)=some false) (hq:Q false ⟨h,g,d,t,os⟩):wpAny M A (excMatches (.ref e) (.ref D)) Q E ⟨h,g,d,t,os⟩:=by
 have O:(Value.ref D::bm).contains (.type "BaseException")=true:=by rw[List.contains_cons,F,Bool.or_true]
 have L:W.Looks M h _ _:=W.looks_subIn X Z
 have f:=tc_notTuple;unfold excMatches
 repeat (first | (with_reducible refine W.Looks.at L ?_) | (with_reducible refine wpAny_loadPart_at he ?_; rw[J]) | with_reducible refine wpAny_loadPart_at Y ?_ | (with_reducible refine wpAny_isSubtype_exc Y ?_; rw[O]) | wp_step)
 exact hq
theorem BZ(h:W.kitOne K (.ref C) (.ref D)=some false):W.subIn K (.ref C) (.ref D)=some false:=by
 unfold W.kitOne W.kitCls at h;split at h
 ·cases h
 ·dsimp only at h
  split at h
  ·exact h
  ·cases h
end
section
variable{prog:Program}{w:World}{A:Around}{E:Value→Shared→Prop}{s:Shared}{env:Env}{K:W.Frag}
theorem pj{e C D:Addr}{x:Str}{bmB:List Value}{newId:String}{mg:Str→Option Value}{t:Expr}{n:Option Str}{suite:List Stmt}{pos:Pos}{Dk:List ExceptHandler}{Q:Flow→Shared→Prop}
  (F:bmB.contains (.type "BaseException")=true) (Z:W.subIn K (.ref C) (.ref D)=some false)
  (h:wpAny (model prog w) (A.mark (some (.ref e))) (eval t env) (fun c J=>c = .ref D∧K.In J.heap∧OwnClsQ x D bmB newId mg J.heap∧(∃ Y,J.heap.get? e=some Y∧Y.cls = .ref C)∧
   wpAny (model prog w) A (handleBy (.ref e) env Dk) Q E J) (notedBy (model prog w) (A.mark (some (.ref e))) env (cameBackBy (model prog w) A env E)) s) :
  wpAny (model prog w) A (handleBy (.ref e) env (.ExceptHandler (some t) n suite pos::Dk)) Q E s:=by
 refine wpAny_handleBy_cons (codeAny_handlers_test (wpAny_mono h (fun c J h₁=>?_) fun _ _ y=>y)) (by intro q; cases q)
 obtain⟨rfl,X,O,⟨Y,he,S⟩,hk⟩:=h₁
 obtain⟨bm,N,nm,q,bs,hdct,sn,sub,ab,col,dd,k0,k1,k2,k3,k5,mN,hC,hN,hq,T⟩:=O.obj
 obtain⟨hh,g,d,tk,os⟩:=J
 exact mZ X hC he S (T.tail.hasType F) Z hk
end
abbrev Hv (C:Addr) (i:Nat) (th:TS) (D:dH) (σ : St) (H':Hp):Prop:=
 ∀ a,H' a=none→th { nx:=fun σ' H2=>D.nx (σ'.set i none) H2,rt:=D.rt,bk:=fun σ' H2=>D.bk (σ'.set i none) H2,ct:=fun σ' H2=>D.ct (σ'.set i none) H2 } (σ.set i (some (.ref a))) (upd H' a (ke a (.ref C)))
def A3(C C':Addr)(i:Nat)(tb:XK→TS)(th th':TS):TS:=fun D σ H=>
 tb (fun c _ H'=>(c = .ref C∧Hv C i th D σ H')∨(c = .ref C'∧Hv C' i th' D σ H')) D σ H
theorem Av{C C':Addr}{i:Nat}{tb:XK→TS}{th th':TS}{D:dH}{σ : St}{H:Hp}:A3 C C' i tb th th' D σ H=tb (fun c _ H'=>(c = .ref C∧Hv C i th D σ H')∨(c = .ref C'∧Hv C' i th' D σ H')) D σ H:=rfl
section
variable{X:Cx}{x x' n:Str}{C C':Addr}{np hp np' hp' pos:Pos}{body suite suite':List Stmt}{b₀ b₀':Stmt}{tb:XK→TS}{th th':TS}{Dk:List ExceptHandler}
theorem BJ(i:Nat)(o:gh X.K X.mg x C)(o':gh X.K X.mg x' C')(kt:W.kitOne X.K (.ref C') (.ref C)=some false)(hN:X.N.Nodup)(Y:∀ Ee,C_ X Ee body (tb Ee))
  (hs:∀ a,FP (X.held a) (b₀::suite) th) (an:∀ a,FP (X.held a) (b₀'::suite') th') (hk:X.env.kindOf n=some .local) (as:X.stack=X.env::X.outer:=by rfl) (hfr:X.env.frame=some X.env.locals:=by rfl) (hex:X.ex=[]:=by rfl)
  (hi:X.N[i]? = some n:=by rfl) (hg:Gl X x:=by first | exact Gx (by decide +kernel) | rfl) (hd:(x == ("__debug__" : Str))=false:=by decide) (hg':Gl X x':=by rfl) (hd':(x' == ("__debug__" : Str))=false:=by decide) :
  PS X (.Try body (.ExceptHandler (some (.Name x np)) (some n) (b₀::suite) hp :: .ExceptHandler (some (.Name x' np')) (some n) (b₀'::suite') hp'::Dk) [] [] pos) (A3 C C' i tb th th'):=by
 intro pins s σ H D I h
 refine wpAny_Try_except (wpAny_mono (Y _ pins s σ H D I h) (fun f s1 q=>?_) fun e s1 q=>?_)
 ·cases f with
  | next=>obtain⟨σ',H',I',q⟩:=q; exact bI pins s1 σ' H' D I' q
  | ret v=>exact q
  | brk=>exact q
  | cont=>exact q
 obtain⟨H0,s0,Z,H',hR,a,C0,a0,fl,rfl,os,bare,un,hok,hf,ag,a4,sl,q⟩:=q
 have ad:=a4;rw[as]at ad
 refine wpAny_looks_onW (by rw[I.ok.frames,as]) hfr ad fun h4 held a3=>wpAny_landsW held fun h5 S a6=>?_
 have a2:=sl.trans (a3.trans a6);have nf:∀ b∈eO X.stack,H0 b=none∧∃ o,s0.heap.get? b=some o∧∀ vs,o.data ≠ .fields vs:=fun b Y=>⟨Z.stkFree b Y,(Z.stack.mem Y).2⟩
 have I5:Inv X pins σ H' { s1 with heap:=h5 }:=Z.call' (ch:=[]) (s':={ s1 with heap:=h5 }) os (xO (P:=X.prog) (w:=X.w) un hf ag nf S.1 a2) (mV hok (fun b Y=>(hf b Y).1) S.1) bare (fun b z=>absurd z (by simp))
 have aa:∀ {x:Str} {C:Addr} {np hp:Pos} {b₀ : Stmt} {suite:List Stmt} {th:TS} {Dk:List ExceptHandler} (o:gh X.K X.mg x C) (hg:Gl X x) (hd:(x == ("__debug__" : Str))=false) (hs:∀ a,FP (X.held a) (b₀::suite) th) (ec:C0 = .ref C) (qq:Hv C i th D σ H'),
   wpAny (model X.prog X.w) X.A (handleBy (.ref a) X.env (.ExceptHandler (some (.Name x np)) (some n) (b₀::suite) hp::Dk)) (SP X pins D) X.xe { s1 with heap:=h5 }:=by
  intro x C np hp b₀ suite th Dk o hg hd hs ec qq
  subst ec;have O:=i6 (x:=x) I.ok.mod.kin o.m o.c.q;refine handleBy_own_as (x:=x) (C:=C) (bmB:=[.type "ValueError", .type "Exception", .type "BaseException", .type "object"]) (newId := "ValueError.__new__") (mg:=X.mg) rfl (jc (X:=X.held a) (I5.held a) hg O.bound ⟨rfl,O.keeps I5.bk,?_,?_⟩ hd)
  ·obtain⟨oe,vs,e1,e2,_⟩:=S.first; exact⟨oe,e1,e2⟩
  refine lands_againW S fun h6 F a8=>?_
  have a5:=a2.trans a8;have I6:Inv X pins σ H' { s1 with heap:=h6 }:=Z.call' (ch:=[]) (s':={ s1 with heap:=h6 }) os (xO (P:=X.prog) (w:=X.w) un hf ag nf F.1 a5) (mV hok (fun b Y=>(hf b Y).1) F.1) bare (fun b z=>absurd z (by simp))
  obtain⟨oe,vs,e1,e2,e3,_⟩:=F.first
  have key:∀ b o,s0.heap.get? b=some o→b≠a:=by
   intro b o e z
   subst z
   by_cases hbl:b∈fl
   ·rcases(hf b hbl).2 with y | y
    ·obtain⟨_,o',y1,y2⟩:=Z.stack.mem y
     have:b∈(X.env::X.outer).filterMap (·.frame):=by rw[← as]; exact y
     obtain⟨_,o2,z1,z2⟩:=F.2.2.1.mem this
     rw[e1]at z1; cases z1
     exact z2 vs e3
    ·rw[e]at y; cases y
   ·obtain⟨o',y⟩:=un.there b o e (by simp)
    have:=zbf fl y hbl
    rw[F.2.1]at this; cases this
  have a1:H' a=none:=BV hok (fun b Y=>(hf b Y).1) F.2.1
  have I7:Inv X pins σ (upd H' a (ke a (.ref C))) { s1 with heap:=h6 }:=by
   refine I6.track a1 (fun b ob z=>?_) (fun z=>?_) (fun y c z=>?_) (fun p z=>?_) ?_ hex
   ·obtain⟨o',y⟩:=Z.base.there b ob z (by rw[hex]; simp)
    exact key b o' y
   ·obtain⟨m,⟨o,_,_,ho,_⟩,_⟩:=Z.loc
    exact key _ o ho z
   ·obtain⟨v,o,ho,_⟩:=Z.cell y c z
    exact key c o ho
   ·exact key _ _ (Z.pin p z).1
   ·exact⟨⟨oe,e1,e2⟩,⟨oe,e1⟩,fun h1 h2 ⟨o,y1,y2⟩ k=>⟨o,k o y1,y2⟩⟩
  refine kq I7 hN hi (.inl hk) (show RelV (.ref a) (.ref a) from rfl) (fun s7 I8=>?_) (.inr hk)
  refine wpAny_mono (hs a pins s7 _ _ _ (I8.held a) (qq a a1)) (fun f s8 z=>?_) fun _ _ z=>False.elim z
  have go:∀ {σ' H2},Inv (X.held a) pins σ' H2 s8→(∀ s9,Inv X pins (σ'.set i none) H2 s9→SP X pins D f s9)→
    wpAny (model X.prog X.w) X.A (do bindName X.env n .none; unbindBehindTheSuite X.env n hp) (fun _ s₅=>SP X pins D f s₅) X.xe s8:=by
   intro σ' H2 J k
   have J:=J.unheld I.ok;obtain⟨m,hn,hl⟩:=id J.loc
   exact wpAny_nameGoes_keeps hk hn (by rw[I.ok.kind]; rfl) fun h' v a7 an=>k _ (J.goes hN hi hk hl a7 hn an)
  cases f with
  | next=>obtain⟨σ',H2,J,z⟩:=z; exact go J fun s9 J9=>⟨_,H2,J9,z⟩
  | ret v=>obtain⟨v',σ',H2,J,r,z⟩:=z; exact go J fun s9 J9=>⟨v',_,H2,J9,r,z⟩
  | brk=>obtain⟨σ',H2,J,z⟩:=z; exact go J fun s9 J9=>⟨_,H2,J9,z⟩
  | cont=>obtain⟨σ',H2,J,z⟩:=z; exact go J fun s9 J9=>⟨_,H2,J9,z⟩
 rcases q with ⟨ec,q⟩ | ⟨ec,q⟩
 ·exact aa o hg hd hs ec q
 ·have O:=i6 (x:=x) I.ok.mod.kin o.m o.c.q
  refine pj (K:=X.K) (C:=C') (x:=x) (bmB:=[.type "ValueError", .type "Exception", .type "BaseException", .type "object"]) (newId := "ValueError.__new__") (mg:=X.mg) rfl (BZ kt) (jc (X:=X.held a) (I5.held a) hg O.bound ⟨rfl,I5.kIn,O.keeps I5.bk,?_,aa o' hg' hd' an ec q⟩ hd)
  obtain⟨oe,vs,e1,e2,_⟩:=S.first
  exact⟨oe,e1,by rw[e2,ec]⟩
end
end L2
section
open PySem PySem.Spec PyProof.Rows L2
seal L2.PE L2.PT L2.PW L2.PA L2.PS L2.FP L2.PG L2.PGs L2.FH L2.PI L2.FX L2.D0 L2.UnR L2.CV L2.F2 L2.GI L2.SlR L2.PO L2.PPs
local macro_rules | `(tactic| walk_at "r")=>`(tactic| try simp only [jd,hJ,fg,eE,ic,jt,ja,h_,i4,gQ,jr,ia,jp,jo,i5,lS,kh,ig,md,je,kn,i7,h9,jb,gG,jY,ka,iw,jl,jh,i8,gK,ki,kl,iu,fh,ix,jv,gZ,iz,jm,gW,im,iC,ju,ie,jX,lZ,fT,fN,f_,fZ,fM,jq,hU,il,iy,fK,gL,jx,ii,fS,gb,fe,ij,gJ,gY,gE,eG,eF,fL,fO,gX,gH,gF,fk,jk,jj,gP,eA,ib,fH,i_,ji,jn,L2.start,List.map_cons,List.map_nil,List.length_cons,List.length_nil,List.replicate,List.cons_append,List.nil_append,List.append_nil,List.getElem?_cons_zero,List.getElem?_cons_succ,List.set_cons_zero,List.set_cons_succ,Nat.reduceAdd,Nat.reduceSub,Option.some.injEq,exists_eq_left',exists_eq_left,V.int.injEq,V.ref.injEq,V.str.injEq,V.bl.injEq,jZ,jf,and_true,true_and,decide_eq_true_eq,Bool.not_true,Bool.not_false,if_true,Bool.false_eq_true,if_false,ite_true,ite_false])
local macro_rules | `(tactic| walk_at "n")=>`(tactic| ((first | rw [iq] | (dsimp only; rw [iq])); walk_at "r"))
local macro_rules | `(tactic| walk_at "lk")=>`(tactic| repeat (first | exact lk_hit | exact C2 | rw [lk_miss (by decide +kernel)]))
local macro_rules | `(tactic| walk_at "pf")=>`(tactic| repeat (first | rw [putF_hit] | rw [zP] | rw [putF_miss (by decide +kernel)]))
namespace K76
open PySem L2
abbrev dq:Stmt:=top 8
theorem mS:aT ["one", "other"] ["one", "other"] (h8 dq):=EH
abbrev F3 (s : Stmt) (n : Str) : Prop:=(h8 s).names.lookup n=some .globalImplicit
theorem oIn {a b : Prop} (h : a) : a ∨ b:=.inl h
abbrev cW:Stmt:=top 9
theorem nq:aT ["one", "other"] ["one", "other"] (h8 cW):=EH
abbrev cD:Stmt:=top 10
theorem sY:aT ["words", "places", "number", "room"] ["words", "places", "number", "room"] (h8 cD):=EH
abbrev aP:Stmt:=top 11
theorem CM:aT ["rule", "words", "places", "place", "word", "ways", "number", "room"] ["rule", "words"] (h8 aP):=EH
theorem FM:F3 aP "enumerate":=by decide +kernel
abbrev cN:Stmt:=top 12
theorem nS:aT ["ones", "others", "pair"] ["ones", "others", "pair"] (h8 cN):=EH
theorem Ka:F3 cN "list":=by decide +kernel
theorem Jx:F3 cN "zip":=by decide +kernel
abbrev cy:Stmt:=top 16
theorem DY:aT ["rules", "words", "rule"] ["rules"] (h8 cy):=EH
abbrev aX:Stmt:=top 17
theorem nY:aT ["ways", "here", "width"] ["ways", "here", "width"] (h8 aX):=EH
theorem KG:F3 aX "range":=by decide +kernel
abbrev iX:Stmt:=top 18
theorem tL:aT ["rooms"] ["rooms"] (h8 iX):=EH
abbrev aK:Stmt:=top 19
theorem Dr:aT ["ways", "width", "first", "order", "numbers", "rooms", "blames", "behind", "there"] ["ways", "width"] (h8 aK):=EH
theorem FQ:aq (h8 aK) "numbers" := Or.inr (Or.inl (by decide +kernel))
theorem KC:aQ (h8 aK) "numbers" := Or.inr (by decide +kernel)
abbrev aI:Stmt:=top 20
theorem DC:aT ["rules", "bare", "rule", "words", "laid"] ["rules"] (h8 aI):=EH
theorem KD:(h8 aI).names.lookup ("bare" : Str)=some .local:=by decide +kernel
theorem DM:aq (h8 aI) "words" := Or.inr (Or.inl (by decide +kernel))
theorem JV:aQ (h8 aI) "words" := Or.inr (by decide +kernel)
abbrev dB:Stmt:=top 22
theorem vX:aT ["numbers", "ways"] ["numbers", "ways"] (h8 dB):=EH
abbrev bg:Stmt:=top 23
theorem Da:aT ["rooms", "kinds", "seen", "finer", "at", "room", "mark"] ["rooms", "kinds"] (h8 bg):=EH
theorem Kc:F3 bg "enumerate":=by decide +kernel
abbrev bO:Stmt:=top 24
theorem DA:aT ["rooms", "most", "kinds", "finer"] ["rooms", "most"] (h8 bO):=EH
theorem J_:(h8 bO).names.lookup ("kinds" : Str)=some .local:=by decide +kernel
abbrev bJ:Stmt:=top 25
theorem DG:aT ["rooms", "kinds", "merged", "at", "room"] ["rooms", "kinds"] (h8 bJ):=EH
theorem Kn:F3 bJ "enumerate":=by decide +kernel
abbrev bw:Stmt:=top 26
theorem CG:aT ["rooms", "order", "met", "at", "room", "way"] ["rooms"] (h8 bw):=EH
abbrev aG:Stmt:=top 27
theorem C7:aT ["rooms", "order", "numbers", "number", "room"] ["rooms"] (h8 aG):=EH
theorem IY:aq (h8 aG) "rooms" := Or.inr (Or.inl (by decide +kernel))
theorem Ij:aq (h8 aG) "numbers" := Or.inr (Or.inl (by decide +kernel))
theorem KJ:aQ (h8 aG) "numbers" := Or.inr (by decide +kernel)
theorem JD:F3 aG "enumerate":=by decide +kernel
abbrev bn:Stmt:=top 28
theorem mh:aT ["rooms", "place"] ["rooms", "place"] (h8 bn):=EH
theorem Kh:F3 bn "enumerate":=by decide +kernel
abbrev eh:Stmt:=top 29
theorem yH:aT ["things", "places"] ["things", "places"] (h8 eh):=EH
abbrev aA:Stmt:=top 30
theorem Dv:aT ["rule", "most", "kinds", "words", "rooms", "places"] ["rule", "most"] (h8 aA):=EH
theorem Gj:aq (h8 aA) "rooms" := Or.inr (Or.inl (by decide +kernel))
theorem HD:aQ (h8 aA) "rooms" := Or.inr (by decide +kernel)
theorem HU:aq (h8 aA) "places" := Or.inr (Or.inl (by decide +kernel))
theorem Je:aQ (h8 aA) "places" := Or.inr (by decide +kernel)
theorem GX:F3 aA "range":=by decide +kernel
abbrev dZ:Stmt:=top 31
theorem qH:aT ["rule"] ["rule"] (h8 dZ):=EH
abbrev gi:Stmt:=top 33
theorem qG:aT ["pair"] ["pair"] (h8 gi):=EH
abbrev ax:Stmt:=top 34
theorem wu:aT ["one", "other", "breaks", "words", "ones", "others", "order", "numbers", "rooms", "here", "room", "pair"] ["one", "other", "breaks"] (h8 ax):=EH
abbrev bo:Stmt:=top 35
theorem En:aT ["one", "other", "breaks", "least"] ["one", "other", "breaks"] (h8 bo):=EH
abbrev dr:Stmt:=top 36
theorem oW:aT ["one", "other"] ["one", "other"] (h8 dr):=EH
abbrev dI:Stmt:=top 38
theorem pk:aT ["_law_script", "_law_k"] ["_law_script", "_law_k"] (h8 dI):=EH
abbrev cJ:Stmt:=top 39
theorem DV:aT ["_law_cell", "_law_many", "_law_number", "_law_found", "_law_k"] ["_law_cell", "_law_many"] (h8 cJ):=EH
theorem Hm:F3 cJ "range":=by decide +kernel
abbrev aW:Stmt:=top 40
theorem A7:aT ["_law_cell", "_law_many", "_law_sides", "_law_letters", "_law_xs", "_law_size", "_law_at", "_law_words_here", "_law_k", "_law_word", "_law_j"] ["_law_cell", "_law_many", "_law_sides"] (h8 aW):=EH
theorem DS:F3 aW "range":=by decide +kernel
abbrev fR:Stmt:=top 41
theorem vP:aT ["_law_number", "_law_share", "_law_many"] ["_law_number", "_law_share", "_law_many"] (h8 fR):=EH
abbrev aH:Stmt:=top 42
theorem D4:aT ["_law_cells", "_law_size", "_law_many", "_law_cell", "_law_share", "_law_xs", "_law_k"] ["_law_cells", "_law_size", "_law_many", "_law_cell"] (h8 aH):=EH
theorem Ap:aq (h8 aH) "_law_size" := Or.inr (Or.inl (by decide +kernel))
theorem DB:aq (h8 aH) "_law_many" := Or.inr (Or.inl (by decide +kernel))
theorem Jm:aQ (h8 aH) "_law_share" := Or.inr (by decide +kernel)
theorem Hh:aq (h8 aH) "_law_xs" := Or.inr (Or.inl (by decide +kernel))
theorem IL:aQ (h8 aH) "_law_xs" := Or.inr (by decide +kernel)
theorem C6:F3 aH "range":=by decide +kernel
abbrev aS:Stmt:=top 43
theorem CO:aT ["_law_script", "_law_words_here", "_law_sides", "_law_many", "_law_rules_here", "_law_k", "_law_head", "_law_step", "_law_some", "_law_size", "_law_rooms_here"] ["_law_script", "_law_words_here", "_law_sides"] (h8 aS):=EH
theorem HE:F3 aS "range":=by decide +kernel
abbrev bZ:Stmt:=top 44
theorem pI:aT ["_law_sides", "_law_word", "_law_many"] ["_law_sides", "_law_word", "_law_many"] (h8 bZ):=EH
theorem IH:aq (h8 bZ) "_law_many" := Or.inr (Or.inl (by decide +kernel))
theorem Gs:F3 bZ "range":=by decide +kernel
abbrev bD:Stmt:=top 45
theorem Dj:aT ["_law_script", "_law_words_here", "_law_sides", "_law_more", "_law_one", "_law_other", "_law_cut", "_law_some"] ["_law_script", "_law_words_here", "_law_sides", "_law_more"] (h8 bD):=EH
abbrev gT:Stmt:=top 46
theorem wH:aT ["_law_rule", "_law_room", "_law_word"] ["_law_rule", "_law_room", "_law_word"] (h8 gT):=EH
abbrev av:Stmt:=top 47
theorem AK:aT ["_law_found", "_law_rules_here", "_law_row", "_law_rule", "_law_blames", "_law_room", "_law_rooms_here", "_law_word", "_law_to_here", "_law_there", "_law_blame"] ["_law_found", "_law_rules_here", "_law_row"] (h8 av):=EH
theorem CA:aq (h8 av) "_law_rules_here" := Or.inr (Or.inl (by decide +kernel))
theorem D5:aQ (h8 av) "_law_rooms_here" := Or.inr (by decide +kernel)
theorem zF:aq (h8 av) "_law_word" := Or.inr (Or.inl (by decide +kernel))
theorem H_:aQ (h8 av) "_law_word" := Or.inr (by decide +kernel)
theorem Kl:(h8 av).names.lookup ("_law_to_here" : Str)=some .local:=by decide +kernel
theorem HJ:F3 av "range":=by decide +kernel
abbrev cw:Stmt:=top 48
theorem DF:aT ["_law_found", "_law_rules_here", "_law_due", "_law_name", "_law_rule"] ["_law_found", "_law_rules_here"] (h8 cw):=EH
abbrev bh:Stmt:=top 49
theorem Aw:aT ["_law_rules_here", "_law_told", "_law_other", "e"] ["_law_rules_here"] (h8 bh):=EH
theorem Kd:(h8 bh).names.lookup ("e" : Str)=some .local:=by decide +kernel
theorem Dm:F3 bh "TooGreat":=by decide +kernel
abbrev bK:Stmt:=top 50
theorem Ei:aT ["_law_script", "_law_first", "_law_sides", "_law_words_here", "_law_rules_here", "_law_at", "_law_odd", "_law_found", "_law_row"] ["_law_script"] (h8 bK):=EH
theorem AR:aq (h8 bK) "_law_words_here" := Or.inr (Or.inl (by decide +kernel))
theorem Hs:aQ (h8 bK) "_law_words_here" := Or.inr (by decide +kernel)
theorem Km:(h8 bK).names.lookup ("_law_row" : Str)=some .local:=by decide +kernel
abbrev D9:Str := "abcdefghijklmnopqrstuvwxyz"
def qP(K:W.Frag):Sp:=fun vs H Q _=>∃ (a:Addr) (ns:List Int),vs=[.ref a]∧rd K H a (ns.map V.int)∧ns.length≤63∧∀ H',Q (.bl true) H'
def n9(K:W.Frag):Sp:=fun vs H Q _=>∃ (a:Addr) (ns:List Int) (k:Int),vs=[.ref a,.int k]∧rd K H a (ns.map V.int)∧0≤k∧Q (.int (ns.getD k.toNat 0)) H
def oY:Sp:=fun vs H Q _=>∃ (c n:Int),vs=[.int c,.int n]∧0≤n∧n≤100000∧∀ (p:Addr) (H':Hp) (ms:List Int),mu H H'→H p=none→H' p=some (.lst (ms.map V.int))→(ms.length:Int)=n→(∀ m∈ms,0≤m∧m<2147483647)→Q (.ref p) H'
def ar:Option Nat→V
 | none=>.non
 | some n=>.int n
def Be:Sp:=fun vs H Q _=>∃ (m s n:Int),vs=[.int m,.int s,.int n]∧0<s∧s<1073741824∧0<n∧n<1073741824∧∀ o:Option Nat,(∀ k,o=some k→(k:Int)<n)→Q (ar o) H
theorem AQ(x:Str)(c:Nat):(x++(⟨#[c]⟩ : Str)).length=x.length+1:=by rw[Str.length_append]; rfl
section
variable{P:Program}{w:World}{K:W.Frag}{mg:Str→Option Value}{base:Heap}
theorem Cm(D:AS K mg "_law_cell_at" dI) (F:mg "len" = none):C9 P w K mg base 1 "_law_cell_at" ["_law_script", "_law_k"] (n9 K):=by
 refine D.cal pk (fun _ _ _ _ _ _ us hl=>match us,hl with | [_,_],_=>rfl) (fun O H Q E h=>by obtain⟨a,ns,k,rfl,_⟩:=h; rfl) (fun f S A outer s H O Q E hr h=>?_)
 obtain⟨a,ns,k,rfl,J,W,q⟩:=h
 refine⟨_,(af (cC (ba lf (pv 1) (a_ (bq K) F ce (ac (pv 0) ae)) (bt _)) (am (aV (aD (aZ K) (pv 0) (pv 1) (fun _ _=>rfl)))) bI)
   (am (aV ah))),?_⟩
 try simp only[iq,jd,hJ,fg,eE,ic,jt,ja,h_,i4,gQ,jr,ia,jp,jo,i5,lS,kh,ig,md,je,kn,i7,h9,jb,gG,jY,ka,iw,jl,jh,i8,gK,ki,kl,iu,fh,ix,jv,gZ,iz,jm,gW,im,iC,ju,ie,jX,lZ,fT,fN,f_,fZ,fM,jq,hU,il,iy,fK,gL,jx,ii,fS,gb,fe,ij,gJ,gY,gE,eG,eF,fL,fO,gX,gH,gF,fk,jk,jj,gP,eA,ib,fH,i_,ji,jn,L2.start,xq,GS,vR,He,List.replicate,za1,Hn,Gp,zbq,Hb,zbr,zbs,Nat.reduceAdd,Nat.reduceSub,Option.some.injEq,exists_eq_left',exists_eq_left,V.int.injEq,V.ref.injEq,V.str.injEq,V.bl.injEq,jZ,jf,and_true,true_and,decide_eq_true_eq,GG,za5,if_true,sT,if_false,ite_true,ite_false]
 refine⟨_,.inl J,bH (fun c=>?_) (fun c=>?_)⟩
 ·rw[zc]at c
  refine⟨_,.int (ns.getD k.toNat 0),.inl J,xP W ?_,q⟩
  rw[zp,za (by omega)]; rfl
 ·rw[zc]at c
  have e:ns.getD k.toNat 0=0:=by
   rw[zp,oQ (by omega)]; rfl
  rw[e]at q; exact q
theorem zK(D:AS K mg "_law_mixed" cJ) (F:mg "range" = none):C9 P w K mg base 1 "_law_mixed" ["_law_cell", "_law_many"] oY:=by
 refine D.cal DV (fun _ _ _ _ _ _ us hl=>match us,hl with | [_,_],_=>rfl) (fun Y H Q E h=>by obtain⟨c,n,rfl,_⟩:=h; rfl) (fun f Z A outer s H Y Q E hr h=>?_)
 obtain⟨c,n,rfl,h0,h1,q⟩:=h
 refine⟨_,(af (ap 2 DV.nd (aB bx ah (aB cx (pv 0) ah)))
   (af (ap 3 DV.nd (bu ae))
   (af (dj rG rfl (dk Hm F (ac (pv 1) ae)) (aU 4 DV.nd) (af (ap 2 DV.nd (aB cx (aB j4 (pv 2) ah) ah))
   (am (c8 (dw K FZ Gy Gw cL (pv 3) (ac (pv 2) ae))))))
   (am (aV (pv 3)))))),?_⟩
 try simp only[iq,jd,hJ,fg,eE,ic,jt,ja,h_,i4,gQ,jr,ia,jp,jo,i5,lS,kh,ig,md,je,kn,i7,h9,jb,gG,jY,ka,iw,jl,jh,i8,gK,ki,kl,iu,fh,ix,jv,gZ,iz,jm,gW,im,iC,ju,ie,jX,lZ,fT,fN,f_,fZ,fM,jq,hU,il,iy,fK,gL,jx,ii,fS,gb,fe,ij,gJ,gY,gE,eG,eF,fL,fO,gX,gH,gF,fk,jk,jj,gP,eA,ib,fH,i_,ji,jn,L2.start,xq,GS,vR,He,List.replicate,za1,Hn,Gp,zbq,Hb,zbr,zbs,Nat.reduceAdd,Nat.reduceSub,Option.some.injEq,exists_eq_left',exists_eq_left,V.int.injEq,V.ref.injEq,V.str.injEq,V.bl.injEq,jZ,jf,and_true,true_and,decide_eq_true_eq,GG,za5,if_true,sT,if_false,ite_true,ite_false]
 refine⟨by decide,by decide,fun p hp=>⟨by omega,by omega,?_⟩⟩
 refine gC (fun i σ H'=>∃ (m:Int) (J:List Int) (o:Option V),σ=[some (.int c),some (.int n),some (.int m),some (.ref p),o]∧mu H H'∧H' p=some (.lst (J.map V.int))∧J.length=i∧(∀ x∈J,0≤x∧x<2147483647)∧0≤m∧m<2147483648)
  ⟨_,[],none,rfl,ay hp _,ak,rfl,(by simp),by omega,by omega⟩ ?_ ?_
 ·rintro i σ H' hi ⟨m,J,o,rfl,O,hl,W,S,m0,m1⟩
  try simp only[iq,jd,hJ,fg,eE,ic,jt,ja,h_,i4,gQ,jr,ia,jp,jo,i5,lS,kh,ig,md,je,kn,i7,h9,jb,gG,jY,ka,iw,jl,jh,i8,gK,ki,kl,iu,fh,ix,jv,gZ,iz,jm,gW,im,iC,ju,ie,jX,lZ,fT,fN,f_,fZ,fM,jq,hU,il,iy,fK,gL,jx,ii,fS,gb,fe,ij,gJ,gY,gE,eG,eF,fL,fO,gX,gH,gF,fk,jk,jj,gP,eA,ib,fH,i_,ji,jn,L2.start,xq,GS,vR,He,List.replicate,za1,Hn,Gp,zbq,Hb,zbr,zbs,Nat.reduceAdd,Nat.reduceSub,Option.some.injEq,exists_eq_left',exists_eq_left,V.int.injEq,V.ref.injEq,V.str.injEq,V.bl.injEq,jZ,jf,and_true,true_and,decide_eq_true_eq,GG,za5,if_true,sT,if_false,ite_true,ite_false]
  refine⟨.inl ⟨by omega,by omega⟩,by decide,⟨_,rd.of hl⟩,_,hl,by rw[zc]; exact cH (by omega),?_⟩
  refine⟨_,J++[m * 16807 % 2147483647],_,rfl,fun b o' e=>?_,?_,by simp[W],fun x hx=>?_,by omega,by omega⟩
  ·rw[al (au e hp)]; exact O b o' e
  ·rw[ak,z9]; rfl
  ·rcases HX.mp hx with z | z
   ·exact S x z
   ·rw[HQ.mp z]; omega
 ·rintro σ H' ⟨m,J,o,rfl,O,hl,W,S,m0,m1⟩
  try simp only[iq,jd,hJ,fg,eE,ic,jt,ja,h_,i4,gQ,jr,ia,jp,jo,i5,lS,kh,ig,md,je,kn,i7,h9,jb,gG,jY,ka,iw,jl,jh,i8,gK,ki,kl,iu,fh,ix,jv,gZ,iz,jm,gW,im,iC,ju,ie,jX,lZ,fT,fN,f_,fZ,fM,jq,hU,il,iy,fK,gL,jx,ii,fS,gb,fe,ij,gJ,gY,gE,eG,eF,fL,fO,gX,gH,gF,fk,jk,jj,gP,eA,ib,fH,i_,ji,jn,L2.start,xq,GS,vR,He,List.replicate,za1,Hn,Gp,zbq,Hb,zbr,zbs,Nat.reduceAdd,Nat.reduceSub,Option.some.injEq,exists_eq_left',exists_eq_left,V.int.injEq,V.ref.injEq,V.str.injEq,V.bl.injEq,jZ,jf,and_true,true_and,decide_eq_true_eq,GG,za5,if_true,sT,if_false,ite_true,ite_false]
  exact q p H' J O hp hl (by omega) S
theorem Dq(D:AS K mg "_law_way" fR):C9 P w K mg base 1 "_law_way" ["_law_number", "_law_share", "_law_many"] Be:=by
 refine D.cal vP (fun _ _ _ _ _ _ us hl=>match us,hl with | [_,_,_],_=>rfl) (fun J H Q E h=>by obtain⟨m,s,n,rfl,_⟩:=h; rfl) (fun f O A outer s H J Q E hr h=>?_)
 obtain⟨m,s,n,rfl,F,s1,n0,n1,q⟩:=h
 refine⟨_,(af (cC (ba jE (aB cx (pv 0) (pv 1)) ah (bt _)) (am (aV ck)) bI)
   (am (aV (aB cx (aB dJ (pv 0) (pv 1)) (pv 2))))),?_⟩
 try simp only[iq,jd,hJ,fg,eE,ic,jt,ja,h_,i4,gQ,jr,ia,jp,jo,i5,lS,kh,ig,md,je,kn,i7,h9,jb,gG,jY,ka,iw,jl,jh,i8,gK,ki,kl,iu,fh,ix,jv,gZ,iz,jm,gW,im,iC,ju,ie,jX,lZ,fT,fN,f_,fZ,fM,jq,hU,il,iy,fK,gL,jx,ii,fS,gb,fe,ij,gJ,gY,gE,eG,eF,fL,fO,gX,gH,gF,fk,jk,jj,gP,eA,ib,fH,i_,ji,jn,L2.start,xq,GS,vR,He,List.replicate,za1,Hn,Gp,zbq,Hb,zbr,zbs,Nat.reduceAdd,Nat.reduceSub,Option.some.injEq,exists_eq_left',exists_eq_left,V.int.injEq,V.ref.injEq,V.str.injEq,V.bl.injEq,jZ,jf,and_true,true_and,decide_eq_true_eq,GG,za5,if_true,sT,if_false,ite_true,ite_false]
 refine⟨F,bH (fun c=>?_) (fun c=>?_)⟩
 ·exact q none (fun k e=>by cases e)
 ·refine⟨⟨F,s1⟩,n0,?_⟩
  have W:=zbt (m / s) (show n≠0 by omega)
  have Y:=zbM (m / s) n0;have S:=q (some (m / s % n).toNat) (fun k e=>by cases e; omega)
  have e:V.int (m / s % n)=ar (some (m / s % n).toNat):=by
   show _=V.int (((m / s % n).toNat:Nat):Int)
   rw[show (((m / s % n).toNat:Nat):Int)=m / s % n by omega]
  rw[e]; exact S
end
set_option genInjectivity false in
set_option genSizeOf false in
structure Rl where
 s:Int
 ws:List Str
 rs:List (List (Option Nat))
structure aY (r:Rl):Prop where
 s:r.s=1∨r.s=2
 nw:r.ws.length≤16
 n0:1≤r.rs.length
 n1:r.rs.length≤60
 row:∀ x∈r.rs,x.length=r.ws.length∧∀ k,some k∈x→k<r.rs.length
 lw:∀ w∈r.ws,w.length≤10
def vr(H:Hp)(p:Addr)(rs:List (List (Option Nat)))(as:List Addr):Prop:=
 H p=some (.lst (as.map V.ref))∧as.length=rs.length∧∀ (i:Nat) a x,as[i]? = some a→rs[i]? = some x→H a=some (.lst (x.map ar))
def tf(H:Hp)(p:Addr)(r:Rl):Prop:=∃ pw pr as,H p=some (.tup [.int r.s,.ref pw,.ref pr])∧H pw=some (.lst (r.ws.map V.str))∧vr H pr r.rs as
theorem vr.mono{H H':Hp}{p:Addr}{rs:List (List (Option Nat))}{F:List Addr}(J:mu H H')(h:vr H p rs F):vr H' p rs F:=by
 obtain⟨h1,h2,S⟩:=h
 exact⟨J _ _ h1,h2,fun i a x W O=>J _ _ (S i a x W O)⟩
theorem tf.mono{H H':Hp}{p:Addr}{r:Rl}(F:mu H H')(h:tf H p r):tf H' p r:=by
 obtain⟨J,pr,S,h1,h2,O⟩:=h
 exact⟨J,pr,S,F _ _ h1,F _ _ h2,O.mono F⟩
theorem pP(ss:List Str):(ss.map V.str).all bW=true:=by
 rw[za2]; intro x hx; obtain⟨s,_,rfl⟩:=HR.mp hx; rfl
theorem ub(y:Str)(ss:List Str):k_ (.str y) (ss.map V.str)=decide (y∈ss):=by
 rw[Hg];unfold k_;rw[Hl,decide_eq_true_eq]
 constructor
 ·rintro⟨x,hx,e⟩
  obtain⟨s,F,rfl⟩:=HR.mp hx
  have J:(s == y)=true:=e
  rw[← eq_of_beq J]; exact F
 ·intro h
  exact⟨.str y,HR.mpr ⟨y,h,rfl⟩,by show (y == y)=true; simp⟩
def lP{α : Type}(xs:List α)(lo hi:Option Int):List α:=(xs.drop (HT.sIx xs.length 0 lo)).take (HT.sIx xs.length xs.length hi - HT.sIx xs.length 0 lo)
theorem oS{α : Type}(f:α→V)(xs:List α)(lo hi:Option Int):dP (xs.map f) lo hi=(lP xs lo hi).map f:=by
 unfold dP lP;rw[zc,zbc,List.map_drop]
theorem Au{α : Type}(xs:List α)(lo hi:Option Int):(lP xs lo hi).length≤xs.length:=by
 unfold lP;rw[vc,GL];omega
theorem wV(x:List (Option Nat)):∀ v∈x.map ar,bW v=true:=by
 intro v hv
 obtain⟨o,_,rfl⟩:=HR.mp hv
 cases o <;> rfl
theorem w9(x:List Str):∀ v∈x.map V.str,bW v=true:=by
 intro v hv
 obtain⟨o,_,rfl⟩:=HR.mp hv
 rfl
theorem zG{K:W.Frag}{H:Hp}{p q:Addr}{rs:List (List (Option Nat))}{O bs:List Addr}(h1:vr H p rs O)(h2:vr H q rs bs):D8 K H 2 (.ref p) (.ref q) true:=by
 obtain⟨S,a2,a3⟩:=h1
 obtain⟨Z,b2,Y⟩:=h2
 refine D8.seq (.inl ⟨rd.of S,rd.of Z⟩) (by simp; omega) fun i x y J F=>?_
 rw[ze]at J F
 cases qa:O[i]? with
 | none=>rw[qa]at J; cases J
 | some a=>
  cases qb:bs[i]? with
  | none=>rw[qb]at F; cases F
  | some b=>
   rw[qa]at J; rw[qb]at F
   cases J; cases F
   have hi:i<rs.length:=by have:=(HL.mp qa).1; omega
   exact D8.seqFlat (.inl ⟨rd.of (a3 i a _ qa (za hi)),rd.of (Y i b _ qb (za hi))⟩) (wV _)
theorem BU{K:W.Frag}{H:Hp}{p q:Addr}{r:Rl}(h1:tf H p r)(h2:tf H q r):D8 K H 3 (.ref p) (.ref q) true:=by
 obtain⟨pw,pr,as,O,S,a3⟩:=h1
 obtain⟨qw,qr,bs,Z,b2,Y⟩:=h2
 refine D8.seq (.inr ⟨C3.of O,C3.of Z⟩) rfl fun i x y F J=>?_
 match i,F,J with
 | 0,F,J=>cases F; cases J; exact D8.refl rfl
 | 1,F,J=>cases F; cases J; exact D8.seqFlat (.inl ⟨rd.of S,rd.of b2⟩) (w9 _)
 | 2,F,J=>cases F; cases J; exact zG a3 Y
 | i+3,F,J=>simp at F
abbrev bb:=List (List (Option Nat))
def ao{α : Type}[DecidableEq α]:List α→List α→List α
 | acc,[]=>acc
 | acc,m::ms=>ao (if m∈acc then acc else acc++[m]) ms
section
variable{α : Type}[DecidableEq α]
theorem dL:∀ (F acc:List α) (m:α),ao acc (F++[m])=if m∈ao acc F then ao acc F else ao acc F++[m]
 | [],acc,m=>rfl
 | x::F,acc,m=>by
  show ao _ (F++[m])=_
  rw[dL F]; rfl
theorem ku:∀ (F acc:List α),∃ t,ao acc F=acc++t
 | [],acc=>⟨[],by simp[ao]⟩
 | m::F,acc=>by
  obtain⟨t,e⟩:=ku F (if m∈acc then acc else acc++[m])
  show ∃ t,ao (if m∈acc then acc else acc++[m]) F=acc++t
  by_cases h:m∈acc
  ·rw[HS h]at e ⊢; exact⟨t,e⟩
  ·rw[HP h]at e ⊢; exact⟨[m]++t,by rw[e,GC]⟩
theorem cj:∀ (F acc:List α) (x:α),x∈ao acc F ↔ x∈acc∨x∈F
 | [],acc,x=>by simp[ao]
 | m::F,acc,x=>by
  show x∈ao (if m∈acc then acc else acc++[m]) F ↔ _
  rw[cj F]
  by_cases h:m∈acc
  ·rw[HS h]
   constructor
   ·rintro(z | z)
    ·exact .inl z
    ·exact .inr (zU _ z)
   ·rintro(z | z)
    ·exact .inl z
    ·rcases HW.mp z with rfl | z
     ·exact .inl h
     ·exact .inr z
  ·rw[HP h,zbx,zbk,vB,or_assoc]
theorem lO:∀ (F acc:List α),acc.Nodup→(ao acc F).Nodup
 | [],acc,h=>h
 | m::F,acc,h=>by
  show (ao (if m∈acc then acc else acc++[m]) F).Nodup
  refine lO F _ ?_
  by_cases hm:m∈acc
  ·rw[HS hm]; exact h
  ·rw[HP hm,zbV]
   exact⟨h,by simp,fun x hx y J e=>by rw[HQ.mp J]at e; exact hm (e ▸ hx)⟩
theorem wC{l t:List α}{x:α}(h:x∈l):(l++t).idxOf x=l.idxOf x:=by
 rw[GV,HS h]
def du(ms:List α):List Nat:=ms.map fun m=>(ao [] ms).idxOf m
theorem tj{F:List α}{i:Nat}{m:α}(h:F[i]? = some m):(ao [] (F.take (i+1))).idxOf m=(ao [] F).idxOf m:=by
 have e:F=F.take (i+1)++F.drop (i+1):=(GT _ _).symm
 have J:m∈F.take (i+1):=by
  rw[vy,h]; simp
 have step:∀ (a b acc:List α),ao acc (a++b)=ao (ao acc a) b:=by
  intro a
  induction a with
  | nil=>intro b acc; rfl
  | cons x a ih=>intro b acc; exact ih b _
 have q:ao [] F=ao (ao [] (F.take (i+1))) (F.drop (i+1)):=by
  rw[← step,← e]
 obtain⟨t,O⟩:=ku (F.drop (i+1)) (ao [] (F.take (i+1)))
 rw[q,O,wC ((cj _ _ _).mpr (.inr J))]
def jM(x:α)(l:List α):Nat:=l.idxOf x
theorem EF{x:α}{l:List α}(h:x∈l):jM x l<l.length:=HM.mpr h
theorem mB{F:List α}{i:Nat}{m:α}(h:F[i]? = some m):(du F)[i]? = some (jM m (ao [] (F.take (i+1)))):=by
 unfold jM;rw[tj h];unfold du;rw[ze,h]; rfl
theorem zL(x:α)(l:List α):jM x (x::l)=0:=by unfold jM; simp
theorem wo{x y:α}(h:y≠x)(l:List α):jM x (y::l)=jM x l+1:=by
 unfold jM;rw[za4];have F:(y == x)=false:=beq_eq_false_iff_ne.mpr h
 rw[F]; rfl
theorem tw{F:List α}{i j:Nat}{m m':α}(h:F[i]? = some m)(h':F[j]? = some m'):(du F)[i]? = (du F)[j]? ↔ m=m':=by
 unfold du;rw[ze,ze,h,h'];show some _=some _ ↔ _
 have O:m∈ao [] F:=(cj _ _ _).mpr (.inr (zX h))
 have J:m'∈ao [] F:=(cj _ _ _).mpr (.inr (zX h'))
 constructor
 ·intro e
  have S:(ao [] F).idxOf m=(ao [] F).idxOf m':=Option.some.inj e
  have h1:=gV (HM.mpr O);have h2:=gV (HM.mpr J);rw[← h1,← h2]
  congr 1
 ·rintro rfl; rfl
def eB(l:List Nat):Prop:=∀ i,ao [] (l.take i)=List.range (ao [] (l.take i)).length
theorem eC:∀ (F acc:List α),(ao acc F).length≤acc.length+F.length
 | [],acc=>by simp[ao]
 | m::F,acc=>by
  have h:=eC F (if m∈acc then acc else acc++[m])
  show (ao (if m∈acc then acc else acc++[m]) F).length≤_
  by_cases hm:m∈acc
  ·rw[HS hm]at h ⊢; rw[vR]; omega
  ·rw[HP hm]at h ⊢; rw[zV]at h; rw[vR]; simp at h; omega
end
section
variable{α β : Type}[DecidableEq α][DecidableEq β]
theorem kJ(f:α→β):∀ (F acc:List α),(∀ x∈acc++F,∀ y∈acc++F,f x=f y→x=y)→ao (acc.map f) (F.map f)=(ao acc F).map f
 | [],acc,_=>rfl
 | m::F,acc,h=>by
  show ao (if f m∈acc.map f then acc.map f else acc.map f++[f m]) (F.map f)=(ao (if m∈acc then acc else acc++[m]) F).map f
  by_cases hm:m∈acc
  ·rw[HS hm,HS (HR.mpr ⟨m,hm,rfl⟩)]
   exact kJ f F acc fun x hx y J=>h x (by simp at hx ⊢; rcases hx with z | z <;> simp[z]) y (by simp at J ⊢; rcases J with z | z <;> simp[z])
  ·have O:f m∉acc.map f:=fun z=>by
    obtain⟨x,hx,e⟩:=HR.mp z
    have:=h x (by simp[hx]) m (by simp) e
    exact hm (this ▸ hx)
   rw[HP hm,HP O];have ih:=kJ f F (acc++[m]) fun x hx y J=>h x (by simp at hx ⊢; rcases hx with z | z | z <;> simp[z]) y (by simp at J ⊢; rcases J with z | z | z <;> simp[z])
   rw[z9]at ih
   exact ih
end
theorem ou{α : Type}[DecidableEq α]{l:List α}(nd:l.Nodup)(c:Nat)(F:c≤l.length):(l.take c).map (fun x=>l.idxOf x)=List.range c:=by
 refine zbn (by simp; omega) fun i h1 h2=>?_
 have hi:i<l.length:=by simp at h1; omega
 rw[Hu,zbu,List.getElem_range];exact nd.idxOf_getElem _ hi
theorem ir{α : Type}[DecidableEq α](F:List α):eB (du F):=by
 intro i
 have S:=lO F [] GQ;have e1:(du F).take i=(F.take i).map fun m=>(ao [] F).idxOf m:=by unfold du; rw[zbc]
 have inj:∀ x∈[]++F.take i,∀ y∈[]++F.take i,(ao [] F).idxOf x=(ao [] F).idxOf y→x=y:=fun x hx y hy e=>by
  have O:x∈ao [] F:=(cj _ _ _).mpr (.inr (GU (by simpa using hx)))
  have W:y∈ao [] F:=(cj _ _ _).mpr (.inr (GU (by simpa using hy)))
  have h1:=gV (HM.mpr O);have h2:=gV (HM.mpr W);rw[← h1,← h2]; congr 1
 have Y:=kJ (fun m=>(ao [] F).idxOf m) (F.take i) [] inj
 rw[GS]at Y
 have step:∀ (a b acc:List α),ao acc (a++b)=ao (ao acc a) b:=by
  intro a
  induction a with
  | nil=>intro b acc; rfl
  | cons x a ih=>intro b acc; exact ih b _
 have q:ao [] F=ao (ao [] (F.take i)) (F.drop i):=by rw[← step,GT]
 obtain⟨t,Z⟩:=ku (F.drop i) (ao [] (F.take i))
 have e3:ao [] (F.take i)=(ao [] F).take (ao [] (F.take i)).length:=by rw[q,Z,List.take_left]
 have J:(ao [] (F.take i)).length≤(ao [] F).length:=by rw[q,Z,zV]; omega
 rw[e1,Y,zc]
 conv=>lhs; rw[e3]
 exact ou S _ J
theorem lF{l:List Nat}{i:Nat}{x:Nat}(h:eB l)(hx:l[i]? = some x)(J:x∉l.take i):x=(ao [] (l.take i)).length:=by
 have h1:=h i;have h2:=h (i+1);rw[vy,hx]at h2
 show _=_
 have F:x∉ao [] (l.take i):=fun z=>by
  rcases(cj _ _ _).mp z with z | z
  ·cases z
  ·exact J z
 have e:ao [] (l.take i++(some x).toList)=ao [] (l.take i)++[x]:=by
  show ao [] (l.take i++[x])=_
  rw[dL,HP F]
 rw[e,zV,Hq,Gz,← h1]at h2
 have:=List.append_cancel_left h2
 simpa using this
theorem pK{a b:List Nat}(ha:eB a)(hb:eB b)(hl:a.length=b.length)(h:∀ i j:Nat,i<a.length→j<a.length→(a[i]? = a[j]? ↔ b[i]? = b[j]?)):a=b:=by
 have key:∀ i,i≤a.length→a.take i=b.take i:=by
  intro i
  induction i with
  | zero=>intro _; simp
  | succ i ih=>
   intro hi
   have S:=ih (by omega)
   have F:i<a.length:=by omega
   have J:i<b.length:=by omega
   rw[vy,vy,S,za F,za J]
   congr 2
   by_cases hm:a[i]∈a.take i
   ·obtain⟨j,W,e⟩:=HN.mp hm
    have O:j<i:=by simp at W; omega
    rw[zbu]at e
    have q:=(h j i (by omega) F).mp (by rw[za (by omega),za F,e])
    rw[za (by omega),za J]at q
    have Y:b[j]=b[i]:=Option.some.inj q
    rw[← Y,← e];have Z:(a.take i)[j]? = (b.take i)[j]?:=by rw[S]
    rw[zbQ O,zbQ O,za (by omega),za (by omega)]at Z
    exact Z
   ·have hn:b[i]∉b.take i:=fun z=>by
     obtain⟨j,W,e⟩:=HN.mp z
     have O:j<i:=by simp at W; omega
     rw[zbu]at e
     have q:=(h j i (by omega) F).mpr (by rw[za (by omega),za J,e])
     rw[za (by omega),za F]at q
     have Y:a[j]=a[i]:=Option.some.inj q
     exact hm (Y ▸ HN.mpr ⟨j,by simp; omega,by rw[zbu]⟩)
    rw[lF ha (za F) hm,lF hb (za J) hn,S]
 have:=key a.length (zg _)
 rw[rP]at this
 rw[this,hl,rP]
def mark(R:bb)(ks:List Nat)(i:Nat):Nat × List (Option Nat):=(ks.getD i 0,(R.getD i []).map (Option.map fun k=>ks.getD k 0))
def dg(R:bb)(ks:List Nat):List (Nat × List (Option Nat)):=(List.range R.length).map (mark R ks)
def Do(R:bb)(ks:List Nat):List Nat:=du (dg R ks)
def Ai(R:bb):Nat→List Nat
 | 0=>R.map fun _=>0
 | t+1=>Do R (Ai R t)
def aj(R:bb):List Nat:=Ai R (R.length * R.length)
theorem pX(R:bb)(ks:List Nat):(dg R ks).length=R.length:=by simp[dg]
theorem fJ(R:bb)(ks:List Nat):(Do R ks).length=R.length:=by simp[Do,du,dg]
theorem cF(R:bb):∀ t,(Ai R t).length=R.length
 | 0=>by simp[Ai]
 | t+1=>fJ R _
theorem jH{R:bb}{ks:List Nat}{i:Nat}(h:i<R.length):(dg R ks)[i]? = some (mark R ks i):=by
 unfold dg; rw[ze,Gn h]; rfl
theorem ko{R:bb}{ks:List Nat}{i j:Nat}(hi:i<R.length)(F:j<R.length):(Do R ks)[i]? = (Do R ks)[j]? ↔ mark R ks i=mark R ks j:=tw (jH hi) (jH F)
theorem tH(n:Nat):eB (List.replicate n 0):=by
 intro i
 rw[List.take_replicate]
 have:∀ k,ao ([0]:List Nat) (List.replicate k 0)=[0]:=by
  intro k
  induction k with
  | zero=>rfl
  | succ k ih=>rw[HF]; show ao (if 0∈[0] then [0] else [0]++[0]) _=_; rw[HS (by simp)]; exact ih
 cases h:min i n with
 | zero=>rfl
 | succ k=>
  rw[HF];show ao (if (0:Nat)∈[] then [] else []++[0]) (List.replicate k 0)=List.range (ao (if (0:Nat)∈[] then [] else []++[0]) (List.replicate k 0)).length
  rw[HP (by simp),Hn,this]; rfl
theorem dh(R:bb):∀ t,eB (Ai R t)
 | 0=>by
  show eB (R.map fun _=>0)
  rw[List.map_const'];exact tH _
 | t+1=>ir _
def dY(n:Nat)(ks:List Nat):Nat:=((List.range n).flatMap fun i=>(List.range n).map fun j=>(i,j)).countP fun p=>decide (ks[p.1]? = ks[p.2]?)
theorem pW{α : Type}{p q:α→Bool}:∀ {l:List α},(∀ x∈l,p x=true→q x=true)→(∃ x∈l,q x=true∧p x=false)→l.countP p<l.countP q
 | [],_,⟨x,hx,_⟩=>by simp at hx
 | y::l,h,⟨x,hx,h1,h2⟩=>by
  have mono:∀ {l:List α},(∀ x∈l,p x=true→q x=true)→l.countP p≤l.countP q:=by
   intro l hl
   exact List.countP_mono_left hl
  rw[List.countP_cons,List.countP_cons];rcases HW.mp hx with rfl | hx
  ·have:=mono (l:=l) fun z hz=>h z (zU _ hz)
   rw[h1,h2]; simp; omega
  ·have:=pW (fun z hz=>h z (zU _ hz)) ⟨x,hx,h1,h2⟩
   have F:=h y wZ
   cases hp:p y with
   | true=>rw[F hp]; simp; omega
   | false=>cases q y <;> simp <;> omega
theorem ng{R:bb}{ks:List Nat}(hl:ks.length=R.length)(W:eB ks)(O:Do R ks≠ks):dY R.length (Do R ks)<dY R.length ks:=by
 have sub:∀ i j,i<R.length→j<R.length→(Do R ks)[i]? = (Do R ks)[j]?→ks[i]? = ks[j]?:=fun i j hi F e=>by
  have m:=(ko hi F).mp e;have m1:ks.getD i 0=ks.getD j 0:=congrArg (·.1) m
  rw[zp,zp,za (by omega),za (by omega)]at m1
  rw[za (by omega),za (by omega)]
  exact congrArg some m1
 refine pW (fun x hx e=>?_) ?_
 ·obtain⟨i,hi,hx⟩:=Iq.mp hx
  obtain⟨j,F,rfl⟩:=HR.mp hx
  exact decide_eq_true (sub i j (HV.mp hi) (HV.mp F) (of_decide_eq_true e))
 ·refine iO fun J=>O ?_
  refine pK (ir _) W (by rw[fJ,hl]) fun i j hi F=>?_
  rw[fJ]at hi F
  refine⟨sub i j hi F,fun e=>iO fun S=>J ⟨(i,j),?_,decide_eq_true e,decide_eq_false S⟩⟩
  exact Iq.mpr ⟨i,HV.mpr hi,HR.mpr ⟨j,HV.mpr F,rfl⟩⟩
theorem sA(n:Nat)(ks:List Nat):dY n ks≤n * n:=by
 unfold dY;refine vg List.countP_le_length ?_
 have:∀ (l:List Nat),(l.flatMap fun i=>(List.range n).map fun j=>(i,j)).length=l.length * n:=by
  intro l
  induction l with
  | nil=>simp
  | cons x l ih=>rw[List.flatMap_cons,zV,ih,zc,iP,vR,Nat.succ_mul]; omega
 rw[this,iP]; exact zg _
theorem rD{R:bb}{t:Nat}(h:Ai R (t+1)=Ai R t):∀ s,Ai R (t+s)=Ai R t
 | 0=>rfl
 | s+1=>by
  show Do R (Ai R (t+s))=_
  rw[rD h s]; exact h
theorem lD{R:bb}{t:Nat}(h:Ai R (t+1)=Ai R t)(F:t≤R.length * R.length):Ai R t=aj R:=by
 unfold aj;have:=rD h (R.length * R.length - t)
 rw[show t+(R.length * R.length - t)=R.length * R.length by omega]at this
 exact this.symm
def dE(ks:List Nat)(x:List (Option Nat)):List (Option Nat):=x.map (Option.map fun k=>ks.getD k 0)
def cz(R:bb)(ks:List Nat)(i:Nat):bb:=(List.range (ao [] (ks.take i)).length).map fun k=>dE ks (R.getD (ks.idxOf k) [])
def merged(R:bb):bb:=cz R (aj R) R.length
theorem tR{l:List Nat}{i x:Nat}(hx:l[i]? = some x)(J:x∉l.take i):l.idxOf x=i:=by
 obtain⟨hi,e⟩:=HL.mp hx
 have F:l=l.take i++l.drop i:=(GT _ _).symm
 have h1:l.drop i=x::l.drop (i+1):=by rw[List.drop_eq_getElem_cons hi,e]
 rw[F,GV,HP J,h1,List.idxOf_cons_self,vc];omega
theorem tS{R:bb}{ks:List Nat}(S:eB ks)(hl:ks.length=R.length){i:Nat}(hi:i<R.length) :
  cz R ks (i+1)=if ks.getD i 0=(cz R ks i).length then cz R ks i++[dE ks (R.getD i [])] else cz R ks i:=by
 have J:i<ks.length:=by omega
 have F:ks[i]? = some ks[i]:=za J
 have hg:ks.getD i 0=ks[i]:=by rw[zp,F]; rfl
 have O:(cz R ks i).length=(ao [] (ks.take i)).length:=by simp[cz]
 rw[hg,O];have W:ks.take (i+1)=ks.take i++[ks[i]]:=by rw[vy,F]; rfl
 by_cases hm:ks[i]∈ks.take i
 ·have hf:ks[i]∈ao [] (ks.take i):=(cj _ _ _).mpr (.inr hm)
  have Z:ks[i]<(ao [] (ks.take i)).length:=by
   have:=S i
   rw[this]at hf
   exact HV.mp hf
  rw[HP (by omega)]
  unfold cz;rw[W,dL,HS hf]
 ·have Y:ks[i]∉ao [] (ks.take i):=fun z=>by
   rcases(cj _ _ _).mp z with z | z
   ·cases z
   ·exact hm z
  have e:=lF S F hm;rw[HS e];unfold cz;rw[W,dL,HP Y,zV,Hq,Gz,z9]
  congr 1
  rw[← e];show [dE ks (R.getD (ks.idxOf ks[i]) [])]=_
  rw[tR F hm]
def aM:List Nat→List (Option Nat)→List Nat
 | o,[]=>o
 | o,none::x=>aM o x
 | o,some k::x=>aM (if k∈o then o else o++[k]) x
theorem jW:∀ (x:List (Option Nat)) (o:List Nat) (w:Option Nat),aM o (x++[w])=match w with
  | none=>aM o x
  | some k=>if k∈aM o x then aM o x else aM o x++[k]
 | [],o,none=>rfl
 | [],o,some k=>rfl
 | none::x,o,w=>jW x o w
 | some k::x,o,w=>jW x _ w
theorem kU:∀ (x:List (Option Nat)) (o:List Nat),∃ t,aM o x=o++t
 | [],o=>⟨[],by simp[aM]⟩
 | none::x,o=>kU x o
 | some k::x,o=>by
  obtain⟨t,e⟩:=kU x (if k∈o then o else o++[k])
  show ∃ t,aM (if k∈o then o else o++[k]) x=o++t
  by_cases h:k∈o
  ·rw[HS h]at e ⊢; exact⟨t,e⟩
  ·rw[HP h]at e ⊢; exact⟨[k]++t,by rw[e,GC]⟩
theorem e_:∀ (x:List (Option Nat)) (o:List Nat) (k:Nat),k∈aM o x ↔ k∈o∨some k∈x
 | [],o,k=>by simp[aM]
 | none::x,o,k=>by rw[show aM o (none::x)=aM o x from rfl,e_ x]; simp
 | some j::x,o,k=>by
  rw[show aM o (some j::x)=aM (if j∈o then o else o++[j]) x from rfl,e_ x]
  by_cases h:j∈o
  ·rw[HS h]
   constructor
   ·rintro(z | z)
    ·exact .inl z
    ·exact .inr (zU _ z)
   ·rintro(z | z)
    ·exact .inl z
    ·rcases HW.mp z with e | z
     ·cases e; exact .inl h
     ·exact .inr z
  ·rw[HP h]; simp[or_assoc]
theorem gx:∀ (x:List (Option Nat)) (o:List Nat),o.Nodup→(aM o x).Nodup
 | [],o,h=>h
 | none::x,o,h=>gx x o h
 | some k::x,o,h=>by
  refine gx x _ ?_
  by_cases hm:k∈o
  ·rw[HS hm]; exact h
  ·rw[HP hm,zbV]
   exact⟨h,by simp,fun a J b F e=>by rw[HQ.mp F]at e; exact hm (e ▸ J)⟩
def aF(M:bb):Nat→List Nat
 | 0=>[0]
 | t+1=>match (aF M t)[t]? with
  | some r=>aM (aF M t) (M.getD r [])
  | none=>aF M t
def az(M:bb):List Nat:=aF M M.length
def eR(M:bb):Prop:=∀ x∈M,∀ k,some k∈x→k<M.length
theorem jy:∀ (m:Nat) (l:List Nat),l.Nodup→(∀ x∈l,x<m)→l.length≤m
 | 0,l,_,h=>by
  cases l with
  | nil=>exact zg _
  | cons x l=>exact absurd (h x wZ) (G0 _)
 | m+1,l,nd,h=>by
  have h1:=jy m (l.filter (fun x=>decide (x≠m))) (nd.filter _) fun x hx=>by
   obtain⟨hx,hd⟩:=Ia.mp hx
   have:=h x hx
   have:=of_decide_eq_true hd
   omega
  have h2:l.length≤(l.filter (fun x=>decide (x≠m))).length+1:=by
   have:∀ (l:List Nat),l.Nodup→l.length≤(l.filter (fun x=>decide (x≠m))).length+1:=by
    intro l
    induction l with
    | nil=>intro _; simp
    | cons y l ih=>
     intro nd
     by_cases e:y=m
     ·subst e
      have J:y∉l:=(HY.mp nd).1
      have F:l.filter (fun x=>decide (x≠y))=l:=List.filter_eq_self.mpr fun x hx=>decide_eq_true (fun z=>J (z ▸ hx))
      rw[List.filter_cons_of_neg (by simp),F,vR]; exact zg _
     ·rw[List.filter_cons_of_pos (by simpa using e),vR,vR]
      have:=ih (HY.mp nd).2
      omega
   exact this l nd
  omega
theorem ee{M:bb}(hi:eR M)(F:1≤M.length):∀ t,(aF M t).Nodup∧∀ x∈aF M t,x<M.length
 | 0=>⟨by simp[aF],fun x hx=>by simp[aF]at hx; omega⟩
 | t+1=>by
  obtain⟨nd,lt⟩:=ee hi F t
  show (match (aF M t)[t]? with | some r=>aM (aF M t) (M.getD r []) | none=>aF M t).Nodup∧∀ x∈(match (aF M t)[t]? with | some r=>aM (aF M t) (M.getD r []) | none=>aF M t),x<M.length
  cases e:(aF M t)[t]? with
  | none=>exact⟨nd,lt⟩
  | some r=>
   refine⟨gx _ _ nd,fun x hx=>?_⟩
   rcases(e_ _ _ _).mp hx with z | z
   ·exact lt x z
   ·have hr:r<M.length:=lt r (zX e)
    rw[zp,za hr]at z
    exact hi _ (zl hr) x z
theorem lV{M:bb}(hi:eR M)(F:1≤M.length)(t:Nat):(aF M t).length≤M.length:=jy _ _ (ee hi F t).1 (ee hi F t).2
theorem oJ{M:bb}{t:Nat}(h:(aF M t).length≤t):∀ s,aF M (t+s)=aF M t
 | 0=>rfl
 | s+1=>by
  have ih:=oJ h s;show (match (aF M (t+s))[t+s]? with | some r=>aM (aF M (t+s)) (M.getD r []) | none=>aF M (t+s))=_
  rw[ih,oQ (by omega)]
theorem lN{M:bb}{t:Nat}(h:(aF M t).length≤t)(F:t≤M.length):aF M t=az M:=by
 unfold az;have:=oJ h (M.length - t)
 rw[show t+(M.length - t)=M.length by omega]at this
 exact this.symm
def gg(o:List Nat)(x:List (Option Nat)):List (Option Nat):=x.map (Option.map fun k=>o.idxOf k)
def bf(M:bb):bb:=(az M).map fun r=>gg (az M) (M.getD r [])
def eU(N:bb)(p:Nat):Bool:=(List.range N.length).any fun i=>decide ((N.getD i []).getD p none≠some i)
def ux(N:bb)(w:Nat):List Nat:=(List.range w).filter (eU N)
def ai(R:bb):bb:=bf (merged R)
theorem lU{M:bb}(t:Nat):∃ u,aF M (t+1)=aF M t++u:=by
 show ∃ u,(match (aF M t)[t]? with | some r=>aM (aF M t) (M.getD r []) | none=>aF M t)=aF M t++u
 cases e:(aF M t)[t]? with
 | none=>exact⟨[],by simp⟩
 | some r=>exact kU _ _
theorem nR{M:bb}:∀ (t j r:Nat),j<t→(aF M t)[j]? = some r→∀ k,some k∈M.getD r []→k∈aF M t
 | 0,j,r,h,_,_,_=>absurd h (G0 _)
 | t+1,j,r,h,hr,k,hk=>by
  obtain⟨u,S⟩:=lU (M:=M) t
  rcases x6 j (aF M t).length with O | O
  ·have J:(aF M t)[j]? = some r:=by rw[S,vt O]at hr; exact hr
   rcases x6 j t with F | F
   ·rw[S]; exact mW _ (nR t j r F J k hk)
   ·have e:j=t:=by omega
    subst e;show k∈(match (aF M j)[j]? with | some r=>aM (aF M j) (M.getD r []) | none=>aF M j)
    rw[J];exact(e_ _ _ _).mpr (.inr hk)
  ·have W:(aF M t)[t]? = none:=oQ (by omega)
   have e:aF M (t+1)=aF M t:=by
    show (match (aF M t)[t]? with | some r=>aM (aF M t) (M.getD r []) | none=>aF M t)=_
    rw[W]
   rw[e,oQ O]at hr
   cases hr
theorem eY{M:bb}(hi:eR M)(J:1≤M.length){r k:Nat}(hr:r∈az M)(O:some k∈M.getD r []):k∈az M:=by
 obtain⟨j,F,e⟩:=HN.mp hr
 have hl:=lV hi J M.length;exact nR M.length j r (va F hl) (by rw[← e]; exact za F) k O
theorem eI{M:bb}(hi:eR M)(F:1≤M.length):(az M).Nodup∧(∀ x∈az M,x<M.length)∧(az M).length≤M.length:=⟨(ee hi F _).1,(ee hi F _).2,lV hi F _⟩
theorem kF(M:bb):∀ t,(aF M t)[0]? = some 0
 | 0=>rfl
 | t+1=>by
  obtain⟨u,F⟩:=lU (M:=M) t
  have h:=kF M t;have hl:0<(aF M t).length:=(HL.mp h).1
  rw[F,vt hl]; exact h
theorem fC{R:bb}(hc:1≤R.length)(hi:eR R):eR (merged R)∧1≤(merged R).length∧(merged R).length≤R.length:=by
 have hl:(aj R).length=R.length:=cF R _
 have W:eB (aj R):=dh R _
 have F:=W R.length;rw[← hl,rP]at F
 have J:(merged R).length=(ao [] (aj R)).length:=by
  unfold merged cz;rw[zc,iP,← hl,rP]
 have Y:(merged R).length≤R.length:=by
  have:=eC (aj R) []
  rw[J]; simp at this; omega
 have mem:∀ k∈aj R,k<(merged R).length:=fun k O=>by
  have:k∈ao [] (aj R):=(cj _ _ _).mpr (.inr O)
  rw[F]at this
  rw[J]; exact HV.mp this
 refine⟨fun x hx k O=>?_,?_,Y⟩
 ·unfold merged cz at hx
  obtain⟨j,hj,rfl⟩:=HR.mp hx
  unfold dE at O;obtain⟨o,S,e⟩:=HR.mp O
  cases o with
  | none=>cases e
  | some k'=>
   have Z:(aj R).getD k' 0=k:=Option.some.inj e
   refine mem k ?_
   have aa:k'<R.length:=by
    by_cases hjj:(aj R).idxOf j<R.length
    ·rw[zp,za hjj]at S
     exact hi _ (zl hjj) k' S
    ·rw[zp,oQ (by omega)]at S
     cases S
   rw[← Z,zp,za (by omega)]
   exact zl _
 ·have h0:(aj R)[0]∈aj R:=zl (by omega)
  have:=mem _ h0
  omega
theorem nO{R:bb}{m:Nat}(hr:∀ x∈R,x.length=m):∀ x∈merged R,x.length=m:=by
 have hl:(aj R).length=R.length:=cF R _
 have J:eB (aj R):=dh R _
 intro x hx
 unfold merged cz at hx;obtain⟨j,W,rfl⟩:=HR.mp hx
 have S:j∈ao [] ((aj R).take R.length):=by
  have:=J R.length
  rw[this]; exact W
 have O:j∈aj R:=by
  rcases(cj _ _ _).mp S with z | z
  ·cases z
  ·exact GU z
 have F:(aj R).idxOf j<R.length:=by rw[← hl]; exact HM.mpr O
 unfold dE;rw[zc,zp,za F];exact hr _ (zl F)
theorem fw{M:bb}{m:Nat}(hi:eR M)(S:1≤M.length)(hr:∀ x∈M,x.length=m):eR (bf M)∧1≤(bf M).length∧(bf M).length≤M.length∧∀ x∈bf M,x.length=m:=by
 obtain⟨nd,lt,le⟩:=eI hi S
 have J:(bf M).length=(az M).length:=by simp[bf]
 have h1:0<(az M).length:=(HL.mp (kF M M.length)).1
 have row:∀ r∈az M,∃ x,M.getD r []=x∧x∈M:=fun r F=>by
  have:=lt r F
  exact⟨_,rfl,by rw[zp,za this]; exact zl _⟩
 refine⟨fun x hx k O=>?_,by omega,by omega,fun x hx=>?_⟩
 ·unfold bf at hx
  obtain⟨r,F,rfl⟩:=HR.mp hx
  unfold gg at O;obtain⟨o,Z,e⟩:=HR.mp O
  cases o with
  | none=>cases e
  | some k'=>
   have W:(az M).idxOf k'=k:=Option.some.inj e
   rw[← W,J];exact HM.mpr (eY hi S F Z)
 ·unfold bf at hx
  obtain⟨r,F,rfl⟩:=HR.mp hx
  obtain⟨y,e,Y⟩:=row r F
  unfold gg;rw[zc,e]; exact hr y Y
theorem kW{R:bb}(E:Nat→Nat→Prop)(O:∀ u v,E u v→u<R.length→v<R.length→∀ p:Nat,((R.getD u [])[p]? = none∧(R.getD v [])[p]? = none)∨((R.getD u [])[p]? = some none∧(R.getD v [])[p]? = some none)∨
   ∃ x y,(R.getD u [])[p]? = some (some x)∧(R.getD v [])[p]? = some (some y)∧E x y∧x<R.length∧y<R.length) :
  ∀ (t u v:Nat),E u v→u<R.length→v<R.length→(Ai R t)[u]? = (Ai R t)[v]?
 | 0,u,v,_,hu,hv=>by
  show (R.map fun _=>0)[u]? = (R.map fun _=>0)[v]?
  rw[ze,ze,za hu,za hv]; rfl
 | t+1,u,v,h,hu,hv=>by
  have ih:=kW E O t;refine(ko hu hv).mpr ?_
  have S:∀ x y,E x y→x<R.length→y<R.length→(Ai R t).getD x 0=(Ai R t).getD y 0:=fun x y e hx J=>by
   rw[zp,zp,ih x y e hx J]
  refine Prod.ext (S u v h hu hv) ?_
  show (R.getD u []).map _=(R.getD v []).map _
  refine za3 fun p=>?_
  rw[ze,ze];rcases O u v h hu hv p with ⟨h1,h2⟩ | ⟨h1,h2⟩ | ⟨x,y,h1,h2,F,hx,J⟩
  ·rw[h1,h2]
  ·rw[h1,h2]
  ·rw[h1,h2]
   exact congrArg (fun z=>some (some z)) (S x y F hx J)
theorem mE(R:bb):Do R (aj R)=aj R:=by
 -- the pairs can't get fewer for ever
 have key:∀ t,(∃ s,s≤t∧Ai R (s+1)=Ai R s)∨dY R.length (Ai R (t+1))+(t+1)≤R.length * R.length:=by
  intro t
  induction t with
  | zero=>
   by_cases h:Ai R 1=Ai R 0
   ·exact .inl ⟨0,zg _,h⟩
   ·have:=ng (R:=R) (cF R 0) (dh R 0) h
    have:=sA R.length (Ai R 0)
    refine .inr ?_
    show dY R.length (Do R (Ai R 0))+1≤_
    omega
  | succ t ih=>
   rcases ih with ⟨s,F,e⟩ | ih
   ·exact .inl ⟨s,by omega,e⟩
   ·by_cases h:Ai R (t+1+1)=Ai R (t+1)
    ·exact .inl ⟨t+1,zg _,h⟩
    ·have:=ng (R:=R) (cF R (t+1)) (dh R (t+1)) h
     refine .inr ?_
     show dY R.length (Do R (Ai R (t+1)))+(t+1+1)≤_
     omega
 rcases key (R.length * R.length) with ⟨s,F,e⟩ | h
 ·have J:=lD e F
  rw[← J]; exact e
 ·omega
theorem x9{l:List Nat}(F:eB l)(hi:∀ i j,i<l.length→j<l.length→l[i]? = l[j]?→i=j):l=List.range l.length:=by
 refine pK F ?_ (by simp) fun i j h1 h2=>?_
 ·have:List.range l.length=du (List.range l.length):=by
   have hf:∀ (n:Nat),ao [] (List.range n)=List.range n:=by
    intro n
    induction n with
    | zero=>rfl
    | succ n ih=>
     rw[Gz,dL,ih,HP (by simp)]
   unfold du;rw[hf];refine zbn (by simp) fun i h1 h2=>?_
   rw[Hu];have:=(List.nodup_range (n:=l.length)).idxOf_getElem i (by simpa using h1)
   rw[this,List.getElem_range]
  rw[this]; exact ir _
 ·rw[Gn h1,Gn h2]
  constructor
  ·intro e; rw[hi i j h1 h2 e]
  ·intro e
   have:i=j:=Option.some.inj e
   rw[this]
def dN(N:bb)(ps:List Nat):bb:=N.map fun y=>ps.map fun x=>y.getD x none
theorem aJ{α : Type}{l:List α}{i:Nat}{d:α}(h:i<l.length):l.getD i d=l[i]:=by rw[zp,za h]; rfl
theorem fU{R:bb}{u:Nat}(hu:u<R.length):(aj R).getD u 0<(merged R).length∧dE (aj R) (R.getD u [])=(merged R).getD ((aj R).getD u 0) []:=by
 have hl:(aj R).length=R.length:=cF R _
 have Z:eB (aj R):=dh R _
 have Y:(aj R).getD u 0=(aj R)[u]'(by omega):=aJ (by omega)
 have F:(aj R).getD u 0∈aj R:=by rw[Y]; exact zl _
 generalize (aj R).getD u 0=k at Y F;have J:=Z R.length;rw[← hl,rP]at J
 have O:(merged R).length=(ao [] (aj R)).length:=by
  unfold merged cz;rw[zc,iP,← hl,rP]
 have S:k<(merged R).length:=by
  have:k∈ao [] (aj R):=(cj _ _ _).mpr (.inr F)
  rw[J]at this
  rw[O]; exact HV.mp this
 refine⟨S,?_⟩
 have aa:(aj R).idxOf k<R.length:=by rw[← hl]; exact HM.mpr F
 have W:(aj R)[(aj R).idxOf k]'(by omega)=k:=gV (HM.mpr F)
 have e:(merged R).getD k []=dE (aj R) (R.getD ((aj R).idxOf k) []):=by
  rw[zp];unfold merged cz;rw[ze,Gn (by rw[← hl,rP,← O]; exact S)]; rfl
 rw[e]
 have q:(Do R (aj R))[u]? = (Do R (aj R))[(aj R).idxOf k]?:=by
  rw[mE,za (by omega),za (by omega),W]
  exact congrArg some Y.symm
 exact congrArg (·.2) ((ko hu aa).mp q)
theorem qh{R:bb}{k:Nat}(h:k<(merged R).length):∃ u,u<R.length∧(aj R).getD u 0=k:=by
 have hl:(aj R).length=R.length:=cF R _
 have J:eB (aj R):=dh R _
 have F:=J R.length;rw[← hl,rP]at F
 have W:(merged R).length=(ao [] (aj R)).length:=by
  unfold merged cz;rw[zc,iP,← hl,rP]
 have S:k∈ao [] (aj R):=by rw[F]; exact HV.mpr (by omega)
 have O:k∈aj R:=by
  rcases(cj _ _ _).mp S with z | z
  ·cases z
  ·exact z
 obtain⟨u,Y,e⟩:=HN.mp O
 exact⟨u,by omega,by rw[aJ Y]; exact e⟩
structure Rm (R:bb) (m:Nat):Prop where
 n0:1≤R.length
 row:∀ x∈R,x.length=m
 ins:eR R
theorem Rm.merged{R:bb}{m:Nat}(h:Rm R m):Rm (merged R) m:=⟨(fC h.n0 h.ins).2.1,nO h.row,(fC h.n0 h.ins).1⟩
theorem Rm.ordered{R:bb}{m:Nat}(h:Rm R m):Rm (bf R) m:=⟨(fw h.ins h.n0 h.row).2.1,(fw h.ins h.n0 h.row).2.2.2,(fw h.ins h.n0 h.row).1⟩
theorem Rm.least{R:bb}{m:Nat}(h:Rm R m):Rm (ai R) m:=h.merged.ordered
theorem kA{N:bb}{ps:List Nat}{i:Nat}(h:i<N.length):(dN N ps).getD i []=ps.map fun x=>(N.getD i []).getD x none:=by
 unfold dN;rw[aJ (by simpa using h),Hu,aJ h]
theorem eQ(N:bb)(ps:List Nat):(dN N ps).length=N.length:=by simp[dN]
theorem Cg{N:bb}{m:Nat}(h:Rm N m)(ps:List Nat)(hp:∀ x∈ps,x<m):Rm (dN N ps) ps.length:=by
 refine⟨by rw[eQ]; exact h.n0,fun x hx=>?_,fun x hx k S=>?_⟩
 ·obtain⟨y,J,rfl⟩:=HR.mp hx
  simp
 ·obtain⟨y,J,rfl⟩:=HR.mp hx
  obtain⟨p,O,e⟩:=HR.mp S
  have F:p<y.length:=by rw[h.row y J]; exact hp p O
  rw[aJ F]at e
  rw[eQ];exact h.ins y J k (e ▸ zl F)
theorem kT{N:bb}{p i:Nat}(h:eU N p=false)(hi:i<N.length):(N.getD i []).getD p none=some i:=by
 unfold eU at h;rw[zbz]at h
 have:=h i (HV.mpr hi)
 simpa using this
theorem DU{R:bb}:(ai R).length=(az (merged R)).length:=by unfold ai bf; rw[zc]
theorem n_{R:bb}{i:Nat}(h:i<(ai R).length):(ai R).getD i []=gg (az (merged R)) ((merged R).getD ((az (merged R))[i]'(by rw[← DU]; exact h)) []):=by
 rw[zp];show (((az (merged R)).map fun r=>gg (az (merged R)) ((merged R).getD r []))[i]?).getD []=_
 rw[ze,za (by rw[← DU]; exact h)]; rfl
theorem wB{R:bb}{m:Nat}(h:Rm R m):∀ i j,i<(ai R).length→j<(ai R).length→(aj (dN (ai R) (ux (ai R) m)))[i]? = (aj (dN (ai R) (ux (ai R) m)))[j]?→i=j:=by
 have hM:=h.merged;have hN:=h.least;obtain⟨a8,a3,b2⟩:=eI hM.ins hM.n0
 have a2:∀ x∈ux (ai R) m,x<m:=fun x hx=>HV.mp (Ia.mp hx).1
 have hF:=Cg hN (ux (ai R) m) a2;generalize hFd:dN (ai R) (ux (ai R) m)=F at hF ⊢;have b1:F.length=(ai R).length:=by rw[← hFd,eQ]
 have b4:(aj F).length=F.length:=cF F _
 let o:=az (merged R)
 let K:=aj R
 have b5:o.length=(ai R).length:=DU.symm
 -- a word's as from two least rooms of one kind
 have as:∀ i j,i<(ai R).length→j<(ai R).length→(aj F)[i]? = (aj F)[j]?→∀ p,p<m→
   (((ai R).getD i []).getD p none=none∧((ai R).getD j []).getD p none=none)∨∃ x y,((ai R).getD i []).getD p none=some x∧((ai R).getD j []).getD p none=some y∧x<(ai R).length∧y<(ai R).length∧(aj F)[x]? = (aj F)[y]?:=by
  intro i j hi S e p hp
  by_cases hd:eU (ai R) p=true
  ·have bA:p∈ux (ai R) m:=Ia.mpr ⟨HV.mpr hp,hd⟩
   obtain⟨q,hq,eq⟩:=HN.mp bA
   have mk:mark F (aj F) i=mark F (aj F) j:=(ko (by omega) (by omega)).mp (by rw[mE]; exact e)
   have a1:(F.getD i []).map (Option.map fun k=>(aj F).getD k 0)=(F.getD j []).map (Option.map fun k=>(aj F).getD k 0):=congrArg (·.2) mk
   have at':∀ i,i<(ai R).length→((F.getD i []).map (Option.map fun k=>(aj F).getD k 0))[q]? = some ((((ai R).getD i []).getD p none).map fun k=>(aj F).getD k 0):=fun i hi=>by
    rw[← hFd,kA hi,ze,ze,za hq,eq]; rfl
   have r1:=at' i hi;have r2:=at' j S;rw[a1,r2]at r1
   have r3:=Option.some.inj r1
   have mem:∀ i,i<(ai R).length→∀ x,((ai R).getD i []).getD p none=some x→x<(ai R).length:=fun i hi x hx=>by
    rw[aJ hi]at hx
    have a4:p<((ai R)[i]).length:=by rw[hN.row _ (zl hi)]; exact hp
    rw[aJ a4]at hx
    exact hN.ins _ (zl hi) x (hx ▸ zl a4)
   cases Y:((ai R).getD i []).getD p none with
   | none=>
    cases e2:((ai R).getD j []).getD p none with
    | none=>exact .inl ⟨rfl,rfl⟩
    | some y=>rw[Y,e2]at r3; cases r3
   | some x=>
    cases e2:((ai R).getD j []).getD p none with
    | none=>rw[Y,e2]at r3; cases r3
    | some y=>
     rw[Y,e2]at r3
     have hx:=mem i hi x Y;have hy:=mem j S y e2;have r4:(aj F).getD y 0=(aj F).getD x 0:=Option.some.inj r3
     refine .inr ⟨x,y,rfl,rfl,hx,hy,?_⟩
     rw[aJ (by omega),aJ (by omega)]at r4
     rw[za (by omega),za (by omega),r4]
  ·have ad:eU (ai R) p=false:=by simpa using hd
   exact .inr ⟨i,j,kT ad hi,kT ad S,hi,S,e⟩
 let E:Nat→Nat→Prop:=fun u v=>K.getD u 0=K.getD v 0∨∃ i j,i<(ai R).length∧j<(ai R).length∧o[i]? = some (K.getD u 0)∧o[j]? = some (K.getD v 0)∧(aj F)[i]? = (aj F)[j]?
 have be:∀ u v,E u v→u<R.length→v<R.length→∀ p:Nat,((R.getD u [])[p]? = none∧(R.getD v [])[p]? = none)∨((R.getD u [])[p]? = some none∧(R.getD v [])[p]? = some none)∨
   ∃ x y,(R.getD u [])[p]? = some (some x)∧(R.getD v [])[p]? = some (some y)∧E x y∧x<R.length∧y<R.length:=by
  intro u v he J hv p
  have ru:=h.row _ (zl J);have rv:=h.row _ (zl hv);have gu:R.getD u []=R[u]:=aJ J
  have gv:R.getD v []=R[v]:=aJ hv
  rcases x6 p m with hp | hp
  ·have ins:∀ u (J:u<R.length) x,(R[u])[p]? = some (some x)→x<R.length:=fun u J x hx=>h.ins _ (zl J) x (zX hx)
   obtain⟨_,W⟩:=fU J
   obtain⟨_,wv⟩:=fU hv
   rw[gu]at W ⊢
   rw[gv]at wv ⊢
   obtain⟨a,ha⟩ : ∃ a,(R[u])[p]? = some a:=⟨(R[u])[p]'(by omega),za (by omega)⟩
   obtain⟨b,hb⟩ : ∃ b,(R[v])[p]? = some b:=⟨(R[v])[p]'(by omega),za (by omega)⟩
   have ag:(dE K R[u])[p]? = some (a.map fun k=>K.getD k 0):=by unfold dE; rw[ze,ha]; rfl
   have a0:(dE K R[v])[p]? = some (b.map fun k=>K.getD k 0):=by unfold dE; rw[ze,hb]; rfl
   rw[ha,hb];rcases he with he | ⟨i,j,hi,S,Z,oj,a6⟩
   ·have q:(dE K R[u])[p]? = (dE K R[v])[p]?:=by
     show (dE (aj R) R[u])[p]? = (dE (aj R) R[v])[p]?
     rw[W,wv];have a7:(aj R).getD u 0=(aj R).getD v 0:=he
     rw[a7]
    rw[ag,a0]at q
    have q':=Option.some.inj q
    cases a with
    | none=>cases b with
     | none=>exact .inr (.inl ⟨rfl,rfl⟩)
     | some y=>cases q'
    | some x=>cases b with
     | none=>cases q'
     | some y=>exact .inr (.inr ⟨x,y,rfl,rfl,.inl (Option.some.inj q'),ins u J x ha,ins v hv y hb⟩)
   ·have row:∀ i (hi:i<(ai R).length) u (J:u<R.length),o[i]? = some (K.getD u 0)→∀ a:Option Nat,(dE K R[u])[p]? = some (a.map fun k=>K.getD k 0)→((ai R).getD i []).getD p none=(a.map fun k=>K.getD k 0).map (fun k=>o.idxOf k):=fun i hi u J Z a wa=>by
     have O:i<o.length:=by omega
     rw[n_ hi]
     have Y:(az (merged R))[i]'O=K.getD u 0:=by
      have:=Z
      rw[za O]at this
      exact Option.some.inj this
     rw[Y];obtain⟨_,W⟩:=fU J
     rw[aJ J]at W
     rw[← W];unfold gg;rw[zp,ze];have bz:(dE (aj R) R[u])[p]? = some (a.map fun k=>K.getD k 0):=wa
     rw[bz]; rfl
    have na:=row i hi u J Z a ag;have nb:=row j S v hv oj b a0
    have aa:∀ i (hi:i<(ai R).length) u (J:u<R.length),o[i]? = some (K.getD u 0)→∀ x,(R[u])[p]? = some (some x)→K.getD x 0∈o:=fun i hi u J Z x hx=>by
     refine eY hM.ins hM.n0 (zX Z) ?_
     obtain⟨_,W⟩:=fU J
     rw[aJ J]at W
     show some (K.getD x 0)∈(merged R).getD ((aj R).getD u 0) []
     rw[← W];refine HR.mpr ⟨some x,zX hx,rfl⟩
    rcases as i j hi S a6 p hp with ⟨w1,w2⟩ | ⟨x',y',w1,w2,bp,bS,bB⟩
    ·cases a with
     | none=>cases b with
      | none=>exact .inr (.inl ⟨rfl,rfl⟩)
      | some y=>rw[w2]at nb; cases nb
     | some x=>rw[w1]at na; cases na
    ·cases a with
     | none=>rw[w1]at na; cases na
     | some x=>cases b with
      | none=>rw[w2]at nb; cases nb
      | some y=>
       rw[w1]at na
       rw[w2]at nb
       have a5:x'=o.idxOf (K.getD x 0):=Option.some.inj na
       have a9:y'=o.idxOf (K.getD y 0):=Option.some.inj nb
       have mx:=aa i hi u J Z x ha;have my:=aa j S v hv oj y hb;refine .inr (.inr ⟨x,y,rfl,rfl,.inr ⟨x',y',bp,bS,?_,?_,bB⟩,ins u J x ha,ins v hv y hb⟩)
       ·rw[a5,za (HM.mpr mx),gV]
       ·rw[a9,za (HM.mpr my),gV]
  ·exact .inl ⟨by rw[gu]; exact oQ (by omega),by rw[gv]; exact oQ (by omega)⟩
 intro i j hi S e
 have O:i<o.length:=by omega
 have an:j<o.length:=by omega
 obtain⟨u,J,eu⟩:=qh (a3 _ (zl O))
 obtain⟨v,hv,ev⟩:=qh (a3 _ (zl an))
 have q:=kW E be (R.length * R.length) u v (.inr ⟨i,j,hi,S,by rw[za O]; exact congrArg some eu.symm,by rw[za an]; exact congrArg some ev.symm,e⟩) J hv
 have b3:(aj R).length=R.length:=cF R _
 have q':(aj R)[u]? = (aj R)[v]?:=q
 have q2:(aj R).getD u 0=(aj R).getD v 0:=by rw[zp,zp,q']
 rw[eu,ev]at q2
 exact(Hz a8).mp q2
theorem iV(f:Nat→Nat):∀ (x:List (Option Nat)) (o:List Nat),(∀ a,(a∈o∨some a∈x)→∀ b,(b∈o∨some b∈x)→f a=f b→a=b)→aM (o.map f) (x.map (Option.map f))=(aM o x).map f
 | [],o,_=>rfl
 | none::x,o,h=>iV f x o fun a F b J=>h a (by rcases F with z | z <;> simp[z]) b (by rcases J with z | z <;> simp[z])
 | some k::x,o,h=>by
  show aM (if f k∈o.map f then o.map f else o.map f++[f k]) (x.map (Option.map f))=(aM (if k∈o then o else o++[k]) x).map f
  by_cases hm:k∈o
  ·rw[HS hm,HS (HR.mpr ⟨k,hm,rfl⟩)]
   exact iV f x o fun a F b J=>h a (by rcases F with z | z <;> simp[z]) b (by rcases J with z | z <;> simp[z])
  ·have O:f k∉o.map f:=fun z=>by
    obtain⟨a,F,e⟩:=HR.mp z
    have:=h a (.inl F) k (.inr (by simp)) e
    exact hm (this ▸ F)
   rw[HP hm,HP O]
   have conv:∀ a,(a∈o++[k]∨some a∈x)→(a∈o∨some a∈some k::x):=fun a F=>by
    rcases F with z | z
    ·rcases HX.mp z with z | z
     ·exact .inl z
     ·rw[HQ.mp z]; exact .inr wZ
    ·exact .inr (zU _ z)
   have ih:=iV f x (o++[k]) fun a F b J=>h a (conv a F) b (conv b J)
   rw[z9]at ih
   exact ih
theorem mv(P:Nat→Bool)(f:Nat→Option Nat)(t:Nat):∀ (l o:List Nat),t∈o→(∀ p∈l,P p=false→f p=some t)→aM o ((l.filter P).map f)=aM o (l.map f)
 | [],_,_,_=>rfl
 | p::l,o,F,h=>by
  have ih:=fun o F=>mv P f t l o F fun q J=>h q (zU _ J)
  cases hp:P p with
  | true=>
   rw[List.filter_cons_of_pos hp,xq,xq]
   cases hf:f p with
   | none=>exact ih o F
   | some k=>
    show aM (if k∈o then o else o++[k]) _=aM (if k∈o then o else o++[k]) _
    by_cases hk:k∈o
    ·rw[HS hk]; exact ih o F
    ·rw[HP hk]; exact ih _ (mW _ F)
  | false=>
   rw[List.filter_cons_of_neg (by simp[hp]),xq,h p wZ hp]
   show _=aM (if t∈o then o else o++[t]) _
   rw[HS F]; exact ih o F
theorem nU{M:bb}(t:Nat):∀ s,∃ u,aF M (t+s)=aF M t++u
 | 0=>⟨[],by simp⟩
 | s+1=>by
  obtain⟨u,F⟩:=nU t s
  obtain⟨v,hv⟩:=lU (M:=M) (t+s)
  exact⟨u++v,by rw[show t+(s+1)=t+s+1 by omega,hv,F,GC]⟩
theorem pT{M:bb}(hi:eR M)(J:1≤M.length)(t:Nat):∃ u,az M=aF M t++u:=by
 rcases x6 t M.length with h | h
 ·obtain⟨u,F⟩:=nU (M:=M) t (M.length - t)
  rw[show t+(M.length - t)=M.length by omega]at F
  exact⟨u,F⟩
 ·have hl:=lV hi J M.length
  have:=oJ (M:=M) (t:=M.length) hl (t - M.length)
  rw[show M.length+(t - M.length)=t by omega]at this
  exact⟨[],by rw[this]; unfold az; simp⟩
theorem sZ{l a b:List Nat}(nd:l.Nodup)(h:l=a++b):a.map (fun x=>l.idxOf x)=List.range a.length:=by
 have:=ou nd a.length (by rw[h,zV]; omega)
 have e:l.take a.length=a:=by rw[h,List.take_left]
 rwa [e]at this
theorem tQ{M:bb}{m:Nat}(h:Rm M m):∀ t,aF (bf M) t=List.range (aF M t).length:=by
 obtain⟨J,aa,ad⟩:=eI h.ins h.n0
 have F:∀ t,aF (bf M) t=(aF M t).map fun x=>(az M).idxOf x:=by
  intro t
  induction t with
  | zero=>
   show [0]=[(az M).idxOf 0]
   have h0:=kF M M.length;obtain⟨hl,e⟩:=HL.mp h0
   have:=J.idxOf_getElem 0 hl
   have e':(az M)[0]'hl=0:=e
   rw[e']at this
   rw[this]
  | succ t ih=>
   obtain⟨u,W⟩:=pT h.ins h.n0 t
   show (match (aF (bf M) t)[t]? with | some r=>aM (aF (bf M) t) ((bf M).getD r []) | none=>aF (bf M) t)=List.map _ (match (aF M t)[t]? with | some r=>aM (aF M t) (M.getD r []) | none=>aF M t)
   rw[ih,ze]
   cases e:(aF M t)[t]? with
   | none=>rfl
   | some r=>
    show aM _ ((bf M).getD ((az M).idxOf r) [])=_
    have S:r∈az M:=by rw[W]; exact mW _ (zX e)
    have Y:=HM.mpr S
    have O:(bf M).getD ((az M).idxOf r) []=gg (az M) (M.getD r []):=by
     unfold bf;rw[zp,ze,za Y,gV]; rfl
    rw[O];unfold gg;refine iV _ _ _ fun a Z b hb e2=>?_
    have mem:∀ a,(a∈aF M t∨some a∈M.getD r [])→a∈az M:=fun a Z=>by
     rcases Z with z | z
     ·rw[W]; exact mW _ z
     ·exact eY h.ins h.n0 S z
    have h1:=gV (HM.mpr (mem a Z));have h2:=gV (HM.mpr (mem b hb));rw[← h1,← h2]; congr 1
 intro t
 obtain⟨u,W⟩:=pT h.ins h.n0 t
 rw[F,sZ J W]
theorem xN{x:List (Option Nat)}{m:Nat}(h:x.length=m):(List.range m).map (fun p=>x.getD p none)=x:=by
 refine zbn (by simp[h]) fun i h1 h2=>?_
 rw[Hu,List.getElem_range,aJ h2]
theorem p8{R:bb}{m:Nat}(h:Rm R m):∀ t,aF (dN (ai R) (ux (ai R) m)) t=List.range (aF (merged R) t).length:=by
 have F:=h.least;have O:=tQ h.merged;intro t
 have:aF (dN (ai R) (ux (ai R) m)) t=aF (ai R) t:=by
  induction t with
  | zero=>rfl
  | succ t ih=>
   show (match (aF (dN (ai R) (ux (ai R) m)) t)[t]? with | some r=>aM (aF (dN (ai R) (ux (ai R) m)) t) ((dN (ai R) (ux (ai R) m)).getD r []) | none=>aF (dN (ai R) (ux (ai R) m)) t)=(match (aF (ai R) t)[t]? with | some r=>aM (aF (ai R) t) ((ai R).getD r []) | none=>aF (ai R) t)
   rw[ih]
   cases e:(aF (ai R) t)[t]? with
   | none=>rfl
   | some r=>
    have hr:r<(ai R).length:=(ee F.ins F.n0 t).2 r (zX e)
    show aM _ ((dN (ai R) (ux (ai R) m)).getD r [])=aM _ ((ai R).getD r [])
    rw[kA hr];have J:=mv (eU (ai R)) (fun p=>((ai R).getD r []).getD p none) r (List.range m) (aF (ai R) t) (zX e) fun p _ hp=>kT hp hr
    have S:(List.range m).map (fun p=>((ai R).getD r []).getD p none)=(ai R).getD r []:=xN (by rw[aJ hr]; exact F.row _ (zl hr))
    rw[S]at J
    exact J
 rw[this];exact O t
theorem qF{R:bb}{m:Nat}(h:Rm R m){t:Nat}(Y:t<(ai R).length):t<(aF (merged R) t).length:=by
 have F:=h.merged;refine iO fun J=>?_
 have hl:(ai R).length=(az (merged R)).length:=DU
 obtain⟨O,S,W⟩:=eI F.ins F.n0
 have:=lN (M:=merged R) (t:=t) (by omega) (by omega)
 rw[this]at J
 omega
theorem tF{R:bb}{m:Nat}(h:Rm R m):aj (dN (ai R) (ux (ai R) m))=List.range (ai R).length:=by
 have F:(aj (dN (ai R) (ux (ai R) m))).length=(ai R).length:=by
  rw[show aj (dN (ai R) (ux (ai R) m))=Ai _ _ from rfl,cF,eQ]
 have:=x9 (l:=aj (dN (ai R) (ux (ai R) m))) (dh _ _) fun i j hi J e=>wB h i j (by omega) (by omega) e
 rw[F]at this
 exact this
abbrev nV (k:Nat):V:=.int (k:Int)
structure fz (R:bb) (m:Nat):Prop where
 n0:1≤R.length
 n1:R.length≤60
 m1:m≤16
 row:∀ x∈R,x.length=m
 ins:eR R
def Gc(H:Hp)(p:Addr)(k v:Nat):Prop:=(∃ ks:List Nat,H p=some (.lst (ks.map nV))∧ks[k]? = some v)∨∃ kvs,H p=some (.dK kvs)∧aN kvs (.inl (k:Int))=some (nV v)
theorem Gc.mono{H H':Hp}{p:Addr}{k v:Nat}(h:Gc H p k v)(F:mu H H'):Gc H' p k v:=by
 rcases h with ⟨ks,h1,h2⟩ | ⟨kvs,h1,h2⟩
 ·exact .inl ⟨ks,F _ _ h1,h2⟩
 ·exact .inr ⟨kvs,F _ _ h1,h2⟩
def qR:Sp:=fun vs H Q _=>∃ (p b:Addr) (x:List (Option Nat)) (f:Nat→Nat),vs=[.ref p,.ref b]∧H b=some (.lst (x.map ar))∧x.length≤1000∧(∀ k,some k∈x→Gc H p k (f k))∧
 ∀ (L:Addr) (H':Hp),mu H H'→H L=none→H' L=some (.lst ((x.map (Option.map f)).map ar))→Q (.ref L) H'
def tY:Sp:=fun vs H Q _=>∃ (p q:Addr) (R:bb) (m:Nat) (as:List Addr) (ks:List Nat),vs=[.ref p,.ref q]∧vr H p R as∧fz R m∧H q=some (.lst (ks.map nV))∧ks.length=R.length∧
 ∀ (L:Addr) (H':Hp),mu H H'→H L=none→H' L=some (.lst ((Do R ks).map nV))→Q (.ref L) H'
def tX:Sp:=fun vs H Q _=>∃ (p:Addr) (R:bb) (m:Nat) (as:List Addr) (mo:Nat),vs=[.ref p,nV mo]∧R.length≤mo∧vr H p R as∧fz R m∧
 ∀ (L:Addr) (H':Hp),mu H H'→H L=none→H' L=some (.lst ((aj R).map nV))→Q (.ref L) H'
section
variable{P:Program}{w:World}{K:W.Frag}{mg:Str→Option Value}{base:Heap}
theorem vb(D:AS K mg "ways_by" dB):C9 P w K mg base 1 "ways_by" ["numbers", "ways"] qR:=by
 refine D.cal vX (fun _ _ _ _ _ _ us hl=>match us,hl with | [_,_],_=>rfl) (fun Z H Q E h=>by obtain⟨p,b,x,f,rfl,_⟩:=h; rfl) (fun f aa A outer s H Z Q E hr h=>?_)
 obtain⟨p,b,x,f,rfl,W,hx,Y,q⟩:=h
 refine⟨_,(am (aV (cX (CW.to (fsc:=(h8 dB)) (N:=["numbers", "ways"]) (N0:=["numbers", "ways"]) (T:=["way"]) ⟨by decide +kernel,by decide +kernel,by decide +kernel,by decide +kernel,by decide +kernel,by decide +kernel,by decide +kernel⟩ rfl rfl) rfl (bT K (pv 1)) (fun _ _ _ _=>(aU 2 (show (["numbers", "ways", "way"]:List Str).Nodup from by decide +kernel) (hx:=(dG (h8 dB) (by decide +kernel))) (hf:=fm (h8 dB) (by decide +kernel)))) (bN (show (["numbers", "ways"]:List Str).length≤2 from by decide)) (fun _ _ _ _=>bR) (fun _ _ _ _=>(mU (ba fI (pv 2 (hv:=(bP (h8 dB) (by decide +kernel)))) ck (bt _)) ck (aD (Dc K) (pv 0 (hv:=(bP (h8 dB) (by decide +kernel)))) (pv 2 (hv:=(bP (h8 dB) (by decide +kernel)))) (fun _ _=>rfl))))))),?_⟩
 walk_at "r";refine⟨⟨_,rd.of W⟩,fun L O=>?_⟩
 refine cB (xs:=x.map ar) (fun i ys H'=>mu H H'∧H' L=some (.lst ys)∧ys=((x.take i).map (Option.map f)).map ar) ⟨ay O _,ak,rfl⟩ (fun i ys H' _ h=>rd.of (h.1 _ _ W)) ?_ ?_
 ·rintro i ys H' v hv hi ⟨J,hl,rfl⟩
  rw[zc]at hi
  rw[ze,za hi]at hv
  cases hv;have hz:(((x.take i).map (Option.map f)).map ar).length=i:=by simp; omega
  have F:∀ z,z=ar ((x[i]).map f)→jN (x.map ar).length i (fun i ys H'=>mu H H'∧H' L=some (.lst ys)∧ys=((x.take i).map (Option.map f)).map ar) L (((x.take i).map (Option.map f)).map ar) z H':=fun z e=>by
   subst e;refine df (by rw[zc]; exact hi) hz (by rw[zc]; exact bG (by omega)) hl ⟨J.upd O _,ak,?_⟩
   rw[vy,za hi,z9,z9]; rfl
  have S:=zl hi
  cases hxi:x[i] with
  | none=>
   rw[hxi]at F
   walk_at "r";refine bH (fun c=>?_) (fun c=>?_)
   ·exact F _ rfl
   ·exact absurd rfl c
  | some k=>
   rw[hxi]at F S
   walk_at "r";refine bH (fun c=>?_) (fun c=>?_)
   ·cases c
   ·rcases(Y k S).mono J with ⟨ks,h1,h2⟩ | ⟨kvs,h1,h2⟩
    ·exact .inl ⟨_,_,.inl (rd.of h1),aE (by rw[ze,h2]; rfl),F _ rfl⟩
    ·exact .inr ⟨p,kvs,.inl (k:Int),_,rfl,rfl,h1,h2,F _ rfl⟩
 ·rintro ys H' ⟨J,hl,rfl⟩
  rw[zc,rP]at hl
  exact q L H' J O hl
def eW(m:Nat × List (Option Nat)):eL:=((m.1:Int),m.2.map (Option.map fun n:Nat=>(n:Int)))
theorem Ar{m m':Nat × List (Option Nat)}(h:eW m=eW m'):m=m':=by
 obtain⟨a,b⟩:=m
 obtain⟨c,d⟩:=m'
 unfold eW at h;have h1:(a:Int)=(c:Int):=congrArg (·.1) h
 have h2:b.map (Option.map fun n:Nat=>(n:Int))=d.map (Option.map fun n:Nat=>(n:Int)):=congrArg (·.2) h
 have F:b=d:=by
  refine List.map_inj_right (f:=Option.map fun n:Nat=>(n:Int)) (fun x y e=>?_) |>.mp h2
  cases x <;> cases y <;> simp_all
  omega
 rw[F,show a=c by omega]
def d0(k:Nat):List (Nat × List (Option Nat))→List (eL × V)
 | []=>[]
 | m::ms=>(eW m,nV k)::d0 (k+1) ms
theorem kS:∀ (F:List (Nat × List (Option Nat))) (k:Nat),(d0 k F).length=F.length
 | [],k=>rfl
 | m::F,k=>by show (d0 (k+1) F).length+1=_; rw[kS F]; rfl
theorem mw:∀ (F:List (Nat × List (Option Nat))) (k:Nat) (m:Nat × List (Option Nat)),d0 k (F++[m])=d0 k F++[(eW m,nV (k+F.length))]
 | [],k,m=>rfl
 | x::F,k,m=>by
  show (eW x,nV k)::d0 (k+1) (F++[m])=_
  rw[mw F,vR,show k+1+F.length=k+(F.length+1) by omega]; rfl
theorem iW:∀ (F:List (Nat × List (Option Nat))) (k:Nat) (m:Nat × List (Option Nat)),aN (d0 k F) (eW m)=if m∈F then some (nV (k+jM m F)) else none
 | [],k,m=>rfl
 | x::F,k,m=>by
  by_cases h:x=m
  ·subst h
   rw[HS wZ,zL];show aN ((eW x,nV k)::d0 (k+1) F) (eW x)=_
   simp[aN]
  ·have J:¬ eW x=eW m:=fun z=>h (Ar z)
   have e:aN (d0 k (x::F)) (eW m)=aN (d0 (k+1) F) (eW m):=by
    show aN ((eW x,nV k)::d0 (k+1) F) (eW m)=_
    simp[aN,J]
   rw[e,iW F]
   by_cases hm:m∈F
   ·rw[HS hm,HS (zU _ hm),wo h,show k+1+jM m F=k+(jM m F+1) by omega]
   ·rw[HP hm,HP (by simp[zB h,hm])]
theorem BI(x:List (Option Nat)):x.map ar=(x.map (Option.map fun n:Nat=>(n:Int))).map bU:=by
 rw[F9];refine GN fun o _=>?_
 cases o <;> rfl
theorem DN.updL{H:Hp}{a fp:Addr}{kvs:List (eL × V)}{xs:List V}{o:HO}(h:DN P w H a kvs)(hf:H fp=some (.lst xs)):DN P w (upd H fp o) a kvs:=by
 obtain⟨ys,h1,h2,F,J⟩:=h
 have O:∀ c zs,H c=some (.tup zs)→upd H fp o c=some (.tup zs):=fun c zs e=>by rw[al (iY e hf (fun z=>nomatch z))]; exact e
 exact⟨ys,by rw[al (iY h1 hf (fun z=>nomatch z))]; exact h1,h2,F,Paired.imp' (fun p q z=>⟨z.1,z.2.1.mono O,z.2.2⟩) J⟩
theorem DN.keyUpd{H:Hp}{a b:Addr}{k:eL}{kvs:List (eL × V)}{u:HO}(h:DN P w H a kvs)(F:EE H k b):EE (upd H a u) k b:=by
 obtain⟨ys,h1,_⟩:=h
 exact F.mono fun c zs e=>by rw[al (iY e h1 (fun z=>nomatch z))]; exact e
theorem AL(D:AS K mg "finer_kinds" bg) (F:mg "enumerate" = none) (Z:mg "tuple" = none) (a3:mg "len" = none) (J:C9 P w K mg base 1 "ways_by" ["numbers", "ways"] qR) :
  C9 P w K mg base 2 "finer_kinds" ["rooms", "kinds"] tY:=by
 refine D.cal Da (fun _ _ _ _ _ _ us hl=>match us,hl with | [_,_],_=>rfl) (fun vs H Q E h=>by obtain⟨p,q,R,m,W,ks,rfl,_⟩:=h; rfl) (fun f cf A outer s H vs Q E hr h=>?_)
 obtain⟨p,q,R,m,W,ks,rfl,hR,ok,hq,cm,qq⟩:=h
 obtain⟨h1,h2,h3⟩:=hR
 have n1:=ok.n1
 refine⟨_,(af (ap 2 Da.nd zv)
   (af (ap 3 Da.nd (bu ae))
   (af (dj rG rfl (gN K Kc F (ac (pv 0) ae)) (ff K (n:=2) (cA (aU 4 Da.nd) (cA (aU 5 Da.nd) fc))) (af (ap 6 Da.nd (cU (ac (aD (aZ K) (pv 1) (pv 4) (fun _ _=>rfl)) (ac (iG (lg K) Z kD (ac (aO J hr (ac (pv 1) (ac (pv 5) ae))) ae)) ae))))
   (af (cC (ba (yP hr) (pv 6) (pv 2) (by with_unfolding_all rfl)) (am (fu (a_ xr a3 ce (ac (pv 2) ae)) (gk (pv 2) (pv 6) (Fi hr)))) bI)
   (am (c8 (dw K FZ Gy Gw cL (pv 3) (ac (aD (II hr) (pv 2) (pv 6) (fun _ _=>rfl)) ae)))))))
   (am (aV (pv 3)))))),?_⟩
 walk_at "r";refine fun sp b3 u Y=>?_
 generalize hH1:upd H sp u=H1 at Y ⊢;have ad:=bj hH1 b3;walk_at "n";refine⟨by decide,fun fp ag=>?_⟩
 have aa:=Y.mono (ay ag (.lst []));generalize hH2:upd H1 fp _=H2 at aa ⊢;have b2:=bj hH2 ag;have e2:=bV hH2;have cd:∃ o,H2 sp=some o:=by obtain⟨ys,z,_⟩:=aa; exact⟨_,z⟩
 walk_at "n";refine⟨⟨_,(ad.trans b2) _ _ h1⟩,?_⟩
 refine iN (xs:=W.map V.ref) (fun i σ H'=>∃ o4 o5 o6:Option V,σ=[some (.ref p),some (.ref q),some (.ref sp),some (.ref fp),o4,o5,o6]∧mu H H'∧DN P w H' sp (d0 0 (ao [] ((dg R ks).take i)))∧H' fp=some (.lst (((Do R ks).take i).map nV)))
  ⟨none,none,none,rfl,ad.trans b2,aa,e2⟩ (fun i σ H' _ h=>by obtain⟨_,_,_,_,sm,_⟩:=h; exact rd.of (sm _ _ h1)) ?_ ?_
 ·rintro i v t σ H' hv ⟨o4,o5,o6,rfl,sm,Y,hf⟩ ht
  have a6:i<W.length:=by have:=(HL.mp hv).1; simpa using this
  have hi:i<R.length:=by omega
  rw[ze,za a6]at hv
  cases hv;have bz:=h3 i _ _ (za a6) (za hi);have cc:ks[i]? = some (ks.getD i 0):=by rw[zp,za (by omega)]; rfl
  have be:(dg R ks)[i]? = some (mark R ks i):=jH hi
  have a9:=Y.mono (ay ht (.tup [nV i,.ref W[i]]));have bp:upd H' t (.tup [nV i,.ref W[i]]) t=some (.tup [nV i,.ref W[i]]):=ak
  have S:=sm.trans (ay ht (.tup [nV i,.ref W[i]]));have a7:=(ay ht (.tup [nV i,.ref W[i]])) _ _ hf;generalize upd H' t (.tup [nV i,.ref W[i]])=Ht at a9 bp S a7 ⊢;walk_at "r";refine⟨t,_,rfl,C3.of bp,rfl,?_⟩
  walk_at "r";refine⟨_,_,.inl (rd.of (S _ _ hq)),aE (by rw[ze,cc]; rfl),?_⟩
  refine⟨q,W[i],R[i],fun k=>ks.getD k 0,rfl,S _ _ bz,by rw[ok.row _ (zl hi)]; have:=ok.m1; omega,fun k hk=>.inl ⟨ks,S _ _ hq,?_⟩,fun L H3 b9 hL b7=>?_⟩
  ·have:=ok.ins _ (zl hi) k hk
   show ks[k]? = some (ks.getD k 0)
   rw[zp,za (by omega)]; rfl
  walk_at "r";refine⟨_,.inl ⟨rd.of b7,fun tp b8=>?_⟩⟩
  generalize hH4:upd H3 tp _=H4
  have b4:=bj hH4 b8;have e4:=bV hH4;refine⟨by decide,fun mp b5=>?_⟩
  generalize hH5:upd H4 mp _=H5
  have bB:=bj hH5 b5;have e5:=bV hH5;have a5:mu Ht H5:=(b9.trans b4).trans bB
  have an:EE H5 (eW (mark R ks i)) mp:=by
   refine⟨tp,e5,?_⟩
   have e6:=bB _ _ e4;rw[e6,BI];show some (HO.tup _)=some (HO.tup (((R.getD i []).map (Option.map fun k=>ks.getD k 0)).map (Option.map fun n:Nat=>(n:Int)) |>.map bU))
   rw[zp,za hi]; rfl
  have O:=a9.mono a5;have a1:=a5 _ _ a7;have a0:=S.trans a5;have b1:H fp=none:=ad.free ag
  have a2:(dg R ks).take (i+1)=(dg R ks).take i++[mark R ks i]:=by rw[vy,be]; rfl
  have cl:(ao [] ((dg R ks).take i)).length≤60:=by
   have:=eC ((dg R ks).take i) []
   rw[vc,pX]at this
   simp at this; omega
  refine jC (fun σ' H'=>∃ (b:V),σ'=[some (.ref p),some (.ref q),some (.ref sp),some (.ref fp),some (nV i),some (.ref W[i]),some (.ref mp)]∧mu H H'∧EE H' (eW (mark R ks i)) mp∧DN P w H' sp (d0 0 (ao [] ((dg R ks).take (i+1))))∧H' fp=some (.lst (((Do R ks).take i).map nV))) (fun kk bS=>?_) ?_
  ·walk_at "r"
   refine⟨mp,sp,_,_,rfl,rfl,O,an,?_⟩
   rw[iW]
   by_cases hm:mark R ks i∈ao [] ((dg R ks).take i)
   ·rw[HS hm]
    walk_at "r";refine bS _ _ ⟨.non,rfl,a0,an,?_,a1⟩
    rw[a2,dL,HS hm]; exact O
   ·rw[HP hm]
    walk_at "r";refine⟨sp,_,rfl,O,sp,mp,_,_,rfl,rfl,O,an,by rw[iW,HP hm],by rw[kS]; exact cH (by omega),fun u' a8=>?_⟩
    refine bS _ _ ⟨.non,rfl,a0.upd b3 _,DN.keyUpd O an,?_,?_⟩
    ·rw[a2,dL,HP hm,mw,Gq]
     rw[kS]at a8
     exact a8
    ·obtain⟨ys,z,_⟩:=O
     rw[al (iY a1 z (fun z=>nomatch z))]; exact a1
  rintro σ' H6 ⟨_,rfl,ca,cb,bA,a4⟩
  walk_at "n";have b6:mark R ks i∈ao [] ((dg R ks).take (i+1)):=(cj _ _ _).mpr (.inr (by rw[a2]; simp))
  refine⟨⟨_,rd.of a4⟩,sp,mp,_,_,_,rfl,rfl,bA,cb,by rw[iW,HS b6],?_⟩
  walk_at "r";refine⟨_,a4,by rw[zc,vc,fJ]; exact cH (by omega),_,_,_,rfl,ca.upd b1 _,DN.updL bA a4,?_⟩
  rw[ak,vy (l:=Do R ks)];have e:(Do R ks)[i]? = some (jM (mark R ks i) (ao [] ((dg R ks).take (i+1)))):=mB be
  rw[e,Gq,z9]; rfl
 ·rintro σ H' ⟨o4,o5,o6,rfl,sm,Y,hf⟩
  walk_at "n";rw[zc,Gd (by rw[fJ]; omega)]at hf
  exact qq fp H' sm (ad.free ag) hf
theorem pz(ks:List Nat):ks.map nV=(ks.map fun k:Nat=>(k:Int)).map V.int:=by rw[F9]; rfl
theorem FW{a b:List Nat}:(a.map fun k:Nat=>(k:Int))=(b.map fun k:Nat=>(k:Int)) ↔ a=b:=by
 refine List.map_inj_right (fun x y e=>?_)
 omega
theorem zx{R:bb}{ks:List Nat}(h:ks.length=R.length){y:Nat}(S:y∈Do R ks):y<R.length:=by
 obtain⟨i,hi,e⟩:=HN.mp S
 have F:i<R.length:=by rw[fJ]at hi; exact hi
 have J:(Do R ks)[i]? = some (jM (mark R ks i) (ao [] ((dg R ks).take (i+1)))):=mB (jH F)
 rw[za hi,e]at J
 have W:=Option.some.inj J;have O:mark R ks i∈ao [] ((dg R ks).take (i+1)):=(cj _ _ _).mpr (.inr (by rw[vy,jH F]; simp))
 have h1:jM (mark R ks i) (ao [] ((dg R ks).take (i+1)))<(ao [] ((dg R ks).take (i+1))).length:=EF O
 have h2:=eC ((dg R ks).take (i+1)) [];rw[vc,pX]at h2
 simp at h2
 omega
theorem yV(D:AS K mg "kinds_upto" bO) (W:mg "max" = none) (F:C9 P w K mg base 2 "finer_kinds" ["rooms", "kinds"] tY):C9 P w K mg base 3 "kinds_upto" ["rooms", "most"] tX:=by
 refine D.cal DA (fun _ _ _ _ _ _ us hl=>match us,hl with | [_,_],_=>rfl) (fun vs H Q E h=>by obtain⟨p,R,m,as,mo,rfl,_⟩:=h; rfl) (fun f a7 A outer s H vs Q E hr h=>?_)
 obtain⟨p,R,m,as,mo,rfl,a6,hR,ok,q⟩:=h
 have n1:=ok.n1;have h2:=hR.2.1
 refine⟨_,(af (i0 (CW.to (fsc:=(h8 bO)) (N:=["rooms", "most", "kinds", "finer"]) (N0:=["rooms", "most", "kinds", "finer"]) (T:=["room"]) ⟨by decide +kernel,by decide +kernel,by decide +kernel,by decide +kernel,by decide +kernel,by decide +kernel,by decide +kernel⟩ rfl rfl) rfl DA.nd (i:=2) rfl J_ (bT K (pv 0)) (fun _ _ _ _=>(aU 4 (show (["rooms", "most", "kinds", "finer", "room"]:List Str).Nodup from by decide +kernel) (hx:=(dG (h8 bO) (by decide +kernel))) (hf:=fm (h8 bO) (by decide +kernel)))) (bN (show (["rooms", "most", "kinds", "finer"]:List Str).length≤4 from by decide)) (fun _ _ _ _=>bR) (fun _ _ _ _=>ah))
   (af (ap 3 DA.nd (aO F hr (ac (pv 0) (ac (pv 2) ae))))
   (af (kQ rG (ba (pq K hr) (pv 3) (pv 2) (bt _)) (af (cC (ba Fn (a_ (yM K) W C1 (ac (pv 3) ae)) (pv 1) (bt _)) (am (aV ck)) bI)
   (af (ap 2 DA.nd (pv 3))
   (am (ap 3 DA.nd (aO F hr (ac (pv 0) (ac (pv 2) ae))))))))
   (am (aV (pv 2)))))),?_⟩
 walk_at "r";refine⟨⟨_,rd.of hR.1⟩,fun L hL=>?_⟩
 refine cB (xs:=as.map V.ref) (fun i ys H'=>mu H H'∧H' L=some (.lst ys)∧ys=(List.replicate i 0).map nV) ⟨ay hL _,ak,rfl⟩ (fun i ys H' _ h=>rd.of (h.1 _ _ hR.1)) ?_ ?_
 ·rintro i ys H' v hv hi ⟨sm,hl,rfl⟩
  rw[zc]at hi
  walk_at "r";refine df (by rw[zc]; exact hi) (by simp) (by rw[zc]; exact bG (by omega)) hl ⟨sm.upd hL _,ak,?_⟩
  rw[List.replicate_succ',z9]; rfl
 rintro ys H1 ⟨Y,aa,rfl⟩
 rw[zc,h2]at aa
 have S:H1 L=some (.lst ((Ai R 0).map nV)):=by
  show _=some (HO.lst ((R.map fun _=>0).map nV))
  rw[List.map_const']; exact aa
 walk_at "n";refine⟨p,L,R,m,as,Ai R 0,rfl,hR.mono Y,ok,S,cF R 0,fun L2 H2 ag a3 a0=>?_⟩
 walk_at "n"
 refine⟨fun Z σ H'=>∃ (t:Nat) (a b:Addr),Z=dY R.length (Ai R t)∧Z+t≤R.length * R.length∧σ=[some (.ref p),some (nV mo),some (.ref a),some (.ref b)]∧mu H H'∧H a=none∧H' a=some (.lst ((Ai R t).map nV))∧H' b=some (.lst ((Ai R (t+1)).map nV))∧H b=none,
  ⟨_,0,L,L2,rfl,by have:=sA R.length (Ai R 0); omega,rfl,Y.trans ag,hL,ag _ _ S,a0,Y.free a3⟩,?_⟩
 rintro Z σ H' ⟨t,a,b,rfl,a8,rfl,sm,ha,O,J,hb⟩
 walk_at "r";rw[pz]at O J
 refine⟨0,_,by decide,D8.ints (rd.of J) (rd.of O),?_⟩
 walk_at "r"
 by_cases he:Ai R (t+1)=Ai R t
 ·rw[decide_eq_true (FW.mpr he)]
  walk_at "r";walk_at "n";rw[← pz,lD he (by omega)]at O
  exact q a H' sm ha O
 ·rw[decide_eq_false (fun z=>he (FW.mp z))]
  walk_at "r";refine⟨fun σ' H'=>∃ Z,Z<dY R.length (Ai R t)∧∃ (t':Nat) (a b:Addr),Z=dY R.length (Ai R t')∧Z+t'≤R.length * R.length∧σ'=[some (.ref p),some (nV mo),some (.ref a),some (.ref b)]∧mu H H'∧H a=none∧H' a=some (.lst ((Ai R t').map nV))∧H' b=some (.lst ((Ai R (t'+1)).map nV))∧H b=none,fun _ _ h=>h,?_⟩
  have a2:(Ai R (t+1)).map (fun k:Nat=>(k:Int))≠[]:=by
   have h0:=cF R (t+1);have h1:=ok.n0;intro z
   have:=congrArg List.length z
   rw[zc,He]at this
   omega
  refine⟨_,rd.of J,a2,fun M hM _=>?_⟩
  have a5:M<(R.length:Int):=by
   obtain⟨y,hy,rfl⟩:=HR.mp hM
   have:=zx (R:=R) (ks:=Ai R t) (cF R t) hy
   omega
  walk_at "r";refine bH (fun c=>?_) (fun c=>?_)
  ·exfalso; have c':M≥(mo:Int):=by simpa using c
   omega
  walk_at "n";walk_at "n";rw[← pz]at O J
  refine⟨p,b,R,m,as,Ai R (t+1),rfl,hR.mono sm,ok,J,cF R _,fun L3 H3 ad an a1=>?_⟩
  have a4:=ng (R:=R) (cF R t) (dh R t) he;exact⟨_,a4,t+1,b,L3,rfl,(by show dY R.length (Do R (Ai R t))+(t+1)≤_; omega),rfl,sm.trans ad,hb,ad _ _ J,a1,sm.free an⟩
structure NR (H H':Hp) (mp:Addr) (rs:bb) (as:List Addr):Prop where
 at':vr H' mp rs as
 new:∀ a∈as,H a=none∧a≠mp
 nd:as.Nodup
theorem NR.held{H H':Hp}{J:Addr}{rs:bb}{F:List Addr}(h:NR H H' J rs F){a:Addr}(O:a∈F):∃ o,H' a=some o:=by
 obtain⟨i,hi,e⟩:=HN.mp O
 have hl:=h.at'.2.1;exact⟨_,h.at'.2.2 i a _ (by rw[← e]; exact za hi) (za (by omega))⟩
theorem NR.mono{H H' H2:Hp}{F:Addr}{rs:bb}{J:List Addr}(h:NR H H' F rs J)(O:mu H' H2):NR H H2 F rs J:=⟨h.at'.mono O,h.new,h.nd⟩
theorem NR.push{H H':Hp}{Y L:Addr}{rs:bb}{S:List Addr}{x:List (Option Nat)}{W:Hp}(h:NR H W Y rs S)(sm:mu W H')(Z:mu H W)(F:W L=none)(hL:H' L=some (.lst (x.map ar))) :
  NR H (upd H' Y (.lst (S.map V.ref++[.ref L]))) Y (rs++[x]) (S++[L]):=by
 obtain⟨h1,h2,h3⟩:=h.at'
 have nL:L≠Y:=zB (au h1 F)
 refine⟨⟨by rw[ak,z9]; rfl,by simp[h2],fun i a y J O=>?_⟩,fun a ha=>?_,?_⟩
 ·rcases x6 i S.length with z | z
  ·rw[vt z]at J
   rw[vt (by omega)]at O
   have hn:=(h.new a (zX J)).2;rw[al hn]; exact sm _ _ (h3 i a y J O)
  ·rw[yS z]at J
   rw[yS (by omega)]at O
   have ad:i - S.length=0:=by
    have:=(HL.mp J).1
    simp at this; omega
   rw[ad]at J
   rw[show i - rs.length=0 by omega]at O
   have ag:L=a:=by simpa using J
   have aa:x=y:=by simpa using O
   subst ag aa;rw[al nL]; exact hL
 ·rcases HX.mp ha with z | z
  ·exact h.new a z
  ·rw[HQ.mp z]; exact⟨Z.free F,nL⟩
 ·rw[zbV]
  refine⟨h.nd,by simp,fun a ha b hb e=>?_⟩
  rw[HQ.mp hb]at e
  subst e;obtain⟨o,z⟩:=h.held ha
  rw[F]at z; cases z
def A6(g:bb→bb):Sp:=fun vs H Q _=>∃ (p:Addr) (R:bb) (m:Nat) (as:List Addr),vs=[.ref p]∧vr H p R as∧fz R m∧∀ (L:Addr) (H':Hp) (bs:List Addr),mu H H'→H L=none→NR H H' L (g R) bs→Q (.ref L) H'
def sy:Sp:=fun vs H Q _=>∃ (p kp:Addr) (R:bb) (m:Nat) (as:List Addr),vs=[.ref p,.ref kp]∧vr H p R as∧fz R m∧H kp=some (.lst ((aj R).map nV))∧∀ (L:Addr) (H':Hp) (bs:List Addr),mu H H'→H L=none→NR H H' L (merged R) bs→Q (.ref L) H'
theorem xM(D:AS K mg "merged_rooms" bJ) (F:mg "enumerate" = none) (ag:mg "len" = none) (O:C9 P w K mg base 1 "ways_by" ["numbers", "ways"] qR) :
  C9 P w K mg base 4 "merged_rooms" ["rooms", "kinds"] sy:=by
 refine D.cal DG (fun _ _ _ _ _ _ us hl=>match us,hl with | [_,_],_=>rfl) (fun vs H Q E h=>by obtain⟨p,kp,R,m,as,rfl,_⟩:=h; rfl) (fun f bp A outer s H vs Q E hr h=>?_)
 obtain⟨p,kp,R,m,as,rfl,hR,ok,a0,q⟩:=h
 obtain⟨h1,h2,h3⟩:=hR
 have n1:=ok.n1;have a5:(aj R).length=R.length:=cF R _
 have a4:eB (aj R):=dh R _
 refine⟨_,(af (ap 2 DG.nd (bu ae))
   (af (dj rG rfl (gN K Kn F (ac (pv 0) ae)) (ff K (n:=2) (cA (aU 3 DG.nd) (cA (aU 4 DG.nd) fc))) (am (cC (ba jE (aD (aZ K) (pv 1) (pv 3) (fun _ _=>rfl)) (a_ (bq K) ag ce (ac (pv 2) ae)) (bt _)) (am (c8 (dw K FZ Gy Gw cL (pv 2) (ac (aO O hr (ac (pv 1) (ac (pv 4) ae))) ae)))) bI)))
   (am (aV (pv 2))))),?_⟩
 walk_at "r";refine⟨by decide,fun mp aa=>?_⟩
 generalize hH2:upd H mp _=H2
 have an:=bj hH2 aa;have e2:=bV hH2;have ad:H mp=none:=aa
 walk_at "n";refine⟨⟨_,an _ _ h1⟩,?_⟩
 refine iN (xs:=as.map V.ref) (fun i σ H'=>∃ (o3 o4:Option V) (bs:List Addr),σ=[some (.ref p),some (.ref kp),some (.ref mp),o3,o4]∧mu H H'∧H' kp=some (.lst ((aj R).map nV))∧NR H H' mp (cz R (aj R) i) bs)
  ⟨none,none,[],rfl,an,an _ _ a0,⟨e2,rfl,by simp⟩,by simp,GQ⟩ (fun i σ H' _ h=>by obtain⟨_,_,_,_,sm,_⟩:=h; exact rd.of (sm _ _ h1)) ?_ ?_
 ·rintro i v t σ H' hv ⟨o3,o4,bs,rfl,sm,hk,hN⟩ ht
  have a3:i<as.length:=by have:=(HL.mp hv).1; simpa using this
  have hi:i<R.length:=by omega
  rw[ze,za a3]at hv
  cases hv;have a2:=h3 i _ _ (za a3) (za hi);have a6:(aj R)[i]? = some ((aj R).getD i 0):=by rw[zp,za (by omega)]; rfl
  have st:=ay ht (.tup [nV i,.ref as[i]]);have a1:upd H' t (.tup [nV i,.ref as[i]]) t=some (.tup [nV i,.ref as[i]]):=ak
  have W:=sm.trans st;have S:=st _ _ hk;have J:=hN.mono st;generalize upd H' t (.tup [nV i,.ref as[i]])=Ht at st a1 W S J ⊢;have a7:bs.length=(cz R (aj R) i).length:=J.at'.2.1
  have Y:=tS a4 a5 hi
  have be:(cz R (aj R) i).length≤60:=by
   show ((List.range _).map _).length≤60
   rw[zc,iP];have:=eC ((aj R).take i) []
   rw[vc]at this
   simp at this; omega
  walk_at "r";refine⟨t,_,rfl,C3.of a1,rfl,?_⟩
  walk_at "r";refine⟨_,_,.inl (rd.of S),aE (by rw[ze,a6]; rfl),⟨_,.inl (rd.of J.at'.1),?_⟩⟩
  rw[zc,a7];walk_at "r";refine bH (fun c=>?_) (fun c=>?_)
  ·rw[HS (by omega)]at Y
   refine⟨⟨_,rd.of J.at'.1⟩,kp,as[i],R[i],fun k=>(aj R).getD k 0,rfl,W _ _ a2,by rw[ok.row _ (zl hi)]; have:=ok.m1; omega,fun k a8=>.inl ⟨_,S,?_⟩,fun L H3 Z hL a9=>?_⟩
   ·have:=ok.ins _ (zl hi) k a8
    show (aj R)[k]? = some ((aj R).getD k 0)
    rw[zp,za (by omega)]; rfl
   walk_at "r";refine⟨_,Z _ _ J.at'.1,by rw[zc]; exact cH (by omega),_,_,bs++[L],rfl,(W.trans Z).upd ad _,?_,?_⟩
   ·rw[al (fun z=>?_)]
    ·exact Z _ _ S
    ·subst z
     rw[a0]at aa; cases aa
   ·rw[Y]
    have e:R.getD i []=R[i]:=by rw[zp,za hi]; rfl
    rw[e];exact J.push Z W hL a9
  ·rw[HP (by omega)]at Y
   exact⟨_,_,bs,rfl,W,S,by rw[Y]; exact J⟩
 ·rintro σ H' ⟨o3,o4,bs,rfl,sm,hk,hN⟩
  walk_at "n";rw[zc,h2]at hN
  exact q mp H' bs sm ad hN
def fi(o:List Nat):List (bM × V):=o.map fun k:Nat=>(Sum.inl (k:Int),V.bl true)
theorem pZ(k:Nat):∀ (o:List Nat),(aN (fi o) (.inl (k:Int))).isSome=decide (k∈o)
 | []=>rfl
 | x::o=>by
  have ih:=pZ k o;show (aN ((Sum.inl (x:Int),V.bl true)::fi o) (.inl (k:Int))).isSome=_
  by_cases h:x=k
  ·subst h; simp[aN]
  ·have F:¬ ((Sum.inl (x:Int):bM)=Sum.inl (k:Int)):=fun z=>h (by have:=Sum.inl.inj z; omega)
   have e:aN ((Sum.inl (x:Int),V.bl true)::fi o) (.inl (k:Int))=aN (fi o) (.inl (k:Int)):=by simp[aN,F]
   rw[e,ih];simp[zB h]
theorem xa{k:Nat}{o:List Nat}(h:k∉o):dz (fi o) (.inl (k:Int)) (.bl true)=fi (o++[k]):=by
 unfold dz
 have J:((fi o).any fun O=>decide (O.1=(Sum.inl (k:Int):bM)))=false:=by
  rw[zbz];intro x hx
  obtain⟨y,F,rfl⟩:=HR.mp hx
  have:y≠k:=fun e=>h (e ▸ F)
  simp; omega
 rw[HP (by rw[J]; exact vn)]
 unfold fi;rw[z9]; rfl
def uD:Sp:=fun vs H Q _=>∃ (p:Addr) (R:bb) (m:Nat) (as:List Addr),vs=[.ref p]∧vr H p R as∧fz R m∧∀ (L:Addr) (H':Hp),mu H H'→H L=none→H' L=some (.lst ((az R).map nV))→Q (.ref L) H'
theorem EK(D:AS K mg "rooms_led_to" bw) (an:mg "len" = none):C9 P w K mg base 1 "rooms_led_to" ["rooms"] uD:=by
 refine D.cal CG (fun _ _ _ _ _ _ us hl=>match us,hl with | [_],_=>rfl) (fun vs H Q E h=>by obtain⟨p,R,m,as,rfl,_⟩:=h; rfl) (fun f bz A outer s H vs Q E hr h=>?_)
 obtain⟨p,R,m,as,rfl,hR,ok,q⟩:=h
 obtain⟨h1,h2,h3⟩:=hR
 have n1:=ok.n1
 refine⟨_,(af (ap 1 CG.nd (bu (ac ah ae)))
   (af (ap 2 CG.nd (B1 (zQ ah iD BD) rfl rfl (by decide) (by decide)))
   (af (ap 3 CG.nd ah)
   (af (kQ rG (ba lf (pv 3) (a_ (bq K) an ce (ac (pv 1) ae)) (bt _)) (af (ap 4 CG.nd (aD (aZ K) (pv 1) (pv 3) (fun _ _=>rfl)))
   (af (dj rG rfl (bT K (aD (aZ K) (pv 0) (pv 4) (fun _ _=>rfl))) (aU 5 CG.nd) (am (cC (PW.pt' (li (ba nA (pv 5) ck (bt _)) (j8 (ba (ye hr) (pv 5) (pv 2) (by with_unfolding_all rfl))))) (af (fu iD (gk (pv 2) (pv 5) (vS hr)))
   (am (c8 (dw K FZ Gy Gw cL (pv 1) (ac (pv 5) ae))))) bI)))
   (am (ap 3 CG.nd (aB bx (pv 3) ah))))))
   (am (aV (pv 1))))))),?_⟩
 walk_at "r";refine⟨by decide,fun op ag=>?_⟩
 generalize hH1:upd H op _=H1
 have a2:=bj hH1 ag;have e1:=bV hH1;walk_at "n";refine fun dp Y=>⟨ak,[(.inl 0,.bl true)],rfl,by decide,?_⟩
 rw[Cu];generalize hH2:upd H1 dp _=H2
 have a5:=bj hH2 Y;have e2:H2 dp=some (.dK (fi [0])):=bV hH2
 have a6:H dp=none:=a2.free Y
 walk_at "n";walk_at "n"
 refine⟨fun mm σ H'=>∃ (t:Nat) (o4 W:Option V),mm=R.length - t∧t≤(aF R t).length∧σ=[some (.ref p),some (.ref op),some (.ref dp),some (.int (t:Int)),o4,W]∧mu H H'∧H' op=some (.lst ((aF R t).map nV))∧H' dp=some (.dK (fi (aF R t))),
  ⟨_,0,none,none,rfl,yT _,rfl,a2.trans a5,a5 _ _ e1,e2⟩,?_⟩
 rintro mm σ H' ⟨t,o4,W,rfl,bB,rfl,J,O,hd⟩
 have be:=lV ok.ins ok.n0 t;have a0:=(ee ok.ins ok.n0 t).2;walk_at "r";refine⟨_,.inl (rd.of O),?_⟩
 rw[zc];refine bH (fun c=>?_) (fun c=>?_)
 ·have ht:t<(aF R t).length:=by simpa using c
  refine⟨fun σ' H'=>∃ mm,mm<R.length - t∧∃ (t':Nat) (o4 W:Option V),mm=R.length - t'∧t'≤(aF R t').length∧σ'=[some (.ref p),some (.ref op),some (.ref dp),some (.int (t':Int)),o4,W]∧mu H H'∧H' op=some (.lst ((aF R t').map nV))∧H' dp=some (.dK (fi (aF R t'))),fun _ _ h=>h,?_⟩
  walk_at "r";refine⟨_,_,.inl (rd.of O),aE (by rw[ze,za ht]; rfl),?_⟩
  have S:(aF R t)[t]<R.length:=a0 _ (zl ht)
  have a3:(aF R t)[t]? = some (aF R t)[t]:=za ht
  have ad:aF R (t+1)=aM (aF R t) (R.getD (aF R t)[t] []):=by
   show (match (aF R t)[t]? with | some r=>aM (aF R t) (R.getD r []) | none=>aF R t)=_
   rw[a3]
  generalize (aF R t)[t]=r at S a3 ad ⊢;have a1:r<as.length:=by omega
  have aa:=h3 r _ _ (za a1) (za S);have a9:R.getD r []=R[r]:=by rw[zp,za S]; rfl
  rw[a9]at ad
  have bp:=ok.row _ (zl S);have bS:=ok.m1;walk_at "n";refine⟨_,_,.inl (rd.of (J _ _ h1)),aE (by rw[ze,za a1]; rfl),?_⟩
  walk_at "r";refine⟨⟨_,rd.of (J _ _ aa)⟩,?_⟩
  refine eP (xs:=(R[r]).map ar) (fun j σ H'=>∃ W,σ=[some (.ref p),some (.ref op),some (.ref dp),some (.int (t:Int)),some (nV r),W]∧mu H H'∧H' op=some (.lst ((aM (aF R t) ((R[r]).take j)).map nV))∧H' dp=some (.dK (fi (aM (aF R t) ((R[r]).take j)))))
   ⟨W,rfl,J,O,hd⟩ (fun j σ H' _ h=>by obtain⟨_,_,J,_⟩:=h; exact rd.of (J _ _ aa)) ?_ ?_
  ·rintro j v σ H' hv ⟨W,rfl,J,O,hd⟩
   have hj:j<(R[r]).length:=by have:=(HL.mp hv).1; simpa using this
   rw[ze,za hj]at hv
   cases hv;have a8:(R[r]).take (j+1)=(R[r]).take j++[(R[r])[j]]:=by rw[vy,za hj]; rfl
   have F:=jW ((R[r]).take j) (aF R t) (R[r])[j];rw[← a8]at F
   have a7:=zl hj;generalize (R[r])[j]=xo at F a7 ⊢
   have bA:(aM (aF R t) ((R[r]).take j)).length≤R.length:=by
    refine jy _ _ (gx _ _ (ee ok.ins ok.n0 t).1) fun y hy=>?_
    rcases(e_ _ _ _).mp hy with z | z
    ·exact a0 y z
    ·exact ok.ins _ (zl S) y (GU z)
   have Z:op≠dp:=by
    rintro rfl
    rw[e1]at Y; cases Y
   cases xo with
   | none=>
    walk_at "r";refine bH (fun c=>?_) (fun c=>?_)
    ·exact absurd c (by decide)
    ·exact⟨_,rfl,J,by rw[F]; exact O,by rw[F]; exact hd⟩
   | some k=>
    rw[show ar (some k)=V.int (k:Int) from rfl];walk_at "r";refine bH (fun c=>?_) (fun c=>?_)
    ·refine⟨dp,_,.inl (k:Int),rfl,rfl,hd,?_⟩
     rw[pZ]
     by_cases hm:k∈aM (aF R t) ((R[r]).take j)
     ·rw[decide_eq_true hm]
      walk_at "r";simp only[HS hm]at F
      exact⟨_,rfl,J,by rw[F]; exact O,by rw[F]; exact hd⟩
     ·rw[decide_eq_false hm]
      simp only[HP hm]at F
      walk_at "r";refine⟨dp,_,.inl (k:Int),rfl,rfl,hd,by show (List.map _ _).length<_; rw[zc]; exact cH (by omega),?_⟩
      rw[xa hm];walk_at "n";have a4:upd H' dp (.dK (fi (aM (aF R t) ((R[r]).take j)++[k]))) op=some (.lst ((aM (aF R t) ((R[r]).take j)).map nV)):=by rw[al Z]; exact O
      refine⟨⟨_,rd.of a4⟩,_,a4,by rw[zc]; exact cH (by omega),_,rfl,(J.upd a6 _).upd ag _,?_,?_⟩
      ·rw[ak,F,z9]; rfl
      ·rw[al (zB Z),ak,F]
    ·exact absurd (by simp) c
  ·rintro σ H' ⟨W,rfl,J,O,hd⟩
   rw[zc,rP,← ad]at O hd
   walk_at "n";refine⟨_,(by omega:R.length - (t+1)<R.length - t),t+1,some (nV r),W,rfl,?_,?_,J,O,hd⟩
   ·obtain⟨u,hu⟩:=lU (M:=R) t
    rw[hu,zV]; omega
   ·rw[show ((t+1:Nat):Int)=(t:Int)+1 by omega]
 ·have ht:(aF R t).length≤t:=by
   have:¬ ((t:Int)<((aF R t).length:Int)):=by simpa using c
   omega
  walk_at "n";rw[lN ht (by omega)]at O
  exact q op H' J ag O
def cO(k:Nat):List Nat→List (bM × V)
 | []=>[]
 | r::o=>(Sum.inl (r:Int),nV k)::cO (k+1) o
theorem mG:∀ (o:List Nat) (k:Nat),(cO k o).length=o.length
 | [],_=>rfl
 | r::o,k=>by show (cO (k+1) o).length+1=_; rw[mG o]; rfl
theorem mF:∀ (o:List Nat) (k:Nat),∀ kv∈cO k o,∃ r∈o,kv.1=Sum.inl (r:Int)
 | [],_,kv,h=>by simp[cO]at h
 | r::o,k,kv,h=>by
  rcases HW.mp h with rfl | h
  ·exact⟨r,wZ,rfl⟩
  ·obtain⟨x,hx,e⟩:=mF o (k+1) kv h
   exact⟨x,zU _ hx,e⟩
theorem lE:∀ (o:List Nat) (k r:Nat),cO k (o++[r])=cO k o++[(Sum.inl (r:Int),nV (k+o.length))]
 | [],k,r=>rfl
 | x::o,k,r=>by
  show (Sum.inl (x:Int),nV k)::cO (k+1) (o++[r])=_
  rw[lE o,vR,show k+1+o.length=k+(o.length+1) by omega]; rfl
theorem tN{o:List Nat}{r:Nat}(h:r∉o):dz (cO 0 o) (.inl (r:Int)) (nV o.length)=cO 0 (o++[r]):=by
 unfold dz
 have J:((cO 0 o).any fun O=>decide (O.1=(Sum.inl (r:Int):bM)))=false:=by
  rw[zbz];intro x hx
  obtain⟨y,F,e⟩:=mF o 0 x hx
  have:y≠r:=fun e=>h (e ▸ F)
  rw[e]; simp; omega
 rw[HP (by rw[J]; exact vn),lE,Gq]
theorem mK:∀ (o:List Nat) (k r:Nat),r∈o→aN (cO k o) (.inl (r:Int))=some (nV (k+o.idxOf r))
 | [],_,_,h=>by cases h
 | x::o,k,r,h=>by
  by_cases e:x=r
  ·subst e
   rw[List.idxOf_cons_self];show aN ((Sum.inl (x:Int),nV k)::cO (k+1) o) (.inl (x:Int))=_
   simp[aN]
  ·have hr:r∈o:=(HW.mp h).resolve_left (fun z=>e z.symm)
   have F:¬ ((Sum.inl (x:Int):bM)=Sum.inl (r:Int)):=fun z=>e (by have:=Sum.inl.inj z; omega)
   have O:aN (cO k (x::o)) (.inl (r:Int))=aN (cO (k+1) o) (.inl (r:Int)):=by
    show aN ((Sum.inl (x:Int),nV k)::cO (k+1) o) (.inl (r:Int))=_
    simp[aN,F]
   rw[O,mK o (k+1) r hr,za4];have J:(x == r)=false:=beq_eq_false_iff_ne.mpr e
   rw[J];show some (nV (k+1+o.idxOf r))=some (nV (k+(o.idxOf r+1)))
   rw[show k+1+o.idxOf r=k+(o.idxOf r+1) by omega]
theorem tq(D:AS K mg "numbered_rooms" aG) (J:mg "enumerate" = none) (F:C9 P w K mg base 1 "rooms_led_to" ["rooms"] uD) (O:C9 P w K mg base 1 "ways_by" ["numbers", "ways"] qR) :
  C9 P w K mg base 2 "numbered_rooms" ["rooms"] (A6 bf):=by
 refine D.cal C7 (fun _ _ _ _ _ _ us hl=>match us,hl with | [_],_=>rfl) (fun vs H Q E h=>by obtain⟨p,R,m,as,rfl,_⟩:=h; rfl) (fun f b6 A outer s H vs Q E hr h=>?_)
 obtain⟨p,R,m,as,rfl,hR,ok,q⟩:=h
 obtain⟨h1,h2,h3⟩:=hR
 have n1:=ok.n1;have b7:=ok.m1;obtain⟨bA,b3,ca⟩:=eI ok.ins ok.n0
 refine⟨_,(af (ap 1 C7.nd (aO F hr (ac (pv 0 (hv:=IY)) ae)))
   (af (ap 2 C7.nd rN (hx:=KJ))
   (af (dj rG rfl (gN K JD J (ac (pv 1) ae)) (ff K (n:=2) (cA (aU 3 C7.nd) (cA (aU 4 C7.nd) fc))) (am (fu (pv 3) (gk (pv 2 (hv:=Ij)) (pv 4) (vS hr)))))
   (am (aV (cX (CW.to (fsc:=(h8 aG)) (N:=["rooms", "order", "numbers", "number", "room"]) (N0:=["rooms", "order", "numbers", "number", "room'"]) (T:=["room"]) ⟨by decide +kernel,by decide +kernel,by decide +kernel,by decide +kernel,by decide +kernel,by decide +kernel,by decide +kernel⟩ rfl rfl) rfl (bT K (pv 1)) (fun _ _ _ _=>(aU 5 (show (["rooms", "order", "numbers", "number", "room'", "room"]:List Str).Nodup from by decide +kernel) (hx:=(dG (h8 aG) (by decide +kernel))) (hf:=fm (h8 aG) (by decide +kernel)))) (bN (show (["rooms", "order", "numbers", "number", "room"]:List Str).length≤5 from by decide)) (fun _ _ _ _=>bR) (fun _ _ _ _=>(aO O hr (ac (pv 2 (hv:=(bP (h8 aG) (by decide +kernel)))) (ac (aD (aZ K) (pv 0 (hv:=(bP (h8 aG) (by decide +kernel)))) (pv 5 (hv:=(bP (h8 aG) (by decide +kernel)))) (fun _ _=>rfl)) ae)) (hg:=(sw (h8 aG) (by decide +kernel))))))))))),?_⟩
 walk_at "r";refine⟨p,R,m,as,rfl,⟨h1,h2,h3⟩,ok,fun op H1 a4 b9 ho=>?_⟩
 walk_at "n";refine fun np a1=>?_
 generalize hH2:upd H1 np _=H2
 have an:=bj hH2 a1;have e2:=bV hH2;have a9:H np=none:=a4.free a1
 walk_at "n";refine⟨⟨_,an _ _ ho⟩,?_⟩
 refine iN (xs:=(az R).map nV) (fun i σ H'=>∃ (o3 o4:Option V),σ=[some (.ref p),some (.ref op),some (.ref np),o3,o4]∧mu H H'∧H' op=some (.lst ((az R).map nV))∧H' np=some (.dK (cO 0 ((az R).take i))))
  ⟨none,none,rfl,a4.trans an,an _ _ ho,e2⟩ (fun i σ H' _ h=>by obtain⟨_,_,_,_,z,_⟩:=h; exact rd.of z) ?_ ?_
 ·rintro i v t σ H' hv ⟨o3,o4,rfl,S,bB,hn⟩ ht
  have hi:i<(az R).length:=by have:=(HL.mp hv).1; simpa using this
  rw[ze,za hi]at hv
  cases hv
  have Y:(az R)[i]∉(az R).take i:=fun z=>by
   obtain⟨j,hj,e⟩:=HN.mp z
   rw[zbu]at e
   have:=(Hz bA).mp e
   simp at hj; omega
  have a5:(az R).take (i+1)=(az R).take i++[(az R)[i]]:=by rw[vy,za hi]; rfl
  have b5:((az R).take i).length=i:=by rw[vc]; omega
  generalize (az R)[i]=r at Y a5 ⊢;have st:=ay ht (.tup [nV i,nV r]);have a7:upd H' t (.tup [nV i,nV r]) t=some (.tup [nV i,nV r]):=ak
  have a2:=S.trans st;have ag:=st _ _ bB;have ad:=st _ _ hn;generalize upd H' t (.tup [nV i,nV r])=Ht at st a7 a2 ag ad ⊢;walk_at "r";refine⟨t,_,rfl,C3.of a7,rfl,?_⟩
  walk_at "r";refine⟨np,_,.inl (r:Int),rfl,rfl,ad,by rw[mG]; exact cH (by omega),?_⟩
  refine⟨_,_,rfl,a2.upd a9 _,?_,?_⟩
  ·rw[al (iY ag ad (fun z=>nomatch z))]; exact ag
  ·have e:=tN Y
   rw[b5]at e
   rw[ak,a5,← e]
 ·rintro σ H3 ⟨o3,o4,rfl,W,bz,bp⟩
  rw[zc,rP]at bp
  walk_at "n";refine⟨⟨_,rd.of bz⟩,fun L hL=>?_⟩
  refine cB (xs:=(az R).map nV) (fun i ys H'=>∃ bs:List Addr,mu H3 H'∧ys=bs.map V.ref∧bs.length=i∧NR H H' L ((bf R).take i) bs) ⟨[],ay hL _,rfl,rfl,⟨⟨ak,rfl,by simp⟩,by simp,GQ⟩⟩ (fun i ys H' _ h=>by obtain⟨_,S,_⟩:=h; exact rd.of (S _ _ bz)) ?_ ?_
  ·rintro i ys H' v hv hi ⟨bs,S,rfl,hb,hN⟩
   rw[zc]at hi
   rw[ze,za hi]at hv
   cases hv;have Z:=zl hi;have a8:(bf R)[i]? = some (gg (az R) (R.getD (az R)[i] [])):=by unfold bf; rw[ze,za hi]; rfl
   generalize (az R)[i]=r at Z a8 ⊢;have a0:=b3 r Z;have a3:r<as.length:=by omega
   have be:=h3 r _ _ (za a3) (za a0);have a6:R.getD r []=R[r]:=by rw[zp,za a0]; rfl
   walk_at "r";refine⟨_,_,.inl (rd.of ((W.trans S) _ _ h1)),aE (by rw[ze,za a3]; rfl),?_⟩
   refine⟨np,as[r],R[r],fun k=>(az R).idxOf k,rfl,(W.trans S) _ _ be,by rw[ok.row _ (zl a0)]; omega,fun k hk=>.inr ⟨_,S _ _ bp,?_⟩,fun L' H4 aa b2 b1=>?_⟩
   ·rw[mK _ _ _ (eY ok.ins ok.n0 Z (by rw[a6]; exact hk)),Gq]
   ·have b4:=hN.push aa (W.trans S) b2 b1
    refine df (by rw[zc]; exact hi) (by rw[zc]; exact hb) (by rw[zc]; exact bG (by omega)) (aa _ _ hN.at'.1) ⟨bs++[L'],?_,by rw[z9]; rfl,by simp[hb],?_⟩
    ·intro b o e
     have bS:b≠L:=au e hL
     rw[al bS]; exact aa _ _ (S _ _ e)
    ·rw[vy,a8]
     have e:gg (az R) (R.getD r [])=(R[r]).map (Option.map fun k=>(az R).idxOf k):=by rw[a6]; rfl
     rw[e]; exact b4
  ·rintro ys H' ⟨bs,S,rfl,hb,hN⟩
   have b8:(bf R).length=(az R).length:=by simp[bf]
   rw[zc,Gd (by omega)]at hN
   exact q L H' bs (W.trans S) (W.free hL) hN
def w6:Sp:=fun vs H Q _=>∃ (p:Addr) (N:bb) (m:Nat) (as:List Addr) (pl:Nat),vs=[.ref p,nV pl]∧vr H p N as∧fz N m∧pl<m∧∀ H',mu H H'→Q (.bl (eU N pl)) H'
theorem BL(D:AS K mg "does_something" bn) (F:mg "enumerate" = none) (O:mg "any" = none):C9 P w K mg base 1 "does_something" ["rooms", "place"] w6:=by
 refine D.cal mh (fun _ _ _ _ _ _ us hl=>match us,hl with | [_,_],_=>rfl) (fun vs H Q E h=>by obtain⟨p,N,m,Z,J,rfl,_⟩:=h; rfl) (fun f ad A outer s H vs Q E hr h=>?_)
 obtain⟨p,N,m,Z,J,rfl,hR,ok,an,q⟩:=h
 obtain⟨h1,h2,h3⟩:=hR
 have n1:=ok.n1;refine⟨_,(am (aV (a_ (yz K) O Dp (ac (cX (CW.to (fsc:=(h8 bn)) (N:=["rooms", "place"]) (N0:=["rooms", "place"]) (T:=["number", "room"]) ⟨by decide +kernel,by decide +kernel,by decide +kernel,by decide +kernel,by decide +kernel,by decide +kernel,by decide +kernel⟩ rfl rfl) rfl (gN K Kh F (ac (pv 0) ae)) (fun _ _ _ _=>(ff K (n:=2) (cA (aU 2 (show (["rooms", "place", "number", "room"]:List Str).Nodup from by decide +kernel) (hx:=(dG (h8 bn) (by decide +kernel))) (hf:=fm (h8 bn) (by decide +kernel))) (cA (aU 3 (show (["rooms", "place", "number", "room"]:List Str).Nodup from by decide +kernel) (hx:=(dG (h8 bn) (by decide +kernel))) (hf:=fm (h8 bn) (by decide +kernel))) fc)))) (t_ (jR (bN (show (["rooms", "place"]:List Str).length≤2 from by decide)) js (jR (bN (show (["rooms", "place"]:List Str).length≤3 from by decide)) js rO l5) (rq js l5))) (fun _ _ _ _=>bR) (fun _ _ _ _=>(ip DP (aD (aZ K) (pv 3 (hv:=(bP (h8 bn) (by decide +kernel)))) (pv 1 (hv:=(bP (h8 bn) (by decide +kernel)))) (fun _ _=>rfl)) (pv 2 (hv:=(bP (h8 bn) (by decide +kernel)))) (bt _)))) ae)))),?_⟩
 walk_at "r";refine⟨⟨_,h1⟩,fun L hL=>?_⟩
 refine uY (xs:=Z.map V.ref) (fun i ys H'=>mu H H'∧H' L=some (.lst ys)∧ys=((List.range i).map fun i=>decide ((N.getD i []).getD J none≠some i)).map V.bl) ⟨ay hL _,ak,rfl⟩ (fun i ys H' _ h=>rd.of (h.1 _ _ h1)) ?_ ?_
 ·rintro i ys H' v t hv hi ⟨Y,hl,rfl⟩ ht
  rw[zc]at hi
  rw[ze,za hi]at hv
  cases hv;have S:i<N.length:=by omega
  have W:=h3 i _ _ (za hi) (za S);have aa:N.getD i []=N[i]:=by rw[zp,za S]; rfl
  have ag:=ok.row _ (zl S);have st:=ay ht (.tup [nV i,.ref Z[i]]);have nt:L≠t:=au hl ht
  walk_at "r";refine⟨t,_,rfl,C3.of ak,rfl,?_⟩
  walk_at "r";refine⟨_,_,.inl (rd.of (st _ _ (Y _ _ W))),aE (by rw[ze,za (by omega)]; rfl),?_⟩
  refine⟨((N[i])[J]'(by omega)).map (fun n:Nat=>(n:Int)),(i:Int),?_,rfl,?_⟩
  ·cases (N[i])[J]'(by omega) <;> rfl
  ·refine df (by rw[zc]; exact hi) (by simp) (by rw[zc]; exact bG (by omega)) (by rw[al nt]; exact hl) ⟨(Y.trans st).upd hL _,ak,?_⟩
   rw[Gz,z9,z9]
   congr 1
   show [V.bl _]=[V.bl _]
   congr 2
   show decide (_≠_)=decide ((N.getD i []).getD J none≠some i)
   rw[aa,zp,za (by omega)]
   show decide (_≠_)=decide ((N[i])[J]'(by omega)≠some i)
   cases (N[i])[J]'(by omega) with
   | none=>simp
   | some k=>simp; omega
 ·rintro ys H' ⟨Y,hl,rfl⟩
  walk_at "r";rw[zc,h2]at hl
  refine⟨_,rd.of hl,?_⟩
  have e:((List.range N.length).map fun i=>decide ((N.getD i []).getD J none≠some i)).any id=eU N J:=by
   unfold eU; rw[List.any_map]; rfl
  rw[e]; exact q H' Y
def sM:Sp:=fun vs H Q _=>∃ (p b:Addr) (ts:List V) (ps:List Nat),vs=[.ref p,.ref b]∧H p=some (.lst ts)∧H b=some (.lst (ps.map nV))∧ps.length≤1000∧(∀ x∈ps,x<ts.length)∧
 ∀ (L:Addr) (H':Hp),mu H H'→H L=none→H' L=some (.lst (ps.map fun x=>ts.getD x .non))→Q (.ref L) H'
theorem w4(D:AS K mg "picked" eh):C9 P w K mg base 1 "picked" ["things", "places"] sM:=by
 refine D.cal yH (fun _ _ _ _ _ _ us hl=>match us,hl with | [_,_],_=>rfl) (fun Y H Q E h=>by obtain⟨p,b,ts,ps,rfl,_⟩:=h; rfl) (fun f Z A outer s H Y Q E hr h=>?_)
 obtain⟨p,b,ts,ps,rfl,hp,W,hl,hx,q⟩:=h
 refine⟨_,(am (aV (cX (CW.to (fsc:=(h8 eh)) (N:=["things", "places"]) (N0:=["things", "places"]) (T:=["place"]) ⟨by decide +kernel,by decide +kernel,by decide +kernel,by decide +kernel,by decide +kernel,by decide +kernel,by decide +kernel⟩ rfl rfl) rfl (bT K (pv 1)) (fun _ _ _ _=>(aU 2 (show (["things", "places", "place"]:List Str).Nodup from by decide +kernel) (hx:=(dG (h8 eh) (by decide +kernel))) (hf:=fm (h8 eh) (by decide +kernel)))) (bN (show (["things", "places"]:List Str).length≤2 from by decide)) (fun _ _ _ _=>bR) (fun _ _ _ _=>(aD (aZ K) (pv 0 (hv:=(bP (h8 eh) (by decide +kernel)))) (pv 2 (hv:=(bP (h8 eh) (by decide +kernel)))) (fun _ _=>rfl)))))),?_⟩
 walk_at "r";refine⟨⟨_,rd.of W⟩,fun L O=>?_⟩
 refine cB (xs:=ps.map nV) (fun i ys H'=>mu H H'∧H' L=some (.lst ys)∧ys=(ps.take i).map fun x=>ts.getD x .non) ⟨ay O _,ak,rfl⟩ (fun i ys H' _ h=>rd.of (h.1 _ _ W)) ?_ ?_
 ·rintro i ys H' v hv hi ⟨J,F,rfl⟩
  rw[zc]at hi
  rw[ze,za hi]at hv
  cases hv;have S:=hx _ (zl hi);walk_at "r";refine⟨_,ts.getD ps[i] .non,.inl (rd.of (J _ _ hp)),aE (by rw[zp,za S]; rfl),?_⟩
  refine df (by rw[zc]; exact hi) (by simp; omega) (by rw[zc]; exact bG (by omega)) F ⟨J.upd O _,ak,?_⟩
  rw[vy,za hi,z9]; rfl
 ·rintro ys H' ⟨J,F,rfl⟩
  rw[zc,rP]at F
  exact q L H' J O F
def bd(r:Rl):Rl:=⟨r.s,(ux (ai r.rs) r.ws.length).map (fun x=>r.ws.getD x default),(ai r.rs).map fun y=>(ux (ai r.rs) r.ws.length).map fun x=>y.getD x none⟩
theorem lK{r:Rl}(ok:aY r):fz r.rs r.ws.length:=⟨ok.n0,ok.n1,ok.nw,fun x hx=>(ok.row x hx).1,fun x hx k F=>(ok.row x hx).2 k F⟩
theorem oD{R:bb}{m:Nat}(ok:fz R m):fz (merged R) m:=by
 obtain⟨a,b,c⟩:=fC ok.n0 ok.ins
 have:=ok.n1
 exact⟨b,by omega,ok.m1,nO ok.row,a⟩
theorem mD{R:bb}{m:Nat}(ok:fz R m):fz (bf R) m:=by
 obtain⟨a,b,c,d⟩:=fw ok.ins ok.n0 ok.row
 have:=ok.n1
 exact⟨b,by omega,ok.m1,d,a⟩
theorem cG{N:bb}{n x:Nat}(h:x∈ux N n):x<n:=HV.mp (Ia.mp h).1
theorem nE(N:bb)(n:Nat):(ux N n).length≤n:=by
 have:=List.length_filter_le (eU N) (List.range n)
 rw[iP]at this
 exact this
theorem kE{r:Rl}(ok:aY r):aY (bd r):=by
 have J:=mD (oD (lK ok));have hp:=nE (ai r.rs) r.ws.length;have:=ok.nw
 refine⟨ok.s,?_,?_,?_,fun x hx=>?_,fun x hx=>?_⟩
 ·show (List.map _ _).length≤16
  rw[zc]; omega
 ·show 1≤(List.map _ _).length
  rw[zc]; exact J.n0
 ·show (List.map _ _).length≤60
  rw[zc]; exact J.n1
 ·obtain⟨y,O,rfl⟩:=HR.mp hx
  refine⟨by show (List.map _ _).length=(List.map _ _).length; rw[zc,zc],fun k W=>?_⟩
  obtain⟨x,S,e⟩:=HR.mp W
  show k<(List.map _ _).length
  rw[zc];refine J.ins y O k ?_
  have F:x<y.length:=by rw[J.row y O]; exact cG S
  rw[zp,za F]at e
  exact e ▸ zl F
 ·obtain⟨y,O,rfl⟩:=HR.mp hx
  have F:=cG O;rw[zp,za F];exact ok.lw _ (zl F)
def pF:Sp:=fun vs H Q _=>∃ (p:Addr) (r:Rl),vs=[.ref p]∧tf H p r∧aY r∧∀ (q pw pr:Addr) (H':Hp) (as:List Addr),mu H H'→H' q=some (.tup [.int r.s,.ref pw,.ref pr])→H' pw=some (.lst ((bd r).ws.map V.str))→
 NR H H' pr (bd r).rs as→H q=none→H pw=none→H pr=none→pw≠pr→pw∉as→Q (.ref q) H'
def sK:Sp:=fun vs H Q _=>∃ (p:Addr) (r:Rl) (mo:Nat),vs=[.ref p,nV mo]∧r.rs.length≤mo∧tf H p r∧aY r∧∀ (q pw pr:Addr) (H':Hp) (as:List Addr),mu H H'→H' q=some (.tup [.int r.s,.ref pw,.ref pr])→H' pw=some (.lst ((bd r).ws.map V.str))→
 NR H H' pr (bd r).rs as→H q=none→H pw=none→H pr=none→pw≠pr→pw∉as→Q (.ref q) H'
theorem BA(D:AS K mg "least_upto" aA) (a0:mg "range" = none) (a8:mg "len" = none) (Y:C9 P w K mg base 3 "kinds_upto" ["rooms", "most"] tX) (O:C9 P w K mg base 4 "merged_rooms" ["rooms", "kinds"] sy) (J:C9 P w K mg base 2 "numbered_rooms" ["rooms"] (A6 bf))
  (F:C9 P w K mg base 1 "does_something" ["rooms", "place"] w6) (ad:C9 P w K mg base 1 "picked" ["things", "places"] sM):C9 P w K mg base 5 "least_upto" ["rule", "most"] sK:=by
 refine D.cal Dv (fun _ _ _ _ _ _ us hl=>match us,hl with | [_,_],_=>rfl) (fun vs H Q E h=>by obtain⟨p,r,mo,rfl,_⟩:=h; rfl) (fun f cq A outer s H vs Q E hr h=>?_)
 obtain⟨p,r,mo,rfl,b5,hR,ok,q⟩:=h
 obtain⟨b6,bA,bp,g1,g2,g3⟩:=hR
 have o0:=lK ok;have o1:=oD o0;have o2:=mD o1;have nw:=ok.nw;have c1:=nE (ai r.rs) r.ws.length
 refine⟨_,(af (ap 2 Dv.nd (aO Y hr (ac (aD (aZ K) (pv 0) ah (fun _ _=>rfl)) (ac (pv 1) ae))))
   (af (cC (ba fI (pv 2) ck (bt _)) (am (aV ck)) bI)
   (af (ap 3 Dv.nd (aD (aZ K) (pv 0) ah (fun _ _=>rfl)))
   (af (ap 4 Dv.nd (aO J hr (ac (aO O hr (ac (aD (aZ K) (pv 0) ah (fun _ _=>rfl)) (ac (pv 2) ae))) ae)) (hx:=HD))
   (af (ap 5 Dv.nd (cX (CW.to (fsc:=(h8 aA)) (N:=["rule", "most", "kinds", "words", "rooms", "places"]) (N0:=["rule", "most", "kinds", "words", "rooms", "places"]) (T:=["place"]) ⟨by decide +kernel,by decide +kernel,by decide +kernel,by decide +kernel,by decide +kernel,by decide +kernel,by decide +kernel⟩ rfl rfl) rfl (dk GX a0 (ac (a_ (bq K) a8 ce (ac (pv 3) ae)) ae)) (fun _ _ _ _=>(aU 6 (show (["rule", "most", "kinds", "words", "rooms", "places", "place"]:List Str).Nodup from by decide +kernel) (hx:=(dG (h8 aA) (by decide +kernel))) (hf:=fm (h8 aA) (by decide +kernel)))) (bN (show (["rule", "most", "kinds", "words", "rooms", "places"]:List Str).length≤6 from by decide)) (fun _ _ _ _=>(Az (oz (aO F hr (ac (pv 4 (hv:=(bP (h8 aA) (by decide +kernel)))) (ac (pv 6 (hv:=(bP (h8 aA) (by decide +kernel)))) ae)) (hg:=(sw (h8 aA) (by decide +kernel))))))) (fun _ _ _ _=>(pv 6 (hv:=(bP (h8 aA) (by decide +kernel)))))) (hx:=Je))
   (am (aV (cU (ac (aD (aZ K) (pv 0) ah (fun _ _=>rfl)) (ac (aO ad hr (ac (pv 3) (ac (pv 5 (hv:=HU)) ae))) (ac (cX (CW.to (fsc:=(h8 aA)) (N:=["rule", "most", "kinds", "words", "rooms", "places"]) (N0:=["rule", "most", "kinds", "words", "rooms", "places"]) (T:=["room"]) ⟨by decide +kernel,by decide +kernel,by decide +kernel,by decide +kernel,by decide +kernel,by decide +kernel,by decide +kernel⟩ rfl rfl) rfl (bT K (pv 4 (hv:=Gj))) (fun _ _ _ _=>(aU 6 (show (["rule", "most", "kinds", "words", "rooms", "places", "room"]:List Str).Nodup from by decide +kernel) (hx:=(dG (h8 aA) (by decide +kernel))) (hf:=fm (h8 aA) (by decide +kernel)))) (bN (show (["rule", "most", "kinds", "words", "rooms", "places"]:List Str).length≤6 from by decide)) (fun _ _ _ _=>bR) (fun _ _ _ _=>(aO ad hr (ac (pv 6 (hv:=(bP (h8 aA) (by decide +kernel)))) (ac (pv 5 (hv:=(bP (h8 aA) (by decide +kernel)))) ae)) (hg:=(sw (h8 aA) (by decide +kernel)))))) ae))))))))))),?_⟩
 walk_at "r";refine⟨_,_,.inr (C3.of g1),rfl,?_⟩
 refine⟨bA,r.rs,r.ws.length,bp,mo,rfl,b5,g3,o0,fun KP H0 a3 cv cc=>?_⟩
 walk_at "n";walk_at "n";refine⟨_,_,.inr (C3.of (a3 _ _ g1)),rfl,?_⟩
 walk_at "n";refine⟨_,_,.inr (C3.of (a3 _ _ g1)),rfl,?_⟩
 refine⟨bA,KP,r.rs,r.ws.length,bp,rfl,g3.mono a3,o0,cc,fun M1 H1 b8 b4 c2 b7=>?_⟩
 have cb:=a3.trans b4;refine⟨M1,merged r.rs,r.ws.length,b8,rfl,b7.at',o1,fun M2 H2 ag cm cr b9=>?_⟩
 have a5:=cb.trans cm;have as:=b9.at';walk_at "n";refine⟨_,.inl (rd.of (a5 _ _ g2)),?_⟩
 rw[zc];walk_at "r";refine⟨by omega,by omega,fun L hL=>?_⟩
 refine tJ (fun i ys H'=>mu H2 H'∧H' L=some (.lst ys)∧ys=((List.range i).filter (eU (ai r.rs))).map nV) ⟨ay hL _,ak,rfl⟩ ?_ ?_
 ·rintro i ys H' hi ⟨sm,hl,rfl⟩
  have a1:i<r.ws.length:=by omega
  have bz:(((List.range i).filter (eU (ai r.rs))).map nV).length≤i:=by
   rw[zc];have:=List.length_filter_le (eU (ai r.rs)) (List.range i)
   rw[iP]at this; exact this
  walk_at "r";refine⟨M2,ai r.rs,r.ws.length,ag,i,by rw[Ho],as.mono sm,o2,a1,fun H5 S=>?_⟩
  cases hdo:eU (ai r.rs) i with
  | false=>
   walk_at "r";refine Fh hi ⟨sm.trans S,S _ _ hl,?_⟩
   rw[Gz,List.filter_append]; simp[hdo]
  | true=>
   walk_at "r";refine DD hi bz (bG (by omega)) (S _ _ hl) ⟨(sm.trans S).upd hL _,ak,?_⟩
   rw[Gz,List.filter_append,z9]; simp[hdo]
 rintro ys H3 ⟨a9,cd,rfl⟩
 have a4:H3 L=some (.lst ((ux (ai r.rs) r.ws.length).map nV)):=by
  unfold ux; rw[cd]; simp
 have aa:=a5.trans a9;walk_at "n";refine⟨_,_,.inr (C3.of (aa _ _ g1)),rfl,?_⟩
 refine⟨b6,L,r.ws.map V.str,ux (ai r.rs) r.ws.length,rfl,aa _ _ g2,a4,by omega,fun x hx=>by rw[zc]; exact cG hx,fun W H4 an hW a2=>?_⟩
 have cl:((ux (ai r.rs) r.ws.length).map fun x=>(r.ws.map V.str).getD x .non)=(bd r).ws.map V.str:=by
  show _=List.map V.str (List.map _ _)
  rw[F9];refine GN fun x hx=>?_
  have be:=cG hx;show _=V.str (r.ws.getD x default)
  rw[zp,ze,zp,za be]; rfl
 rw[cl]at a2
 walk_at "r";refine⟨⟨_,rd.of (an _ _ (a9 _ _ as.1))⟩,fun Z hZ=>?_⟩
 have cf:=(as.mono a9).mono an;obtain⟨k1,k2,k3⟩:=cf
 refine cB (xs:=ag.map V.ref) (fun i ys H'=>∃ cs:List Addr,mu H4 H'∧ys=cs.map V.ref∧cs.length=i∧NR H H' Z ((bd r).rs.take i) cs∧W∉cs) ⟨[],ay hZ _,rfl,rfl,⟨⟨ak,rfl,by simp⟩,by simp,GQ⟩,by simp⟩ (fun i ys H' _ h=>by obtain⟨_,sm,_⟩:=h; exact rd.of (sm _ _ k1)) ?_ ?_
 ·rintro i ys H' v hv hi ⟨cs,sm,rfl,hc,hN,a6⟩
  rw[zc]at hi
  rw[ze,za hi]at hv
  cases hv
  have a1:i<(ai r.rs).length:=by
   have:ag.length=(bf (merged r.rs)).length:=k2
   show i<(bf (merged r.rs)).length
   omega
  have bS:=k3 i _ _ (za hi) (za a1);have c0:((ai r.rs)[i]).length=r.ws.length:=o2.row _ (zl a1)
  walk_at "r";refine⟨ag[i],L,((ai r.rs)[i]).map ar,ux (ai r.rs) r.ws.length,rfl,sm _ _ bS,sm _ _ (an _ _ a4),by omega,fun x hx=>by rw[zc]; have:=cG hx; omega,fun L' H5 S b3 b1=>?_⟩
  have ca:((ux (ai r.rs) r.ws.length).map fun x=>(((ai r.rs)[i]).map ar).getD x .non)=((ux (ai r.rs) r.ws.length).map fun x=>((ai r.rs)[i]).getD x none).map ar:=by
   rw[F9];refine GN fun x hx=>?_
   have be:x<((ai r.rs)[i]).length:=by have:=cG hx; omega
   show _=ar (((ai r.rs)[i]).getD x none)
   rw[zp,ze,zp,za be]; rfl
  rw[ca]at b1
  have cp:mu H H':=(aa.trans an).trans sm
  have cn:=hN.push S cp b3 b1;refine df (by rw[zc]; exact hi) (by rw[zc]; exact hc) (by rw[zc]; have:=o2.n1; exact bG (by have:ag.length=(bf (merged r.rs)).length:=k2; omega)) (S _ _ hN.at'.1) ⟨cs++[L'],?_,by rw[z9]; rfl,by simp[hc],?_,?_⟩
  ·intro b o e
   rw[al (au e hZ)]; exact S _ _ (sm _ _ e)
  ·have e:(bd r).rs.take (i+1)=(bd r).rs.take i++[(ux (ai r.rs) r.ws.length).map fun x=>((ai r.rs)[i]).getD x none]:=by
    rw[vy];show _++(List.map _ (ai r.rs))[i]?.toList=_
    rw[ze,za a1]; rfl
   rw[e]; exact cn
  ·intro z
   rcases HX.mp z with z | z
   ·exact a6 z
   ·have e:=HQ.mp z
    subst e;have:=sm _ _ a2
    rw[b3]at this; cases this
 rintro ys H5 ⟨cs,S,rfl,hc,hN,a6⟩
 have a7:(bd r).rs.take (ag.map V.ref).length=(bd r).rs:=Gd (by
  show (List.map _ (ai r.rs)).length≤_
  rw[zc,zc];have:ag.length=(bf (merged r.rs)).length:=k2
  show (bf (merged r.rs)).length≤_
  omega)
 rw[a7]at hN
 walk_at "r";refine⟨by decide,fun tp b2=>?_⟩
 have st:=ay b2 (.tup [.int r.s,.ref W,.ref Z]);have bB:mu H H5:=(aa.trans an).trans S
 refine q tp W Z _ cs (bB.trans st) ak (st _ _ (S _ _ a2)) (hN.mono st) (bB.free b2) (aa.free hW) ((aa.trans an).free hZ) (au a2 hZ) a6
theorem AO(D:AS K mg "least_rule" dZ) (J:mg "len" = none) (F:C9 P w K mg base 5 "least_upto" ["rule", "most"] sK):C9 P w K mg base 6 "least_rule" ["rule"] pF:=by
 refine D.cal qH (fun _ _ _ _ _ _ us hl=>match us,hl with | [_],_=>rfl) (fun Z H Q E h=>by obtain⟨p,r,rfl,_⟩:=h; rfl) (fun f aa A outer s H Z Q E hr h=>?_)
 obtain⟨p,r,rfl,S,ok,q⟩:=h
 obtain⟨Y,W,ad,g1,g2,O⟩:=id S
 refine⟨_,(am (aV (aO F hr (ac (pv 0) (ac (a_ (bq K) J ce (ac (aD (aZ K) (pv 0) ah (fun _ _=>rfl)) ae)) ae))))),?_⟩
 walk_at "r";refine⟨_,_,.inr (C3.of g1),rfl,⟨_,.inl (rd.of O.1),?_⟩⟩
 refine⟨p,r,r.rs.length,?_,zg _,S,ok,q⟩
 rw[zc,O.2.1]
end
theorem v0{R:bb}{m:Nat}(ok:fz R m):Rm R m:=⟨ok.n0,ok.row,ok.ins⟩
theorem eV(r:Rl):(bd r).rs=dN (ai r.rs) (ux (ai r.rs) r.ws.length):=rfl
theorem yj(r:Rl):(bd r).ws.length=(ux (ai r.rs) r.ws.length).length:=zc _
def jJ(R:bb)(k:Nat):Nat:=(az (merged R)).idxOf ((aj R).getD k 0)
structure fj (R:bb) (k:Nat):Prop where
 lt:k<R.length
 mem:(aj R).getD k 0∈az (merged R)
theorem AD(f:Option Nat→Option Nat)(hf:f none=none)(x:List (Option Nat))(j:Nat):(x.map f).getD j none=f (x.getD j none):=by
 rw[zp,ze,zp]
 cases x[j]? with
 | none=>exact hf.symm
 | some y=>rfl
theorem oy{R:bb}(h:1≤R.length):(aj R).getD 0 0=0:=by
 have hl:(aj R).length=R.length:=cF R _
 have F:=dh R (R.length * R.length) 1
 have e:(Ai R (R.length * R.length)).take 1=[(aj R).getD 0 0]:=by
  show (aj R).take 1=_
  cases hk:aj R with
  | nil=>rw[hk]at hl; simp at hl; omega
  | cons a t=>rfl
 rw[e]at F
 have:ao [] [(aj R).getD 0 0]=[(aj R).getD 0 0]:=by simp[ao]
 rw[this]at F
 simpa using F
theorem oh(M:bb):(az M)[0]? = some 0:=kF M _
theorem vG{R:bb}(h:1≤R.length):fj R 0:=⟨h,by rw[oy h]; exact zX (oh _)⟩
theorem AH{R:bb}(h:1≤R.length):jJ R 0=0:=by
 unfold jJ;rw[oy h];have:=oh (merged R)
 cases hk:az (merged R) with
 | nil=>rw[hk]at this; cases this
 | cons a t=>
  rw[hk]at this
  have:a=0:=by simpa using this
  rw[this]; simp
theorem x8{R:bb}{k:Nat}(h:fj R k):jJ R k<(ai R).length:=by
 rw[DU]; exact HM.mpr h.mem
theorem Ce{R:bb}{k:Nat}(h:fj R k):(ai R).getD (jJ R k) []=(R.getD k []).map (Option.map (jJ R)):=by
 have F:=x8 h;rw[n_ F];have e:(az (merged R))[jJ R k]'(by rw[← DU]; exact F)=(aj R).getD k 0:=gV (HM.mpr h.mem)
 rw[e,← (fU h.lt).2];unfold gg dE;rw[F9];refine GN fun o _=>?_
 cases o <;> rfl
theorem CD{R:bb}{k:Nat}(h:fj R k)(x:Nat):((ai R).getD (jJ R k) []).getD x none=((R.getD k []).getD x none).map (jJ R):=by
 rw[Ce h]; exact AD _ rfl _ _
theorem yk{R:bb}{m:Nat}(S:Rm R m){k J:Nat}(h:fj R k)(O:some J∈R.getD k []):fj R J:=by
 have W:=S.merged;have F:R.getD k []=R[k]'h.lt:=aJ h.lt
 refine⟨S.ins _ (zl h.lt) J (F ▸ O),?_⟩
 refine eY W.ins W.n0 h.mem ?_
 rw[← (fU h.lt).2];exact HR.mpr ⟨some J,O,rfl⟩
theorem xS{N:bb}(S:Nat→Prop)(J:S 0)(O:∀ j,S j→∀ k,some k∈N.getD j []→S k):∀ t,∀ j∈aF N t,S j
 | 0=>fun j F=>by simp[aF]at F; rw[F]; exact J
 | t+1=>by
  have ih:=xS S J O t;show ∀ j∈(match (aF N t)[t]? with | some r=>aM (aF N t) (N.getD r []) | none=>aF N t),S j
  cases e:(aF N t)[t]? with
  | none=>exact ih
  | some r=>
   intro j F
   rcases(e_ _ _ _).mp F with z | z
   ·exact ih j z
   ·exact O r (ih r (zX e)) j z
def aC(r:Rl)(k:Nat)(y:Str):Option Nat:=if y∈r.ws then (r.rs.getD k []).getD (r.ws.idxOf y) none else some k
theorem iM{l:List Str}(nd:l.Nodup){i:Nat}(h:i<l.length):l.idxOf l[i]=i:=by
 have F:=HM.mpr (zl h);exact(Hz nd (h₀:=F) (h₁:=h)).mp (gV F)
theorem kR{r:Rl}(nd:r.ws.Nodup):(bd r).ws.Nodup:=by
 show ((ux (ai r.rs) r.ws.length).map fun x=>r.ws.getD x default).Nodup
 have h:(ux (ai r.rs) r.ws.length).Nodup:=List.Pairwise.filter _ List.nodup_range
 refine HZ.mpr (zbp (fun {x y} hx S O e=>O ?_) h)
 have F:=cG hx;have J:=cG S;rw[aJ F,aJ J]at e
 exact(Hz nd).mp e
theorem sH{r:Rl}(nd:r.ws.Nodup){x:Nat}(hx:x<r.ws.length):r.ws[x]∈(bd r).ws ↔ x∈ux (ai r.rs) r.ws.length:=by
 show r.ws[x]∈((ux (ai r.rs) r.ws.length).map fun x=>r.ws.getD x default) ↔ _
 constructor
 ·intro h
  obtain⟨y,F,e⟩:=HR.mp h
  rw[aJ (cG F)]at e
  have:=(Hz nd).mp e
  exact this ▸ F
 ·exact fun h=>HR.mpr ⟨x,h,aJ hx⟩
theorem vz{r:Rl}(ok:aY r)(nd:r.ws.Nodup){k:Nat}(h:fj r.rs k){x:Nat}(hx:x<r.ws.length):aC (bd r) (jJ r.rs k) r.ws[x]=(aC r k r.ws[x]).map (jJ r.rs):=by
 have O:=x8 h
 have Z:aC r k r.ws[x]=(r.rs.getD k []).getD x none:=by
  unfold aC;rw[HS (zl hx),iM nd hx]
 rw[Z,← CD h];unfold aC
 by_cases hm:r.ws[x]∈(bd r).ws
 ·rw[HS hm]
  have F:=(sH nd hx).mp hm;obtain⟨q,S,eq⟩:=HN.mp F
  have J:q<(bd r).ws.length:=by rw[show (bd r).ws=(ux (ai r.rs) r.ws.length).map (fun x=>r.ws.getD x default) from rfl,zc]; exact S
  have Y:(bd r).ws[q]=r.ws[x]:=by
   have z:(bd r).ws[q]? = some r.ws[x]:=by
    rw[show (bd r).ws=(ux (ai r.rs) r.ws.length).map (fun x=>r.ws.getD x default) from rfl,ze,za S,eq]
    show some (r.ws.getD x default)=_
    rw[aJ hx]
   rw[za J]at z
   exact Option.some.inj z
  have W:(bd r).ws.idxOf r.ws[x]=q:=by rw[← Y]; exact iM (kR nd) J
  rw[W];show ((dN (ai r.rs) (ux (ai r.rs) r.ws.length)).getD (jJ r.rs k) []).getD q none=_
  rw[kA O,aJ (by rw[zc]; exact S),Hu,eq]
 ·rw[HP hm]
  have F:x∉ux (ai r.rs) r.ws.length:=fun z=>hm ((sH nd hx).mpr z)
  have hd:eU (ai r.rs) x=false:=by
   cases hd:eU (ai r.rs) x with
   | false=>rfl
   | true=>exact absurd (Ia.mpr ⟨HV.mpr hx,hd⟩) F
  exact(kT hd O).symm
theorem BM{r:Rl}(ok:aY r)(nd:r.ws.Nodup){k F:Nat}(h:k<r.rs.length)(J:some F∈r.rs.getD k []):∃ x,∃ hx:x<r.ws.length,aC r k r.ws[x]=some F:=by
 rw[aJ h]at J
 obtain⟨x,hx,e⟩:=HN.mp J
 have hl:=(ok.row _ (zl h)).1;refine⟨x,by omega,?_⟩
 unfold aC;rw[HS (zl _),iM nd (by omega),aJ h,aJ hx,e]
theorem we{r:Rl}(ok:aY r)(nd:r.ws.Nodup){k J:Nat}(h:fj r.rs k){x:Nat}(hx:x<r.ws.length)(e:aC r k r.ws[x]=some J):fj r.rs J:=by
 unfold aC at e;have hl:=(ok.row _ (zl h.lt)).1;have F:r.rs.getD k []=r.rs[k]'h.lt:=aJ h.lt
 rw[HS (zl hx),iM nd hx,F,aJ (by omega)]at e
 refine yk (m:=r.ws.length) ⟨ok.n0,fun x hx=>(ok.row x hx).1,fun x hx=>(ok.row x hx).2⟩ h ?_
 rw[F,← e]; exact zl _
theorem yW{x y:Str}(h:x.cps.toList=y.cps.toList):x=y:=by
 cases x; cases y
 have:=Array.ext' h
 simp_all
theorem lR:∀ (xs:List Str),sortedS xs=true→xs.Pairwise (fun a b=>a.cps.toList≤b.cps.toList)
 | [],_=>.nil
 | [x],_=>by simp
 | x::y::r,h=>by
  have h':(!ltCps y.cps.toList x.cps.toList&&sortedS (y::r))=true:=h
  rw[sG,ltCps_eq]at h'
  have h1:x.cps.toList≤y.cps.toList:=List.not_lt.mp (by simpa using h'.1)
  have ih:=lR (y::r) h'.2;refine List.pairwise_cons.mpr ⟨fun z hz=>?_,ih⟩
  rcases HW.mp hz with rfl | hz
  ·exact h1
  ·exact List.le_trans h1 ((List.pairwise_cons.mp ih).1 z hz)
theorem wx{xs ys:List Str}(n1:xs.Nodup)(S:ys.Nodup)(s1:sortedS xs=true)(J:sortedS ys=true)(h:∀ x,x∈xs ↔ x∈ys):xs=ys:=
 ((List.perm_ext_iff_of_nodup n1 S).mpr h).eq_of_pairwise (fun a b _ _ O F=>yW (List.le_antisymm O F)) (lR xs s1) (lR ys J)
theorem nZ:∀ (xs:List Str),xs.Pairwise (fun a b=>a.cps.toList≤b.cps.toList)→sortedS xs=true
 | [],_=>rfl
 | [x],_=>rfl
 | x::y::r,h=>by
  obtain⟨h1,h2⟩:=List.pairwise_cons.mp h
  show (!ltCps y.cps.toList x.cps.toList&&sortedS (y::r))=true
  rw[nZ (y::r) h2,ltCps_eq];have:=List.not_lt.mpr (h1 y wZ)
  simpa using this
structure uB (R:bb):Prop where
 rng:∀ t,aF R t=List.range (aF R t).length
 led:∀ t,t<R.length→t<(aF R t).length
theorem qI{r:Rl}(ok:aY r):uB (bd r).rs:=by
 have h:=v0 (lK ok);refine⟨fun t=>?_,fun t F=>?_⟩
 ·rw[eV,p8 h,iP]
 ·rw[eV,eQ]at F
  rw[eV,p8 h,iP];exact qF h F
theorem tW{r:Rl}(ok:aY r):aj (bd r).rs=List.range (bd r).rs.length:=by
 have h:=v0 (lK ok);rw[eV,tF h,eQ]
abbrev Pr:=Option Nat × Option Nat
def i3(r:Rl)(o:Option Nat)(y:Str):Option Nat:=o.bind fun k=>aC r k y
def dR(a b:Rl)(p:Pr)(y:Str):Pr:=(i3 a p.1 y,i3 b p.2 y)
def og(a b:Rl)(p:Pr):Prop:=(∀ k,p.1=some k→k<a.rs.length)∧∀ k,p.2=some k→k<b.rs.length
theorem nB{r:Rl}(ok:aY r){k F:Nat}{y:Str}(J:k<r.rs.length)(e:aC r k y=some F):F<r.rs.length:=by
 unfold aC at e
 by_cases h:y∈r.ws
 ·rw[HS h,aJ J]at e
  have hx:=ok.row _ (zl J);have hi:r.ws.idxOf y<(r.rs[k]).length:=by rw[hx.1]; exact HM.mpr h
  rw[aJ hi]at e
  exact hx.2 F (e ▸ zl hi)
 ·rw[HP h]at e
  cases e; exact J
theorem sL{r:Rl}(ok:aY r){o:Option Nat}{y:Str}(F:∀ k,o=some k→k<r.rs.length):∀ k,i3 r o y=some k→k<r.rs.length:=fun k e=>by
 cases o with
 | none=>cases e
 | some j=>exact nB ok (F j rfl) e
theorem Ey{a b:Rl}(oa:aY a)(ob:aY b){p:Pr}(h:og a b p)(y:Str):og a b (dR a b p y):=⟨sL oa h.1,sL ob h.2⟩
theorem rb{a b:Rl}{y:Str}(O:y∉a.ws)(S:y∉b.ws)(p:Pr):dR a b p y=p:=by
 obtain⟨F,p2⟩:=p
 have W:i3 a F y=F:=by
  cases F with
  | none=>rfl
  | some k=>show aC a k y=some k; unfold aC; rw[HP O]
 have J:i3 b p2 y=p2:=by
  cases p2 with
  | none=>rfl
  | some k=>show aC b k y=some k; unfold aC; rw[HP S]
 show (i3 a F y,i3 b p2 y)=_
 rw[W,J]
def bX(br:Pr→Bool)(o:List Pr)(t:Pr):List Pr:=if t∈o then o else if br t then o else o++[t]
def cQ(a b:Rl)(us:List Str)(p:Pr):List Pr:=us.map (dR a b p)
def aL(br:Pr→Bool)(a b:Rl)(us:List Str):Nat→List Pr
 | 0=>[(some 0,some 0)]
 | r+1=>if r<(aL br a b us r).length then (cQ a b us ((aL br a b us r).getD r (none,none))).foldl (bX br) (aL br a b us r) else aL br a b us r
def bL(br:Pr→Bool)(a b:Rl)(us:List Str)(r:Nat):Pr:=(aL br a b us r).getD r (none,none)
def dM(o:List Pr)(t:Pr):Option Nat:=if t∈o then some (o.idxOf t) else none
def cP(br:Pr→Bool)(a b:Rl)(us:List Str)(r:Nat):List (Option Nat):=(cQ a b us (bL br a b us r)).map (dM (aL br a b us (r+1)))
def dS(br:Pr→Bool)(a b:Rl)(us:List Str)(M:Nat):Rl:=⟨a.s,us,(List.range M).map (cP br a b us)⟩
section
variable{br:Pr→Bool}{a b:Rl}{us:List Str}
theorem wY(o:List Pr)(t:Pr):∃ x,bX br o t=o++x:=by
 unfold bX; split
 ·exact⟨[],by simp⟩
 ·split
  ·exact⟨[],by simp⟩
  ·exact⟨_,rfl⟩
theorem fP:∀ (ts o:List Pr),∃ x,ts.foldl (bX br) o=o++x
 | [],o=>⟨[],by simp⟩
 | t::ts,o=>by
  obtain⟨x,e⟩:=wY (br:=br) o t
  obtain⟨y,F⟩:=fP ts (bX br o t)
  exact⟨x++y,by rw[zaY,F,e,GC]⟩
structure gS (br:Pr→Bool) (a b:Rl) (o:List Pr):Prop where
 nd:o.Nodup
 inn:∀ t∈o,og a b t
 nb:∀ t∈o,br t=false
theorem yg{o:List Pr}{t:Pr}(h:gS br a b o)(J:og a b t):gS br a b (bX br o t):=by
 unfold bX; split
 ·exact h
 ·rename_i hn
  split
  ·exact h
  ·rename_i hb
   refine⟨Ie.mpr ⟨h.nd,by simp,fun x hx y F e=>hn (by rw[HQ.mp F]at e; exact e ▸ hx)⟩,fun x hx=>?_,fun x hx=>?_⟩
   ·rcases HX.mp hx with z | z
    ·exact h.inn x z
    ·rw[HQ.mp z]; exact J
   ·rcases HX.mp hx with z | z
    ·exact h.nb x z
    ·rw[HQ.mp z]; simpa using hb
theorem lx:∀ (ts:List Pr) {o:List Pr},gS br a b o→(∀ t∈ts,og a b t)→gS br a b (ts.foldl (bX br) o)
 | [],o,h,_=>h
 | t::ts,o,h,ht=>lx ts (yg h (ht t (by simp))) fun x hx=>ht x (by simp[hx])
theorem tZ(oa:aY a)(ob:aY b){p:Pr}(h:og a b p):∀ t∈cQ a b us p,og a b t:=fun t F=>by
 obtain⟨y,_,rfl⟩:=HR.mp F
 exact Ey oa ob h y
theorem getD_mem{o:List Pr}{r:Nat}(h:r<o.length):o.getD r (none,none)∈o:=by
 rw[aJ h]; exact zl h
theorem iB(oa:aY a)(ob:aY b)(J:br (some 0,some 0)=false):∀ r,gS br a b (aL br a b us r)∧1≤(aL br a b us r).length
 | 0=>⟨⟨by simp[aL],fun t F=>by
   simp[aL]at F
   rw[F]; exact⟨fun k e=>by cases e; have:=oa.n0; omega,fun k e=>by cases e; have:=ob.n0; omega⟩,fun t F=>by simp[aL]at F; rw[F]; exact J⟩,by simp[aL]⟩
 | r+1=>by
  obtain⟨h,h1⟩:=iB oa ob J r
  unfold aL;split
  ·rename_i hr
   obtain⟨x,e⟩:=fP (br:=br) (cQ a b us ((aL br a b us r).getD r (none,none))) (aL br a b us r)
   exact⟨lx _ h (tZ oa ob (h.inn _ (getD_mem hr))),by rw[e,zV]; omega⟩
  ·exact⟨h,h1⟩
theorem jG(r:Nat):∀ s,∃ x,aL br a b us (r+s)=aL br a b us r++x
 | 0=>⟨[],by simp⟩
 | s+1=>by
  obtain⟨x,e⟩:=jG r s
  show ∃ x,(if r+s<(aL br a b us (r+s)).length then _ else aL br a b us (r+s))=_
  split
  ·obtain⟨y,F⟩:=fP (br:=br) (cQ a b us ((aL br a b us (r+s)).getD (r+s) (none,none))) (aL br a b us (r+s))
   exact⟨x++y,F.trans (by rw[e,GC])⟩
  ·exact⟨x,e⟩
theorem lJ:∀ (ts o:List Pr) {t:Pr},t∈ts→br t=false→t∈ts.foldl (bX br) o
 | t'::ts,o,t,h,hn=>by
  rcases HW.mp h with e | h
  ·subst e
   obtain⟨x,e⟩:=fP (br:=br) ts (bX br o t)
   rw[zaY,e];refine mW _ ?_
   unfold bX; split
   ·assumption
   ·rw[HP (by rw[hn]; decide)]; simp
  ·exact lJ ts _ h hn
theorem zh{o x:List Pr}{t:Pr}(h:t∈o∨t∉o++x):dM (o++x) t=dM o t:=by
 unfold dM;rcases h with h | h
 ·rw[HS h,HS (mW _ h),GV,HS h]
 ·rw[HP h,HP (fun z=>h (mW _ z))]
structure Ds (br:Pr→Bool) (a b:Rl) (us:List Str) (M:Nat):Prop where
 oa:aY a
 ob:aY b
 b0:br (some 0,some 0)=false
 ws:∀ y,y∈us ↔ y∈a.ws∨y∈b.ws
 nd:us.Nodup
 M1:M=(aL br a b us M).length
theorem Ds.ord(h:Ds br a b us M):gS br a b (aL br a b us M):=(iB h.oa h.ob h.b0 M).1
theorem Ds.zero(h:Ds br a b us M):(aL br a b us M)[0]? = some (some 0,some 0):=by
 obtain⟨x,e⟩:=jG (br:=br) (a:=a) (b:=b) (us:=us) 0 M
 rw[Gq]at e
 rw[e]; rfl
theorem Ds.pos(h:Ds br a b us M):1≤M:=by rw[h.M1]; exact(iB h.oa h.ob h.b0 M).2
theorem Ds.here(h:Ds br a b us M){i:Nat}(hi:i<M):i<(aL br a b us i).length∧bL br a b us i=(aL br a b us M)[i]'(by rw[← h.M1]; exact hi):=by
 have hl:i<(aL br a b us i).length:=by
  refine iO fun J=>?_
  have F:∀ k,aL br a b us (i+k)=aL br a b us i:=by
   intro k
   induction k with
   | zero=>rfl
   | succ k ih=>
    show (if i+k<(aL br a b us (i+k)).length then _ else aL br a b us (i+k))=_
    rw[HP (by rw[ih]; omega),ih]
  have e:=F (M - i);rw[show i+(M - i)=M by omega]at e
  have:=h.M1
  rw[e]at this
  omega
 refine⟨hl,?_⟩
 obtain⟨x,e⟩:=jG (br:=br) (a:=a) (b:=b) (us:=us) i (M - i)
 rw[show i+(M - i)=M by omega]at e
 unfold bL;rw[aJ hl];have:(aL br a b us M)[i]? = some ((aL br a b us i)[i]):=by rw[e,vt hl,za hl]
 rw[za (by rw[← h.M1]; exact hi)]at this
 exact(Option.some.inj this).symm
theorem Ds.next(h:Ds br a b us M){i:Nat}(hi:i<M):aL br a b us (i+1)=(cQ a b us (bL br a b us i)).foldl (bX br) (aL br a b us i):=by
 show (if i<(aL br a b us i).length then _ else _)=_
 rw[HS (h.here hi).1]; rfl
theorem Ds.num(h:Ds br a b us M){i:Nat}(hi:i<M){t:Pr}(O:t∈cQ a b us (bL br a b us i)):dM (aL br a b us (i+1)) t=if br t then none else some ((aL br a b us M).idxOf t):=by
 obtain⟨x,e⟩:=jG (br:=br) (a:=a) (b:=b) (us:=us) (i+1) (M - (i+1))
 rw[show i+1+(M - (i+1))=M by omega]at e
 have J:=(iB (us:=us) h.oa h.ob h.b0 (i+1)).1
 cases hb:br t with
 | true=>
  have:t∉aL br a b us (i+1):=fun z=>by have:=J.nb t z; rw[hb]at this; cases this
  unfold dM;rw[HP this,HS rfl]
 | false=>
  have F:t∈aL br a b us (i+1):=by rw[h.next hi]; exact lJ _ _ O hb
  rw[HP (by decide),e,GV,HS F]
  unfold dM;rw[HS F]
theorem Ds.closed(h:Ds br a b us M){i:Nat}(hi:i<M){y:Str}(J:br (dR a b ((aL br a b us M)[i]'(by rw[← h.M1]; exact hi)) y)=false):dR a b ((aL br a b us M)[i]'(by rw[← h.M1]; exact hi)) y∈aL br a b us M:=by
 by_cases hy:y∈us
 ·obtain⟨x,e⟩:=jG (br:=br) (a:=a) (b:=b) (us:=us) (i+1) (M - (i+1))
  rw[show i+1+(M - (i+1))=M by omega]at e
  have F:dR a b ((aL br a b us M)[i]'(by rw[← h.M1]; exact hi)) y∈aL br a b us (i+1):=by
   rw[h.next hi,(h.here hi).2];exact lJ _ _ (HR.mpr ⟨y,hy,rfl⟩) J
  have:=mW x F
  rw[← e]at this
  exact this
 ·rw[h.ws,not_or]at hy
  rw[rb hy.1 hy.2];exact zl _
theorem jw(M:Nat):(dS br a b us M).rs.length=M:=by simp[dS]
theorem zJ{M i:Nat}(hi:i<M):(dS br a b us M).rs.getD i []=cP br a b us i:=by
 rw[aJ (by rw[jw]; exact hi)]
 simp[dS]
theorem kG(i:Nat):(cP br a b us i).length=us.length:=by unfold cP cQ; simp
theorem Ds.step(h:Ds br a b us M){i:Nat}(hi:i<M)(y:Str):aC (dS br a b us M) i y=if br (dR a b ((aL br a b us M)[i]'(by rw[← h.M1]; exact hi)) y) then none else some ((aL br a b us M).idxOf (dR a b ((aL br a b us M)[i]'(by rw[← h.M1]; exact hi)) y)):=by
 have S:=h.M1;unfold aC
 by_cases hy:y∈us
 ·rw[HS (show y∈(dS br a b us M).ws from hy),zJ hi]
  have hx:us.idxOf y<us.length:=HM.mpr hy
  show (cP br a b us i).getD (us.idxOf y) none=_
  rw[aJ (by rw[kG]; exact hx)]
  have O:(cP br a b us i)[us.idxOf y]'(by rw[kG]; exact hx)=dM (aL br a b us (i+1)) (dR a b (bL br a b us i) y):=by
   simp only[cP,cQ,Hu,gV hx]
  rw[O,h.num hi (HR.mpr ⟨y,hy,rfl⟩),(h.here hi).2]
 ·rw[HP (show y∉(dS br a b us M).ws from hy)]
  have F:=hy;rw[h.ws,not_or]at F
  have J:(aL br a b us M)[i]'(by omega)∈aL br a b us M:=zl _
  rw[rb F.1 F.2,h.ord.nb _ J,HP (by decide)]
  have:=h.ord.nd.idxOf_getElem i (by omega)
  rw[this]
theorem Ds.rl(h:Ds br a b us M)(W:M≤60)(Y:us.length≤16)(hl:∀ u∈us,u.length≤10):aY (dS br a b us M):=by
 refine⟨h.oa.s,Y,by rw[jw]; exact h.pos,by rw[jw]; exact W,fun x hx=>?_,hl⟩
 obtain⟨i,hi,rfl⟩:=HR.mp hx
 have F:=HV.mp hi;refine⟨kG i,fun k O=>?_⟩
 rw[jw];unfold cP at O;obtain⟨t,S,e⟩:=HR.mp O
 rw[h.num F S]at e
 split at e
 ·cases e
 ·rename_i hb
  have J:br t=false:=by simpa using hb
  cases e;obtain⟨y,Z,rfl⟩:=HR.mp S
  rw[(h.here F).2]at J ⊢
  have:=h.closed F J
  conv=>rhs; rw[h.M1]
  exact HM.mpr this
end
theorem zu{n x y x' F:Nat}(h1:y<n)(h2:F<n)(e:x * n+y=x' * n+F):x=x'∧y=F:=by
 have J:(x * n+y) % n=y:=by rw[zaZ,Nat.add_mul_mod_self_right,zbd h1]
 have O:(x' * n+F) % n=F:=by rw[zaZ,Nat.add_mul_mod_self_right,zbd h2]
 have S:y=F:=by rw[← J,← O,e]
 subst S;exact⟨Nat.eq_of_mul_eq_mul_right (by omega) (show x * n=x' * n by omega),rfl⟩
structure Alike (a b:Rl) (E:Nat→Nat→Prop):Prop where
 z:E 0 0
 lt:∀ i j,E i j→i<a.rs.length∧j<b.rs.length
 st:∀ i j y,E i j→(aC a i y=none∧aC b j y=none)∨∃ i' j',aC a i y=some i'∧aC b j y=some j'∧E i' j'
theorem Alike.symm{a b:Rl}{E:Nat→Nat→Prop}(h:Alike a b E):Alike b a (fun j i=>E i j):=
 ⟨h.z,fun i j e=>(h.lt j i e).symm,fun i j y e=>by
  rcases h.st j i y e with ⟨h1,h2⟩ | ⟨O,F,h1,h2,J⟩
  ·exact .inl ⟨h2,h1⟩
  ·exact .inr ⟨F,O,h2,h1,J⟩⟩
structure jF (A:Rl):Prop where
 ok:aY A
 nd:A.ws.Nodup
 so:sortedS A.ws=true
 ks:aj A.rs=List.range A.rs.length
 io:uB A.rs
 ds:∀ y∈A.ws,∃ i,i<A.rs.length∧aC A i y≠some i
theorem Alike.total{a b:Rl}{E:Nat→Nat→Prop}(h:Alike a b E)(A:jF a):∀ i,i<a.rs.length→∃ j,E i j:=by
 intro i hi
 have O:i∈aF a.rs i:=by rw[A.io.rng i]; exact HV.mpr (A.io.led i hi)
 refine xS (N:=a.rs) (fun i=>∃ j,E i j) ⟨0,h.z⟩ ?_ i i O
 rintro k ⟨j,e⟩ W F
 obtain⟨x,hx,ex⟩:=BM A.ok A.nd (h.lt k j e).1 F
 rcases h.st k j _ e with ⟨h1,_⟩ | ⟨Y,J,h1,_,S⟩
 ·rw[ex]at h1; cases h1
 ·rw[ex]at h1; cases h1; exact⟨J,S⟩
theorem jB{A:Rl}(ok:aY A)(nd:A.ws.Nodup){u p:Nat}(F:u<A.rs.length)(hp:p<A.ws.length):(A.rs.getD u [])[p]? = some (aC A u A.ws[p]):=by
 have hl:=(ok.row _ (zl F)).1;unfold aC;rw[HS (zl hp),iM nd hp,aJ F,aJ (by omega),za (by omega)]
theorem Alike.inj{a b:Rl}{E:Nat→Nat→Prop}(h:Alike a b E)(B:jF b){i j W:Nat}(Y:E i j)(J:E i W):j=W:=by
 have key:=kW (R:=b.rs) (fun u v=>∃ i,E i u∧E i v) (fun u v aa hu hv p=>by
  obtain⟨i,Y,J⟩:=aa
  have lu:=(B.ok.row _ (zl hu)).1;have lv:=(B.ok.row _ (zl hv)).1
  by_cases hp:p<b.ws.length
  ·rw[jB B.ok B.nd hu hp,jB B.ok B.nd hv hp]
   rcases h.st i u b.ws[p] Y with ⟨h1,h2⟩ | ⟨i',x,h1,h2,h3⟩
   ·rcases h.st i v b.ws[p] J with ⟨F,O⟩ | ⟨i2,y,F,O,Z⟩
    ·rw[h2,O]; exact .inr (.inl ⟨rfl,rfl⟩)
    ·rw[h1]at F; cases F
   ·rcases h.st i v b.ws[p] J with ⟨F,O⟩ | ⟨i2,y,F,O,Z⟩
    ·rw[h1]at F; cases F
    ·rw[h1]at F; cases F
     rw[h2,O];exact .inr (.inr ⟨x,y,rfl,rfl,⟨i',h3,Z⟩,(h.lt _ _ h3).2,(h.lt _ _ Z).2⟩)
  ·refine .inl ⟨?_,?_⟩
   ·rw[aJ hu,zbN]; omega
   ·rw[aJ hv,zbN]; omega)
 have hj:=(h.lt _ _ Y).2;have S:=(h.lt _ _ J).2;have e:(aj b.rs)[j]? = (aj b.rs)[W]?:=key _ j W ⟨i,Y,J⟩ hj S
 rw[B.ks,Gn hj,Gn S]at e
 exact Option.some.inj e
theorem Alike.word{a b:Rl}{E:Nat→Nat→Prop}(h:Alike a b E)(A:jF a)(B:jF b){y:Str}(W:y∈a.ws):y∈b.ws:=by
 obtain⟨i,hi,J⟩:=A.ds y W
 obtain⟨j,e⟩:=h.total A i hi
 refine iO fun Y=>?_
 have F:aC b j y=some j:=by unfold aC; rw[HP Y]
 rcases h.st i j y e with ⟨_,h2⟩ | ⟨O,Z,h1,h2,S⟩
 ·rw[F]at h2; cases h2
 ·rw[F]at h2; cases h2
  have:O=i:=h.symm.inj A S e
  rw[this]at h1
  exact J h1
inductive Cy (E:Nat→Nat→Prop):List Nat→List Nat→Prop where
 | nil:Cy E [] []
 | cons {a b:Nat} {s t:List Nat}:E a b→Cy E s t→Cy E (a::s) (b::t)
theorem Cy.len{E:Nat→Nat→Prop}{s t:List Nat}(h:Cy E s t):s.length=t.length:=by
 induction h with
 | nil=>rfl
 | cons _ _ ih=>simp[ih]
theorem Cy.get{E:Nat→Nat→Prop}{s t:List Nat}(h:Cy E s t):∀ (i a b:Nat),s[i]? = some a→t[i]? = some b→E a b:=by
 induction h with
 | nil=>intro i a b e; simp at e
 | cons h1 _ ih=>
  intro i a b J F
  cases i with
  | zero=>simp at J F; rw[← J,← F]; exact h1
  | succ i=>exact ih i a b (by simpa using J) (by simpa using F)
theorem Cy.snoc{E:Nat→Nat→Prop}{s t:List Nat}{a b:Nat}(h:Cy E s t)(e:E a b):Cy E (s++[a]) (t++[b]):=by
 induction h with
 | nil=>exact .cons e .nil
 | cons h1 _ ih=>exact .cons h1 ih
theorem Cy.mem{E:Nat→Nat→Prop}(inj:∀ i j j',E i j→E i j'→j=j')(F:∀ i i' j,E i j→E i' j→i=i'){s t:List Nat}(h:Cy E s t){a b:Nat}(e:E a b):a∈s ↔ b∈t:=by
 induction h with
 | nil=>simp
 | @cons x y _ _ h1 _ ih=>
  rw[vB,vB,ih]
  constructor
  ·rintro(z | z)
   ·subst z; exact .inl (inj _ _ _ e h1)
   ·exact .inr z
  ·rintro(z | z)
   ·subst z; exact .inl (F _ _ _ e h1)
   ·exact .inr z
theorem Cy.grow{E:Nat→Nat→Prop}(inj:∀ i j j',E i j→E i j'→j=j')(F:∀ i i' j,E i j→E i' j→i=i'):∀ (x y:List (Option Nat)) {s t:List Nat},Cy E s t→x.length=y.length→(∀ p:Nat,p<x.length→(x[p]? = some none∧y[p]? = some none)∨∃ u v,x[p]? = some (some u)∧y[p]? = some (some v)∧E u v)→Cy E (aM s x) (aM t y)
 | [],[],s,t,h,_,_=>h
 | [],_::_,_,_,_,hl,_=>by simp at hl
 | _::_,[],_,_,_,hl,_=>by simp at hl
 | o::x,o'::y,s,t,h,hl,hp=>by
  have hr:∀ p:Nat,p<x.length→(x[p]? = some none∧y[p]? = some none)∨∃ u v,x[p]? = some (some u)∧y[p]? = some (some v)∧E u v:=fun p hp'=>by
   have:=hp (p+1) (by simpa using hp')
   simpa using this
  have J:x.length=y.length:=by simpa using hl
  rcases hp 0 (by simp) with ⟨h1,h2⟩ | ⟨u,v,h1,h2,S⟩
  ·have W:o=none:=by simpa using h1
   have O:o'=none:=by simpa using h2
   subst W O;exact Cy.grow inj F x y h J hr
  ·have W:o=some u:=by simpa using h1
   have O:o'=some v:=by simpa using h2
   subst W O;show Cy E (aM (if u∈s then s else s++[u]) x) (aM (if v∈t then t else t++[v]) y)
   refine Cy.grow inj F x y ?_ J hr
   by_cases c:u∈s
   ·rw[HS c,HS ((h.mem inj F S).mp c)]; exact h
   ·rw[HP c,HP (fun z=>c ((h.mem inj F S).mpr z))]; exact h.snoc S
theorem Alike.one{A B:Rl}{E:Nat→Nat→Prop}(h:Alike A B E)(hs:A.s=B.s)(O:jF A)(F:jF B):A=B:=by
 have inj:∀ i j Z,E i j→E i Z→j=Z:=fun i j Z e1 Y=>h.inj F e1 Y
 have ag:∀ i i' j,E i j→E i' j→i=i':=fun i i' j e1 Y=>h.symm.inj O e1 Y
 have hw:A.ws=B.ws:=wx O.nd F.nd O.so F.so fun y=>⟨h.word O F,h.symm.word F O⟩
 have row:∀ i j,E i j→∀ p:Nat,p<A.ws.length→((A.rs.getD i [])[p]? = some none∧(B.rs.getD j [])[p]? = some none)∨∃ u v,(A.rs.getD i [])[p]? = some (some u)∧(B.rs.getD j [])[p]? = some (some v)∧E u v:=fun i j e p hp=>by
  have hp':p<B.ws.length:=by rw[← hw]; exact hp
  have as:B.ws[p]=A.ws[p]:=by simp only[hw]
  rw[jB O.ok O.nd (h.lt _ _ e).1 hp,jB F.ok F.nd (h.lt _ _ e).2 hp',as];rcases h.st i j A.ws[p] e with ⟨h1,h2⟩ | ⟨i',Z,h1,h2,h3⟩
  ·exact .inl ⟨by rw[h1],by rw[h2]⟩
  ·exact .inr ⟨i',Z,by rw[h1],by rw[h2],h3⟩
 have rl:∀ i,i<A.rs.length→(A.rs.getD i []).length=A.ws.length:=fun i hi=>by rw[aJ hi]; exact(O.ok.row _ (zl hi)).1
 have W:∀ i,i<B.rs.length→(B.rs.getD i []).length=A.ws.length:=fun i hi=>by rw[aJ hi,hw]; exact(F.ok.row _ (zl hi)).1
 have hb:∀ t,Cy E (aF A.rs t) (aF B.rs t):=by
  intro t
  induction t with
  | zero=>exact .cons h.z .nil
  | succ t ih=>
   show Cy E (match (aF A.rs t)[t]? with | some r=>aM (aF A.rs t) (A.rs.getD r []) | none=>aF A.rs t) (match (aF B.rs t)[t]? with | some r=>aM (aF B.rs t) (B.rs.getD r []) | none=>aF B.rs t)
   cases e:(aF A.rs t)[t]? with
   | none=>
    have:(aF B.rs t)[t]? = none:=by rw[zbN]at e ⊢; rw[← ih.len]; exact e
    rw[this]; exact ih
   | some r=>
    have an:t<(aF B.rs t).length:=by rw[← ih.len]; exact(HL.mp e).1
    rw[za an];have er:=ih.get t r _ e (za an);have J:=h.lt _ _ er;exact Cy.grow inj ag _ _ ih (by rw[rl _ J.1,W _ J.2]) (fun p hp=>row _ _ er p (by rw[← rl _ J.1]; exact hp))
 have same:∀ i,i<A.rs.length→E i i:=fun i hi=>by
  have h1:=O.io.led i hi;have h2:=hb i;have hl:=h2.len;refine h2.get i i i ?_ ?_
  ·rw[O.io.rng i,Gn h1]
  ·rw[F.io.rng i,Gn (by omega)]
 have S:∀ i,i<B.rs.length→E i i:=fun i hi=>by
  have h1:=F.io.led i hi;have h2:=hb i;have hl:=h2.len;refine h2.get i i i ?_ ?_
  ·rw[O.io.rng i,Gn (by omega)]
  ·rw[F.io.rng i,Gn h1]
 have aa:A.rs.length=B.rs.length:=by
  refine Nat.le_antisymm ?_ ?_
  ·refine zbi fun c=>?_
   have:=(h.lt _ _ (same B.rs.length c)).2; omega
  ·refine zbi fun c=>?_
   have:=(h.lt _ _ (S A.rs.length c)).1; omega
 have ad:A.rs=B.rs:=by
  refine zbn aa fun i h1 h2=>?_
  have e1:A.rs.getD i []=A.rs[i]:=aJ h1
  have Y:B.rs.getD i []=B.rs[i]:=aJ h2
  refine za3 fun p=>?_
  rw[← e1,← Y]
  by_cases hp:p<A.ws.length
  ·rcases row i i (same i h1) p hp with ⟨z1,z2⟩ | ⟨u,v,z1,z2,z3⟩
   ·rw[z1,z2]
   ·rw[z1,z2,inj _ _ _ (same u (h.lt _ _ z3).1) z3]
  ·rw[oQ (by rw[rl i h1]; omega),oQ (by rw[W i h2]; omega)]
 cases A; cases B
 simp only at hs hw ad
 subst hs hw ad
 rfl
theorem pO{r:Rl}{y:Str}(h:y∈(bd r).ws):y∈r.ws:=by
 have h':y∈((ux (ai r.rs) r.ws.length).map fun x=>r.ws.getD x default):=h
 obtain⟨x,hx,e⟩:=HR.mp h'
 rw[aJ (cG hx)]at e
 rw[← e]; exact zl _
theorem tI{r:Rl}(ok:aY r)(nd:r.ws.Nodup){k:Nat}(h:fj r.rs k)(y:Str):aC (bd r) (jJ r.rs k) y=(aC r k y).map (jJ r.rs):=by
 by_cases c:y∈r.ws
 ·obtain⟨x,hx,e⟩:=HN.mp c
  subst e;exact vz ok nd h hx
 ·have F:y∉(bd r).ws:=fun z=>c (pO z)
  unfold aC;rw[HP c,HP F]; rfl
theorem sW{r:Rl}(ok:aY r)(nd:r.ws.Nodup){k F:Nat}(h:fj r.rs k){y:Str}(e:aC r k y=some F):fj r.rs F:=by
 by_cases c:y∈r.ws
 ·obtain⟨x,hx,J⟩:=HN.mp c
  subst J;exact we ok nd h hx e
 ·unfold aC at e
  rw[HP c]at e
  cases e; exact h
theorem u0{r:Rl}(ok:aY r)(nd:r.ws.Nodup):∀ y∈(bd r).ws,∃ i,i<(bd r).rs.length∧aC (bd r) i y≠some i:=by
 intro y hy
 have Z:=kR nd;have W:=kE ok;obtain⟨q,Y,e⟩:=HN.mp hy
 have F:q<(ux (ai r.rs) r.ws.length).length:=by rw[← yj]; exact Y
 have hm:=zl F;have hd:=(Ia.mp hm).2;unfold eU at hd;rw[Hl]at hd
 obtain⟨i,hi,hd⟩:=hd
 have J:=HV.mp hi;have S:=of_decide_eq_true hd;have O:i<(bd r).rs.length:=by rw[eV,eQ]; exact J
 refine⟨i,O,fun z=>S ?_⟩
 have h1:=jB W Z O Y;rw[e,z,eV,kA J,ze,za F]at h1
 exact Option.some.inj h1
theorem lq{r:Rl}(so:sortedS r.ws=true):sortedS (bd r).ws=true:=by
 refine nZ _ ?_
 show ((ux (ai r.rs) r.ws.length).map fun x=>r.ws.getD x default).Pairwise _
 have hp:(ux (ai r.rs) r.ws.length).Pairwise (· < ·):=List.Pairwise.filter _ zbH
 refine HZ.mpr (zbp (fun {x y} hx J F=>?_) hp)
 rw[aJ (cG hx),aJ (cG J)];exact Ih.mp (lR _ so) x y (cG hx) (cG J) F
theorem w_{r:Rl}(ok:aY r)(nd:r.ws.Nodup)(so:sortedS r.ws=true):jF (bd r):=
 ⟨kE ok,kR nd,lq so,tW ok,qI ok,u0 ok nd⟩
def wc(CN:Addr):Sp:=fun vs H Q E=>∃ (p q:Addr) (r r':Rl),vs=[.ref p,.ref q]∧tf H p r∧tf H q r'∧(r.s=r'.s→Q .non H)∧(r.s≠r'.s→E (.ref CN) none H)
section
variable{P:Program}{w:World}{K:W.Frag}{mg:Str→Option Value}{base:Heap}
theorem Em{CN:Addr}(F:gh K mg "NoFit" CN) (D:AS K mg "refuse_unlike" dq):E7 P w K mg base 1 "refuse_unlike" ["one", "other"] (wc CN):=by
 refine D.calX (k:=0) mS (fun _ _ _ _ _ _ us hl=>match us,hl with | [_,_],_=>rfl) (fun J H Q E h=>by obtain⟨p,q,r,W,rfl,_⟩:=h; rfl) (fun f O A outer s H J Q E hr h=>?_)
 obtain⟨p,q,r,W,rfl,⟨pw,pr,Z,h1,_⟩,⟨qw,qr,bs,Y,_⟩,S,hx⟩:=h
 refine⟨_,(am (cC (ba lc (aD (aZ K) (pv 0) ah (fun _ _=>rfl)) (aD (aZ K) (pv 1) ah (fun _ _=>rfl)) (bt _)) (am (lC oF F (ac cI ae))) bI)),?_⟩
 walk_at "r";refine⟨_,_,.inr (C3.of h1),mz,?_⟩
 refine⟨_,_,.inr (C3.of Y),mz,?_⟩
 walk_at "r";refine bH (fun c=>?_) (fun c=>?_)
 ·rw[lL]
  walk_at "r";exact⟨by decide,hx (by simpa using c)⟩
 ·exact S (by simpa using c)
end
def q5:Sp:=fun vs H Q _=>∃ (p q:Addr) (r r':Rl),vs=[.ref p,.ref q]∧tf H p r∧tf H q r'∧r.s=r'.s∧Q .non H
section
variable{P:Program}{w:World}{K:W.Frag}{mg:Str→Option Value}{base:Heap}
theorem yi{CN:Addr}(c:E7 P w K mg base 1 "refuse_unlike" ["one", "other"] (wc CN)):C9 P w K mg base 1 "refuse_unlike" ["one", "other"] q5:=
 c.calm fun S H Q E h=>by
  obtain⟨p,q,r,J,e,h1,h2,F,O⟩:=h
  exact⟨p,q,r,J,e,h1,h2,fun _=>O,fun z=>absurd F z⟩
theorem qt{H H':Hp}{a:Addr}(s:mu H H')(h:H' a=none):H a=none:=by
 cases e:H a with
 | none=>rfl
 | some o=>rw[s _ _ e]at h; cases h
def mM(H:Hp)(d:Addr)(ws ts:List Str):Prop:=∃ kvs:List (bM × V),H d=some (.dK kvs)∧kvs.length≤ts.length∧∀ y:Str,aN kvs (.inr y)=if y∈ts then some (.int (ws.idxOf y:Nat)) else none
def pM:Sp:=fun vs H Q _=>∃ (wp pd rp:Addr) (us:List Str) (r:Rl) (n:Nat),vs=[.ref wp,.ref pd,.int n,.ref rp]∧H wp=some (.lst (us.map V.str))∧us.length≤1000∧mM H pd r.ws r.ws∧H rp=some (.lst ((r.rs.getD n []).map ar))∧(r.rs.getD n []).length=r.ws.length∧∀ (a:Addr) (H':Hp),mu H H'→H a=none→H' a=some (.lst (us.map fun u=>ar (aC r n u)))→Q (.ref a) H'
theorem tV(D:AS K mg "ways_for" cD):C9 P w K mg base 1 "ways_for" ["words", "places", "number", "room"] pM:=by
 refine D.cal sY (fun _ _ _ _ _ _ us hl=>match us,hl with | [_,_,_,_],_=>rfl) (fun vs H Q E h=>by obtain⟨_,_,_,_,_,_,rfl,_⟩:=h; rfl) (fun f aa A outer s H vs Q E hr h=>?_)
 obtain⟨wp,Y,rp,us,r,n,rfl,Z,hu,⟨kvs,hp,ag,O⟩,W,ad,q⟩:=h
 refine⟨_,(am (aV (cX (CW.to (fsc:=(h8 cD)) (N:=["words", "places", "number", "room"]) (N0:=["words", "places", "number", "room"]) (T:=["word"]) ⟨by decide +kernel,by decide +kernel,by decide +kernel,by decide +kernel,by decide +kernel,by decide +kernel,by decide +kernel⟩ rfl rfl) rfl (bT K (pv 0)) (fun _ _ _ _=>(aU 4 (show (["words", "places", "number", "room", "word"]:List Str).Nodup from by decide +kernel) (hx:=(dG (h8 cD) (by decide +kernel))) (hf:=fm (h8 cD) (by decide +kernel)))) (bN (show (["words", "places", "number", "room"]:List Str).length≤4 from by decide)) (fun _ _ _ _=>bR) (fun _ _ _ _=>(mU (ba (D7 hr) (pv 4 (hv:=(bP (h8 cD) (by decide +kernel)))) (pv 1 (hv:=(bP (h8 cD) (by decide +kernel)))) (by with_unfolding_all rfl)) (aD (aZ K) (pv 3 (hv:=(bP (h8 cD) (by decide +kernel)))) (aD (Dc K) (pv 1 (hv:=(bP (h8 cD) (by decide +kernel)))) (pv 4 (hv:=(bP (h8 cD) (by decide +kernel)))) (fun _ _=>rfl)) (fun _ _=>rfl)) (pv 2 (hv:=(bP (h8 cD) (by decide +kernel))))))))),?_⟩
 walk_at "r";refine⟨⟨_,rd.of Z⟩,fun L S=>?_⟩
 refine cB (xs:=us.map V.str) (fun i ys H'=>mu H H'∧H' L=some (.lst ys)∧ys=(us.take i).map fun u=>ar (aC r n u)) ⟨ay S _,ak,rfl⟩ (fun i ys H' _ h=>rd.of (h.1 _ _ Z)) ?_ ?_
 ·rintro i ys H' v hv hi ⟨F,hl,rfl⟩
  rw[zc]at hi
  rw[ze,za hi]at hv
  cases hv;walk_at "r"
  have J:∀ o:Option Nat,aC r n us[i]=o→jN (us.map V.str).length i (fun i ys H'=>mu H H'∧H' L=some (.lst ys)∧ys=(us.take i).map fun u=>ar (aC r n u)) L ((us.take i).map fun u=>ar (aC r n u)) (ar o) H':=fun o ho=>
   df (by rw[zc]; exact hi) (by rw[zc,vc]; omega) (by rw[zc]; exact bG (by omega)) hl ⟨F.upd S _,ak,by rw[vy,za hi,z9,← ho]; rfl⟩
  have hv:=O us[i];refine⟨Y,kvs,.inr us[i],rfl,rfl,F _ _ hp,_,rfl,?_⟩
  by_cases hm:us[i]∈r.ws
  ·rw[HS hm]at hv
   have hj:=HM.mpr hm;rw[hv];refine bH (fun _=>?_) (fun c=>absurd rfl c)
   refine .inr ⟨Y,kvs,.inr us[i],_,rfl,rfl,F _ _ hp,hv,?_⟩
   refine⟨_,_,.inl (rd.of (F _ _ W)),aE (v:=ar ((r.rs.getD n []).getD (r.ws.idxOf us[i]) none)) ?_,J _ (by unfold aC; rw[HS hm])⟩
   rw[ze,za (by omega),zp (l:=r.rs.getD n []),za (by omega)]
   rfl
  ·rw[HP hm]at hv
   rw[hv];refine bH (fun c=>by cases c) (fun _=>?_)
   exact J (some n) (by unfold aC; rw[HP hm])
 rintro ys H1 ⟨F,hl,rfl⟩
 rw[zc,rP]at hl
 exact q L H1 F S hl
def Ep(F:Addr→Prop)(P:Program)(w:World)(H:Hp)(d:Addr)(r:Rl)(us:List Str)(n:Nat)(no:Bool):Prop:=∃ kvs:List (Option Int × V),H d=some (ml P w d kvs)∧kvs.length≤(if no then n+1 else n)∧
 (∀ k:Nat,k<n→∃ b,aN kvs (some (k:Int))=some (.ref b)∧H b=some (.lst (us.map fun u=>ar (aC r k u)))∧F b)∧(∀ k:Nat,n≤k→aN kvs (some (k:Int))=none)∧
 (no=true→∃ b,aN kvs none=some (.ref b)∧H b=some (.lst (us.map fun _=>V.non))∧F b)
theorem Ep.mono{F:Addr→Prop}{H H':Hp}{d:Addr}{r:Rl}{us:List Str}{n:Nat}{Y:Bool}(S:mu H H')(h:Ep F P w H d r us n Y):Ep F P w H' d r us n Y:=by
 obtain⟨kvs,e,hl,h1,h2,h3⟩:=h
 refine⟨kvs,S _ _ e,hl,fun k hk=>?_,h2,fun Z=>?_⟩
 ·obtain⟨b,O,W,J⟩:=h1 k hk
  exact⟨b,O,S _ _ W,J⟩
 ·obtain⟨b,O,W,J⟩:=h3 Z
  exact⟨b,O,S _ _ W,J⟩
theorem Ep.weak{F W:Addr→Prop}{H:Hp}{d:Addr}{r:Rl}{us:List Str}{n:Nat}{Z:Bool}(Y:∀ b,F b→W b)(h:Ep F P w H d r us n Z):Ep W P w H d r us n Z:=by
 obtain⟨kvs,e,hl,h1,h2,h3⟩:=h
 refine⟨kvs,e,hl,fun k hk=>?_,h2,fun hn=>?_⟩
 ·obtain⟨b,O,S,J⟩:=h1 k hk
  exact⟨b,O,S,Y b J⟩
 ·obtain⟨b,O,S,J⟩:=h3 hn
  exact⟨b,O,S,Y b J⟩
theorem Ep.put{H:Hp}{d W:Addr}{r:Rl}{us:List Str}{n:Nat}{S:Bool}{xs:List V}{u:HO}(hW:H W=some (.lst xs))(h:Ep (fun b=>b≠W) P w H d r us n S):Ep (fun b=>b≠W) P w (upd H W u) d r us n S:=by
 obtain⟨kvs,e,hl,h1,h2,h3⟩:=h
 refine⟨kvs,by rw[al (fun z=>by rw[z,hW]at e; cases e)]; exact e,hl,fun k Z=>?_,h2,fun Y=>?_⟩
 ·obtain⟨b,J,O,F⟩:=h1 k Z
  exact⟨b,J,by rw[al F]; exact O,F⟩
 ·obtain⟨b,J,O,F⟩:=h3 Y
  exact⟨b,J,by rw[al F]; exact O,F⟩
def pB(P:Program)(w:World):Sp:=fun vs H Q _=>∃ (p wp:Addr) (r:Rl) (us:List Str),vs=[.ref p,.ref wp]∧tf H p r∧aY r∧r.ws.Nodup∧H wp=some (.lst (us.map V.str))∧us.length≤1000∧∀ (d:Addr) (H':Hp),mu H H'→H d=none→Ep (fun b=>H b=none) P w H' d r us r.rs.length true→Q (.ref d) H'
theorem zR(D:AS K mg "ways_by_room" aP) (F:mg "enumerate" = none) (J:C9 P w K mg base 1 "ways_for" ["words", "places", "number", "room"] pM):C9 P w K mg base 2 "ways_by_room" ["rule", "words"] (pB P w):=by
 refine D.cal CM (fun _ _ _ _ _ _ us hl=>match us,hl with | [_,_],_=>rfl) (fun vs H Q E h=>by obtain⟨_,_,_,_,rfl,_⟩:=h; rfl) (fun f bA A outer s H vs Q E hr h=>?_)
 obtain⟨p,wp,r,us,rfl,hR,ok,nd,hw,hu,q⟩:=h
 obtain⟨pw,pr,as,h1,h2,h3,h4,h5⟩:=hR
 refine⟨_,(af (ap 2 CM.nd rN)
   (af (dj rG rfl (gN K FM F (ac (aD (aZ K) (pv 0) ah (fun _ _=>rfl)) ae)) (ff K (n:=2) (cA (aU 3 CM.nd) (cA (aU 4 CM.nd) fc))) (am (fu (pv 3) (gk (pv 2) (pv 4) (vS hr)))))
   (af (ap 5 CM.nd (u9 P w))
   (af (dj rG rfl (gN K FM F (ac (aD (aZ K) (pv 0) ah (fun _ _=>rfl)) ae)) (ff K (n:=2) (cA (aU 6 CM.nd) (cA (aU 7 CM.nd) fc))) (am (fu (aO J hr (ac (pv 1) (ac (pv 2) (ac (pv 6) (ac (pv 7) ae))))) (gk (pv 5) (pv 6) (uQ P w)))))
   (af (fu (cX (CW.to (fsc:=(h8 aP)) (N:=["rule", "words", "places", "place", "word", "ways", "number", "room"]) (N0:=["rule", "words", "places", "place", "word'", "ways", "number", "room"]) (T:=["word"]) ⟨by decide +kernel,by decide +kernel,by decide +kernel,by decide +kernel,by decide +kernel,by decide +kernel,by decide +kernel⟩ rfl rfl) rfl (bT K (pv 1)) (fun _ _ _ _=>(aU 8 (show (["rule", "words", "places", "place", "word'", "ways", "number", "room", "word"]:List Str).Nodup from by decide +kernel) (hx:=(dG (h8 aP) (by decide +kernel))) (hf:=fm (h8 aP) (by decide +kernel)))) (bN (show (["rule", "words", "places", "place", "word", "ways", "number", "room"]:List Str).length≤8 from by decide)) (fun _ _ _ _=>bR) (fun _ _ _ _=>ck)) (gk (pv 5) ck (uQ P w)))
   (am (aV (pv 5)))))))),?_⟩
 walk_at "r";intro pd a3
 generalize hH1:upd H pd _=H1
 have aa:=bj hH1 a3;have e1:=bV hH1;walk_at "n";refine⟨_,_,.inr (C3.of (aa _ _ h1)),rfl,?_⟩
 walk_at "r";refine⟨⟨_,aa _ _ h2⟩,?_⟩
 refine iN (xs:=r.ws.map V.str) (fun i σ H'=>∃ (o3 o4:Option V),σ=[some (.ref p),some (.ref wp),some (.ref pd),o3,o4,none,none,none]∧mu H H'∧mM H' pd r.ws (r.ws.take i))
  ⟨none,none,rfl,aa,[],e1,by simp,fun y=>by simp[aN]⟩ (fun i σ H' _ h=>by obtain⟨_,_,_,W,_⟩:=h; exact rd.of (W _ _ h2)) ?_ ?_
 ·rintro i v t σ H' hv ⟨o2,o3,rfl,W,kvs,Y,bp,be⟩ ht
  have hi:i<r.ws.length:=by have:=(HL.mp hv).1; simpa using this
  rw[ze,za hi]at hv
  cases hv;generalize hH2z:upd H' t _=H2
  have st:=bj hH2z ht;have ad:=bV hH2z;walk_at "r";refine⟨t,_,rfl,C3.of ad,rfl,?_⟩
  walk_at "r";rw[vc]at bp
  refine⟨pd,kvs,.inr r.ws[i],rfl,rfl,st _ _ Y,cH (by have:=ok.nw; omega),_,_,rfl,(W.trans st).upd a3 _,_,ak,?_,fun y=>?_⟩
  ·have:=dQ kvs (.inr r.ws[i]) (.int (i:Int))
   rw[vc]; omega
  ·have a8:r.ws.idxOf r.ws[i]=i:=nd.idxOf_getElem i hi
   rw[ik,vy,za hi]
   by_cases c:y=r.ws[i]
   ·subst c
    rw[HS rfl,HS (HX.mpr (.inr (by simp))),a8]
   ·rw[HP (by simpa using c),be y]
    by_cases hy:y∈r.ws.take i
    ·rw[HS hy,HS (HX.mpr (.inl hy))]
    ·rw[HP hy,HP (fun h=>by
      rcases HX.mp h with z | z
      ·exact hy z
      ·exact c (by simpa using z))]
 rintro σ H2 ⟨o3,o4,rfl,O,a1⟩
 rw[zc,rP]at a1
 walk_at "n";intro d hd
 generalize hH3:upd H2 d _=H3
 have a0:=bj hH3 hd;have e3:=bV hH3;have Z:=O.trans a0;walk_at "n";refine⟨_,_,.inr (C3.of (Z _ _ h1)),aE (j:=2) rfl,?_⟩
 walk_at "r";refine⟨⟨_,Z _ _ h3⟩,?_⟩
 have bz:mM H3 pd r.ws r.ws:=by
  obtain⟨kvs,z1,z2⟩:=a1
  exact⟨kvs,a0 _ _ z1,z2⟩
 have n1:=ok.n1
 refine iN (xs:=as.map V.ref) (fun i σ H'=>∃ (o6 o7:Option V),σ=[some (.ref p),some (.ref wp),some (.ref pd),o3,o4,some (.ref d),o6,o7]∧mu H2 H'∧Ep (fun b=>H b=none) P w H' d r us i false)
  ⟨none,none,rfl,a0,[],e3,yT _,fun k Y=>by omega,fun k _=>rfl,fun h=>by cases h⟩ (fun i σ H' _ h=>by obtain⟨_,_,_,W,_⟩:=h; exact rd.of ((O.trans W) _ _ h3)) ?_ ?_
 ·rintro i v t σ H' hv ⟨o6,o7,rfl,W,hW⟩ ht
  have hi:i<as.length:=by have:=(HL.mp hv).1; simpa using this
  rw[ze,za hi]at hv
  cases hv;have ag:i<r.rs.length:=by omega
  generalize hH4z:upd H' t _=H4
  have st:=bj hH4z ht;have ad:=bV hH4z;have S:=(O.trans W).trans st;have a2:r.rs.getD i []=r.rs[i]:=by rw[zp,za ag]; rfl
  walk_at "r";refine⟨t,_,rfl,C3.of ad,rfl,?_⟩
  walk_at "r";refine⟨wp,pd,as[i],us,r,i,rfl,S _ _ hw,hu,?_,?_,?_,fun b H5 s5 hb e5=>?_⟩
  ·obtain⟨kvs,z1,z2⟩:=a1
   exact⟨kvs,(W.trans st) _ _ z1,z2⟩
  ·rw[a2]; exact S _ _ (h5 i _ _ (za hi) (za ag))
  ·rw[a2]; exact(ok.row _ (zl ag)).1
  obtain⟨kvs,k1,k2,k3,k4,k5⟩:=hW.mono (st.trans s5)
  walk_at "r";have a9:=(W.trans st).trans s5;have ne:∀ {b xs},H5 b=some (.lst xs)→b≠d:=fun e z=>by rw[z,k1]at e; cases e
  refine⟨d,some (i:Int),kvs,rfl,rfl,k1,cH (by have a6:kvs.length≤i:=k2; omega),_,_,rfl,a9.upd hd _,_,ak,?_,fun k Y=>?_,fun k Y=>?_,fun h=>by cases h⟩
  ·have:=dQ kvs (some (i:Int)) (.ref b)
   have a6:kvs.length≤i:=k2
   show _≤i+1
   omega
  ·rw[ik]
   by_cases c:k=i
   ·subst c
    exact⟨b,by rw[HS rfl],by rw[al (ne e5)]; exact e5,S.free hb⟩
   ·obtain⟨b',b1,b2,b3⟩:=k3 k (by omega)
    exact⟨b',by rw[HP (by simp; omega)]; exact b1,by rw[al (ne b2)]; exact b2,b3⟩
  ·rw[ik,HP (by simp; omega)]
   exact k4 k (by omega)
 rintro σ H4 ⟨o6,o7,rfl,S,a7⟩
 rw[zc,h4]at a7
 walk_at "n";have a5:=(O.trans S) _ _ hw;refine⟨⟨_,rd.of a5⟩,fun L hL=>?_⟩
 refine cB (xs:=us.map V.str) (fun i ys H'=>mu H4 H'∧H' L=some (.lst ys)∧ys=(us.take i).map fun _=>V.non) ⟨ay hL _,ak,rfl⟩ (fun i ys H' _ h=>rd.of (h.1 _ _ a5)) ?_ ?_
 ·rintro i ys H' v hv hi ⟨W,hl,rfl⟩
  rw[zc]at hi
  walk_at "r";exact df (by rw[zc]; exact hi) (by rw[zc,vc]; omega) (by rw[zc]; exact bG (by omega)) hl ⟨W.upd hL _,ak,by rw[vy,za hi,z9]; rfl⟩
 rintro ys H5 ⟨a4,an,rfl⟩
 rw[zc,rP]at an
 obtain⟨kvs,k1,k2,k3,k4,k5⟩:=a7.mono a4
 have ne:∀ {b xs},H5 b=some (.lst xs)→b≠d:=fun e z=>by rw[z,k1]at e; cases e
 have a6:kvs.length≤r.rs.length:=k2
 refine⟨d,none,kvs,rfl,rfl,k1,cH (by omega),?_⟩
 walk_at "n";refine q d _ ((O.trans (S.trans a4)).upd (qt O hd) _) (qt O hd) ⟨_,ak,?_,fun k Y=>?_,fun k Y=>?_,fun _=>⟨L,by rw[ik,HS rfl],by rw[al (ne an)]; exact an,(O.trans S).free hL⟩⟩
 ·have:=dQ kvs none (.ref L)
  show _≤r.rs.length+1
  omega
 ·obtain⟨b',b1,b2,b3⟩:=k3 k Y
  exact⟨b',by rw[ik,HP (by simp)]; exact b1,by rw[al (ne b2)]; exact b2,b3⟩
 ·rw[ik,HP (by simp)]
  exact k4 k Y
end
def mX(r r':Rl)(ws:List Str):Prop:=ws.Nodup∧(∀ y,y∈ws ↔ y∈r.ws∨y∈r'.ws)∧ws.length≤32
def xA:Sp:=fun vs H Q _=>∃ (p q:Addr) (r r':Rl),vs=[.ref p,.ref q]∧tf H p r∧tf H q r'∧aY r∧aY r'∧∀ (l:Addr) (H':Hp) (ws:List Str),mu H H'→H l=none→H' l=some (.lst (ws.map V.str))→mX r r' ws→sortedS ws=true→Q (.ref l) H'
section
variable{P:Program}{w:World}{K:W.Frag}{mg:Str→Option Value}{base:Heap}
theorem Cj(D:AS K mg "words_of_both" cW) (F:mg "sorted" = none) (J:mg "set" = none):C9 P w K mg base 1 "words_of_both" ["one", "other"] xA:=by
 refine D.cal (k:=0) nq (fun _ _ _ _ _ _ us hl=>match us,hl with | [_,_],_=>rfl) (fun vs H Q E h=>by obtain⟨p,q,r,r',rfl,_⟩:=h; rfl) (fun f ad A outer s H vs Q E hr h=>?_)
 obtain⟨p,q,r,r',rfl,⟨pw,pr,as,h1,h2,h3⟩,⟨qw,qr,bs,g1,g2,g3⟩,ok,Z,hq⟩:=h
 have nw:=ok.nw;have a1:=Z.nw;refine⟨_,(am (aV (a_ (mq P w hr) F iL (ac (aB (BW P w) (iG (kB K P w hr) J sj (ac (aD (aZ K) (pv 0) ah (fun _ _=>rfl)) ae)) (iG (kB K P w hr) J sj (ac (aD (aZ K) (pv 1) ah (fun _ _=>rfl)) ae))) ae)))),?_⟩
 walk_at "r";refine⟨_,_,.inr (C3.of h1),aE (j:=1) rfl,?_⟩
 refine⟨pw,r.ws,rfl,rd.of h2,by omega,fun a ds ha hd Y a0=>?_⟩
 generalize hH1z:upd H a _=H1
 have s1:=bj hH1z ha;have e1:=bV hH1z;walk_at "r";refine⟨_,_,.inr (C3.of (s1 _ _ g1)),aE (j:=1) rfl,?_⟩
 refine⟨qw,r'.ws,rfl,rd.of (s1 _ _ g2),by omega,fun b es hb he W an=>?_⟩
 have s2:=ay hb (dX P w b es);have e2:upd H1 b (dX P w b es) b=some (dX P w b es):=ak
 have S:a≠b:=au e1 hb
 generalize upd H1 b (dX P w b es)=H2 at s2 e2 ⊢;refine⟨a,b,ds,es,rfl,rfl,S,s2 _ _ e1,e2,by omega,fun c us hc hu aa ag=>?_⟩
 generalize hH3z:upd H2 c _=H3
 have s3:=bj hH3z hc;have e3:=bV hH3z;walk_at "r";refine⟨c,us,rfl,e3,by omega,fun l ts hl hp hs=>?_⟩
 have O:=(s1.trans s2).trans s3;exact hq l _ ts (O.trans (ay hl _)) (O.free hl) ak ⟨hp.nodup_iff.mpr hu,fun y=>by rw[hp.mem_iff,aa,Y,W],by rw[hp.length_eq]; omega⟩ hs
end
def ER(P:Program)(w:World)(H:Hp)(d:Addr)(r:Rl)(ws:List Str):Prop:=∃ kvs,H d=some (ml P w d kvs)∧(∀ k,k<r.rs.length→∃ a,aN kvs (some (k:Int))=some (.ref a)∧H a=some (.lst ((ws.map (aC r k)).map ar)))∧∃ a,aN kvs none=some (.ref a)∧H a=some (.lst (ws.map fun _=>V.non))
theorem ER.mono{P:Program}{w:World}{H H':Hp}{d:Addr}{r:Rl}{ws:List Str}(h:ER P w H d r ws)(F:mu H H'):ER P w H' d r ws:=by
 obtain⟨kvs,h1,h2,a,S,Y⟩:=h
 exact⟨kvs,F _ _ h1,fun k O=>by obtain⟨a,W,J⟩:=h2 k O; exact⟨a,W,F _ _ J⟩,a,S,F _ _ Y⟩
def ra(P:Program)(w:World):Sp:=fun vs H Q _=>∃ (p wl:Addr) (r:Rl) (ws:List Str),vs=[.ref p,.ref wl]∧tf H p r∧aY r∧r.ws.Nodup∧H wl=some (.lst (ws.map V.str))∧ws.length≤32∧∀ (d:Addr) (H':Hp),mu H H'→ER P w H' d r ws→Q (.ref d) H'
section
variable{P:Program}{w:World}{K:W.Frag}{mg:Str→Option Value}{base:Heap}
theorem yR(c:C9 P w K mg base 2 "ways_by_room" ["rule", "words"] (pB P w)):C9 P w K mg base 2 "ways_by_room" ["rule", "words"] (ra P w):=by
 obtain⟨f,fd,F,r⟩:=c.ex
 refine⟨f,fd,F.imp ?_,r⟩
 rintro vs H Q E ⟨p,W,r,ws,rfl,h1,h2,Z,h4,h5,q⟩
 refine⟨p,W,r,ws,rfl,h1,h2,Z,h4,by omega,fun d H' s' _ hW=>q d H' s' ?_⟩
 obtain⟨kvs,e,_,w1,_,Y⟩:=hW
 refine⟨kvs,e,fun k S=>?_,?_⟩
 ·obtain⟨b,J,O,_⟩:=w1 k S
  exact⟨b,J,by rw[O,F9]; rfl⟩
 ·obtain⟨b,J,O,_⟩:=Y rfl
  exact⟨b,J,O⟩
end
theorem ER.look{P:Program}{w:World}{H:Hp}{d:Addr}{r:Rl}{ws:List Str}(h:ER P w H d r ws):∃ kvs,H d=some (ml P w d kvs)∧∀ o:Option Nat,(∀ k,o=some k→k<r.rs.length)→∃ a,aN kvs (o.map fun k:Nat=>(k:Int))=some (.ref a)∧H a=some (.lst ((ws.map (i3 r o)).map ar)):=by
 obtain⟨kvs,h1,h2,a,J,O⟩:=h
 refine⟨kvs,h1,fun o F=>?_⟩
 cases o with
 | none=>
  refine⟨a,J,?_⟩
  rw[O,F9]; rfl
 | some k=>exact h2 k (F k rfl)
def E1(H:Hp)(l:Addr)(ts:List Addr)(ps:List Pr):Prop:=H l=some (.lst (ts.map V.ref))∧ts.length=ps.length∧∀ (j:Nat) t p,ts[j]? = some t→ps[j]? = some p→H t=some (.tup [ar p.1,ar p.2])
theorem E1.mono{H H':Hp}{l:Addr}{ts:List Addr}{ps:List Pr}(h:E1 H l ts ps)(F:mu H H'):E1 H' l ts ps:=⟨F _ _ h.1,h.2.1,fun j t p O J=>F _ _ (h.2.2 j t p O J)⟩
def ue(P:Program)(w:World):Sp:=fun vs H Q _=>∃ (d d' t:Addr) (r r':Rl) (ws:List Str) (p:Pr),vs=[.ref d,.ref d',.ref t]∧ER P w H d r ws∧ER P w H d' r' ws∧ws.length≤32∧H t=some (.tup [ar p.1,ar p.2])∧og r r' p∧∀ (l:Addr) (H':Hp) (ts:List Addr),mu H H'→H l=none→E1 H' l ts (cQ r r' ws p)→Q (.ref l) H'
theorem nP(o:Option Nat):ar o=bU (o.map fun k:Nat=>(k:Int)):=by cases o <;> rfl
section
variable{P:Program}{w:World}{K:W.Frag}{mg:Str→Option Value}{base:Heap}
theorem AF(D:AS K mg "pairs_behind" cN) (F:mg "list" = none) (J:mg "zip" = none):C9 P w K mg base 1 "pairs_behind" ["ones", "others", "pair"] (ue P w):=by
 refine D.cal (k:=0) nS (fun _ _ _ _ _ _ us hl=>match us,hl with | [_,_,_],_=>rfl) (fun vs H Q E h=>by obtain⟨_,_,_,_,_,_,_,rfl,_⟩:=h; rfl) (fun f ad A outer s H vs Q E hr h=>?_)
 obtain⟨d,d',t,r,r',ws,p,rfl,hW,aa,hn,ht,hi,q⟩:=h
 obtain⟨kvs,h1,h2⟩:=hW.look
 obtain⟨S,g1,g2⟩:=aa.look
 obtain⟨a,a1,a2⟩:=h2 p.1 hi.1
 obtain⟨b,b1,b2⟩:=g2 p.2 hi.2
 refine⟨_,(am (aV (vA K hr Ka F Jx J (ac (aD (rE P w) (pv 0) (aD (aZ K) (pv 2) ah (fun _ _=>rfl)) (fun _ _=>rfl)) (ac (aD (rE P w) (pv 1) (aD (aZ K) (pv 2) ah (fun _ _=>rfl)) (fun _ _=>rfl)) ae))))),?_⟩
 walk_at "r";unfold Bc;walk_at "r";refine⟨_,_,.inr (C3.of ht),mz,?_⟩
 refine⟨d,_,kvs,_,rfl,nP p.1,h1,a1,?_⟩
 refine⟨_,_,.inr (C3.of ht),aE (j:=1) rfl,?_⟩
 refine⟨d',_,S,_,rfl,nP p.2,g1,b1,?_⟩
 walk_at "r";refine⟨a,b,_,_,rfl,rd.of a2,rd.of b2,by simp,by simp; omega,fun l ts H2 s2 hl Z O W=>?_⟩
 simp only[zc]at O
 refine q l H2 ts s2 hl ⟨Z,by unfold cQ; rw[zc]; exact O,fun k u pp e1 Y=>?_⟩
 obtain⟨x,y,ex,ey,hu,_⟩:=W k u e1
 have hk:k<ws.length:=by have:=(HL.mp e1).1; omega
 unfold cQ at Y;simp only[ze,za hk]at ex ey Y
 cases ex; cases ey; cases Y
 exact hu
end
def gf(p:Pr):List (Option Int):=[p.1.map fun k:Nat=>(k:Int),p.2.map fun k:Nat=>(k:Int)]
theorem rZ{o o':Option Nat}(h:(o.map fun k:Nat=>(k:Int))=o'.map fun k:Nat=>(k:Int)):o=o':=by
 cases o <;> cases o' <;> simp at h ⊢ <;> omega
theorem mL{p q:Pr}(h:gf p=gf q):p=q:=by
 have h':[p.1.map fun k:Nat=>(k:Int),p.2.map fun k:Nat=>(k:Int)]=[q.1.map fun k:Nat=>(k:Int),q.2.map fun k:Nat=>(k:Int)]:=h
 have J:=(List.cons.inj h').1;have F:=(List.cons.inj (List.cons.inj h').2).1;exact Prod.ext (rZ J) (rZ F)
theorem nN{H:Hp}{t:Addr}{p:Pr}(h:H t=some (.tup [ar p.1,ar p.2])):EZ H (gf p) t:=by
 show H t=some (.tup ((gf p).map bU))
 rw[h];show _=some (HO.tup [bU _,bU _])
 rw[nP,nP]
def E2(kvs:List (cT × V))(o:List Pr):Prop:=kvs.length=o.length∧(∀ t∈o,aN kvs (gf t)=some (V.int (o.idxOf t:Nat)))∧∀ k,(∀ t∈o,k≠gf t)→aN kvs k=none
theorem E2.snoc{kvs:List (cT × V)}{o:List Pr}{t:Pr}(h:E2 kvs o)(O:t∉o):aN kvs (gf t)=none∧E2 (kvs++[(gf t,V.int (o.length:Int))]) (o++[t]):=by
 obtain⟨h1,h2,W⟩:=h
 have J:aN kvs (gf t)=none:=W _ fun t' F e=>O (by rw[mL e]; exact F)
 refine⟨J,by simp[h1],fun t' F=>?_,fun k S=>?_⟩
 ·rw[fW _ _ _ _ J]
  rcases HX.mp F with z | z
  ·rw[HP (fun e=>by have:=mL e; subst this; exact O z),h2 t' z,GV,HS z]
  ·rw[HQ.mp z,HS rfl,GV,HP O]; simp
 ·rw[fW _ _ _ _ J,HP (S t (by simp))]
  exact W k fun t' F=>S t' (by simp[F])
theorem E2.zero(t:Pr):E2 [(gf t,V.int (0:Int))] [t]:=by
 refine⟨rfl,fun t' F=>?_,fun k J=>?_⟩
 ·rw[HQ.mp F,c6 rfl]; simp
 ·rw[c_ (fun e=>J t (by simp) e.symm)]; rfl
theorem E2.look{kvs:List (cT × V)}{o:List Pr}(h:E2 kvs o)(t:Pr):(aN kvs (gf t)).getD .non=ar (dM o t):=by
 unfold dM
 by_cases c:t∈o
 ·rw[HS c,h.2.1 _ c]; rfl
 ·rw[HP c,h.2.2 _ fun t' F e=>c (by rw[mL e]; exact F)]; rfl
def Ef(H:Hp)(p:Addr)(o:List Pr):Prop:=∃ ts:List Addr,E1 H p ts o
theorem Ef.mono{H H':Hp}{p:Addr}{o:List Pr}(h:Ef H p o)(F:mu H H'):Ef H' p o:=let ⟨ts,h⟩:=h; ⟨ts,h.mono F⟩
theorem Ef.other{H:Hp}{p c:Addr}{o:List Pr}{u:HO}(h:Ef H p o)(J:p≠c)(S:∀ xs,H c≠some (.tup xs)):Ef (upd H c u) p o:=by
 obtain⟨ts,h1,h2,O⟩:=h
 refine⟨ts,by rw[al J]; exact h1,h2,fun i a t W F=>?_⟩
 have e:=O i a t W F;rw[al (fun z=>by subst z; exact S _ e)]; exact e
theorem Ef.push{H:Hp}{p a:Addr}{o:List Pr}{t:Pr}{ts:List Addr}(h1:H p=some (.lst (ts.map V.ref)))(h2:ts.length=o.length)(W:∀ (i:Nat) a t,ts[i]? = some a→o[i]? = some t→H a=some (.tup [ar t.1,ar t.2]))(e:H a=some (.tup [ar t.1,ar t.2])):Ef (upd H p (.lst (ts.map V.ref++[.ref a]))) p (o++[t]):=by
 refine⟨ts++[a],by rw[ak]; simp,by simp[h2],fun i S t' F J=>?_⟩
 have np:∀ {b xs},H b=some (.tup xs)→b≠p:=fun e z=>by rw[z,h1]at e; cases e
 by_cases hi:i<ts.length
 ·rw[vt hi]at F
  rw[vt (by omega)]at J
  have z:=W i S t' F J;rw[al (np z)]; exact z
 ·have O:i=ts.length:=by have:=(HL.mp F).1; simp at this; omega
  subst O;rw[yS (zg _)]at F
  rw[h2,yS (zg _)]at J
  simp at F J
  subst F J;rw[al (np e)]; exact e
theorem vr.other{H:Hp}{p c:Addr}{rs:List (List (Option Nat))}{F:List Addr}{u:HO}(h:vr H p rs F)(S:p≠c)(Y:c∉F):vr (upd H c u) p rs F:=by
 obtain⟨h1,h2,W⟩:=h
 refine⟨by rw[al S]; exact h1,h2,fun i a x J O=>?_⟩
 rw[al (fun z=>by subst z; exact Y (zX J))]; exact W i a x J O
theorem vr.push{H:Hp}{p a:Addr}{rs:List (List (Option Nat))}{J:List Addr}{x:List (Option Nat)}(h:vr H p rs J)(hp:p∉J)(Z:p≠a)(e:H a=some (.lst (x.map ar))):vr (upd H p (.lst (J.map V.ref++[.ref a]))) p (rs++[x]) (J++[a]):=by
 obtain⟨h1,h2,Y⟩:=h
 refine⟨by rw[ak]; simp,by simp[h2],fun i W x' F O=>?_⟩
 by_cases hi:i<J.length
 ·rw[vt hi]at F
  rw[vt (by omega)]at O
  rw[al (fun z=>by subst z; exact hp (zX F))]
  exact Y i W x' F O
 ·have S:i=J.length:=by have:=(HL.mp F).1; simp at this; omega
  subst S;rw[yS (zg _)]at F
  rw[h2,yS (zg _)]at O
  simp at F O
  subst F O;rw[al Z.symm]; exact e
theorem hV{P:Program}{w:World}{H:Hp}{a c:Addr}{kvs:List (cT × V)}{xs:List V}{o:HO}(h:DO P w H a kvs)(O:H c=some (.lst xs))(F:a≠c):DO P w (upd H c o) a kvs:=by
 obtain⟨ys,h1,h2,J,S⟩:=h
 exact⟨ys,by rw[al F]; exact h1,h2,J,Paired.imp' (fun p q z=>⟨z.1,z.2.1.mono fun d zs e=>by rw[al (fun z=>by subst z; rw[O]at e; cases e)]; exact e,z.2.2⟩) S⟩
theorem c7{P:Program}{w:World}{H:Hp}{a c:Addr}{kvs:List (cT × V)}{xs:List V}(h:DO P w H a kvs)(F:H c=some (.lst xs)):a≠c:=by
 obtain⟨ys,h1,_⟩:=h
 rintro rfl
 rw[h1]at F; cases F
theorem lW{P:Program}{w:World}{H:Hp}{a:Addr}{kvs:List (cT × V)}(h:DO P w H a kvs):∀ xs,H a≠some (.tup xs):=fun xs z=>by
 obtain⟨ys,h1,_⟩:=h
 rw[h1]at z; cases z
def kK(br:Pr→Bool):Sp:=fun vs H Q _=>∃ (t:Addr) (p:Pr),vs=[.ref t]∧H t=some (.tup [ar p.1,ar p.2])∧Q (.bl (br p)) H
def wK(P:Program)(w:World)(K:W.Frag)(mg:Str→Option Value)(base:Heap):Sp:=fun vs H Q _=>∃ (p q f:Addr) (a b:Rl) (br:Pr→Bool),vs=[.ref p,.ref q,.ref f]∧tf H p a∧tf H q b∧aY a∧aY b∧a.ws.Nodup∧b.ws.Nodup∧vH P w K mg base 1 f ["pair"] (kK br)∧br (some 0,some 0)=false∧(∀ o,gS br a b o→o.length≤60)∧
 ∀ (t:Addr) (H':Hp) (us:List Str) (M:Nat),mu H H'→mX a b us→sortedS us=true→M≤60→M=(aL br a b us M).length→tf H' t (dS br a b us M)→Q (.ref t) H'
section
variable{P:Program}{w:World}{K:W.Frag}{mg:Str→Option Value}{base:Heap}
theorem lQ{D:dH}{J:Hp}{p q fb wl d1 d2 op W Y rl S:Addr}{Z:V}{t:Pr}{O:List (cT × V)}{o:List Pr}{X:List V}(ht:J S=some (.tup [ar t.1,ar t.2]))(hM:DO P w J W O)(hN:E2 O o)(F:J rl=some (.lst X))(hX:X.length≤1000)
  (hq:D.nx [some (.ref p),some (.ref q),some (.ref fb),some (.ref wl),some (.ref d1),some (.ref d2),some (.ref op),some (.ref W),some (.ref Y),some Z,some (.ref rl),some (.ref S)] (upd J rl (.lst (X++[ar (dM o t)])))) :
  oZ (vE (Bp K "list" l3 (pe 10) (vf (oG P w (pe 7) (pe 11)) zI))) D [some (.ref p),some (.ref q),some (.ref fb),some (.ref wl),some (.ref d1),some (.ref d2),some (.ref op),some (.ref W),some (.ref Y),some Z,some (.ref rl),some (.ref S)] J:=by
 walk_at "n";rw[ql];walk_at "r";refine⟨⟨_,rd.of F⟩,W,O,rfl,hM,S,_,O,rfl,hM,nN ht,?_⟩
 rw[hN.look];exact⟨_,F,cH (by omega),hq⟩
theorem Bx(D:AS K mg "rule_of_pairs" ax) (an:mg "len" = none) (S:C9 P w K mg base 1 "words_of_both" ["one", "other"] xA) (F:C9 P w K mg base 2 "ways_by_room" ["rule", "words"] (ra P w)) (aa:C9 P w K mg base 1 "pairs_behind" ["ones", "others", "pair"] (ue P w)):C9 P w K mg base 3 "rule_of_pairs" ["one", "other", "breaks"] (wK P w K mg base):=by
 refine D.cal wu (fun _ _ _ _ _ _ us hl=>match us,hl with | [_,_,_],_=>rfl) (fun vs H Q E h=>by obtain⟨_,_,_,_,_,_,rfl,_⟩:=h; rfl) (fun f f8 A outer s H vs Q E hr h=>?_)
 obtain⟨p,q,fb,a,b,br,rfl,hA,hB,oa,ob,na,nb,a8,b0,h60,e6⟩:=h
 refine⟨_,(af (ap 3 wu.nd (aO S hr (ac (pv 0) (ac (pv 1) ae))))
   (af (ap 4 wu.nd (aO F hr (ac (pv 0) (ac (pv 3) ae))))
   (af (ap 5 wu.nd (aO F hr (ac (pv 1) (ac (pv 3) ae))))
   (af (ap 6 wu.nd (bu (ac (cU (ac ah (ac ah ae))) ae)))
   (af (ap 7 wu.nd ((nG P w hr) (cU (ac ah (ac ah ae))) ah))
   (af (ap 8 wu.nd (bu ae))
   (af (kQ rG (ba lf (a_ (bq K) an ce (ac (pv 8) ae)) (a_ (bq K) an ce (ac (pv 6) ae)) (bt _)) (af (ap 9 wu.nd (aD (aZ K) (pv 6) (a_ (bq K) an ce (ac (pv 8) ae)) (fun _ _=>rfl)))
   (af (ap 10 wu.nd (bu ae))
   (af (dj rG rfl (bT K (aO aa hr (ac (pv 4) (ac (pv 5) (ac (pv 9) ae))))) (aU 11 wu.nd) (af (cC (PW.pt' (li (ba (nH P w hr) (pv 11) (pv 7) (by with_unfolding_all rfl)) (j8 (xx (oz (BG a8 hr (ac (pv 11) ae) (i:=2))))))) (af (fu (a_ (bq K) an ce (ac (pv 6) ae)) (gk (pv 7) (pv 11) (wU P w hr)))
   (am (c8 (dw K FZ Gy Gw cL (pv 6) (ac (pv 11) ae))))) bI)
   (am (c8 (dw K FZ Gy Gw cL (pv 10) (ac (rS P w hr (pv 7) (pv 11) ⟨rfl,rfl,rfl,rfl⟩) ae))))))
   (am (c8 (dw K FZ Gy Gw cL (pv 8) (ac (pv 10) ae))))))))
   (am (aV (cU (ac (aD (aZ K) (pv 0) ah (fun _ _=>rfl)) (ac (pv 3) (ac (pv 8) ae))))))))))))),?_⟩
 walk_at "r";refine⟨p,q,a,b,rfl,hA,hB,oa,ob,fun wl H1 us s1 gc c1 ev eS=>?_⟩
 obtain⟨f9,f7,cr⟩:=id ev
 walk_at "n";refine⟨p,wl,a,us,rfl,hA.mono s1,oa,na,c1,cr,fun d1 H2 s2 ez=>?_⟩
 walk_at "n";refine⟨q,wl,b,us,rfl,(hB.mono s1).mono s2,ob,nb,s2 _ _ c1,cr,fun d2 H3 s3 eM=>?_⟩
 have dm:=ez.mono s3;have et:=(s1.trans s2).trans s3;walk_at "n";refine⟨by decide,fun z1 fa=>?_⟩
 have s4:=ay fa (.tup [V.int 0,V.int 0]);have e4:upd H3 z1 (.tup [V.int 0,V.int 0]) z1=some (.tup [ar (some 0),ar (some 0)]):=ak
 generalize upd H3 z1 (.tup [V.int 0,V.int 0])=H4 at s4 e4 ⊢;refine⟨by decide,fun op d6=>?_⟩
 have s5:=ay d6 (.lst [V.ref z1]);have e5:upd H4 op (.lst [V.ref z1]) op=some (.lst ([z1].map V.ref)):=ak
 generalize upd H4 op (.lst [V.ref z1])=H5 at s5 e5 ⊢;walk_at "n";rw[nM];refine fun mp dt u hu=>?_
 have s6:=ay dt u;generalize upd H5 mp u=H6 at s6 hu ⊢;walk_at "r";refine⟨by decide,fun z2 fB=>?_⟩
 have s7:=ay fB (.tup [V.int 0,V.int 0]);have e7:upd H6 z2 (.tup [V.int 0,V.int 0]) z2=some (.tup [ar (some 0),ar (some 0)]):=ak
 generalize upd H6 z2 (.tup [V.int 0,V.int 0])=H7 at s7 e7 ⊢;refine⟨z2,gf (some 0,some 0),rfl,nN (p:=(some 0,some 0)) e7,hu.mono s7,fun u' ey=>?_⟩
 have eg:mu H3 H5:=s4.trans s5
 have cl:H3 mp=none:=eg.free dt
 have cs:mu H3 (upd H7 mp u'):=((eg.trans s6).trans s7).upd cl u'
 have eu:H7 op=some (.lst ([z1].map V.ref)):=(s6.trans s7) _ _ e5
 have c9:=hu.mono s7
 have o8:Ef (upd H7 mp u') op (aL br a b us 0):=by
  refine Ef.other (H:=H7) ⟨[z1],eu,rfl,fun i x t w1 w2=>?_⟩ (zB (c7 c9 eu)) (lW c9)
  match i,w1,w2 with
  | 0,w1,w2=>cases w1; cases w2; exact((s5.trans s6).trans s7) _ _ e4
  | i+1,w1,w2=>simp at w1
 generalize upd H7 mp u'=H8 at cs o8 ey ⊢;walk_at "n";refine⟨by decide,fun rp c0=>?_⟩
 have s9:=ay c0 (.lst []);have e9:upd H8 rp (.lst []) rp=some (.lst (([]:List Addr).map V.ref)):=ak
 generalize upd H8 rp (.lst [])=H9 at s9 e9 ⊢;have ew:H3 op=none:=s4.free d6
 have d4:H3 rp=none:=cs.free c0
 obtain⟨_,oo,_⟩:=id o8
 have cp:op≠rp:=au oo c0
 walk_at "n"
 refine⟨fun mm σ H'=>∃ (r:Nat) (as:List Addr) (kvs:List (cT × V)) (o9 c5 a5:Option V),mm=61 - r∧σ=[some (.ref p),some (.ref q),some (.ref fb),some (.ref wl),some (.ref d1),some (.ref d2),some (.ref op),some (.ref mp),some (.ref rp),o9,c5,a5]∧mu H3 H'∧Ef H' op (aL br a b us r)∧DO P w H' mp kvs∧E2 kvs (aL br a b us r)∧vr H' rp ((List.range r).map (cP br a b us)) as∧(op::rp::as).Nodup∧r≤(aL br a b us r).length,
  ⟨_,0,[],_,none,none,none,rfl,rfl,cs.trans s9,o8.mono s9,ey.mono s9,E2.zero _,⟨e9,rfl,fun i a x z=>by simp at z⟩,by simp[cp],by simp[aL]⟩,?_⟩
 rintro mm σ H' ⟨r,as,kvs,o9,c5,a5,em,rfl,sm,hO,hM,hN,a0,nd,ge⟩
 obtain⟨bS,gl⟩:=iB (us:=us) oa ob b0 r
 have f4:=h60 _ bS;obtain⟨ts,t1,t2,t3⟩:=id hO
 walk_at "r";have dc:as.length=r:=by have:=a0.2.1; simpa using this
 refine⟨_,.inl (rd.of a0.1),_,.inl (rd.of t1),?_⟩
 rw[zc,zc,dc,t2]
 by_cases hend:r<(aL br a b us r).length
 rotate_left
 ·refine bH (fun c=>absurd (by omega) hend) (fun _=>?_)
  obtain⟨pw,pr,gu,r1,r2,r3⟩:=(hA.mono et).mono sm
  walk_at "n";refine⟨_,_,.inr (C3.of r1),mz,?_⟩
  refine⟨by decide,fun t ht=>?_⟩
  have s':=ay ht (.tup [V.int a.s,V.ref wl,V.ref rp]);exact e6 t _ us r (et.trans (sm.trans s')) ev eS (by omega) (by omega) ⟨wl,rp,as,ak,(sm.trans s') _ _ ((s2.trans s3) _ _ c1),a0.mono s'⟩
 refine bH (fun _=>?_) (fun c=>absurd (by omega) c)
 have ej:og a b (bL br a b us r):=bS.inn _ (getD_mem hend)
 have f3:(aL br a b us r)[r]? = some (bL br a b us r):=by unfold bL; rw[zp,za hend]; rfl
 obtain⟨tx,d7⟩ : ∃ tx,ts[r]? = some tx:=⟨ts[r],za (by omega)⟩
 have eN:=t3 r tx _ d7 f3;refine⟨_,fun _ _ h=>h,_,.inl (rd.of a0.1),_,_,.inl (rd.of t1),aE (v:=.ref tx) (by rw[zc,dc,ze,d7]; rfl),?_⟩
 walk_at "n";refine⟨by decide,fun rl bz=>?_⟩
 have be:=ay bz (.lst []);have c4:upd H' rl (.lst []) rl=some (.lst []):=ak
 generalize upd H' rl (.lst [])=gt at be c4 ⊢;have a9:=sm.trans be;have d3:H3 rl=none:=sm.free bz
 walk_at "n";refine⟨d1,d2,tx,a,b,us,bL br a b us r,rfl,dm.mono a9,eM.mono a9,cr,be _ _ eN,ej,fun bl e2 ys c3 b9 hP=>?_⟩
 obtain⟨eb,ep,f1⟩:=hP
 have f5:H3 bl=none:=a9.free b9
 have f2:ys.length=us.length:=by rw[ep]; unfold cQ; simp
 have a6:=be.trans c3
 have b4:(op::rp::rl::as).Nodup:=by
  have pm:(op::rp::rl::as).Perm (rl::op::rp::as):=by
   rw[List.perm_iff_count];intro x
   simp only[List.count_cons]
   omega
  refine pm.nodup_iff.mpr (HY.mpr ⟨fun z=>?_,nd⟩)
  have:∃ o,H' rl=some o:=by
   simp only[vB]at z
   rcases z with z | z | z
   ·exact⟨_,by rw[z]; exact t1⟩
   ·exact⟨_,by rw[z]; exact a0.1⟩
   ·obtain⟨i,hi,e⟩:=HN.mp z
    exact⟨_,a0.2.2 i rl _ (by rw[za hi,e]) (za (by rw[← a0.2.1]; exact hi))⟩
  obtain⟨o,e⟩:=this
  rw[bz]at e; cases e
 have en:∀ (k:Nat) t (hk:k<us.length),ys[k]? = some t→e2 t=some (.tup [ar (dR a b (bL br a b us r) us[k]).1,ar (dR a b (bL br a b us r) us[k]).2]):=fun k t hk e=>f1 k t _ e (by unfold cQ; rw[ze,za hk]; rfl)
 have ft:bl≠op:=zB (au (be _ _ t1) b9)
 have e1:bl≠rl:=zB (au c4 b9)
 have e3:bl≠mp:=by obtain⟨zs,z,_⟩:=hM; exact zB (au (be _ _ z) b9)
 have fy:(cP br a b us r).length=us.length:=kG r
 walk_at "r";refine⟨⟨_,rd.of eb⟩,?_⟩
 refine eP (xs:=ys.map V.ref) (fun k σ J=>∃ (Z:List (cT × V)) (a5:Option V),σ=[some (.ref p),some (.ref q),some (.ref fb),some (.ref wl),some (.ref d1),some (.ref d2),some (.ref op),some (.ref mp),some (.ref rp),some (.ref tx),some (.ref rl),a5]∧mu H3 J∧J bl=some (.lst (ys.map V.ref))∧(∀ (k:Nat) t (hk:k<us.length),ys[k]? = some t→J t=some (.tup [ar (dR a b (bL br a b us r) us[k]).1,ar (dR a b (bL br a b us r) us[k]).2]))∧Ef J op (((cQ a b us (bL br a b us r)).take k).foldl (bX br) (aL br a b us r))∧DO P w J mp Z∧E2 Z (((cQ a b us (bL br a b us r)).take k).foldl (bX br) (aL br a b us r))∧vr J rp ((List.range r).map (cP br a b us)) as∧J rl=some (.lst (((cP br a b us r).take k).map ar)))
  ⟨kvs,a5,rfl,a9.trans c3,eb,en,hO.mono a6,hM.mono a6,hN,a0.mono a6,c3 _ _ c4⟩ (fun k σ J _ h=>by obtain⟨_,_,_,_,z,_⟩:=h; exact rd.of z) ?_ ?_
 ·rintro k v σ J hv ⟨Z,a5,rfl,sx,b7,bp,a4,O,ad,W,ag⟩
  have hk:k<ys.length:=by have:=(HL.mp hv).1; simpa using this
  have cv:k<us.length:=by omega
  rw[ze,za hk]at hv
  cases hv;have a7:=bp k ys[k] cv (za hk)
  have ed:((cQ a b us (bL br a b us r)).take (k+1)).foldl (bX br) (aL br a b us r)=bX br (((cQ a b us (bL br a b us r)).take k).foldl (bX br) (aL br a b us r)) (dR a b (bL br a b us r) us[k]):=by
   rw[vy,zbK];unfold cQ;rw[ze,za cv]
   rfl
  have cc:gS br a b (((cQ a b us (bL br a b us r)).take k).foldl (bX br) (aL br a b us r)):=lx _ bS fun t ht=>tZ oa ob ej t (GU ht)
  have ek:=h60 _ cc
  have e8:aL br a b us (r+1)=((cQ a b us (bL br a b us r)).drop (k+1)).foldl (bX br) (((cQ a b us (bL br a b us r)).take (k+1)).foldl (bX br) (aL br a b us r)):=by
   rw[← zbK,GT];show (if r<(aL br a b us r).length then _ else _)=_
   rw[HS hend]; rfl
  have ei:=(iB (us:=us) oa ob b0 (r+1)).1
  have Y:(cP br a b us r)[k]? = some (dM (bX br (((cQ a b us (bL br a b us r)).take k).foldl (bX br) (aL br a b us r)) (dR a b (bL br a b us r) us[k])) (dR a b (bL br a b us r) us[k])):=by
   obtain⟨x,e⟩:=fP (br:=br) ((cQ a b us (bL br a b us r)).drop (k+1)) (((cQ a b us (bL br a b us r)).take (k+1)).foldl (bX br) (aL br a b us r))
   rw[← e8,ed]at e
   have e0:(cP br a b us r)[k]? = some (dM (aL br a b us (r+1)) (dR a b (bL br a b us r) us[k])):=by
    unfold cP cQ;rw[ze,ze,za cv]; rfl
   rw[e0,e];refine congrArg some (zh ?_)
   cases hb:br (dR a b (bL br a b us r) us[k]) with
   | true=>
    refine .inr fun z=>?_
    rw[← e]at z
    rw[ei.nb _ z]at hb; cases hb
   | false=>
    refine .inl ?_
    unfold bX; split
    ·assumption
    ·rw[HP (by rw[hb]; decide)]; simp
  rw[ed];generalize ((cQ a b us (bL br a b us r)).take k).foldl (bX br) (aL br a b us r)=o' at a4 ad cc ek Y ⊢;generalize dR a b (bL br a b us r) us[k]=t at a7 Y ⊢;have hx:=b4;simp only[zbP,vB,not_or]at hx
  obtain⟨⟨_,n1,n2⟩,⟨n3,n4⟩,n5,_⟩:=hx
  have gp:((cP br a b us r).take k).length<100:=by rw[vc]; omega
  have done:∀ (G:Hp) (b8:List (cT × V)) (o3:List Pr) (d5:V),mu H3 G→G bl=some (.lst (ys.map V.ref))→(∀ (k:Nat) t (hk:k<us.length),ys[k]? = some t→G t=some (.tup [ar (dR a b (bL br a b us r) us[k]).1,ar (dR a b (bL br a b us r) us[k]).2]))→Ef G op o3→DO P w G mp b8→E2 b8 o3→vr G rp ((List.range r).map (cP br a b us)) as→G rl=some (.lst (((cP br a b us r).take k).map ar))→(cP br a b us r)[k]? = some (dM o3 t)→
    ∃ (Z:List (cT × V)) (a5:Option V),[some (.ref p),some (.ref q),some (.ref fb),some (.ref wl),some (.ref d1),some (.ref d2),some (.ref op),some (.ref mp),some (.ref rp),some (.ref tx),some (.ref rl),some d5]=[some (.ref p),some (.ref q),some (.ref fb),some (.ref wl),some (.ref d1),some (.ref d2),some (.ref op),some (.ref mp),some (.ref rp),some (.ref tx),some (.ref rl),a5]∧mu H3 (upd G rl (.lst (((cP br a b us r).take k).map ar++[ar (dM o3 t)])))∧(upd G rl (.lst (((cP br a b us r).take k).map ar++[ar (dM o3 t)]))) bl=some (.lst (ys.map V.ref))∧(∀ (k':Nat) t' (hk:k'<us.length),ys[k']? = some t'→(upd G rl (.lst (((cP br a b us r).take k).map ar++[ar (dM o3 t)]))) t'=some (.tup [ar (dR a b (bL br a b us r) us[k']).1,ar (dR a b (bL br a b us r) us[k']).2]))∧Ef (upd G rl (.lst (((cP br a b us r).take k).map ar++[ar (dM o3 t)]))) op o3∧DO P w (upd G rl (.lst (((cP br a b us r).take k).map ar++[ar (dM o3 t)]))) mp Z∧E2 Z o3∧vr (upd G rl (.lst (((cP br a b us r).take k).map ar++[ar (dM o3 t)]))) rp ((List.range r).map (cP br a b us)) as∧(upd G rl (.lst (((cP br a b us r).take k).map ar++[ar (dM o3 t)]))) rl=some (.lst (((cP br a b us r).take (k+1)).map ar)):=by
   intro G b8 o3 d5 g1 g2 g3 g4 g5 g6 g7 g8 g9
   refine⟨b8,_,rfl,g1.upd d3 _,by rw[al e1]; exact g2,fun k' t' eH e=>?_,g4.other n1 (fun xs z=>by rw[g8]at z; cases z),hV g5 g8 (c7 g5 g8),g6,g7.other n3 n5,?_⟩
   ·have z:=g3 k' t' eH e
    rw[al (fun z'=>by subst z'; rw[g8]at z; cases z)]; exact z
   ·rw[ak,vy,g9,z9]; rfl
  walk_at "r";refine⟨ys[k],mp,gf t,Z,rfl,rfl,O,nN a7,_,rfl,?_⟩
  by_cases c2:t∈o'
  ·rw[ad.2.1 _ c2]
   refine bH (fun z=>by cases z) (fun _=>?_)
   have bB:bX br o' t=o':=by unfold bX; rw[HS c2]
   rw[bB]at Y ⊢
   refine lQ a7 O ad ag (by rw[zc]; omega) ?_
   exact done J Z o' _ sx b7 bp a4 O ad W ag Y
  obtain⟨da,eo⟩:=ad.snoc c2
  rw[da];refine bH (fun _=>?_) (fun z=>absurd rfl z)
  refine⟨rfl,?_⟩
  walk_at "r";refine⟨ys[k],t,rfl,a7,_,rfl,?_⟩
  cases hb:br t with
  | true=>
   refine bH (fun z=>by cases z) (fun _=>?_)
   have bB:bX br o' t=o':=by unfold bX; rw[HP c2,HS hb]
   rw[bB]at Y ⊢
   refine lQ a7 O ad ag (by rw[zc]; omega) ?_
   exact done J Z o' _ sx b7 bp a4 O ad W ag Y
  | false=>
   refine bH (fun _=>?_) (fun z=>absurd rfl z)
   have bB:bX br o' t=o'++[t]:=by unfold bX; rw[HP c2,HP (by rw[hb]; decide)]
   rw[bB]at Y ⊢
   obtain⟨gd,a1,a2,a3⟩:=id a4
   walk_at "r";refine⟨_,.inl (rd.of a1),mp,ys[k],gf t,Z,rfl,rfl,O,nN a7,da,cH (by have:=ad.1; omega),fun uu ca=>?_⟩
   rw[zc,a2]at ca
   have er:=lW O;have dl:=a4.other (u:=uu) (zB (c7 O a1)) er;have b5:∀ {c:Addr} {xs:List V},J c=some (.tup xs)→upd J mp uu c=some (.tup xs):=fun {c xs} e=>by rw[al (fun z=>by subst z; exact er _ e)]; exact e
   have bA:=b5 a7;have cf:∀ (k:Nat) t (hk:k<us.length),ys[k]? = some t→upd J mp uu t=some (.tup [ar (dR a b (bL br a b us r) us[k]).1,ar (dR a b (bL br a b us r) us[k]).2]):=fun k t hk e=>b5 (bp k t hk e)
   have cn:upd J mp uu bl=some (.lst (ys.map V.ref)):=by rw[al e3]; exact b7
   have cd:upd J mp uu rl=some (.lst (((cP br a b us r).take k).map ar)):=by rw[al (zB (c7 O ag))]; exact ag
   have f0:mp∉as:=fun hm=>by
    obtain⟨i,hi,e⟩:=HN.mp hm
    exact c7 O (W.2.2 i mp _ (by rw[za hi,e]) (za (by rw[← W.2.1]; exact hi))) rfl
   have b6:=W.other (u:=uu) (zB (c7 O W.1)) f0;have dV:=sx.upd cl uu;generalize upd J mp uu=G at ca dl bA cf cn cd b6 dV ⊢;obtain⟨cq,b1,b2,b3⟩:=id dl
   walk_at "n";refine⟨⟨_,rd.of b1⟩,_,b1,by rw[zc]; exact cH (by omega),?_⟩
   have fx:=Ef.push (t:=t) b1 b2 b3 bA;have cm:∀ {c:Addr} {xs:List V},G c=some (.tup xs)→upd G op (.lst (cq.map V.ref++[.ref ys[k]])) c=some (.tup xs):=fun {c xs} e=>by rw[al (fun z=>by subst z; rw[b1]at e; cases e)]; exact e
   have ec:=hV ca (o:=.lst (cq.map V.ref++[.ref ys[k]])) b1 (c7 ca b1);have cb:upd G op (.lst (cq.map V.ref++[.ref ys[k]])) rl=some (.lst (((cP br a b us r).take k).map ar)):=by rw[al (zB n1)]; exact cd
   refine lQ (cm bA) ec eo cb (by rw[zc]; omega) ?_
   exact done _ _ (o'++[t]) _ (dV.upd ew _) (by rw[al ft]; exact cn) (fun k t hk e=>cm (cf k t hk e)) fx ec eo (b6.other (zB cp) n2) cb Y
 rintro σ ga ⟨Z,f6,rfl,sx,b7,bp,a4,O,ad,W,ag⟩
 have fA:((cQ a b us (bL br a b us r)).take (ys.map V.ref).length).foldl (bX br) (aL br a b us r)=aL br a b us (r+1):=by
  rw[zc,Gd (by rw[← ep]; exact zg _)]
  show _=(if r<(aL br a b us r).length then _ else _)
  rw[HS hend]; rfl
 rw[fA]at a4 ad
 rw[zc,Gd (by omega)]at ag
 have hx:=b4;simp only[zbP,vB,not_or]at hx
 obtain⟨⟨_,n1,n2⟩,⟨n3,n4⟩,n5,_⟩:=hx
 walk_at "n";refine⟨⟨_,rd.of W.1⟩,_,W.1,by rw[zc]; exact cH (by omega),?_⟩
 have b6:=W.push n4 n3 ag;have ea:∀ {β : Type} (f:Nat→β),(List.range (r+1)).map f=(List.range r).map f++[f r]:=fun f=>by rw[Gz,z9]; rfl
 refine⟨61 - (r+1),by omega,r+1,as++[rl],Z,_,_,_,rfl,rfl,sx.upd d4 _,a4.other cp (fun xs z=>by rw[W.1]at z; cases z),hV O W.1 (c7 O W.1),ad,by rw[ea]; exact b6,?_,?_⟩
 ·have pm:(op::rp::(as++[rl])).Perm (op::rp::rl::as):=by
   rw[List.perm_iff_count];intro x
   simp only[List.count_cons,List.count_append,List.count_nil]
   omega
  exact pm.nodup_iff.mpr b4
 ·obtain⟨x,e⟩:=fP (br:=br) (cQ a b us (bL br a b us r)) (aL br a b us r)
  show r+1≤(if r<(aL br a b us r).length then _ else _:List Pr).length
  rw[HS hend];show r+1≤((cQ a b us (bL br a b us r)).foldl (bX br) (aL br a b us r)).length
  rw[e,zV]; omega
end
def EN(H H':Hp)(q:Addr)(r:Rl):Prop:=∃ (pw pr:Addr) (as:List Addr),H' q=some (.tup [.int r.s,.ref pw,.ref pr])∧H' pw=some (.lst (r.ws.map V.str))∧NR H H' pr r.rs as∧H q=none∧H pw=none∧H pr=none∧pw≠pr∧pw∉as
theorem EN.at'{H H':Hp}{q:Addr}{r:Rl}(h:EN H H' q r):tf H' q r:=let ⟨pw,pr,as,h1,h2,h3,_⟩:=h; ⟨pw,pr,as,h1,h2,h3.at'⟩
theorem EN.older{J H H':Hp}{q:Addr}{r:Rl}(h:EN H H' q r)(F:mu J H):EN J H' q r:=let ⟨pw,pr,as,h1,h2,h3,h4,h5,h6,h7⟩:=h; ⟨pw,pr,as,h1,h2,⟨h3.at',fun a O=>⟨F.free (h3.new a O).1,(h3.new a O).2⟩,h3.nd⟩,F.free h4,F.free h5,F.free h6,h7⟩
structure Hr (br:Pr→Bool) (a b:Rl):Prop where
 oa:aY a
 ob:aY b
 na:a.ws.Nodup
 nb:b.ws.Nodup
 s:a.s=b.s
 b0:br (some 0,some 0)=false
 h60:∀ o,gS br a b o→o.length≤60
 h16:∀ us,mX a b us→us.length≤16
theorem Hr.rl{br:Pr→Bool}{a b:Rl}(h:Hr br a b){us:List Str}{M:Nat}(F:mX a b us)(O:M≤60)(e:M=(aL br a b us M).length):Ds br a b us M∧aY (dS br a b us M):=by
 have J:Ds br a b us M:=⟨h.oa,h.ob,h.b0,F.2.1,F.1,e⟩
 exact⟨J,J.rl O (h.h16 us F) fun u S=>by
  rcases(F.2.1 u).mp S with z | z
  ·exact h.oa.lw u z
  ·exact h.ob.lw u z⟩
def rY(P:Program)(w:World)(K:W.Frag)(mg:Str→Option Value)(base:Heap):Sp:=fun vs H Q _=>∃ (p q f:Addr) (a b:Rl) (br:Pr→Bool),vs=[.ref p,.ref q,.ref f]∧tf H p a∧tf H q b∧Hr br a b∧vH P w K mg base 1 f ["pair"] (kK br)∧
 ∀ (t:Addr) (H':Hp) (us:List Str) (M:Nat),mu H H'→mX a b us→sortedS us=true→M≤60→M=(aL br a b us M).length→EN H H' t (bd (dS br a b us M))→Q (.ref t) H'
def rA(br:Pr→Bool):Sp:=fun vs H Q _=>∃ (p q:Addr) (a b:Rl),vs=[.ref p,.ref q]∧tf H p a∧tf H q b∧Hr br a b∧
 ∀ (t:Addr) (H':Hp) (us:List Str) (M:Nat),mu H H'→mX a b us→sortedS us=true→M≤60→M=(aL br a b us M).length→EN H H' t (bd (dS br a b us M))→Q (.ref t) H'
section
variable{P:Program}{w:World}{K:W.Frag}{mg:Str→Option Value}{base:Heap}
theorem yh(D:AS K mg "least_of_pairs" bo) (Z:mg "len" = none) (S:∃ t,mg "MOST_ROOMS" = some (.int 60 t)) (W:∃ t,mg "MOST_WORDS" = some (.int 16 t)) (J:C9 P w K mg base 1 "refuse_unlike" ["one", "other"] q5) (F:C9 P w K mg base 3 "rule_of_pairs" ["one", "other", "breaks"] (wK P w K mg base)) (O:C9 P w K mg base 5 "least_upto" ["rule", "most"] sK):C9 P w K mg base 6 "least_of_pairs" ["one", "other", "breaks"] (rY P w K mg base):=by
 refine D.cal En (fun _ _ _ _ _ _ us hl=>match us,hl with | [_,_,_],_=>rfl) (fun vs H Q E h=>by obtain⟨_,_,_,_,_,_,rfl,_⟩:=h; rfl) (fun f an A outer s H vs Q E hr h=>?_)
 obtain⟨p,q,fb,a,b,br,rfl,hA,hB,Y,cf,ad⟩:=h
 refine⟨_,(af (c8 (aO J hr (ac (pv 0) (ac (pv 1) ae))))
   (af (ap 3 En.nd (aO O hr (ac (aO F hr (ac (pv 0) (ac (pv 1) (ac (pv 2) ae)))) (ac (l0 S) ae))))
   (af (cC (PW.pt' (vD (ba fI (pv 3) ck (bt _)) (qV (ba qL (a_ (bq K) Z ce (ac (aD (aZ K) (pv 3) ah (fun _ _=>rfl)) ae)) (l0 W) (bt _))))) (am zN) bI)
   (am (aV (pv 3)))))),?_⟩
 walk_at "r";refine⟨p,q,a,b,rfl,hA,hB,Y.s,?_⟩
 walk_at "n";refine⟨p,q,fb,a,b,br,rfl,hA,hB,Y.oa,Y.ob,Y.na,Y.nb,cf,Y.b0,Y.h60,fun t H1 us M s1 aa ag hM eM hR=>?_⟩
 obtain⟨hw,ok⟩:=Y.rl aa hM eM
 walk_at "r";refine⟨t,_,60,rfl,by rw[jw]; exact hM,hR,ok,fun q' pw pr H2 as s2 e1 e2 e3 e4 e5 e6 e7 e8=>?_⟩
 walk_at "n";have hl:=(kE ok).nw;refine bH (fun c=>absurd c (by simp)) (fun _=>?_)
 refine⟨_,_,.inr (C3.of e1),aE (j:=1) rfl,?_⟩
 walk_at "r";refine⟨_,.inl (rd.of e2),bH (fun c=>?_) (fun _=>?_)⟩
 ·rw[zc]at c; omega
 walk_at "n";exact ad q' H2 us M (s1.trans s2) aa ag hM eM (EN.older ⟨pw,pr,as,e1,e2,e3,e4,e5,e6,e7,e8⟩ s1)
def dW(p:Pr):Bool:=decide (p.1=none)||decide (p.2=none)
theorem B_(o:Option Nat):decide (ar o=V.non)=decide (o=none):=by cases o <;> rfl
theorem vv(D:AS K mg "breaks_one" gi):C9 P w K mg base 1 "breaks_one" ["pair"] (kK dW):=by
 refine D.cal (k:=0) qG (fun _ _ _ _ _ _ us hl=>match us,hl with | [_],_=>rfl) (fun J H Q E h=>by obtain⟨_,_,rfl,_⟩:=h; rfl) (fun f O A outer s H J Q E hr h=>?_)
 obtain⟨t,p,rfl,F,q⟩:=h
 refine⟨_,(am (aV (gj (ip fI (aD (aZ K) (pv 0) ah (fun _ _=>rfl)) ck (bt _)) (j_ (ip fI (aD (aZ K) (pv 0) ah (fun _ _=>rfl)) ck (bt _)))))),?_⟩
 walk_at "r";refine⟨_,_,.inr (C3.of F),mz,?_⟩
 obtain⟨S,p2⟩:=p
 cases S with
 | none=>exact bH (fun _=>q) (fun c=>absurd rfl c)
 | some k=>
  have e:dW (some k,p2)=decide (ar p2=V.non):=by rw[B_]; simp[dW]
  rw[e]at q
  exact bH (fun c=>by cases c) (fun _=>⟨_,_,.inr (C3.of F),aE (j:=1) rfl,q⟩)
theorem xU(D:AS K mg "joined_rule" dr) (O:C9 P w K mg base 1 "breaks_one" ["pair"] (kK dW)) (F:C9 P w K mg base 6 "least_of_pairs" ["one", "other", "breaks"] (rY P w K mg base)):C9 P w K mg base 7 "joined_rule" ["one", "other"] (rA dW):=by
 refine D.cal oW (fun _ _ _ _ _ _ us hl=>match us,hl with | [_,_],_=>rfl) (fun Y H Q E h=>by obtain⟨_,_,_,_,rfl,_⟩:=h; rfl) (fun f Z A outer s H Y Q E hr h=>?_)
 obtain⟨p,q,a,b,rfl,hA,hB,W,S⟩:=h
 obtain⟨fb,J,cf⟩:=O.f
 refine⟨_,(am (aV (aO F hr (ac (pv 0) (ac (pv 1) (ac (CQ J) ae)))))),?_⟩
 walk_at "r";exact⟨p,q,fb,a,b,dW,rfl,hA,hB,W,cf,S⟩
def FY(P:Program)(w:World)(H:Hp)(l:Addr)(rs:List Rl)(us:List Str):Prop:=∃ ds:List Addr,H l=some (.lst (ds.map V.ref))∧ds.length=rs.length∧∀ (i:Nat) d r,ds[i]? = some d→rs[i]? = some r→Ep (fun _=>True) P w H d r us r.rs.length true
def aR(rs:List Rl)(here:List Nat)(u:Str):List (Option Nat):=List.zipWith (fun r k=>aC r k u) rs here
def rR(P:Program)(w:World):Sp:=fun vs H Q _=>∃ (l hp:Addr) (rs:List Rl) (us:List Str) (here:List Nat),vs=[.ref l,.ref hp,.int us.length]∧FY P w H l rs us∧rs.length≤8∧us.length≤1000∧H hp=some (.tup (here.map fun k:Nat=>V.int (k:Int)))∧here.length=rs.length∧(∀ (i:Nat) r k,rs[i]? = some r→here[i]? = some k→k<r.rs.length)∧
 ∀ (a:Addr) (H':Hp) (ts:List Addr),mu H H'→H a=none→H' a=some (.lst (ts.map V.ref))→ts.length=us.length→(∀ (i:Nat) t u,ts[i]? = some t→us[i]? = some u→H' t=some (.tup ((aR rs here u).map ar)))→Q (.ref a) H'
theorem yG(D:AS K mg "rooms_behind" aX) (J:mg "range" = none) (O:mg "tuple" = none) (aa:mg "zip" = none):C9 P w K mg base 1 "rooms_behind" ["ways", "here", "width"] (rR P w):=by
 refine D.cal nY (fun _ _ _ _ _ _ us hl=>match us,hl with | [_,_,_],_=>rfl) (fun vs H Q E h=>by obtain⟨_,_,_,_,_,rfl,_⟩:=h; rfl) (fun f a3 A outer s H vs Q E hr h=>?_)
 obtain⟨l,hp,rs,us,here,rfl,⟨ds,h1,h2,h3⟩,n8,nu,h4,h5,h6,q⟩:=h
 refine⟨_,(am (aV (sr (E8.to (fsc:=(h8 aX)) (N:=["ways", "here", "width"]) (N0:=["ways", "here", "width"]) (T:=["at"]) ⟨by decide +kernel,by decide +kernel,by decide +kernel,by decide +kernel,by decide +kernel,by decide +kernel⟩ rfl rfl) rfl (dk KG J (ac (pv 2) ae)) (fun _ _ _ _=>(aU 3 (show (["ways", "here", "width", "at"]:List Str).Nodup from by decide +kernel) (hx:=(AY (h8 aX) (by decide +kernel))) (hf:=EB (h8 aX) (by decide +kernel)))) (bN (show (["ways", "here", "width"]:List Str).length≤3 from by decide)) (fun _ _ _ _=>bR) (fun _ _ _ _=>(iG (lg K) O kD (ac (cX (CW.to (fsc:=(bi _ (h8 aX))) (N:=["ways", "here", "width", "at"]) (N0:=["ways", "here", "width", "at"]) (T:=["way", "room"]) ⟨by decide +kernel,by decide +kernel,by decide +kernel,by decide +kernel,by decide +kernel,by decide +kernel,by decide +kernel⟩ rfl rfl) rfl (BN K (zO (h8 aX) (by decide +kernel)) aa (ac (pv 0 (hv:=(vN (h8 aX) (by decide +kernel)))) (ac (pv 1 (hv:=(vN (h8 aX) (by decide +kernel)))) ae))) (fun _ _ _ _=>(ff K (n:=2) (cA (aU 4 (show (["ways", "here", "width", "at", "way", "room"]:List Str).Nodup from by decide +kernel) (hx:=(dG (bi _ (h8 aX)) (e:=rfl) (by decide +kernel))) (hf:=fm (bi _ (h8 aX)) (e:=rfl) (by decide +kernel))) (cA (aU 5 (show (["ways", "here", "width", "at", "way", "room"]:List Str).Nodup from by decide +kernel) (hx:=(dG (bi _ (h8 aX)) (e:=rfl) (by decide +kernel))) (hf:=fm (bi _ (h8 aX)) (e:=rfl) (by decide +kernel))) fc)))) (t_ (jR (bN (show (["ways", "here", "width", "at"]:List Str).length≤4 from by decide)) js (jR (bN (show (["ways", "here", "width", "at"]:List Str).length≤5 from by decide)) js rO l5) (rq js l5))) (fun _ _ _ _=>bR) (fun _ _ _ _=>(aD (aZ K) (aD (rE P w) (pv 4 (hv:=(bP (bi _ (h8 aX)) (e:=rfl) (by decide +kernel)))) (pv 5 (hv:=(bP (bi _ (h8 aX)) (e:=rfl) (by decide +kernel)))) (fun _ _=>rfl)) (pv 3 (hv:=(bP (bi _ (h8 aX)) (e:=rfl) (by decide +kernel)))) (fun _ _=>rfl)))) ae) (hg:=(zO (h8 aX) (by decide +kernel)))))))),?_⟩
 walk_at "r";refine⟨by omega,by omega,fun L hL=>?_⟩
 refine fq (fun i ys H'=>∃ ts:List Addr,mu H H'∧H' L=some (.lst ys)∧ys=ts.map V.ref∧ts.length=i∧∀ (k:Nat) t u,ts[k]? = some t→us[k]? = some u→H' t=some (.tup ((aR rs here u).map ar))) ⟨[],ay hL _,ak,rfl,rfl,by simp⟩ ?_ ?_
 ·rintro i ys H' hi ⟨ts,Y,hl,rfl,S,Z⟩
  have an:i<us.length:=by omega
  have a4:(aR rs here us[i]).length=rs.length:=by unfold aR; rw[zbv]; omega
  walk_at "r";rw[zi];walk_at "r";refine⟨⟨_,rd.of (Y _ _ h1)⟩,⟨_,C3.of (Y _ _ h4)⟩,fun L2 as=>?_⟩
  refine v_ (xs:=ds.map V.ref) (ys:=here.map fun k:Nat=>V.int (k:Int)) (fun j zs H2=>mu H' H2∧H2 L2=some (.lst zs)∧zs=((aR rs here us[i]).take j).map ar) (by simp; omega) ⟨ay as _,ak,rfl⟩ (fun j zs H2 _ h=>⟨rd.of ((Y.trans h.1) _ _ h1),C3.of ((Y.trans h.1) _ _ h4)⟩) ?_ ?_
  ·rintro j zs H2 x y t hx hy hj ⟨F,W,rfl⟩ ht
   rw[zc]at hj
   have ag:j<rs.length:=by omega
   have ad:j<here.length:=by omega
   rw[ze,za hj]at hx
   rw[ze,za ad]at hy
   cases hx
   cases hy;generalize hH3z:upd H2 t _=H3
   have st:=bj hH3z ht;have a1:=bV hH3z;have a2:=(Y.trans F).trans st;obtain⟨kvs,k1,k2,k3,k4,k5⟩:=(h3 j ds[j] rs[j] (za hj) (za ag)).mono a2
   obtain⟨b,b1,b2,_⟩:=k3 here[j] (h6 j rs[j] here[j] (za ag) (za ad))
   have hz:(aR rs here us[i])[j]? = some (aC rs[j] here[j] us[i]):=by
    unfold aR;rw[zbe,za ag,za ad]
   walk_at "r";refine⟨t,_,rfl,C3.of a1,rfl,?_⟩
   walk_at "r";refine⟨ds[j],some (here[j]:Int),kvs,_,rfl,rfl,k1,b1,?_⟩
   walk_at "r";refine⟨_,_,.inl (rd.of b2),aE (v:=ar (aC rs[j] here[j] us[i])) (by rw[Gq,ze,za an]; rfl),?_⟩
   exact df (by rw[zc]; exact hj) (by rw[zc,vc]; omega) (by rw[zc]; exact bG (by omega)) (st _ _ W) ⟨(F.trans st).upd as _,ak,by rw[vy,hz,z9]; rfl⟩
  rintro zs H2 ⟨F,W,rfl⟩
  rw[zc,Gd (by omega)]at W
  walk_at "r";refine⟨_,.inl ⟨rd.of W,fun t ht=>?_⟩⟩
  have nl:t≠L:=by rintro rfl; rw[F _ _ hl]at ht; cases ht
  refine df (by omega) (by rw[zc]; exact S) (bG (by omega)) (by rw[al nl.symm]; exact F _ _ hl) ⟨ts++[t],((Y.trans F).trans (ay ht _)).upd hL _,ak,by simp,by simp[S],fun k t' u e1 e2=>?_⟩
  have nt:∀ {b xs},H2 b=some (.tup xs)→b≠t∧b≠L:=fun {b xs} e=>⟨fun z=>(by rw[z,ht]at e; cases e),fun z=>(by rw[z,F _ _ hl]at e; cases e)⟩
  by_cases hk:k<ts.length
  ·rw[vt hk]at e1
   have z:=F _ _ (Z k t' u e1 e2);rw[al (nt z).2,al (nt z).1];exact z
  ·have a0:k=ts.length:=by have:=(HL.mp e1).1; simp at this; omega
   subst a0;rw[yS (zg _)]at e1
   simp at e1
   subst e1;rw[S,za an]at e2
   cases e2;rw[al nl,ak]
 rintro ys H1 ⟨ts,Y,hl,rfl,S,Z⟩
 exact q L H1 ts Y hL hl (by omega) Z
end
def ci(t:List (Option Nat)):List Nat:=t.map fun o=>o.getD 0
def d8(t:List Nat):List (Option Int):=t.map fun k:Nat=>some (k:Int)
def b_(o:List (List Nat))(t:List (Option Nat)):List (List Nat):=if none∈t then o else if ci t∈o then o else o++[ci t]
def db(rs:List Rl)(us:List Str)(here:List Nat):List (List (Option Nat)):=us.map (aR rs here)
def aw(rs:List Rl)(us:List Str):Nat→List (List Nat)
 | 0=>[List.replicate rs.length 0]
 | r+1=>if r<(aw rs us r).length then (db rs us ((aw rs us r).getD r [])).foldl b_ (aw rs us r) else aw rs us r
def eT(o:List (List Nat))(t:List (Option Nat)):Option Nat:=if none∈t then none else some (o.idxOf (ci t))
def jz(t:List (Option Nat)):Option Nat:=if none∈t then some (t.idxOf none) else none
def bY(rs:List Rl)(us:List Str)(r:Nat):List Nat:=(aw rs us r).getD r []
def gy(rs:List Rl)(us:List Str)(r:Nat):List (Option Nat):=(db rs us (bY rs us r)).map (eT (aw rs us (r+1)))
def fE(rs:List Rl)(us:List Str)(r:Nat):List (Option Nat):=(db rs us (bY rs us r)).map jz
def FL(rs:List Rl)(t:List Nat):Prop:=t.length=rs.length∧∀ (i:Nat) r k,rs[i]? = some r→t[i]? = some k→k<r.rs.length
theorem xC(o:List (List Nat))(t:List (Option Nat)):∃ x,b_ o t=o++x:=by
 unfold b_; split
 ·exact⟨[],by simp⟩
 ·split
  ·exact⟨[],by simp⟩
  ·exact⟨_,rfl⟩
theorem iK:∀ (ts:List (List (Option Nat))) (o:List (List Nat)),∃ x,ts.foldl b_ o=o++x
 | [],o=>⟨[],by simp⟩
 | t::ts,o=>by
  obtain⟨x,e⟩:=xC o t
  obtain⟨y,F⟩:=iK ts (b_ o t)
  exact⟨x++y,by rw[zaY,F,e,GC]⟩
theorem zW{o:List (List Nat)}{t:List (Option Nat)}(nd:o.Nodup):(b_ o t).Nodup:=by
 unfold b_; split
 ·exact nd
 ·split
  ·exact nd
  ·rename_i h
   exact Ie.mpr ⟨nd,by simp,fun a J b F e=>h (by rw[HQ.mp F]at e; exact e ▸ J)⟩
theorem mY:∀ (ts:List (List (Option Nat))) {o:List (List Nat)},o.Nodup→(ts.foldl b_ o).Nodup
 | [],o,nd=>nd
 | t::ts,o,nd=>mY ts (zW nd)
theorem yq{o:List (List Nat)}{t:List (Option Nat)}(h:none∉t):ci t∈b_ o t:=by
 unfold b_; rw[HP h]; split
 ·assumption
 ·simp
theorem AB{r:Rl}(ok:aY r){k:Nat}(F:k<r.rs.length){u:Str}{j:Nat}(h:aC r k u=some j):j<r.rs.length:=by
 unfold aC at h;split at h
 ·have hg:r.rs.getD k []=r.rs[k]:=by rw[zp,za F]; rfl
  rw[hg,zp]at h
  cases e:(r.rs[k])[r.ws.idxOf u]? with
  | none=>rw[e]at h; cases h
  | some o=>rw[e]at h; exact(ok.row _ (zl F)).2 j (by rw[← (show o=some j from h)]; exact zX e)
 ·cases h; exact F
theorem Ck{rs:List Rl}(ok:∀ r∈rs,aY r){here:List Nat}(hi:FL rs here){u:Str}(h:none∉aR rs here u):FL rs (ci (aR rs here u)):=by
 refine⟨by unfold ci aR; rw[zc,zbv,hi.1]; omega,fun i r k O F=>?_⟩
 unfold ci aR at F;rw[ze,zbe,O]at F
 cases e3:here[i]? with
 | none=>rw[e3]at F; cases F
 | some k'=>
  rw[e3]at F
  have S:aC r k' u∈aR rs here u:=zX (i:=i) (by unfold aR; rw[zbe,O,e3])
  cases e4:aC r k' u with
  | none=>rw[e4]at S; exact absurd S h
  | some j=>
   have J:(aC r k' u).getD 0=k:=by simpa using F
   rw[e4]at J
   have:j=k:=J
   subst this;exact AB (ok r (zX O)) (hi.2 i r k' O e3) e4
theorem zk{rs:List Rl}(ok:∀ r∈rs,aY r){here:List Nat}(hi:FL rs here){u:Str}{o:List (List Nat)}(h:∀ t∈o,FL rs t):∀ t∈b_ o (aR rs here u),FL rs t:=by
 intro t F
 unfold b_ at F;split at F
 ·exact h t F
 ·rename_i hn
  split at F
  ·exact h t F
  ·rcases HX.mp F with z | z
   ·exact h t z
   ·rw[HQ.mp z]; exact Ck ok hi hn
theorem mQ{rs:List Rl}(ok:∀ r∈rs,aY r){here:List Nat}(hi:FL rs here):∀ (us:List Str) {o:List (List Nat)},(∀ t∈o,FL rs t)→∀ t∈(db rs us here).foldl b_ o,FL rs t
 | [],o,h=>h
 | u::us,o,h=>mQ ok hi us (zk ok hi h)
theorem Bw{rs:List Rl}(ok:∀ r∈rs,aY r):FL rs (List.replicate rs.length 0):=by
 refine⟨by simp,fun i r k J F=>?_⟩
 rw[Hi]at F
 split at F
 ·cases F
  have:=(ok r (zX J)).n0
  omega
 ·cases F
theorem dA{rs:List Rl}(ok:∀ r∈rs,aY r)(us:List Str):∀ r,(aw rs us r).Nodup∧(∀ t∈aw rs us r,FL rs t)∧1≤(aw rs us r).length
 | 0=>⟨by simp[aw],fun t F=>by simp[aw]at F; rw[F]; exact Bw ok,by simp[aw]⟩
 | r+1=>by
  obtain⟨nd,hi,h1⟩:=dA ok us r
  unfold aw;split
  ·rename_i hr
   obtain⟨x,e⟩:=iK (db rs us ((aw rs us r).getD r [])) (aw rs us r)
   refine⟨mY _ nd,mQ ok (hi _ ?_) us hi,by rw[e,zV]; omega⟩
   rw[zp,za hr]; exact zl hr
  ·exact⟨nd,hi,h1⟩
theorem zq{rs:List Rl}(ok:∀ r∈rs,aY r){us:List Str}{r:Nat}(hr:r<(aw rs us r).length):FL rs (bY rs us r):=by
 refine(dA ok us r).2.1 _ ?_
 unfold bY;rw[zp,za hr]; exact zl hr
def cE:List Rl→Nat
 | []=>1
 | r::rs=>r.rs.length * cE rs
def fD:List Rl→List Nat→Nat
 | r::rs,k::t=>k+r.rs.length * fD rs t
 | _,_=>0
theorem FL.tail{r:Rl}{rs:List Rl}{k:Nat}{t:List Nat}(h:FL (r::rs) (k::t)):k<r.rs.length∧FL rs t:=
 ⟨h.2 0 r k rfl rfl,by have:=h.1; simpa using this,fun i S J F O=>h.2 (i+1) S J (by simpa using F) (by simpa using O)⟩
theorem yK:∀ {rs:List Rl} {t:List Nat},FL rs t→fD rs t<cE rs
 | [],t,h=>by cases t <;> exact Nat.zero_lt_one
 | r::rs,[],h=>by have:=h.1; simp at this
 | r::rs,k::t,h=>by
  obtain⟨h1,h2⟩:=h.tail
  have:=yK h2
  show k+r.rs.length * fD rs t<r.rs.length * cE rs
  calc k+r.rs.length * fD rs t<r.rs.length+r.rs.length * fD rs t:=by omega
   _=r.rs.length * (fD rs t+1):=by rw[Nat.mul_add,Nat.mul_one,zaZ]
   _≤r.rs.length * cE rs:=Nat.mul_le_mul_left _ this
theorem uj:∀ {rs:List Rl} {t t':List Nat},FL rs t→FL rs t'→fD rs t=fD rs t'→t=t'
 | [],t,t',h,h',_=>by
  have a:=h.1; have b:=h'.1
  simp at a b
  rw[a,b]
 | r::rs,[],_,h,_,_=>by have:=h.1; simp at this
 | r::rs,_::_,[],_,h,_=>by have:=h.1; simp at this
 | r::rs,k::t,k'::t',h,h',e=>by
  obtain⟨h1,h2⟩:=h.tail
  obtain⟨J,F⟩:=h'.tail
  have O:k+r.rs.length * fD rs t=k'+r.rs.length * fD rs t':=e
  have m1:(k+r.rs.length * fD rs t) % r.rs.length=k:=by rw[Nat.add_mul_mod_self_left,zbd h1]
  have W:(k'+r.rs.length * fD rs t') % r.rs.length=k':=by rw[Nat.add_mul_mod_self_left,zbd J]
  have Y:k=k':=by rw[← m1,← W,O]
  subst Y;have S:r.rs.length * fD rs t=r.rs.length * fD rs t':=by omega
  rw[uj h2 F (Nat.eq_of_mul_eq_mul_left (by omega) S)]
theorem oI{rs:List Rl}{o:List (List Nat)}(nd:o.Nodup)(hi:∀ t∈o,FL rs t):o.length≤cE rs:=by
 have h:=jy (cE rs) (o.map (fD rs)) (HZ.mpr (zbp (fun {a b} O J F e=>F (uj (hi a O) (hi b J) e)) nd)) (fun x hx=>by
  obtain⟨t,S,rfl⟩:=HR.mp hx
  exact yK (hi t S))
 rwa [zc]at h
theorem m_:∀ {t t':List Nat},d8 t=d8 t'→t=t'
 | [],[],_=>rfl
 | [],_::_,h=>by cases h
 | _::_,[],h=>by cases h
 | a::t,b::t',h=>by
  have h':some (a:Int)::d8 t=some (b:Int)::d8 t':=h
  have J:(a:Int)=b:=Option.some.inj (List.cons.inj h').1
  have F:=m_ (List.cons.inj h').2;rw[F,show a=b by omega]
def Fb(kvs:List (List (Option Int) × V))(o:List (List Nat)):Prop:=kvs.length=o.length∧(∀ t∈o,aN kvs (d8 t)=some (V.int (o.idxOf t:Nat)))∧∀ k,(∀ t∈o,k≠d8 t)→aN kvs k=none
theorem Fb.snoc{kvs:List (List (Option Int) × V)}{o:List (List Nat)}{t:List Nat}(h:Fb kvs o)(O:t∉o):aN kvs (d8 t)=none∧Fb (kvs++[(d8 t,V.int (o.length:Int))]) (o++[t]):=by
 obtain⟨h1,h2,W⟩:=h
 have J:aN kvs (d8 t)=none:=W _ fun t' F e=>O (m_ e ▸ F)
 refine⟨J,by simp[h1],fun t' F=>?_,fun k S=>?_⟩
 ·rw[fW _ _ _ _ J]
  rcases HX.mp F with z | z
  ·rw[HP (fun e=>by have:=m_ e; subst this; exact O z),h2 t' z,GV,HS z]
  ·rw[HQ.mp z,HS rfl,GV,HP O]; simp
 ·rw[fW _ _ _ _ J,HP (S t (by simp))]
  exact W k fun t' F=>S t' (by simp[F])
theorem Fb.zero(t:List Nat):Fb [(d8 t,V.int (0:Int))] [t]:=by
 refine⟨rfl,fun t' F=>?_,fun k J=>?_⟩
 ·rw[HQ.mp F,c6 rfl]; simp
 ·rw[c_ (fun e=>J t (by simp) e.symm)]; rfl
def keyO(t:List (Option Nat)):List (Option Int):=t.map fun o=>o.map fun k:Nat=>(k:Int)
theorem wj{t:List (Option Nat)}(h:none∉t):keyO t=d8 (ci t):=by
 unfold keyO d8 ci;rw[F9];refine GN fun o F=>?_
 cases o with
 | none=>exact absurd F h
 | some k=>rfl
theorem xj{t:List (Option Nat)}(h:none∈t)(t':List Nat):keyO t≠d8 t':=fun e=>by
 have:none∈keyO t:=HR.mpr ⟨none,h,rfl⟩
 rw[e]at this
 unfold d8 at this;obtain⟨k,_,e⟩:=HR.mp this
 cases e
theorem Fb.look{kvs:List (List (Option Int) × V)}{o:List (List Nat)}(h:Fb kvs o){t:List (Option Nat)}(F:none∉t→ci t∈o):(aN kvs (keyO t)).getD .non=ar (eT o t):=by
 unfold eT
 by_cases c:none∈t
 ·rw[HS c,h.2.2 _ fun t' _=>xj c t']; rfl
 ·rw[HP c,wj c,h.2.1 _ (F c)]; rfl
theorem lG(t:List (Option Nat)):t.map ar=(keyO t).map bU:=by
 unfold keyO;rw[F9];refine GN fun o _=>?_
 cases o <;> rfl
theorem Ac{o x:List (List Nat)}{t:List (Option Nat)}(h:none∉t→ci t∈o):eT (o++x) t=eT o t:=by
 unfold eT;split
 ·rfl
 ·rename_i c; rw[GV,HS (h c)]
theorem jL:∀ (ts:List (List (Option Nat))) (o:List (List Nat)) {t:List (Option Nat)},t∈ts→none∉t→ci t∈ts.foldl b_ o
 | t'::ts,o,t,h,hn=>by
  rcases HW.mp h with e | h
  ·subst e
   obtain⟨x,e⟩:=iK ts (b_ o t)
   rw[zaY,e];exact mW _ (yq hn)
  ·exact jL ts _ h hn
section
variable{P:Program}{w:World}{K:W.Frag}{mg:Str→Option Value}{base:Heap}
def uk:Sp:=fun vs H Q _=>∃ (a:Addr) (t:List (Option Nat)),vs=[.ref a]∧H a=some (.tup (t.map ar))∧t.length≤8∧Q (ar (jz t)) H
theorem ni(t:List (Option Nat)):(t.map ar).all bW=true:=by
 rw[za2];intro v hv
 obtain⟨o,_,rfl⟩:=HR.mp hv
 cases o <;> rfl
theorem q8(t:List (Option Nat)):k_ V.non (t.map ar)=decide (none∈t):=by
 unfold k_;rw[List.any_map];rw[Hg,Hl,decide_eq_true_iff]
 constructor
 ·rintro⟨o,F,e⟩
  cases o with
  | none=>exact F
  | some k=>cases e
 ·intro h
  exact⟨none,h,rfl⟩
theorem nn:∀ (t:List (Option Nat)),(keyO t).idxOf none=t.idxOf none
 | []=>rfl
 | none::t=>rfl
 | some k::t=>by
  show List.idxOf none (some (k:Int)::keyO t)=_
  rw[za4,za4,nn t]
  rfl
theorem zZ(D:AS K mg "blame_of" iX):C9 P w K mg base 1 "blame_of" ["rooms"] uk:=by
 refine D.cal tL (fun _ _ _ _ _ _ us hl=>match us,hl with | [_],_=>rfl) (fun J H Q E h=>by obtain⟨_,_,rfl,_⟩:=h; rfl) (fun f O A outer s H J Q E hr h=>?_)
 obtain⟨a,t,rfl,h1,S,q⟩:=h
 refine⟨_,(am (aV (mU (ba (oH K) ck (pv 0) (by with_unfolding_all rfl)) (C8 F.plainAttrs_tuple F.slot_tuple_index F.type_tuple_index (vi K) (pv 0) (ac ck ae)) ck))),?_⟩
 walk_at "r";refine⟨_,.inr (C3.of h1),rfl,ni t,?_⟩
 rw[q8];unfold jz at q
 by_cases c:none∈t
 ·rw[HS c]at q
  refine bH (fun _=>?_) (fun z=>absurd (decide_eq_true c) z)
  rw[Cr];walk_at "r";refine⟨a,_,rfl,h1,a,keyO t,none,rfl,rfl,?_,HR.mpr ⟨none,c,rfl⟩,?_⟩
  ·rw[← lG]; exact C3.of h1
  ·rw[nn]; exact q
 ·rw[HP c]at q
  exact bH (fun z=>absurd (of_decide_eq_true z) c) (fun _=>q)
def ED(H:Hp)(p:Addr)(o:List (List Nat)):Prop:=∃ ts:List Addr,H p=some (.lst (ts.map V.ref))∧ts.length=o.length∧∀ (i:Nat) a t,ts[i]? = some a→o[i]? = some t→H a=some (.tup (t.map fun k:Nat=>V.int (k:Int)))
theorem ED.mono{H H':Hp}{p:Addr}{o:List (List Nat)}(h:ED H p o)(F:mu H H'):ED H' p o:=by
 obtain⟨ts,h1,h2,O⟩:=h
 exact⟨ts,F _ _ h1,h2,fun i a t S J=>F _ _ (O i a t S J)⟩
theorem ED.other{H:Hp}{p c:Addr}{o:List (List Nat)}{u:HO}(h:ED H p o)(J:p≠c)(S:∀ xs,H c≠some (.tup xs)):ED (upd H c u) p o:=by
 obtain⟨ts,h1,h2,O⟩:=h
 refine⟨ts,by rw[al J]; exact h1,h2,fun i a t W F=>?_⟩
 have e:=O i a t W F;rw[al (fun z=>by subst z; exact S _ e)]; exact e
theorem ED.push{H:Hp}{p a:Addr}{o:List (List Nat)}{t:List Nat}{ts:List Addr}(h1:H p=some (.lst (ts.map V.ref)))(h2:ts.length=o.length)(W:∀ (i:Nat) a t,ts[i]? = some a→o[i]? = some t→H a=some (.tup (t.map fun k:Nat=>V.int (k:Int))))(e:H a=some (.tup (t.map fun k:Nat=>V.int (k:Int)))):ED (upd H p (.lst (ts.map V.ref++[.ref a]))) p (o++[t]):=by
 refine⟨ts++[a],by rw[ak]; simp,by simp[h2],fun i S t' F J=>?_⟩
 have np:∀ {b xs},H b=some (.tup xs)→b≠p:=fun e z=>by rw[z,h1]at e; cases e
 by_cases hi:i<ts.length
 ·rw[vt hi]at F
  rw[vt (by omega)]at J
  have z:=W i S t' F J;rw[al (np z)]; exact z
 ·have O:i=ts.length:=by have:=(HL.mp F).1; simp at this; omega
  subst O;rw[yS (zg _)]at F
  rw[h2,yS (zg _)]at J
  simp at F J
  subst F J;rw[al (np e)]; exact e
theorem rn(t:List Nat):(d8 t).map bU=t.map fun k:Nat=>V.int (k:Int):=by unfold d8; rw[F9]; rfl
theorem nc{t:List (Option Nat)}(h:none∉t):t.map ar=(ci t).map fun k:Nat=>V.int (k:Int):=by
 unfold ci;rw[F9];refine GN fun o F=>?_
 cases o with
 | none=>exact absurd F h
 | some k=>rfl
theorem FY.mono{H H':Hp}{l:Addr}{rs:List Rl}{us:List Str}(h:FY P w H l rs us)(F:mu H H'):FY P w H' l rs us:=by
 obtain⟨ds,h1,h2,O⟩:=h
 exact⟨ds,F _ _ h1,h2,fun i d r S J=>(O i d r S J).mono F⟩
def Eh(H H':Hp)(pr pb:Addr)(rs:List Rl)(us:List Str):Prop:=∃ (M:Nat) (as bs:List Addr),M≤60∧M=(aw rs us M).length∧vr H' pr ((List.range M).map (gy rs us)) as∧vr H' pb ((List.range M).map (fE rs us)) bs∧(pr::pb::(as++bs)).Nodup∧∀ a∈pr::pb::(as++bs),H a=none
def qY(P:Program)(w:World)(CT:Addr):Sp:=fun vs H Q E=>∃ (l:Addr) (rs:List Rl) (us:List Str),vs=[.ref l,.int us.length]∧FY P w H l rs us∧rs.length≤8∧us.length≤1000∧(∀ r∈rs,aY r)∧cE rs≤1000∧(∀ r,60<(aw rs us r).length→∀ H',mu H H'→E (.ref CT) none H')∧
 ∀ (p pr pb:Addr) (H':Hp),mu H H'→H p=none→H' p=some (.tup [.ref pr,.ref pb])→Eh H H' pr pb rs us→Q (.ref p) H'
theorem yx{CT:Addr}(a4:gh K mg "TooGreat" CT) (D:AS K mg "laid_by" aK) (ad:mg "len" = none) (b5:mg "tuple" = none) (an:∃ t,mg "MOST_ROOMS" = some (.int 60 t)) (Y:C9 P w K mg base 1 "rooms_behind" ["ways", "here", "width"] (rR P w)) (a7:C9 P w K mg base 1 "blame_of" ["rooms"] uk):E7 P w K mg base 2 "laid_by" ["ways", "width"] (qY P w CT):=by
 refine D.calX Dr (fun _ _ _ _ _ _ us hl=>match us,hl with | [_,_],_=>rfl) (fun vs H Q E h=>by obtain⟨_,_,_,rfl,_⟩:=h; rfl) (fun f g8 A outer s H vs Q E hr h=>?_)
 obtain⟨l,rs,us,rfl,hW,n8,nu,ok,g5,qx,q⟩:=h
 obtain⟨ds,h1,h2,h3⟩:=id hW
 refine⟨_,(af (ap 2 Dr.nd (iG (lg K) b5 kD (ac (cX (CW.to (fsc:=(h8 aK)) (N:=["ways", "width", "first", "order", "numbers", "rooms", "blames", "behind", "there"]) (N0:=["ways", "width", "first", "order", "numbers", "rooms", "blames", "behind", "there"]) (T:=["way"]) ⟨by decide +kernel,by decide +kernel,by decide +kernel,by decide +kernel,by decide +kernel,by decide +kernel,by decide +kernel⟩ rfl rfl) rfl (bT K (pv 0)) (fun _ _ _ _=>(aU 9 (show (["ways", "width", "first", "order", "numbers", "rooms", "blames", "behind", "there", "way"]:List Str).Nodup from by decide +kernel) (hx:=(dG (h8 aK) (by decide +kernel))) (hf:=fm (h8 aK) (by decide +kernel)))) (bN (show (["ways", "width", "first", "order", "numbers", "rooms", "blames", "behind", "there"]:List Str).length≤9 from by decide)) (fun _ _ _ _=>bR) (fun _ _ _ _=>ah)) ae)))
   (af (ap 3 Dr.nd (bu (ac (pv 2) ae)))
   (af (ap 4 Dr.nd ((nG P w hr) (pv 2) ah) (hx:=KC))
   (af (ap 5 Dr.nd (bu ae))
   (af (ap 6 Dr.nd (bu ae))
   (af (kQ PassesOwn.leaving (ba lf (a_ (bq K) ad ce (ac (pv 5) ae)) (a_ (bq K) ad ce (ac (pv 3) ae)) (bt _)) (af (ap 7 Dr.nd (aO Y hr (ac (pv 0) (ac (aD (aZ K) (pv 3) (a_ (bq K) ad ce (ac (pv 5) ae)) (fun _ _=>rfl)) (ac (pv 1) ae)))))
   (af (dj PassesOwn.leaving rfl (bT K (pv 7)) (aU 8 Dr.nd) (am (cC (PW.pt' (li (ba (wF K) ck (pv 8) (by with_unfolding_all rfl)) (j8 (ba (nH P w hr) (pv 8) (pv 4 (hv:=FQ)) (by with_unfolding_all rfl))))) (af (fu (a_ (bq K) ad ce (ac (pv 3) ae)) (gk (pv 4 (hv:=FQ)) (pv 8) (wU P w hr)))
   (am (c8 (dw K FZ Gy Gw cL (pv 3) (ac (pv 8) ae))))) bI)))
   (af (cC (ba qL (a_ (bq K) ad ce (ac (pv 3) ae)) (l0 an) (bt _)) (am (lC oF a4 (ac cI ae))) bI)
   (af (c8 (dw K FZ Gy Gw cL (pv 5) (ac (cX (CW.to (fsc:=(h8 aK)) (N:=["ways", "width", "first", "order", "numbers", "rooms", "blames", "behind", "there"]) (N0:=["ways", "width", "first", "order", "numbers", "rooms", "blames", "behind", "there'"]) (T:=["there"]) ⟨by decide +kernel,by decide +kernel,by decide +kernel,by decide +kernel,by decide +kernel,by decide +kernel,by decide +kernel⟩ rfl rfl) rfl (bT K (pv 7)) (fun _ _ _ _=>(aU 9 (show (["ways", "width", "first", "order", "numbers", "rooms", "blames", "behind", "there'", "there"]:List Str).Nodup from by decide +kernel) (hx:=(dG (h8 aK) (by decide +kernel))) (hf:=fm (h8 aK) (by decide +kernel)))) (bN (show (["ways", "width", "first", "order", "numbers", "rooms", "blames", "behind", "there"]:List Str).length≤9 from by decide)) (fun _ _ _ _=>bR) (fun _ _ _ _=>(rS P w hr (pv 4 (hv:=(bP (h8 aK) (by decide +kernel)))) (pv 9 (hv:=(bP (h8 aK) (by decide +kernel)))) ⟨rfl,rfl,rfl,rfl⟩))) ae)))
   (am (c8 (dw K FZ Gy Gw cL (pv 6) (ac (cX (CW.to (fsc:=(h8 aK)) (N:=["ways", "width", "first", "order", "numbers", "rooms", "blames", "behind", "there"]) (N0:=["ways", "width", "first", "order", "numbers", "rooms", "blames", "behind", "there'"]) (T:=["there"]) ⟨by decide +kernel,by decide +kernel,by decide +kernel,by decide +kernel,by decide +kernel,by decide +kernel,by decide +kernel⟩ rfl rfl) rfl (bT K (pv 7)) (fun _ _ _ _=>(aU 9 (show (["ways", "width", "first", "order", "numbers", "rooms", "blames", "behind", "there'", "there"]:List Str).Nodup from by decide +kernel) (hx:=(dG (h8 aK) (by decide +kernel))) (hf:=fm (h8 aK) (by decide +kernel)))) (bN (show (["ways", "width", "first", "order", "numbers", "rooms", "blames", "behind", "there"]:List Str).length≤9 from by decide)) (fun _ _ _ _=>bR) (fun _ _ _ _=>(aO a7 hr (ac (pv 9 (hv:=(bP (h8 aK) (by decide +kernel)))) ae) (hg:=(sw (h8 aK) (by decide +kernel)))))) ae)))))))))
   (am (aV (cU (ac (pv 5) (ac (pv 6) ae))))))))))),?_⟩
 walk_at "r";refine⟨⟨_,rd.of h1⟩,fun L hL=>?_⟩
 refine cB (xs:=ds.map V.ref) (fun i ys H'=>mu H H'∧H' L=some (.lst ys)∧ys=(List.replicate i 0).map fun k:Nat=>V.int (k:Int)) ⟨ay hL _,ak,rfl⟩ (fun i ys H' _ h=>rd.of (h.1 _ _ h1)) ?_ ?_
 ·rintro i ys H' v hv hi ⟨sm,hl,rfl⟩
  rw[zc]at hi
  walk_at "r";exact df (by rw[zc]; exact hi) (by simp) (by rw[zc]; exact bG (by omega)) hl ⟨sm.upd hL _,ak,by rw[List.replicate_succ',z9]; rfl⟩
 rintro ys H1 ⟨s1,hl,rfl⟩
 rw[zc,h2]at hl
 walk_at "r";refine⟨_,.inl ⟨rd.of hl,fun ft ga=>?_⟩⟩
 generalize hH2z:upd H1 ft _=H2
 have s2:=bj hH2z ga;have e2:=bV hH2z;walk_at "n";refine⟨by decide,fun op er=>?_⟩
 generalize hH3z:upd H2 op _=H3
 have s3:=bj hH3z er;have e3:H3 op=some (.lst ([ft].map V.ref)):=bV hH3z
 walk_at "n";rw[nM];refine fun mp ek u hu=>?_
 have s4:=ay ek u;generalize upd H3 mp u=H4 at s4 hu ⊢;walk_at "r";refine⟨ft,d8 (List.replicate rs.length 0),rfl,?_,hu,fun u' f0=>?_⟩
 ·show H4 ft=some (.tup _)
  rw[rn]; exact(s3.trans s4) _ _ e2
 have o4:ED H4 op (aw rs us 0):=⟨[ft],s4 _ _ e3,rfl,fun i a t z1 z2=>by
  match i,z1,z2 with
  | 0,z1,z2=>cases z1; cases z2; exact(s3.trans s4) _ _ e2
  | i+1,z1,z2=>simp at z1⟩
 have eg:mu H H3:=(s1.trans s2).trans s3
 have da:H mp=none:=eg.free ek
 have cb:mu H (upd H4 mp u'):=(eg.trans s4).upd da u'
 have o5:=o4.other (u:=u') (zB (c7 hu (s4 _ _ e3))) (lW hu);generalize upd H4 mp u'=H5 at o5 cb f0 ⊢;walk_at "n";refine⟨by decide,fun S dt=>?_⟩
 generalize hH6z:upd H5 S _=H6
 have s6:=bj hH6z dt;have e6:H6 S=some (.lst (([]:List Addr).map V.ref)):=bV hH6z
 walk_at "n";refine⟨by decide,fun bp cc=>?_⟩
 generalize hH7z:upd H6 bp _=H7
 have s7:=bj hH7z cc;have e7:H7 bp=some (.lst (([]:List Addr).map V.ref)):=bV hH7z
 obtain⟨_,oo,_⟩:=id o5
 have n1:op≠S:=au oo dt
 have n2:op≠bp:=au (s6 _ _ oo) cc
 have n3:S≠bp:=au e6 cc
 have fB:H op=none:=(s1.trans s2).free er
 have cr:H S=none:=cb.free dt
 have c1:H bp=none:=(cb.trans s6).free cc
 walk_at "n"
 refine⟨fun mm σ H'=>∃ (r:Nat) (J bs:List Addr) (kvs:List (cT × V)) (o7 o8:Option V),mm=61 - r∧σ=[some (.ref l),some (.int us.length),some (.ref ft),some (.ref op),some (.ref mp),some (.ref S),some (.ref bp),o7,o8]∧mu H H'∧ED H' op (aw rs us r)∧DO P w H' mp kvs∧Fb kvs (aw rs us r)∧vr H' S ((List.range r).map (gy rs us)) J∧vr H' bp ((List.range r).map (fE rs us)) bs∧(op::S::bp::(J++bs)).Nodup∧(∀ a∈J++bs,H a=none)∧r≤(aw rs us r).length∧(aw rs us r).length≤60,
  ⟨_,0,[],[],_,none,none,rfl,rfl,(cb.trans s6).trans s7,o5.mono (s6.trans s7),f0.mono (s6.trans s7),Fb.zero _,⟨s7 _ _ e6,rfl,fun i a x z=>by simp at z⟩,⟨e7,rfl,fun i a x z=>by simp at z⟩,by simp[n1,n2,n3],by simp,by simp[aw],by simp[aw]⟩,?_⟩
 rintro mm σ H' ⟨r,J,bs,kvs,o7,o8,em,rfl,sm,hO,hM,hN,hA,hB,nd,d5,hb,h60⟩
 obtain⟨e9,eo,hc⟩:=dA ok us r
 have g1:=oI e9 eo;obtain⟨ts,t1,t2,t3⟩:=id hO
 walk_at "r";have ea:J.length=r:=by have:=hA.2.1; simpa using this
 refine⟨_,.inl (rd.of hA.1),_,.inl (rd.of t1),?_⟩
 rw[zc,zc,ea,t2]
 by_cases hend:r<(aw rs us r).length
 rotate_left
 ·refine bH (fun c=>absurd (by omega) hend) (fun _=>?_)
  walk_at "n";refine⟨by decide,fun p hp=>?_⟩
  have cm:=HY.mp nd;have s':=ay hp (.tup [V.ref S,V.ref bp]);refine q p S bp _ (sm.trans s') (sm.free hp) ak ⟨r,J,bs,by omega,by omega,hA.mono s',hB.mono s',cm.2,fun a ha=>?_⟩
  rcases HW.mp ha with rfl | ha
  ·exact cr
  rcases HW.mp ha with rfl | ha
  ·exact c1
  ·exact d5 a ha
 refine bH (fun _=>?_) (fun c=>absurd (by omega) c)
 have d1:=zq ok hend;have gI:(aw rs us r)[r]? = some (bY rs us r):=by unfold bY; rw[zp,za hend]; rfl
 obtain⟨tx,eu⟩ : ∃ tx,ts[r]? = some tx:=⟨ts[r],za (by omega)⟩
 have f5:=t3 r tx _ eu gI;refine⟨_,fun _ _ h=>h,_,.inl (rd.of hA.1),_,_,.inl (rd.of t1),aE (v:=.ref tx) (by rw[zc,ea,ze,eu]; rfl),?_⟩
 refine⟨l,tx,rs,us,bY rs us r,rfl,hW.mono sm,n8,nu,f5,d1.1,d1.2,fun bl H8 ys s8 b6 eb hj gz=>?_⟩
 obtain⟨fy,ew,f7⟩ : mp≠S∧mp≠bp∧mp≠op:=⟨c7 hM hA.1,c7 hM hB.1,c7 hM t1⟩
 have g2:H bl=none:=sm.free b6
 have gd:bl≠op:=zB (au t1 b6)
 have f8:bl≠mp:=by obtain⟨zs,z,_⟩:=hM; exact zB (au z b6)
 have f4:=sm.trans s8;have fa:∀ (k:Nat) t (hk:k<us.length),ys[k]? = some t→H8 t=some (.tup ((aR rs (bY rs us r) us[k]).map ar)):=fun k t hk e=>gz k t us[k] e (za hk)
 walk_at "n";refine⟨⟨_,rd.of eb⟩,?_⟩
 refine eP (xs:=ys.map V.ref) (fun k σ F=>∃ (aa:List (cT × V)) (o8:Option V),σ=[some (.ref l),some (.int us.length),some (.ref ft),some (.ref op),some (.ref mp),some (.ref S),some (.ref bp),some (.ref bl),o8]∧mu H F∧F bl=some (.lst (ys.map V.ref))∧(∀ (k:Nat) t (hk:k<us.length),ys[k]? = some t→F t=some (.tup ((aR rs (bY rs us r) us[k]).map ar)))∧ED F op (((db rs us (bY rs us r)).take k).foldl b_ (aw rs us r))∧DO P w F mp aa∧Fb aa (((db rs us (bY rs us r)).take k).foldl b_ (aw rs us r))∧vr F S ((List.range r).map (gy rs us)) J∧vr F bp ((List.range r).map (fE rs us)) bs)
  ⟨kvs,o8,rfl,f4,eb,fa,hO.mono s8,hM.mono s8,hN,hA.mono s8,hB.mono s8⟩ (fun k σ F _ h=>by obtain⟨_,_,_,_,z,_⟩:=h; exact rd.of z) ?_ ?_
 ·rintro k v σ F hv ⟨aa,o8,rfl,sx,a9,a8,a0,W,ag,O,Z⟩
  have hk:k<ys.length:=by have:=(HL.mp hv).1; simpa using this
  have ep:k<us.length:=by omega
  rw[ze,za hk]at hv
  cases hv;have bA:=a8 k ys[k] ep (za hk)
  have gc:((db rs us (bY rs us r)).take (k+1)).foldl b_ (aw rs us r)=b_ (((db rs us (bY rs us r)).take k).foldl b_ (aw rs us r)) (aR rs (bY rs us r) us[k]):=by
   rw[vy,zbK];unfold db;rw[ze,za ep]
   rfl
  have eN:(((db rs us (bY rs us r)).take k).foldl b_ (aw rs us r)).Nodup:=mY _ e9
  have pin:∀ t∈((db rs us (bY rs us r)).take k).foldl b_ (aw rs us r),FL rs t:=by
   unfold db;rw[← zbc];exact mQ ok d1 (us.take k) eo
  have ey:=oI eN pin;rw[gc];generalize ((db rs us (bY rs us r)).take k).foldl b_ (aw rs us r)=o' at a0 ag eN pin ey ⊢;generalize aR rs (bY rs us r) us[k]=t at bA ⊢;walk_at "r";refine⟨_,.inr (C3.of bA),rfl,ni t,?_⟩
  rw[q8]
  by_cases c:none∈t
  ·refine bH (fun z=>by rw[decide_eq_true c]at z; cases z) (fun _=>?_)
   have e:b_ o' t=o':=by unfold b_; rw[HS c]
   rw[e];exact⟨aa,_,rfl,sx,a9,a8,a0,W,ag,O,Z⟩
  refine bH (fun _=>?_) (fun z=>absurd (by rw[decide_eq_false c]; rfl) z)
  have c4:EZ F (d8 (ci t)) ys[k]:=by
   show F ys[k]=some (.tup _)
   rw[rn,← nc c]; exact bA
  refine⟨ys[k],mp,d8 (ci t),aa,rfl,rfl,W,c4,_,rfl,?_⟩
  by_cases c2:ci t∈o'
  ·rw[ag.2.1 _ c2]
   refine bH (fun z=>by cases z) (fun _=>?_)
   have e:b_ o' t=o':=by unfold b_; rw[HP c,HS c2]
   rw[e];exact⟨aa,_,rfl,sx,a9,a8,a0,W,ag,O,Z⟩
  obtain⟨d7,gu⟩:=ag.snoc c2
  rw[d7];refine bH (fun _=>?_) (fun z=>absurd rfl z)
  have e:b_ o' t=o'++[ci t]:=by unfold b_; rw[HP c,HP c2]
  rw[e];obtain⟨gp,a1,a2,a3⟩:=id a0
  refine⟨_,.inl (rd.of a1),mp,ys[k],d8 (ci t),aa,rfl,rfl,W,c4,d7,cH (by have:=ag.1; omega),fun uu d6=>?_⟩
  rw[zc,a2]at d6
  have fx:=lW W;have ec:=a0.other (u:=uu) (zB (c7 W a1)) fx;have b8:∀ {c:Addr} {xs:List V},F c=some (.tup xs)→upd F mp uu c=some (.tup xs):=fun {c xs} e=>by rw[al (fun z=>by subst z; exact fx _ e)]; exact e
  have cp:=b8 bA;have c9:∀ (k:Nat) t (hk:k<us.length),ys[k]? = some t→upd F mp uu t=some (.tup ((aR rs (bY rs us r) us[k]).map ar)):=fun k t hk e=>b8 (a8 k t hk e)
  have dl:upd F mp uu bl=some (.lst (ys.map V.ref)):=by rw[al f8]; exact a9
  have e4:∀ a∈J++bs,a≠mp:=fun a ha=>by
   rcases HX.mp ha with z | z
   ·obtain⟨i,hi,rfl⟩:=HN.mp z
    exact zB (c7 W (O.2.2 i J[i] _ (za hi) (za (by rw[← O.2.1]; exact hi))))
   ·obtain⟨i,hi,rfl⟩:=HN.mp z
    exact zB (c7 W (Z.2.2 i bs[i] _ (za hi) (za (by rw[← Z.2.1]; exact hi))))
  have ed:=O.other (u:=uu) (zB fy) (fun z=>e4 _ (mW _ z) rfl)
  have fb:=Z.other (u:=uu) (zB ew) (fun z=>e4 _ (y6 _ z) rfl)
  have en:=sx.upd da uu;generalize upd F mp uu=G at d6 ec cp c9 dl ed fb en ⊢;obtain⟨g7,b1,b2,b3⟩:=id ec
  walk_at "n";refine⟨⟨_,rd.of b1⟩,_,b1,by rw[zc]; exact cH (by omega),?_⟩
  have ge:=ED.push (t:=ci t) b1 b2 b3 (by rw[← nc c]; exact cp)
  have ev:∀ xs,G op≠some (.tup xs):=fun xs z=>by rw[b1]at z; cases z
  have d3:=HY.mp nd;have e0:op∉J++bs:=fun z=>d3.1 (zU _ (zU _ z))
  refine⟨_,_,rfl,en.upd fB _,by rw[al gd]; exact dl,fun k t hk e=>?_,ge,hV d6 b1 f7,gu,ed.other n1.symm (fun z=>e0 (mW _ z)),fb.other n2.symm (fun z=>e0 (y6 _ z))⟩
  have z:=c9 k t hk e;rw[al (fun z'=>by subst z'; exact ev _ z)]; exact z
 rintro σ H9 ⟨aa,o9,rfl,sx,a9,a8,a0,W,ag,O,Z⟩
 have gt:((db rs us (bY rs us r)).take (ys.map V.ref).length).foldl b_ (aw rs us r)=aw rs us (r+1):=by
  rw[zc,Gd (by unfold db; rw[zc]; omega)]
  conv=>rhs; unfold aw
  rw[HS hend]; rfl
 rw[gt]at a0 ag
 obtain⟨eS,e1,g6⟩:=dA ok us (r+1)
 have gA:=oI eS e1;obtain⟨gp,a1,a2,a3⟩:=id a0
 walk_at "n";refine⟨_,.inl (rd.of a1),bH (fun z=>?_) (fun gO=>?_)⟩
 ·rw[lL]
  walk_at "r";exact⟨by decide,qx (r+1) (by rw[zc,a2]at z; omega) H9 sx⟩
 rw[zc,a2]at gO
 walk_at "n"
 have eM:∀ (i:Nat) (hi:i<us.length),(gy rs us r)[i]? = some (eT (aw rs us (r+1)) (aR rs (bY rs us r) us[i])):=fun i hi=>by
  unfold gy db; rw[ze,ze,za hi]; rfl
 have e5:∀ (i:Nat) (hi:i<us.length),(fE rs us r)[i]? = some (jz (aR rs (bY rs us r) us[i])):=fun i hi=>by
  unfold fE db; rw[ze,ze,za hi]; rfl
 have g0:(gy rs us r).length=us.length:=by unfold gy db; simp
 have g3:(fE rs us r).length=us.length:=by unfold fE db; simp
 have gv:∀ u,(aR rs (bY rs us r) u).length≤8:=fun u=>by unfold aR; rw[zbv]; omega
 refine⟨⟨_,rd.of O.1⟩,⟨_,rd.of a9⟩,fun L1 cd=>?_⟩
 refine cB (xs:=ys.map V.ref) (fun i zs H'=>mu H9 H'∧H' L1=some (.lst zs)∧zs=((gy rs us r).take i).map ar) ⟨ay cd _,ak,rfl⟩ (fun i zs H' _ h=>rd.of (h.1 _ _ a9)) ?_ ?_
 ·rintro i zs H' v hv hi ⟨s',dV,rfl⟩
  rw[zc]at hi
  have bB:i<us.length:=by omega
  rw[ze,za hi]at hv
  cases hv;have bA:=s' _ _ (a8 i ys[i] bB (za hi))
  have f3:EZ H' (keyO (aR rs (bY rs us r) us[i])) ys[i]:=by
   show H' ys[i]=some (.tup _)
   rw[← lG]; exact bA
  have d2:=ag.look (t:=aR rs (bY rs us r) us[i]) (fun c=>by
   have:=jL (db rs us (bY rs us r)) (aw rs us r) (t:=aR rs (bY rs us r) us[i]) (HR.mpr ⟨us[i],zl bB,rfl⟩) c
   conv=>arg 1; unfold aw
   rw[HS hend]; exact this)
  walk_at "r";rw[ql];walk_at "r";refine⟨mp,aa,rfl,W.mono s',ys[i],_,aa,rfl,W.mono s',f3,?_⟩
  rw[d2];exact df (by rw[zc]; exact hi) (by rw[zc,vc]; omega) (by rw[zc]; exact bG (by omega)) dV ⟨s'.upd cd _,ak,by rw[vy,eM i bB,z9]; rfl⟩
 rintro zs ca ⟨a5,b7,rfl⟩
 rw[zc,Gd (by omega)]at b7
 have a6:=O.mono a5;have d3:=HY.mp nd;have cm:=HY.mp d3.2;have gB:=HY.mp cm.2;have cf:∀ {b o},H9 b=some o→b≠L1:=fun e=>au e cd
 have f9:∀ a∈J,∃ o,H9 a=some o:=fun a ha=>by
  obtain⟨i,hi,rfl⟩:=HN.mp ha
  exact⟨_,O.2.2 i J[i] _ (za hi) (za (by rw[← O.2.1]; exact hi))⟩
 have f2:∀ a∈bs,∃ o,H9 a=some o:=fun a ha=>by
  obtain⟨i,hi,rfl⟩:=HN.mp ha
  exact⟨_,Z.2.2 i bs[i] _ (za hi) (za (by rw[← Z.2.1]; exact hi))⟩
 have eH:H L1=none:=sx.free cd
 have ez:S∉J++bs:=fun z=>cm.1 (zU _ z)
 refine⟨_,a6.1,by rw[zc]; exact cH (by omega),?_⟩
 have cq:=a6.push (fun z=>ez (mW _ z)) (cf O.1) b7
 have be:=(Z.mono a5).other (c:=S) (u:=.lst (J.map V.ref++[.ref L1])) (zB n3) (fun z=>ez (y6 _ z))
 have dm:=(a0.mono a5).other (c:=S) (u:=.lst (J.map V.ref++[.ref L1])) n1 (fun xs z=>by rw[a6.1]at z; cases z)
 have c5:=hV (W.mono a5) (o:=.lst (J.map V.ref++[.ref L1])) a6.1 fy;have f6:bl≠S:=zB (au hA.1 b6)
 have he:bl≠bp:=zB (au hB.1 b6)
 have b9:upd ca S (.lst (J.map V.ref++[.ref L1])) bl=some (.lst (ys.map V.ref)):=by rw[al f6]; exact a5 _ _ a9
 have c3:∀ (k:Nat) t (hk:k<us.length),ys[k]? = some t→upd ca S (.lst (J.map V.ref++[.ref L1])) t=some (.tup ((aR rs (bY rs us r) us[k]).map ar)):=fun k t hk e=>by
  have z:=a5 _ _ (a8 k t hk e);rw[al (fun z'=>by subst z'; rw[a6.1]at z; cases z)]; exact z
 have b4:=(sx.trans a5).upd cr (.lst (J.map V.ref++[.ref L1]))
 have cs:∀ b o,H9 b=some o→∃ o',upd ca S (.lst (J.map V.ref++[.ref L1])) b=some o':=fun b o e=>by
  by_cases c:b=S
  ·exact⟨_,by rw[c]; exact ak⟩
  ·exact⟨o,by rw[al c]; exact a5 _ _ e⟩
 have cn:upd ca S (.lst (J.map V.ref++[.ref L1])) L1=some (.lst ((gy rs us r).map ar)):=by rw[al (zB (cf O.1))]; exact b7
 generalize upd ca S (.lst (J.map V.ref++[.ref L1]))=ej at cq be dm c5 b9 c3 b4 cs cn ⊢;walk_at "n";refine⟨⟨_,rd.of be.1⟩,⟨_,rd.of b9⟩,fun L2 cl=>?_⟩
 refine cB (xs:=ys.map V.ref) (fun i zs H'=>mu ej H'∧H' L2=some (.lst zs)∧zs=((fE rs us r).take i).map ar) ⟨ay cl _,ak,rfl⟩ (fun i zs H' _ h=>rd.of (h.1 _ _ b9)) ?_ ?_
 ·rintro i zs H' v hv hi ⟨s',dV,rfl⟩
  rw[zc]at hi
  have bB:i<us.length:=by omega
  rw[ze,za hi]at hv
  cases hv;walk_at "r";refine⟨ys[i],_,rfl,s' _ _ (c3 i ys[i] bB (za hi)),gv _,?_⟩
  exact df (by rw[zc]; exact hi) (by rw[zc,vc]; omega) (by rw[zc]; exact bG (by omega)) dV ⟨s'.upd cl _,ak,by rw[vy,e5 i bB,z9]; rfl⟩
 rintro zs g9 ⟨bS,dc,rfl⟩
 rw[zc,Gd (by omega)]at dc
 have bz:=be.mono bS;have et:bp∉J++bs:=gB.1
 have g4:bs.length=r:=by have:=hB.2.1; simpa using this
 refine⟨_,bz.1,by rw[zc]; exact cH (by omega),?_⟩
 have d4:∀ {b o},ej b=some o→b≠L2:=fun e=>au e cl
 have gl:bp≠L1:=cf Z.1
 have f1:=bz.push (fun z=>et (y6 _ z)) (d4 be.1) dc
 have fA:=(cq.mono bS).other (c:=bp) (u:=.lst (bs.map V.ref++[.ref L2])) n3 (fun z=>by
  rcases HX.mp z with z | z
  ·exact et (mW _ z)
  ·exact gl (HQ.mp z))
 have e8:=(dm.mono bS).other (c:=bp) (u:=.lst (bs.map V.ref++[.ref L2])) n2 (fun xs z=>by rw[bz.1]at z; cases z)
 have ei:=hV (c5.mono bS) (o:=.lst (bs.map V.ref++[.ref L2])) bz.1 ew;have cv:∀ {β : Type} (f:Nat→β),(List.range (r+1)).map f=(List.range r).map f++[f r]:=fun f=>by rw[Gz,z9]; rfl
 refine⟨61 - (r+1),by omega,r+1,J++[L1],bs++[L2],aa,_,_,rfl,rfl,(b4.trans bS).upd c1 _,e8,ei,ag,by rw[cv]; exact fA,by rw[cv]; exact f1,?_,fun a ha=>?_,?_,by omega⟩
 ·have pm:(op::S::bp::((J++[L1])++(bs++[L2]))).Perm (L2::L1::op::S::bp::(J++bs)):=by
   rw[List.perm_iff_count];intro a
   simp only[List.count_cons,List.count_append,List.count_nil]
   omega
  have c0:∀ a∈op::S::bp::(J++bs),∃ o,H9 a=some o:=fun a ha=>by
   simp only[vB,zbx]at ha
   rcases ha with rfl | rfl | rfl | z | z
   ·exact⟨_,a1⟩
   ·exact⟨_,O.1⟩
   ·exact⟨_,Z.1⟩
   ·exact f9 a z
   ·exact f2 a z
  refine pm.nodup_iff.mpr (HY.mpr ⟨fun z=>?_,HY.mpr ⟨fun z=>?_,nd⟩⟩)
  ·rcases HW.mp z with z | z
   ·exact d4 cn z.symm
   ·obtain⟨o,e⟩:=c0 _ z
    obtain⟨o',e'⟩:=cs _ o e
    exact d4 e' rfl
  ·obtain⟨o,e⟩:=c0 _ z
   exact cf e rfl
 ·simp only[zbx,zbk]at ha
  rcases ha with (z | z) | (z | z)
  ·exact d5 a (mW _ z)
  ·rw[z]; exact eH
  ·exact d5 a (y6 _ z)
  ·rw[z]; exact b4.free cl
 ·have e:aw rs us (r+1)=(db rs us (bY rs us r)).foldl b_ (aw rs us r):=by
   conv=>lhs; unfold aw
   rw[HS hend]; rfl
  obtain⟨x,e'⟩:=iK (db rs us (bY rs us r)) (aw rs us r)
  rw[e,e',zV]; omega
def uc(H:Hp)(l:Addr)(ps:List Addr)(rs:List Rl):Prop:=H l=some (.lst (ps.map V.ref))∧ps.length=rs.length∧∀ (i:Nat) p r,ps[i]? = some p→rs[i]? = some r→tf H p r
def fY(ts:List Str)(rs:List Rl):Prop:=ts.Nodup∧sortedS ts=true∧∀ x,x∈ts ↔ x∈rs.flatMap (·.ws)
def nQ:Sp:=fun vs H Q _=>∃ (l:Addr) (ps:List Addr) (rs:List Rl),vs=[.ref l]∧uc H l ps rs∧(rs.flatMap (·.ws)).length≤60∧∀ (t:Addr) (H':Hp) (ts:List Str),mu H H'→H t=none→H' t=some (.lst (ts.map V.str))→fY ts rs→ts.length≤60→Q (.ref t) H'
theorem tE(D:AS K mg "words_of_all" cy) (J:mg "sorted" = none) (S:mg "set" = none):C9 P w K mg base 1 "words_of_all" ["rules"] nQ:=by
 refine D.cal DY (fun _ _ _ _ _ _ us hl=>match us,hl with | [_],_=>rfl) (fun vs H Q E h=>by obtain⟨_,_,_,rfl,_⟩:=h; rfl) (fun f a3 A outer s H vs Q E hr h=>?_)
 obtain⟨l,ps,rs,rfl,hR,h60,q⟩:=h
 refine⟨_,(af (ap 1 DY.nd (bu ae))
   (af (dj rG rfl (bT K (pv 0)) (aU 2 DY.nd) (am (c8 (dw K FZ F.slot_list_extend F.type_list_extend vT (pv 1) (ac (aD (aZ K) (pv 2) ah (fun _ _=>rfl)) ae)))))
   (am (aV (a_ (mq P w hr) J iL (ac (iG (kB K P w hr) S sj (ac (pv 1) ae)) ae)))))),?_⟩
 walk_at "r";refine⟨by decide,fun O Z=>?_⟩
 generalize hH0z:upd H O _=H0
 have s1:=bj hH0z Z;have e1:H0 O=some (.lst ((([]:List Rl).flatMap (·.ws)).map V.str)):=bV hH0z
 walk_at "n";refine⟨⟨_,rd.of (s1 _ _ hR.1)⟩,?_⟩
 refine eP (xs:=ps.map V.ref) (fun i σ H'=>∃ o:Option V,σ=[some (.ref l),some (.ref O),o]∧mu H H'∧H' O=some (.lst (((rs.take i).flatMap (·.ws)).map V.str))) ⟨none,rfl,s1,e1⟩ (fun i σ H' _ h=>by obtain⟨_,_,Y,_⟩:=h; exact rd.of (Y _ _ hR.1)) ?_ ?_
 ·rintro i v σ H' hv ⟨o,rfl,Y,hw⟩
  have hi:i<ps.length:=by have:=(HL.mp hv).1; simpa using this
  have W:i<rs.length:=by have:=hR.2.1; omega
  rw[ze,za hi]at hv
  cases hv;obtain⟨pw,pr,as,r1,r2,r3⟩:=(hR.2.2 i ps[i] rs[i] (za hi) (za W)).mono Y
  have a4:((rs.take i).flatMap (·.ws)).length≤60:=by
   refine vg ?_ h60
   conv=>rhs; rw[← GT i rs,List.flatMap_append,zV]
   omega
  have a2:(rs[i].ws).length≤60:=by
   refine vg ?_ h60
   have:rs=rs.take i++rs[i]::rs.drop (i+1):=by rw[← List.drop_eq_getElem_cons W,GT]
   conv=>rhs; rw[this,List.flatMap_append,List.flatMap_cons,zV,zV]
   omega
  walk_at "r";refine⟨⟨_,rd.of hw⟩,_,_,.inr (C3.of r1),aE (j:=1) rfl,?_⟩
  have ag:mu H (upd H' O (.lst ((((rs.take i).flatMap (·.ws)).map V.str)++rs[i].ws.map V.str)))∧upd H' O (.lst ((((rs.take i).flatMap (·.ws)).map V.str)++rs[i].ws.map V.str)) O=some (.lst (((rs.take (i+1)).flatMap (·.ws)).map V.str)):=by
   refine⟨Y.upd Z _,?_⟩
   rw[ak,vy,za W,List.flatMap_append,z9];simp
  rw[eA];exact⟨_,_,hw,r2,by rw[zc,zc]; exact bG (by omega),_,rfl,ag⟩
 rintro σ H1 ⟨o,rfl,Y,hw⟩
 walk_at "n";rw[zc,hR.2.1,rP]at hw
 refine⟨O,_,rfl,rd.of hw,h60,fun sp ds ad a0 aa a5=>?_⟩
 refine⟨sp,ds,rfl,ak,by omega,fun t ts ht hp a1=>?_⟩
 have an:=(Y.trans (ay ad _)).trans (ay ht (.lst (ts.map V.str)));refine q t _ ts an ((Y.trans (ay ad _)).free ht) ak ⟨hp.nodup_iff.mpr a0,a1,fun x=>?_⟩ (by rw[hp.length_eq]; omega)
 rw[hp.mem_iff,aa]
def DZ(H:Hp)(l:Addr)(ns:List Str)(rs:List Rl):Prop:=∃ (qs ps:List Addr),H l=some (.lst (qs.map V.ref))∧qs.length=rs.length∧ps.length=rs.length∧ns.length=rs.length∧(∀ (i:Nat) q n p,qs[i]? = some q→ns[i]? = some n→ps[i]? = some p→H q=some (.tup [.str n,.ref p]))∧∀ (i:Nat) p r,ps[i]? = some p→rs[i]? = some r→tf H p r
theorem DZ.mono{H H':Hp}{l:Addr}{ns:List Str}{rs:List Rl}(h:DZ H l ns rs)(J:mu H H'):DZ H' l ns rs:=by
 obtain⟨Z,ps,h1,h2,Y,h4,W,S⟩:=h
 exact⟨Z,ps,J _ _ h1,h2,Y,h4,fun i q n p O F e3=>J _ _ (W i q n p O F e3),fun i p r O F=>(S i p r O F).mono J⟩
def wy(H H':Hp)(p:Addr)(s:Int)(rs:List Rl):Prop:=∃ (q wt pr pb:Addr) (ts:List Str),H' p=some (.tup [.ref q,.ref pb])∧H' q=some (.tup [.int s,.ref wt,.ref pr])∧H' wt=some (.lst (ts.map V.str))∧fY ts rs∧ts.length≤60∧H wt=none∧∃ (M:Nat) (as bs:List Addr),M≤60∧ts.length≤16∧M=(aw rs ts M).length∧vr H' pr ((List.range M).map (gy rs ts)) as∧vr H' pb ((List.range M).map (fE rs ts)) bs∧(wt::pr::pb::(as++bs)).Nodup∧∀ a∈wt::pr::pb::(as++bs),H a=none
def sR(P:Program)(w:World)(CN CT:Addr):Sp:=fun vs H Q E=>∃ (l:Addr) (ns:List Str) (rs:List Rl) (s:Int),vs=[.ref l]∧DZ H l ns rs∧1≤rs.length∧rs.length≤8∧(∀ r∈rs,aY r∧r.ws.Nodup)∧(∃ r∈rs.head?,r.s=s)∧((∃ r∈rs,r.s≠s)→∀ H',mu H H'→E (.ref CN) none H')∧((∀ r∈rs,r.s=s)→cE rs≤1000∧(rs.flatMap (·.ws)).length≤60∧(∀ ts,fY ts rs→(16<ts.length∨∃ r,60<(aw rs ts r).length)→∀ H',mu H H'→E (.ref CT) none H')∧
 ∀ (p:Addr) (H':Hp),mu H H'→H p=none→wy H H' p s rs→Q (.ref p) H')
theorem BB{CN CT:Addr}(Y:gh K mg "TooGreat" CT) (D:AS K mg "laid_rules" aI) (a1:mg "len" = none) (S:∃ t,mg "MOST_WORDS" = some (.int 16 t)) (F:E7 P w K mg base 1 "refuse_unlike" ["one", "other"] (wc CN)) (O:C9 P w K mg base 1 "words_of_all" ["rules"] nQ) (J:C9 P w K mg base 2 "ways_by_room" ["rule", "words"] (pB P w)) (Z:E7 P w K mg base 2 "laid_by" ["ways", "width"] (qY P w CT)):E7 P w K mg base 3 "laid_rules" ["rules"] (sR P w CN CT):=by
 refine D.calX DC (fun _ _ _ _ _ _ us hl=>match us,hl with | [_],_=>rfl) (fun vs H Q E h=>by obtain⟨_,_,_,_,rfl,_⟩:=h; rfl) (fun f cm A outer s H vs Q E hr h=>?_)
 obtain⟨l,ns,rs,sd,rfl,⟨qs,ps,h1,h2,h3,h4,h5,h6⟩,n1,n8,ok,b7,qn,hj⟩:=h
 refine⟨_,(af (i0 (CW.to (fsc:=(h8 aI)) (N:=["rules", "bare", "rule", "words", "laid"]) (N0:=["rules", "bare", "rule", "words", "laid"]) (T:=["named"]) ⟨by decide +kernel,by decide +kernel,by decide +kernel,by decide +kernel,by decide +kernel,by decide +kernel,by decide +kernel⟩ rfl rfl) rfl DC.nd (i:=1) rfl KD (bT K (pv 0)) (fun _ _ _ _=>(aU 5 (show (["rules", "bare", "rule", "words", "laid", "named"]:List Str).Nodup from by decide +kernel) (hx:=(dG (h8 aI) (by decide +kernel))) (hf:=fm (h8 aI) (by decide +kernel)))) (bN (show (["rules", "bare", "rule", "words", "laid"]:List Str).length≤5 from by decide)) (fun _ _ _ _=>bR) (fun _ _ _ _=>(aD (aZ K) (pv 5 (hv:=(bP (h8 aI) (by decide +kernel)))) ah (fun _ _=>rfl))))
   (af (dj PassesOwn.leaving rfl (bT K (pv 1)) (aU 2 DC.nd) (am (c8 (uR oF F (fun _ _ _ h=>h) hr (ac (aD (aZ K) (pv 1) ah (fun _ _=>rfl)) (ac (pv 2) ae))))))
   (af (ap 3 DC.nd (aO O hr (ac (pv 1) ae)) (hx:=JV))
   (af (cC (ba qL (a_ (bq K) a1 ce (ac (pv 3 (hv:=DM)) ae)) (l0 S) (bt _)) (am (lC oF Y (ac cI ae))) bI)
   (af (ap 4 DC.nd (uR oF Z (fun _ _ _ h=>h) hr (ac (cX (CW.to (fsc:=(h8 aI)) (N:=["rules", "bare", "rule", "words", "laid"]) (N0:=["rules", "bare", "rule'", "words", "laid"]) (T:=["rule"]) ⟨by decide +kernel,by decide +kernel,by decide +kernel,by decide +kernel,by decide +kernel,by decide +kernel,by decide +kernel⟩ rfl rfl) rfl (bT K (pv 1)) (fun _ _ _ _=>(aU 5 (show (["rules", "bare", "rule'", "words", "laid", "rule"]:List Str).Nodup from by decide +kernel) (hx:=(dG (h8 aI) (by decide +kernel))) (hf:=fm (h8 aI) (by decide +kernel)))) (bN (show (["rules", "bare", "rule", "words", "laid"]:List Str).length≤5 from by decide)) (fun _ _ _ _=>bR) (fun _ _ _ _=>(aO J hr (ac (pv 5 (hv:=(bP (h8 aI) (by decide +kernel)))) (ac (pv 3 (hv:=(bP (h8 aI) (by decide +kernel)))) ae)) (hg:=(sw (h8 aI) (by decide +kernel)))))) (ac (a_ (bq K) a1 ce (ac (pv 3 (hv:=DM)) ae)) ae))))
   (am (aV (cU (ac (cU (ac (aD (aZ K) (aD (aZ K) (pv 1) ah (fun _ _=>rfl)) ah (fun _ _=>rfl)) (ac (pv 3 (hv:=DM)) (ac (aD (aZ K) (pv 4) ah (fun _ _=>rfl)) ae)))) (ac (aD (aZ K) (pv 4) ah (fun _ _=>rfl)) ae)))))))))),?_⟩
 walk_at "r";refine⟨⟨_,rd.of h1⟩,fun B hB=>?_⟩
 refine cB (xs:=qs.map V.ref) (fun i ys H'=>mu H H'∧H' B=some (.lst ys)∧ys=(ps.take i).map V.ref) ⟨ay hB _,ak,rfl⟩ (fun i ys H' _ h=>rd.of (h.1 _ _ h1)) ?_ ?_
 ·rintro i ys H' v hv hi ⟨sm,hl,rfl⟩
  rw[zc]at hi
  rw[ze,za hi]at hv
  cases hv;have bA:i<ps.length:=by omega
  have hq:=sm _ _ (h5 i qs[i] (ns[i]'(by omega)) ps[i] (za hi) (za _) (za bA))
  walk_at "r";refine⟨_,_,.inr (C3.of hq),aE (j:=1) rfl,?_⟩
  exact df (by rw[zc]; exact hi) (by rw[zc,vc]; omega) (by rw[zc]; exact bG (by omega)) hl ⟨sm.upd hB _,ak,by rw[vy,za bA,z9]; rfl⟩
 rintro ys H1 ⟨s1,ad,rfl⟩
 rw[zc,Gd (by omega)]at ad
 have an:uc H1 B ps rs:=⟨ad,h3,fun i p r e1 e2=>(h6 i p r e1 e2).mono s1⟩
 walk_at "n";refine⟨⟨_,rd.of ad⟩,?_⟩
 have a2:ps[0]? = some ps[0]:=za (by omega)
 have a7:rs[0]? = some rs[0]:=za (by omega)
 have a5:rs[0].s=sd:=by
  obtain⟨r,hr,e⟩:=b7
  rw[List.head?_eq_getElem?,a7]at hr
  rw[Option.some.inj hr]; exact e
 refine eP (xs:=ps.map V.ref) (fun i σ H'=>∃ o:Option V,σ=[some (.ref l),some (.ref B),o,none,none]∧H'=H1∧∀ (j:Nat) r,j<i→rs[j]? = some r→r.s=sd) ⟨none,rfl,rfl,fun j r h=>absurd h (G0 _)⟩ (fun i σ H' _ h=>by obtain⟨_,_,rfl,_⟩:=h; exact rd.of ad) ?_ ?_
 ·rintro i v σ H' hv ⟨o,rfl,rfl,a6⟩
  have hi:i<ps.length:=by have:=(HL.mp hv).1; simpa using this
  have ag:i<rs.length:=by omega
  rw[ze,za hi]at hv
  cases hv;walk_at "r";refine⟨_,_,.inl (rd.of ad),aE (j:=0) (v:=.ref ps[0]) (by rw[ze,a2]; rfl),?_⟩
  refine⟨ps[0],ps[i],rs[0],rs[i],rfl,an.2.2 0 _ _ a2 a7,an.2.2 i _ _ (za hi) (za ag),fun e=>⟨_,rfl,rfl,fun j r hj e2=>?_⟩,fun e=>qn ⟨rs[i],zl ag,fun z=>e (a5.trans z.symm)⟩ H' s1⟩
  rcases x6 j i with z | z
  ·exact a6 j r z e2
  ·have:j=i:=by omega
   subst this;rw[za ag]at e2
   rw[← Option.some.inj e2,← e,a5]
 rintro σ H' ⟨o,rfl,rfl,a6⟩
 have bS:∀ r∈rs,r.s=sd:=fun r hr=>by
  obtain⟨j,hj,e⟩:=HN.mp hr
  exact a6 j r (by rw[zc]; omega) (by rw[za hj,e])
 obtain⟨b6,h60,qg,q⟩:=hj bS
 walk_at "n";refine⟨B,ps,rs,rfl,an,h60,fun wt H2 ts s2 cf ew a4 b5=>?_⟩
 walk_at "n";refine⟨_,.inl (rd.of ew),bH (fun z=>?_) (fun cl=>?_)⟩
 ·rw[lL]
  walk_at "r";exact⟨by decide,qg ts a4 (.inl (by rw[zc]at z; omega)) H2 (s1.trans s2)⟩
 have bB:ts.length≤16:=by rw[zc]at cl; omega
 walk_at "n";have b3:=s2 _ _ ad;refine⟨⟨_,rd.of b3⟩,fun W hW=>?_⟩
 refine cB (xs:=ps.map V.ref) (fun i ys H'=>mu H2 H'∧H' W=some (.lst ys)∧∃ ds:List Addr,ys=ds.map V.ref∧ds.length=i∧∀ (k:Nat) d r,ds[k]? = some d→rs[k]? = some r→Ep (fun b=>b≠W) P w H' d r ts r.rs.length true) ⟨ay hW _,ak,[],rfl,rfl,by simp⟩ (fun i ys H' _ h=>rd.of (h.1 _ _ b3)) ?_ ?_
 ·rintro i ys H3 v hv hi ⟨sm,hl,ds,rfl,a0,a9⟩
  rw[zc]at hi
  have ag:i<rs.length:=by omega
  rw[ze,za hi]at hv
  cases hv;have cd:=(an.2.2 i ps[i] rs[i] (za hi) (za ag)).mono (s2.trans sm);have b2:=ok rs[i] (zl ag);walk_at "r";refine⟨ps[i],wt,rs[i],ts,rfl,cd,b2.1,b2.2,sm _ _ ew,by omega,fun d H4 s4 hd b9=>?_⟩
  refine df (by rw[zc]; exact hi) (by rw[zc]; exact a0) (by rw[zc]; exact bG (by omega)) (s4 _ _ hl) ⟨(sm.trans s4).upd hW _,ak,ds++[d],by simp,by simp[a0],fun k d' r' e1 e2=>?_⟩
  by_cases hk:k<ds.length
  ·rw[vt hk]at e1
   exact((a9 k d' r' e1 e2).mono s4).put (s4 _ _ hl)
  ·have b8:k=ds.length:=by have:=(HL.mp e1).1; simp at this; omega
   subst b8;rw[yS (zg _)]at e1
   simp at e1
   subst e1;rw[a0,za ag]at e2
   cases e2;exact(b9.weak fun b hb z=>by rw[z,hl]at hb; cases hb).put (s4 _ _ hl)
 rintro ys H3 ⟨s3,cb,ds,rfl,a0,a9⟩
 rw[zc]at a0
 walk_at "r";have a8:=(s1.trans s2).trans s3;refine⟨_,.inl (rd.of (s3 _ _ ew)),W,rs,ts,by rw[zc],⟨ds,cb,by omega,fun i d r e1 e2=>(a9 i d r e1 e2).weak fun _ _=>trivial⟩,n8,by omega,fun r hr=>(ok r hr).1,b6,fun r hr H4 s4=>qg ts a4 (.inr ⟨r,hr⟩) H4 (a8.trans s4),fun lp pr pb H4 s4 cn bz ca=>?_⟩
 obtain⟨M,as,bs,m1,m2,m3,m4,m5,m6⟩:=ca
 walk_at "n";have be:=(an.2.2 0 _ _ a2 a7).mono (s2.trans (s3.trans s4));obtain⟨pw,pp,aa,g1,g2,g3⟩:=be
 refine⟨_,_,.inl (rd.of ((s2.trans (s3.trans s4)) _ _ ad)),aE (j:=0) (v:=.ref ps[0]) (by rw[ze,a2]; rfl),?_⟩
 refine⟨_,_,.inr (C3.of g1),mz,_,_,.inr (C3.of bz),mz,by decide,fun p1 cc=>?_⟩
 generalize hH5z:upd H4 p1 _=H5
 have s5:=bj hH5z cc;have e5:=bV hH5z;refine⟨_,_,.inr (C3.of (s5 _ _ bz)),aE (j:=1) rfl,by decide,fun p2 b4=>?_⟩
 generalize hH6z:upd H5 p2 _=H6
 have s6:=bj hH6z b4;have e6:=bV hH6z;have b1:=(a8.trans s4).trans s5;have a3:H wt=none:=s1.free cf
 have bp:=s3 _ _ ew;rw[a5]at e5
 refine q p2 H6 (b1.trans s6) (b1.free b4) ⟨p1,wt,pr,pb,ts,e6,s6 _ _ e5,((s4.trans s5).trans s6) _ _ bp,a4,b5,a3,M,as,bs,m1,bB,m2,m3.mono (s5.trans s6),m4.mono (s5.trans s6),HY.mpr ⟨fun z=>?_,m5⟩,fun a ha=>?_⟩
 ·have:=m6 wt z
  rw[bp]at this; cases this
 ·rcases HW.mp ha with rfl | ha
  ·exact a3
  ·exact a8.free (m6 a ha)
end
def after(r:Rl):Nat→List Str→Option Nat
 | k,[]=>some k
 | k,y::ys=>match aC r k y with
  | none=>none
  | some k'=>after r k' ys
theorem fX{α : Type}[DecidableEq α]:∀ {l m:List α},l.Nodup→(∀ x∈l,x∈m)→l.length≤m.length
 | [],_,_,_=>yT _
 | x::l,m,hn,hs=>by
  have hx:=hs x wZ;obtain⟨h1,h2⟩:=HY.mp hn
  have J:=fX (m:=m.erase x) h2 (fun y F=>(List.mem_erase_of_ne (by rintro rfl; exact h1 F)).mpr (hs y (zU _ F)))
  rw[List.length_erase_of_mem hx]at J
  have:=List.length_pos_of_mem hx
  rw[vR]; omega
def kp(r:Rl)(ys:List Str):Prop:=after r 0 ys≠none
theorem cK(r:Rl)(k:Nat)(y:Str)(ys:List Str):after r k (y::ys)=(aC r k y).bind fun F=>after r F ys:=by
 show (match aC r k y with | none=>none | some F=>after r F ys)=_
 cases aC r k y <;> rfl
theorem mr{r:Rl}(ok:aY r)(nd:r.ws.Nodup):∀ (ys:List Str) (k:Nat),fj r.rs k→after (bd r) (jJ r.rs k) ys=(after r k ys).map (jJ r.rs)
 | [],_,_=>rfl
 | y::ys,k,h=>by
  rw[cK,cK,tI ok nd h]
  cases e:aC r k y with
  | none=>rfl
  | some k'=>exact mr ok nd ys k' (sW ok nd h e)
theorem zo{r:Rl}(ok:aY r)(nd:r.ws.Nodup)(ys:List Str):kp (bd r) ys ↔ kp r ys:=by
 have:=mr ok nd ys 0 (vG ok.n0)
 rw[AH ok.n0]at this
 unfold kp;rw[this]
 cases after r 0 ys <;> simp
theorem zy{A B:Rl}(O:jF A)(J:jF B)(W:A.s=B.s)(h:∀ ys,kp A ys ↔ kp B ys):A=B:=by
 refine Alike.one (E:=fun i j=>i<A.rs.length∧j<B.rs.length∧∀ ys,after A i ys≠none ↔ after B j ys≠none) ⟨⟨O.ok.n0,J.ok.n0,h⟩,fun i j e=>⟨e.1,e.2.1⟩,?_⟩ W O J
 rintro i j y ⟨hi,Y,e⟩
 have F:=e [y];rw[cK,cK]at F
 cases ha:aC A i y with
 | none=>
  cases hb:aC B j y with
  | none=>exact .inl ⟨rfl,rfl⟩
  | some j'=>
   rw[ha,hb]at F
   exact absurd rfl (F.mpr (by intro z; cases z))
 | some i'=>
  cases hb:aC B j y with
  | none=>
   rw[ha,hb]at F
   exact absurd rfl (F.mp (by intro z; cases z))
  | some j'=>
   refine .inr ⟨i',j',rfl,rfl,nB O.ok hi ha,nB J.ok Y hb,fun ys=>?_⟩
   have S:=e (y::ys);rw[cK,cK,ha,hb]at S
   exact S
def fF(r:Rl)(o:Option Nat)(ys:List Str):Option Nat:=o.bind fun k=>after r k ys
theorem pL(r:Rl)(o:Option Nat)(y:Str)(ys:List Str):fF r o (y::ys)=fF r (i3 r o y) ys:=by
 cases o with
 | none=>rfl
 | some k=>
  show after r k (y::ys)=fF r (aC r k y) ys
  rw[cK]; rfl
theorem xQ(r:Rl)(ys:List Str):fF r none ys=none:=rfl
theorem sv(r:Rl)(o:Option Nat):fF r o []=o:=by cases o <;> rfl
theorem nD{br:Pr→Bool}{a b:Rl}{us:List Str}{M:Nat}(mono:∀ (p:Pr) (ys:List Str),br p=true→br (fF a p.1 ys,fF b p.2 ys)=true)(h:Ds br a b us M):∀ (ys:List Str) (i:Nat) (hi:i<M) (p:Pr),(aL br a b us M)[i]? = some p→(after (dS br a b us M) i ys=none ↔ br (fF a p.1 ys,fF b p.2 ys)=true)
 | [],i,hi,p,e=>by
  have:=h.ord.nb p (zX e)
  rw[sv,sv,this];show some i=none ↔ _
  simp
 | y::ys,i,hi,p,e=>by
  have hl:i<(aL br a b us M).length:=by rw[← h.M1]; exact hi
  have F:(aL br a b us M)[i]=p:=by rw[za hl]at e; exact Option.some.inj e
  rw[cK,h.step hi y,F,pL,pL]
  cases hb:br (dR a b p y) with
  | true=>
   rw[HS rfl];have:=mono (dR a b p y) ys hb
   exact⟨fun _=>this,fun _=>rfl⟩
  | false=>
   rw[HP (by decide)]
   have c:=h.closed hi (y:=y) (by rw[F]; exact hb)
   rw[F]at c
   have x:=HM.mpr c;exact nD mono h ys _ (Nat.lt_of_lt_of_eq x h.M1.symm) (dR a b p y) (by rw[za x,gV])
theorem BR{br:Pr→Bool}{a b:Rl}{us:List Str}{M:Nat}(mono:∀ (p:Pr) (ys:List Str),br p=true→br (fF a p.1 ys,fF b p.2 ys)=true)(h:Ds br a b us M)(ys:List Str):kp (dS br a b us M) ys ↔ br (after a 0 ys,after b 0 ys)=false:=by
 have:=nD mono h ys 0 h.pos _ h.zero
 unfold kp;rw[Ne,this];show ¬ br (after a 0 ys,after b 0 ys)=true ↔ _
 simp
theorem Aq{a b:Rl}(p:Pr)(ys:List Str)(h:dW p=true):dW (fF a p.1 ys,fF b p.2 ys)=true:=by
 obtain⟨x,y⟩:=p
 cases x with
 | none=>rfl
 | some i=>
  cases y with
  | none=>simp[dW,xQ]
  | some j=>cases h
theorem B3{a b:Rl}{o:List Pr}(h:gS dW a b o):o.length≤a.rs.length * b.rs.length:=by
 have key:∀ t∈o,∃ i j,t=(some i,some j)∧i<a.rs.length∧j<b.rs.length:=fun t F=>by
  have h1:=h.nb t F;have h2:=h.inn t F;obtain⟨x,y⟩:=t
  cases x with
  | none=>cases h1
  | some i=>
   cases y with
   | none=>simp[dW]at h1
   | some j=>exact⟨i,j,rfl,h2.1 i rfl,h2.2 j rfl⟩
 have:=jy (a.rs.length * b.rs.length) (o.map fun t=>t.1.getD 0 * b.rs.length+t.2.getD 0) (HZ.mpr (zbp (fun {x y} hx O J e=>J (by
  obtain⟨i,j,rfl,h1,h2⟩:=key x hx
  obtain⟨Y,W,rfl,Z,S⟩:=key y O
  obtain⟨rfl,rfl⟩:=zu h2 S e
  rfl)) h.nd)) (fun x hx=>by
   obtain⟨t,F,rfl⟩:=HR.mp hx
   obtain⟨i,j,rfl,h1,h2⟩:=key t F
   show i * b.rs.length+j<_
   calc i * b.rs.length+j<i * b.rs.length+b.rs.length:=by omega
    _=(i+1) * b.rs.length:=by rw[Nat.add_mul,Nat.one_mul]
    _≤a.rs.length * b.rs.length:=Nat.mul_le_mul_right _ (by omega))
 rwa [zc]at this
theorem tD{r:Rl}(ok:aY r):(bd r).rs.length≤r.rs.length:=by
 have h:=v0 (lK ok);obtain⟨h1,h2,F⟩:=fC h.n0 h.ins
 rw[eV,eQ,DU];exact vg (eI h1 h2).2.2 F
structure E9 (W:List Str) (S:Int) (n:Nat) (L:List Str→Prop) (r:Rl):Prop where
 ok:aY r
 nd:r.ws.Nodup
 so:sortedS r.ws=true
 sub:∀ y∈r.ws,y∈W
 s:r.s=S
 le:r.rs.length≤n
 lang:∀ ys,kp r ys ↔ L ys
theorem E9.least{W:List Str}{S:Int}{n:Nat}{L:List Str→Prop}{r:Rl}(h:E9 W S n L r):E9 W S n L (bd r)∧jF (bd r):=
 ⟨⟨kE h.ok,kR h.nd,lq h.so,fun y F=>h.sub y (pO F),h.s,vg (tD h.ok) h.le,fun ys=>by rw[zo h.ok h.nd]; exact h.lang ys⟩,w_ h.ok h.nd h.so⟩
theorem E9.eq{W:List Str}{S:Int}{n m:Nat}{L J:List Str→Prop}{r F:Rl}(h:E9 W S n L r)(h':E9 W S m J F)(l:jF r)(O:jF F)(e:∀ ys,L ys ↔ J ys):r=F:=
 zy l O (by rw[h.s,h'.s]) fun ys=>by rw[h.lang,h'.lang,e]
theorem E9.fit{br:Pr→Bool}{W:List Str}{S:Int}{n m:Nat}{L Y:List Str→Prop}{a b:Rl}(F:E9 W S n L a)(J:E9 W S m Y b)(Z:W.length≤16)(b0:br (some 0,some 0)=false)(h60:∀ o,gS br a b o→o.length≤60):Hr br a b:=
 ⟨F.ok,J.ok,F.nd,J.nd,by rw[F.s,J.s],b0,h60,fun us O=>by
  have:=fX (m:=W) O.1 fun x hx=>by
   rcases(O.2.1 x).mp hx with z | z
   ·exact F.sub x z
   ·exact J.sub x z
  omega⟩
theorem E9.prod{br:Pr→Bool}{W:List Str}{S:Int}{n m N:Nat}{L L':List Str→Prop}{a b:Rl}(O:E9 W S n L a)(hb:E9 W S m L' b)(Y:Hr br a b)(mono:∀ (p:Pr) (ys:List Str),br p=true→br (fF a p.1 ys,fF b p.2 ys)=true)(Z:∀ o,gS br a b o→o.length≤N){us:List Str}{M:Nat}(F:mX a b us)(so:sortedS us=true)(hM:M≤60)(e:M=(aL br a b us M).length):E9 W S N (fun ys=>br (after a 0 ys,after b 0 ys)=false) (bd (dS br a b us M))∧jF (bd (dS br a b us M)):=by
 obtain⟨J,ok⟩:=Y.rl F hM e
 refine E9.least ⟨ok,F.1,so,fun y hy=>?_,O.s,by rw[jw,e]; exact Z _ J.ord,fun ys=>BR mono J ys⟩
 rcases(F.2.1 y).mp hy with z | z
 ·exact O.sub y z
 ·exact hb.sub y z
theorem y7{W:List Str}{S:Int}{n m:Nat}{L L':List Str→Prop}{a b:Rl}{p q:Addr}{H:Hp}{Q:V→Hp→Prop}{E}(hA:tf H p a)(hB:tf H q b)(F:E9 W S n L a)(J:E9 W S m L' b)(hW:W.length≤16)(h60:n * m≤60)(k:∀ (t:Addr) (H':Hp) (c:Rl),mu H H'→tf H' t c→E9 W S (n * m) (fun ys=>L ys∧L' ys) c→jF c→Q (.ref t) H'):rA dW [.ref p,.ref q] H Q E:=by
 have hN:∀ o,gS dW a b o→o.length≤n * m:=fun o Y=>vg (B3 Y) (Nat.mul_le_mul F.le J.le)
 have Z:Hr dW a b:=F.fit J hW rfl fun o Y=>vg (hN o Y) h60
 refine⟨p,q,a,b,rfl,hA,hB,Z,fun t H' us M sm O so hM e hF=>?_⟩
 obtain⟨h1,h2⟩:=F.prod J Z Aq hN O so hM e
 refine k t H' _ sm hF.at' ⟨h1.ok,h1.nd,h1.so,h1.sub,h1.s,h1.le,fun ys=>?_⟩ h2
 rw[h1.lang,← F.lang,← J.lang];simp[dW,kp]
theorem p4{W:List Str}{S:Int}{n:Nat}{L:List Str→Prop}{a:Rl}{p:Addr}{H:Hp}{Q:V→Hp→Prop}{E}(hA:tf H p a)(F:E9 W S n L a)(k:∀ (t:Addr) (H':Hp) (c:Rl),mu H H'→tf H' t c→E9 W S n L c→jF c→Q (.ref t) H'):pF [.ref p] H Q E:=by
 refine⟨p,a,rfl,hA,F.ok,fun l lw Y H' ls Z J O a3 _ _ _ _ _=>?_⟩
 exact k l H' (bd a) Z ⟨lw,Y,ls,J,O,a3.at'⟩ F.least.1 F.least.2
theorem cS{H H':Hp}{p:Addr}{o:HO}(e:upd H p o=H')(h:H p=none):mu H H'∧H' p=some o:=⟨bj e h,bV e⟩
theorem fG{rs:List Rl}{us:List Str}(r:Nat):∀ s,∃ x,aw rs us (r+s)=aw rs us r++x
 | 0=>⟨[],by simp⟩
 | s+1=>by
  obtain⟨x,e⟩:=fG (rs:=rs) (us:=us) r s
  show ∃ x,(if r+s<(aw rs us (r+s)).length then _ else aw rs us (r+s))=_
  split
  ·obtain⟨y,F⟩:=iK (db rs us ((aw rs us (r+s)).getD (r+s) [])) (aw rs us (r+s))
   exact⟨x++y,F.trans (by rw[e,GC])⟩
  ·exact⟨x,e⟩
structure CH (rs:List Rl) (us:List Str) (M:Nat):Prop where
 ok:∀ r∈rs,aY r
 nr:∀ r∈rs,r.ws.Nodup
 ws:∀ y,y∈us ↔ ∃ r∈rs,y∈r.ws
 nd:us.Nodup
 M1:M=(aw rs us M).length
section
variable{rs:List Rl}{us:List Str}{M:Nat}
theorem CH.pos(h:CH rs us M):1≤M:=by rw[h.M1]; exact(dA h.ok us M).2.2
theorem CH.zero(h:CH rs us M):(aw rs us M)[0]? = some (List.replicate rs.length 0):=by
 obtain⟨x,e⟩:=fG (rs:=rs) (us:=us) 0 M
 rw[Gq]at e
 rw[e]; rfl
theorem CH.here(h:CH rs us M){i:Nat}(hi:i<M):i<(aw rs us i).length∧bY rs us i=(aw rs us M)[i]'(by rw[← h.M1]; exact hi):=by
 have hl:i<(aw rs us i).length:=by
  refine iO fun J=>?_
  have F:∀ k,aw rs us (i+k)=aw rs us i:=by
   intro k
   induction k with
   | zero=>rfl
   | succ k ih=>
    show (if i+k<(aw rs us (i+k)).length then _ else aw rs us (i+k))=_
    rw[HP (by rw[ih]; omega),ih]
  have e:=F (M - i);rw[show i+(M - i)=M by omega]at e
  have:=h.M1
  rw[e]at this
  omega
 refine⟨hl,?_⟩
 obtain⟨x,e⟩:=fG (rs:=rs) (us:=us) i (M - i)
 rw[show i+(M - i)=M by omega]at e
 unfold bY;rw[aJ hl];have:(aw rs us M)[i]? = some ((aw rs us i)[i]):=by rw[e,vt hl,za hl]
 rw[za (by rw[← h.M1]; exact hi)]at this
 exact(Option.some.inj this).symm
theorem CH.next(h:CH rs us M){i:Nat}(hi:i<M):aw rs us (i+1)=(db rs us (bY rs us i)).foldl b_ (aw rs us i):=by
 show (if i<(aw rs us i).length then _ else _)=_
 rw[HS (h.here hi).1]; rfl
theorem CH.inn(h:CH rs us M){t:List Nat}(F:t∈aw rs us M):FL rs t:=(dA h.ok us M).2.1 t F
theorem sB{t:List Nat}{y:Str}(J:t.length=rs.length)(F:∀ r∈rs,y∉r.ws):aR rs t y=t.map some:=by
 refine za3 fun i=>?_
 unfold aR;rw[zbe,ze]
 cases e1:rs[i]? with
 | none=>
  have:rs.length≤i:=Ig.mp e1
  rw[oQ (by omega)]; rfl
 | some r=>
  cases e2:t[i]? with
  | none=>rfl
  | some k=>
   show some (aC r k y)=some (some k)
   unfold aC;rw[HP (F r (zX e1))]
theorem pV(t:List Nat):ci (t.map some)=t:=by
 unfold ci;rw[F9];exact(GN fun k _=>rfl).trans (List.map_id' t)
theorem CH.closed(h:CH rs us M){t:List Nat}(J:t∈aw rs us M){y:Str}(O:none∉aR rs t y):ci (aR rs t y)∈aw rs us M:=by
 by_cases hy:y∈us
 ·obtain⟨i,hi,e⟩:=HN.mp J
  have F:i<M:=by rw[h.M1]; exact hi
  obtain⟨x,ex⟩:=fG (rs:=rs) (us:=us) (i+1) (M - (i+1))
  rw[show i+1+(M - (i+1))=M by omega]at ex
  rw[ex];refine mW _ ?_
  rw[h.next F,(h.here F).2,e];exact jL _ _ (HR.mpr ⟨y,hy,rfl⟩) O
 ·rw[sB (h.inn J).1 (fun r hr z=>hy ((h.ws y).mpr ⟨r,hr,z⟩)),pV]
  exact J
def dF(S:Int)(rs:List Rl)(us:List Str)(M:Nat):Rl:=⟨S,us,(List.range M).map (gy rs us)⟩
theorem gU(S:Int):(dF S rs us M).rs.length=M:=by simp[dF]
theorem CH.row(h:CH rs us M){i:Nat}(hi:i<M):gy rs us i=us.map fun y=>eT (aw rs us M) (aR rs ((aw rs us M)[i]'(by rw[← h.M1]; exact hi)) y):=by
 unfold gy db;rw[F9,(h.here hi).2];refine GN fun y F=>?_
 show eT (aw rs us (i+1)) (aR rs _ y)=_
 obtain⟨x,ex⟩:=fG (rs:=rs) (us:=us) (i+1) (M - (i+1))
 rw[show i+1+(M - (i+1))=M by omega]at ex
 conv=>rhs; arg 1; rw[ex]
 refine(Ac fun J=>?_).symm
 rw[h.next hi,(h.here hi).2];exact jL _ _ (HR.mpr ⟨y,F,rfl⟩) J
theorem CH.step(h:CH rs us M){S:Int}{i:Nat}{t:List Nat}(J:(aw rs us M)[i]? = some t)(y:Str):aC (dF S rs us M) i y=eT (aw rs us M) (aR rs t y):=by
 obtain⟨F,e⟩:=HL.mp J
 have hi:i<M:=by rw[h.M1]; exact F
 unfold aC
 by_cases hy:y∈us
 ·rw[HS (show y∈(dF S rs us M).ws from hy)]
  have hx:us.idxOf y<us.length:=HM.mpr hy
  have hr:(dF S rs us M).rs.getD i []=gy rs us i:=by
   rw[aJ (by rw[gU]; exact hi)]
   simp[dF]
  rw[hr,h.row hi,e];show (us.map _).getD (us.idxOf y) none=_
  rw[aJ (by rw[zc]; exact hx),Hu,gV]
 ·rw[HP (show y∉(dF S rs us M).ws from hy)]
  have O:=zX J;rw[sB (h.inn O).1 (fun r hr z=>hy ((h.ws y).mpr ⟨r,hr,z⟩))]
  unfold eT;rw[HP (by simp),pV,← e,(dA h.ok us M).1.idxOf_getElem i F]
theorem CH.rl(h:CH rs us M){S:Int}(hS:S=1∨S=2)(Y:M≤60)(Z:us.length≤16):aY (dF S rs us M):=by
 refine⟨hS,Z,by rw[gU]; exact h.pos,by rw[gU]; exact Y,fun x hx=>?_,fun y O=>?_⟩
 ·obtain⟨i,hi,rfl⟩:=HR.mp hx
  have F:=HV.mp hi;rw[h.row F];refine⟨by rw[zc]; rfl,fun k W=>?_⟩
  obtain⟨y,O,e⟩:=HR.mp W
  rw[gU];unfold eT at e;split at e
  ·cases e
  ·rename_i hb
   cases e;have:=h.closed (zl _) hb
   conv=>rhs; rw[h.M1]
   exact HM.mpr this
 ·obtain⟨r,hr,J⟩:=(h.ws y).mp O
  exact(h.ok r hr).lw y J
theorem CH.keeps(h:CH rs us M){S:Int}:∀ (ys:List Str) (i:Nat) (t:List Nat),(aw rs us M)[i]? = some t→(after (dF S rs us M) i ys≠none ↔ ∀ (k:Nat) r j,rs[k]? = some r→t[k]? = some j→after r j ys≠none)
 | [],i,t,ht=>⟨fun _ k r j _ _ z=>(by cases z),fun _ z=>(by cases z)⟩
 | y::ys,i,t,ht=>by
  have hm:=zX ht;have ad:=(h.inn hm).1
  have aa:∀ (k:Nat) r j,rs[k]? = some r→t[k]? = some j→(aR rs t y)[k]? = some (aC r j y):=fun k r j F O=>by
   unfold aR;rw[zbe,F,O]
  rw[cK,h.step ht]
  by_cases hb:none∈aR rs t y
  ·have e:eT (aw rs us M) (aR rs t y)=none:=by unfold eT; rw[HS hb]
   rw[e];refine⟨fun z=>absurd rfl z,fun z=>?_⟩
   obtain⟨k,hk,ek⟩:=HN.mp hb
   have Y:k<rs.length:=by unfold aR at hk; rw[zbv]at hk; omega
   have J:=aa k _ _ (za Y) (za (by omega))
   rw[za hk,ek]at J
   refine absurd ?_ (z k _ _ (za Y) (za (by omega)))
   rw[cK,← Option.some.inj J]; rfl
  ·have hc:=h.closed hm hb
   have hx:=HM.mpr hc;have e:eT (aw rs us M) (aR rs t y)=some ((aw rs us M).idxOf (ci (aR rs t y))):=by unfold eT; rw[HP hb]
   rw[e];show after (dF S rs us M) ((aw rs us M).idxOf (ci (aR rs t y))) ys≠none ↔ _
   rw[h.keeps ys _ _ (by rw[za hx,gV])]
   have Z:∀ (k:Nat) r j,rs[k]? = some r→t[k]? = some j→∃ W,aC r j y=some W∧(ci (aR rs t y))[k]? = some W:=fun k r j F O=>by
    have J:=aa k r j F O
    cases e4:aC r j y with
    | none=>rw[e4]at J; exact absurd (zX J) hb
    | some W=>
     refine⟨W,rfl,?_⟩
     unfold ci;rw[ze,J,e4]; rfl
   constructor
   ·intro z k r j F O
    obtain⟨W,g1,g2⟩:=Z k r j F O
    rw[cK,g1];exact z k r W F g2
   ·intro z k r W F O
    have hk:k<rs.length:=(HL.mp F).1
    obtain⟨ag,g1,g2⟩:=Z k r _ F (za (by omega))
    rw[g2]at O
    have J:=z k r _ F (za (by omega))
    rw[cK,g1,Option.some.inj O]at J
    exact J
theorem CH.lang(h:CH rs us M){S:Int}(ys:List Str):kp (dF S rs us M) ys ↔ ∀ r∈rs,kp r ys:=by
 unfold kp;rw[h.keeps ys 0 _ h.zero]
 constructor
 ·intro z r hr
  obtain⟨k,J,e⟩:=HN.mp hr
  exact z k r 0 (by rw[za J,e]) (by rw[Hi,HS J])
 ·intro z k r j O F
  rw[Hi]at F
  split at F
  ·cases F; exact z r (zX O)
  ·cases F
end
def T(x:Str):List Nat:=x.cps.toList
theorem Bh(x y:Str):T (x++y)=T x++T y:=by
 show (x.cps++y.cps).toList=_
 simp[T]
theorem jQ(x:Str):(T x).length=x.length:=by simp[T,Str.length]
theorem rH{α : Type}{ss:List α}{R:Nat→α→Prop}{i:Nat}{x:α}(J:ss.length=i)(h:∀ (k:Nat) s,ss[k]? = some s→R k s)(hx:R i x):∀ (k:Nat) s,(ss++[x])[k]? = some s→R k s:=by
 intro k s e
 rcases x6 k ss.length with z | z
 ·rw[vt z]at e; exact h k s e
 ·rw[yS z]at e
  have F:k - ss.length=0:=by
   have:=(HL.mp e).1
   simp at this; omega
  rw[F]at e
  have:x=s:=by simpa using e
  subst this;rw[show k=i by omega]; exact hx
section
variable{P:Program}{w:World}{K:W.Frag}{mg:Str→Option Value}{base:Heap}
def lh(z:Int):Nat:=D9.cps.toList.getD (z % 26).toNat 0
theorem vo(z:Int):D9.length≤sizeLine∧eK D9.cps.toList (z % 26)=some (lh z):=by
 have hz:(z % 26).toNat<D9.cps.toList.length:=by
  show (z % 26).toNat<26
  omega
 refine⟨by decide,?_⟩
 have q:=aE (za hz);rw[show (((z % 26).toNat:Nat):Int)=z % 26 by omega]at q
 rw[q];unfold lh;rw[zp,za hz]; rfl
theorem yU{y z:Int}(h:lh y=lh z):y % 26=z % 26:=by
 have key:∀ i j:Fin 26,D9.cps.toList.getD i.val 0=D9.cps.toList.getD j.val 0→i=j:=by decide +kernel
 have:=key ⟨(y % 26).toNat,by omega⟩ ⟨(z % 26).toNat,by omega⟩ h
 have:=congrArg Fin.val this
 simp only[]at this
 omega
theorem wI(x:Str)(c:Nat):(x++(⟨#[c]⟩ : Str)).cps.toList=x.cps.toList++[c]:=by
 show (x.cps ++ #[c]).toList=_
 simp
def sD:Sp:=fun vs H Q _=>∃ (c:Int) (n:Nat) (sd:Int),vs=[.int c,.int n,.int sd]∧n≤26∧(sd=1∨sd=2)∧∀ (p:Addr) (H':Hp) (ss:List Str),mu H H'→H p=none→H' p=some (.lst (ss.map V.str))→ss.length=n→(∀ x∈ss,x.length≤10)→ss.Nodup→Q (.ref p) H'
theorem vh(D:AS K mg "_law_words" aW) (O:mg "range" = none) (ag:mg "int" = none) (as:mg "str" = none) (J:C9 P w K mg base 1 "_law_mixed" ["_law_cell", "_law_many"] oY):C9 P w K mg base 2 "_law_words" ["_law_cell", "_law_many", "_law_sides"] sD:=by
 refine D.cal A7 (fun _ _ _ _ _ _ us hl=>match us,hl with | [_,_,_],_=>rfl) (fun vs H Q E h=>by obtain⟨c,n,sd,rfl,_⟩:=h; rfl) (fun f bB A outer s H vs Q E hr h=>?_)
 obtain⟨c,n,sd,rfl,b5,a8,q⟩:=h
 refine⟨_,(af (ap 3 A7.nd cI)
   (af (ap 4 A7.nd (aO J hr (ac (pv 0) (ac ah ae))))
   (af (ap 5 A7.nd (aB bx ah (aB cx (aD (aZ K) (pv 4) ah (fun _ _=>rfl)) ah)))
   (af (ap 6 A7.nd (aB cx (aD (aZ K) (pv 4) ah (fun _ _=>rfl)) (pv 5)))
   (af (ap 7 A7.nd (bu ae))
   (af (dj rG rfl (dk DS O (ac (pv 1) ae)) (aU 8 A7.nd) (af (ap 9 A7.nd cI)
   (af (dj rG rfl (dk DS O (ac (pv 5) ae)) (aU 10 A7.nd) (am (ap 9 A7.nd (aB bx (pv 9) (aD (aZ K) (pv 3) (aB cx (aB bx (aD (aZ K) (pv 4) (aB bx ah (pv 10)) (fun _ _=>rfl)) (aB j4 (pv 8) (iG wW ag Et (ac (ip jE (pv 10) (pv 6) (bt _)) ae)))) ah) (fun _ _=>rfl))))))
   (af (cC (ba jE (pv 2) ah (bt _)) (am (ap 9 A7.nd (aB bx (aB bx (iG yF as Ek (ac (aB bx ah (aB cx (aB dJ (aD (aZ K) (pv 4) (aB bx ah (aB cx (pv 8) ah)) (fun _ _=>rfl)) ah) ah)) ae)) cI) (pv 9)))) bI)
   (am (c8 (dw K FZ Gy Gw cL (pv 7) (ac (pv 9) ae))))))))
   (am (aV (pv 7))))))))),?_⟩
 walk_at "r";walk_at "n";refine⟨c,10,rfl,by decide,by decide,fun xp H1 F a3 b4 a0 b3 b2=>?_⟩
 have item:∀ {H':Hp} (i:Nat),mu H1 H'→i<10→∃ xs,(rd K H' xp xs∨C3 K H' xp xs)∧eK xs (i:Int)=some (.int (F.getD i 0)):=fun {H'} i sm h1=>
  ⟨_,.inl (rd.of (sm _ _ a0)),aE (by rw[ze,zp,za (by omega)]; rfl)⟩
 walk_at "n";obtain⟨xs,h1,h2⟩:=item 0 (mu.refl H1) (by decide)
 refine⟨xs,_,h1,h2,?_⟩
 walk_at "r";refine⟨by decide,?_⟩
 have a1:∃ z:Nat,1+F.getD 0 0 % 8=(z:Int)∧1≤z∧z≤8:=⟨(1+F.getD 0 0 % 8).toNat,by omega,by omega,by omega⟩
 obtain⟨sz,a9,bA,bS⟩:=a1
 rw[a9];walk_at "n";obtain⟨xs,h1,h2⟩:=item 9 (mu.refl H1) (by decide)
 refine⟨xs,_,h1,h2,?_⟩
 walk_at "r";refine⟨by omega,?_⟩
 have a6:∃ z:Nat,F.getD 9 0 % (sz:Int)=(z:Int)∧z<sz:=⟨(F.getD 9 0 % (sz:Int)).toNat,by have:=zbt (F.getD 9 0) (show (sz:Int)≠0 by omega); omega,by have:=zbM (F.getD 9 0) (show (0:Int)<sz by omega); have:=zbt (F.getD 9 0) (show (sz:Int)≠0 by omega); omega⟩
 obtain⟨at',bp,a5⟩:=a6
 rw[bp];walk_at "n";refine⟨by decide,fun p hp=>?_⟩
 generalize hH2:upd H1 p _=H2
 have bz:=bj hH2 hp;have e2:=bV hH2;walk_at "n";refine⟨by omega,by omega,?_⟩
 refine gC (fun i σ H'=>∃ (ss:List Str) (o7 o8 o9:Option V),σ=[some (.int c),some (.int n),some (.int sd),some (.str D9),some (.ref xp),some (.int sz),some (.int at'),some (.ref p),o7,o8,o9]∧mu H1 H'∧H' p=some (.lst (ss.map V.str))∧ss.length=i∧(∀ x∈ss,x.length≤10)∧∀ (k:Nat) x,ss[k]? = some x→x.cps.toList[at'+if sd=2 then 2 else 0]? = some (lh (F.getD (1+at') 0+k * 1)))
  ⟨[],none,none,none,rfl,bz,e2,rfl,by simp,by simp⟩ ?_ ?_
 ·rintro i σ H' hi ⟨ss,o7,o8,o9,rfl,sm,hl,W,an,Z⟩
  rw[uT]at hi
  walk_at "r";walk_at "n";refine⟨by omega,by omega,?_⟩
  refine gC (fun j σ H2=>∃ (x:Str) (o8:Option V),σ=[some (.int c),some (.int n),some (.int sd),some (.str D9),some (.ref xp),some (.int sz),some (.int at'),some (.ref p),some (.int (0+(i:Int))),some (.str x),o8]∧H'=H2∧x.length=j∧(at'<j→x.cps.toList[at']? = some (lh (F.getD (1+at') 0+i * 1))))
   ⟨_,_,rfl,rfl,rfl,fun h=>absurd h (by omega)⟩ ?_ ?_
  ·rintro j σ H2 hj ⟨x,o8,rfl,rfl,hx,Y⟩
   rw[uT]at hj
   walk_at "r";obtain⟨xs,h1,h2⟩:=item (1+j) sm (by omega)
   rw[show ((1+j:Nat):Int)=1+(0+(j:Int)) by omega]at h2
   refine⟨xs,_,h1,h2,.inl ⟨by omega,by omega⟩,?_⟩
   walk_at "r";obtain⟨l1,l2⟩:=vo (F.getD (1+j) 0+(0+(i:Int)) * if 0+(j:Int)=(at':Int) then 1 else 0)
   refine⟨by decide,_,l1,l2,?_,x++⟨#[lh (F.getD (1+j) 0+(0+(i:Int)) * if 0+(j:Int)=(at':Int) then 1 else 0)]⟩,_,rfl,?_,fun b6=>?_⟩
   ·show x.length+1≤sizeLine
    exact bG (by omega)
   ·rw[AQ,hx]
   ·have a0:x.cps.toList.length=j:=by rw[y0]; exact hx
    rw[wI];rcases x6 at' j with g | g
    ·rw[vt (by omega)]; exact Y g
    ·have e:at'=j:=by omega
     subst e;rw[yS (by omega),a0,Nat.sub_self,HS (by omega),Ho]; rfl
  ·rintro σ H2 ⟨x,o8,rfl,rfl,hx,Y⟩
   rw[uT]at hx Y
   dsimp only
   refine jC (fun σ' H2=>∃ (y:Str),σ'=[some (.int c),some (.int n),some (.int sd),some (.str D9),some (.ref xp),some (.int sz),some (.int at'),some (.ref p),some (.int (0+(i:Int))),some (.str y),o8]∧H'=H2∧y.length≤10∧y.cps.toList[at'+if sd=2 then 2 else 0]? = some (lh (F.getD (1+at') 0+i * 1))) (fun k hk=>?_) ?_
   ·rcases a8 with rfl | rfl
    ·walk_at "r"
     refine bH (fun c=>absurd c (by decide)) (fun _=>?_)
     exact hk _ _ ⟨x,rfl,rfl,by omega,Y a5⟩
    ·walk_at "r"
     obtain⟨xs,h1,h2⟩:=item (1+i % 8) sm (by omega)
     rw[show ((1+i % 8:Nat):Int)=1+(0+(i:Int)) % 8 by omega]at h2
     refine⟨by decide,xs,_,h1,h2,?_⟩
     walk_at "r";have hd:1+F.getD (1+i % 8) 0 / 64 % 2=1∨1+F.getD (1+i % 8) 0 / 64 % 2=2:=by omega
     have a4:(Str.ofString (toString (1+F.getD (1+i % 8) 0 / 64 % 2))).length=1:=by rcases hd with e | e <;> rw[e] <;> decide +kernel
     have be:(1+F.getD (1+i % 8) 0 / 64 % 2).natAbs.log2<1920:=by rcases hd with e | e <;> rw[e] <;> decide +kernel
     have aa:(Str.ofString ".").length=1:=by decide +kernel
     have S:(Str.ofString (toString (1+F.getD (1+i % 8) 0 / 64 % 2))++Str.ofString ".").length=2:=by rw[← jQ,Bh,zV,jQ,jQ,a4,aa]
     have ad:T (Str.ofString (toString (1+F.getD (1+i % 8) 0 / 64 % 2))++Str.ofString "." ++ x)=T (Str.ofString (toString (1+F.getD (1+i % 8) 0 / 64 % 2))++Str.ofString ".")++T x:=Bh _ _
     refine⟨⟨by decide,by decide⟩,by decide,be,by rw[a4,aa]; exact bG (by decide),by rw[S]; exact bG (by omega),?_⟩
     refine hk _ _ ⟨_,rfl,rfl,?_,?_⟩
     ·rw[← jQ,ad,zV,jQ,jQ,S]; omega
     ·show (T _)[at'+2]? = _
      rw[ad,yS (by rw[jQ,S]; omega),jQ,S,Nat.add_sub_cancel]
      exact Y a5
   rintro σ' H2 ⟨y,rfl,rfl,a2,a7⟩
   walk_at "n";refine⟨⟨_,rd.of hl⟩,_,hl,by rw[zc]; exact cH (by omega),?_⟩
   refine⟨ss++[y],_,_,_,rfl,sm.upd hp _,by rw[ak,z9]; rfl,by simp[W],fun z hz=>?_,rH W Z a7⟩
   rcases HX.mp hz with z' | z'
   ·exact an z z'
   ·rw[HQ.mp z']; exact a2
 ·rintro σ H' ⟨ss,o7,o8,o9,rfl,sm,hl,W,an,Z⟩
  rw[uT]at W
  walk_at "n";refine q p H' ss (a3.trans sm) (a3.free hp) hl W an ?_
  rw[List.nodup_iff_pairwise_ne,Ih];intro a b ha hb b1 e
  have h1:=Z a _ (za ha);have h2:=Z b _ (za hb);rw[e,h2]at h1
  have h3:=yU (Option.some.inj h1);omega
end
theorem zj(l:List Int)(c:Int)(h:l.length=4)(F:∀ x∈l,0<x∧x<1073741824):∃ v,eK (l.map V.int) (c % 4)=some (.int v)∧0<v∧v<1073741824:=by
 obtain⟨v,hv,_⟩:=Dl (xs:=l) (i:=c % 4) (by omega) (by omega)
 exact⟨v,xP (by omega) hv,(F v (zX hv)).1,(F v (zX hv)).2⟩
theorem Fk{xs:List V}{i:Nat}(h:i<xs.length):mH xs.length (0+(i:Int))=some i:=by
 unfold mH;rw[HS (by omega),HS (by omega)]
 congr 1
 omega
section
variable{P:Program}{w:World}{K:W.Frag}{mg:Str→Option Value}{base:Heap}
def uw(K:W.Frag):Sp:=fun vs H Q _=>∃ (cp:Addr) (cs:List Int) (sz mn:Nat) (c:Int),vs=[.ref cp,.int sz,.int mn,.int c]∧rd K H cp (cs.map V.int)∧1≤sz∧sz≤6∧mn≤3∧∀ (p:Addr) (H':Hp) (as:List Addr) (rs:List (List (Option Nat))),mu H H'→H p=none→NR H H' p rs as→rs.length=sz→(∀ x∈rs,x.length=mn∧∀ k,some k∈x→k<sz)→Q (.ref p) H'
theorem Ah(D:AS K mg "_law_rooms" aH) (F:mg "range" = none) (a4:mg "len" = none) (a0:mg "min" = none) (O:C9 P w K mg base 1 "_law_mixed" ["_law_cell", "_law_many"] oY) (W:C9 P w K mg base 1 "_law_way" ["_law_number", "_law_share", "_law_many"] Be):C9 P w K mg base 2 "_law_rooms" ["_law_cells", "_law_size", "_law_many", "_law_cell"] (uw K):=by
 refine D.cal D4 (fun _ _ _ _ _ _ us hl=>match us,hl with | [_,_,_,_],_=>rfl) (fun vs H Q E h=>by obtain⟨_,_,_,_,_,rfl,_⟩:=h; rfl) (fun f ca A outer s H vs Q E hr h=>?_)
 obtain⟨cp,cs,sz,J,c,rfl,be,z0,z1,m1,q⟩:=h
 refine⟨_,(af (ap 4 D4.nd (aD (aZ K) (bu (ac ah (ac ah (ac ah (ac ah ae))))) (aB cx (pv 3) ah) (fun _ _=>rfl)) (hx:=Jm))
   (af (ap 5 D4.nd (aO O hr (ac (pv 3) (ac (aB j4 (pv 2 (hv:=DB)) (pv 1 (hv:=Ap))) ae))) (hx:=IL))
   (af (dj rG rfl (dk C6 F (ac (a_ xi a0 EX (ac (a_ (bq K) a4 ce (ac (pv 0) ae)) (ac (aB j4 (pv 2 (hv:=DB)) (pv 1 (hv:=Ap))) ae))) ae)) (aU 6 D4.nd) (am (fu (aB cx (aD (aZ K) (pv 0) (pv 6) (fun _ _=>rfl)) ah) (gk (pv 5 (hv:=Hh)) (pv 6) Fl))))
   (am (aV (sr (E8.to (fsc:=(h8 aH)) (N:=["_law_cells", "_law_size", "_law_many", "_law_cell", "_law_share", "_law_xs", "_law_k"]) (N0:=["_law_cells", "_law_size", "_law_many", "_law_cell", "_law_share", "_law_xs", "_law_k"]) (T:=["_law_r"]) ⟨by decide +kernel,by decide +kernel,by decide +kernel,by decide +kernel,by decide +kernel,by decide +kernel⟩ rfl rfl) rfl (dk C6 F (ac (pv 1 (hv:=Ap)) ae)) (fun _ _ _ _=>(aU 7 (show (["_law_cells", "_law_size", "_law_many", "_law_cell", "_law_share", "_law_xs", "_law_k", "_law_r"]:List Str).Nodup from by decide +kernel) (hx:=(AY (h8 aH) (by decide +kernel))) (hf:=EB (h8 aH) (by decide +kernel)))) (bN (show (["_law_cells", "_law_size", "_law_many", "_law_cell", "_law_share", "_law_xs", "_law_k"]:List Str).length≤7 from by decide)) (fun _ _ _ _=>bR) (fun _ _ _ _=>(cX (CW.to (fsc:=(bi _ (h8 aH))) (N:=["_law_cells", "_law_size", "_law_many", "_law_cell", "_law_share", "_law_xs", "_law_k", "_law_r"]) (N0:=["_law_cells", "_law_size", "_law_many", "_law_cell", "_law_share", "_law_xs", "_law_k", "_law_r"]) (T:=["_law_j"]) ⟨by decide +kernel,by decide +kernel,by decide +kernel,by decide +kernel,by decide +kernel,by decide +kernel,by decide +kernel⟩ rfl rfl) rfl (dk (zO (h8 aH) (by decide +kernel)) F (ac (pv 2 (hv:=(vN (h8 aH) (by decide +kernel)))) ae)) (fun _ _ _ _=>(aU 8 (show (["_law_cells", "_law_size", "_law_many", "_law_cell", "_law_share", "_law_xs", "_law_k", "_law_r", "_law_j"]:List Str).Nodup from by decide +kernel) (hx:=(dG (bi _ (h8 aH)) (e:=rfl) (by decide +kernel))) (hf:=fm (bi _ (h8 aH)) (e:=rfl) (by decide +kernel)))) (bN (show (["_law_cells", "_law_size", "_law_many", "_law_cell", "_law_share", "_law_xs", "_law_k", "_law_r"]:List Str).length≤8 from by decide)) (fun _ _ _ _=>bR) (fun _ _ _ _=>(aO W hr (ac (aD (aZ K) (pv 5 (hv:=(bP (bi _ (h8 aH)) (e:=rfl) (by decide +kernel)))) (aB bx (aB j4 (pv 2 (hv:=(bP (bi _ (h8 aH)) (e:=rfl) (by decide +kernel)))) (pv 7 (hv:=(bP (bi _ (h8 aH)) (e:=rfl) (by decide +kernel))))) (pv 8 (hv:=(bP (bi _ (h8 aH)) (e:=rfl) (by decide +kernel))))) (fun _ _=>rfl)) (ac (pv 4 (hv:=(bP (bi _ (h8 aH)) (e:=rfl) (by decide +kernel)))) (ac (pv 1 (hv:=(bP (bi _ (h8 aH)) (e:=rfl) (by decide +kernel)))) ae))) (hg:=(sw (bi _ (h8 aH)) (e:=rfl) (by decide +kernel))))))))))))),?_⟩
 walk_at "r";refine⟨by decide,fun sp b6=>?_⟩
 have s1:=ay b6 (.lst [V.int 2,V.int 9,V.int 19,V.int 101]);have e1:upd H sp (.lst [V.int 2,V.int 9,V.int 19,V.int 101]) sp=some (.lst ([2,9,19,101].map V.int)):=ak
 generalize upd H sp (.lst [V.int 2,V.int 9,V.int 19,V.int 101])=H1 at s1 e1 ⊢;obtain⟨sh,b1,b3,bS⟩:=zj [2,9,19,101] c rfl (by decide)
 refine⟨by decide,_,_,.inl (rd.of e1),b1,?_⟩
 walk_at "n";have ag:(J:Int) * sz=((J * sz:Nat):Int):=by simp
 have b9:J * sz≤18:=vg (Nat.mul_le_mul m1 z1) (by decide)
 refine⟨.inl ⟨by omega,by omega⟩,_,_,rfl,by rw[ag]; omega,by rw[ag]; omega,fun xp H2 ms s2 b4 b8 bB cf=>?_⟩
 walk_at "n";have bp:=(s1.trans s2).seq be;refine⟨_,.inl bp,.inl ⟨by omega,by omega⟩,?_⟩
 have hb:∃ b:Nat,(if (J:Int) * sz<((cs.map V.int).length:Int) then (J:Int) * sz else ((cs.map V.int).length:Int))=(b:Int)∧b≤J * sz∧b≤cs.length:=by
  rw[ag,zc];split
  ·exact⟨J * sz,rfl,zg _,by omega⟩
  ·exact⟨cs.length,rfl,by omega,zg _⟩
 obtain⟨b,eb,cb,cd⟩:=hb
 rw[eb];have a9:ms.length=J * sz:=by rw[ag]at bB; omega
 refine⟨by omega,by omega,?_⟩
 refine gC (fun i σ H'=>∃ (S:List Int) (o6:Option V),σ=[some (.ref cp),some (.int sz),some (.int J),some (.int c),some (.int sh),some (.ref xp),o6]∧mu H H'∧H' xp=some (.lst (S.map V.int))∧S.length=J * sz) ⟨ms,none,rfl,s1.trans s2,b8,a9⟩ ?_ ?_
 ·rintro i σ H' hi ⟨S,o6,rfl,sm,hl,hn⟩
  rw[uT]at hi
  walk_at "r"
  have a6:eK (cs.map V.int) (0+(i:Int))=some (.int (cs.getD i 0)):=by
   rw[Ho];exact aE (by rw[ze,zp,za (by omega)]; rfl)
  refine⟨_,_,.inl (sm.seq be),a6,?_⟩
  walk_at "r";exact⟨by decide,_,i,hl,Fk (by rw[zc]; omega),S.set i (cs.getD i 0 % 998244353),_,rfl,sm.upd (s1.free b4) _,by rw[ak,List.map_set],by rw[List.length_set]; exact hn⟩
 rintro σ H3 ⟨S,o6,rfl,s3,b5,b7⟩
 walk_at "n";refine⟨by omega,by omega,fun L hL=>?_⟩
 refine fq (fun i ys H'=>∃ (Z:List Addr) (rs:List (List (Option Nat))),mu H3 H'∧H' L=some (.lst ys)∧ys=Z.map V.ref∧Z.length=i∧rs.length=i∧(∀ (k:Nat) a x,Z[k]? = some a→rs[k]? = some x→H' a=some (.lst (x.map ar))∧a≠L)∧(∀ a∈Z,H3 a=none)∧Z.Nodup∧∀ x∈rs,x.length=J∧∀ k,some k∈x→k<sz) ⟨[],[],ay hL _,ak,rfl,rfl,rfl,by simp,by simp,GQ,by simp⟩ ?_ ?_
 ·rintro i ys H' hi ⟨Z,rs,sm,hl,rfl,a5,bz,has,a1,a3,a7⟩
  have aa:i<sz:=by omega
  walk_at "r";refine⟨by omega,by omega,fun L2 ad=>?_⟩
  have nL:L2≠L:=zB (au hl ad)
  refine fq (fun j ys an=>∃ x:List (Option Nat),mu H' an∧an L2=some (.lst ys)∧ys=x.map ar∧x.length=j∧∀ k,some k∈x→k<sz) ⟨[],ay ad _,ak,rfl,rfl,by simp⟩ ?_ ?_
  ·rintro j ys an hj ⟨x,Y,a8,rfl,hx,a2⟩
   have cc:j<J:=by omega
   have bA:J * i+j<S.length:=by
    rw[b7]
    calc J * i+j<J * i+J:=by omega
     _=J * (i+1):=by rw[Nat.mul_add,Nat.mul_one]
     _≤J * sz:=Nat.mul_le_mul_left _ aa
   have a6:eK (S.map V.int) ((J:Int) * (0+(i:Int))+(0+(j:Int)))=some (.int S[J * i+j]):=by
    rw[show (J:Int) * (0+(i:Int))+(0+(j:Int))=((J * i+j:Nat):Int) by simp]
    exact aE (by rw[ze,za bA]; rfl)
   walk_at "r";refine⟨.inl ⟨by omega,by omega⟩,_,_,.inl (rd.of ((sm.trans Y) _ _ b5)),a6,?_⟩
   refine⟨_,sh,sz,rfl,b3,bS,by omega,by omega,fun o ho=>?_⟩
   exact df (by omega) (by rw[zc]; exact hx) (bG (by omega)) a8 ⟨x++[o],Y.upd ad _,ak,by simp,by simp[hx],fun k hk=>by
    rcases HX.mp hk with z | z
    ·exact a2 k z
    ·have:=ho k (HQ.mp z).symm
     omega⟩
  rintro ys an ⟨x,Y,a8,rfl,hx,a2⟩
  refine df (by omega) (by rw[zc]; exact a5) (bG (by omega)) (Y _ _ hl) ⟨Z++[L2],rs++[x],(sm.trans Y).upd hL _,ak,by simp,by simp[a5],by simp[bz],fun k a y e1 e2=>?_,fun a ha=>?_,?_,fun y hy=>?_⟩
  ·by_cases hk:k<Z.length
   ·rw[vt hk]at e1
    rw[vt (by omega)]at e2
    obtain⟨g1,g2⟩:=has k a y e1 e2
    exact⟨by rw[al g2]; exact Y _ _ g1,g2⟩
   ·have b2:k=Z.length:=by have:=(HL.mp e1).1; simp at this; omega
    subst b2;rw[yS (zg _)]at e1
    rw[show Z.length=rs.length by omega,yS (zg _)]at e2
    simp at e1 e2
    subst e1 e2;exact⟨by rw[al nL]; exact a8,nL⟩
  ·rcases HX.mp ha with z | z
   ·exact a1 a z
   ·rw[HQ.mp z]; exact sm.free ad
  ·refine Ie.mpr ⟨a3,by simp,fun x hx y hy e=>?_⟩
   rw[HQ.mp hy]at e
   obtain⟨i',aa,e'⟩:=HN.mp hx
   have z:=(has i' x _ (by rw[za aa,e']) (za (by omega))).1
   rw[e,ad]at z; cases z
  ·rcases HX.mp hy with z | z
   ·exact a7 y z
   ·rw[HQ.mp z]; exact⟨by omega,a2⟩
 rintro ys H4 ⟨Z,rs,sm,hl,rfl,a5,bz,has,a1,a3,a7⟩
 refine q L H4 Z rs (s3.trans sm) (s3.free hL) ⟨⟨hl,by omega,fun i a x e1 e2=>(has i a x e1 e2).1⟩,fun a ha=>⟨s3.free (a1 a ha),fun z=>?_⟩,a3⟩ (by omega) a7
 obtain⟨i',aa,e'⟩:=HN.mp ha
 exact(has i' a _ (by rw[za aa,e']) (za (by omega))).2 z
def Eo(H:Hp)(p:Addr)(r:Rl)(W:Addr):Prop:=∃ pw pr as,H p=some (.tup [.int r.s,.ref pw,.ref pr])∧H pw=some (.lst (r.ws.map V.str))∧vr H pr r.rs as∧pw≠W∧pr≠W∧W∉as
theorem Eo.to{H:Hp}{p W:Addr}{r:Rl}(h:Eo H p r W):tf H p r:=by
 obtain⟨F,pr,O,h1,h2,J,_⟩:=h
 exact⟨F,pr,O,h1,h2,J⟩
theorem Eo.mono{H H':Hp}{p W:Addr}{r:Rl}(h:Eo H p r W)(F:mu H H'):Eo H' p r W:=by
 obtain⟨S,pr,J,h1,h2,O,Y⟩:=h
 exact⟨S,pr,J,F _ _ h1,F _ _ h2,O.mono F,Y⟩
theorem Eo.put{H:Hp}{p W:Addr}{r:Rl}{xs:List V}{u:HO}(h:Eo H p r W)(Z:H W=some (.lst xs)):Eo (upd H W u) p r W:=by
 obtain⟨pw,pr,S,h1,h2,Y,O,J,F⟩:=h
 exact⟨pw,pr,S,by rw[al (fun z=>by rw[z,Z]at h1; cases h1)]; exact h1,by rw[al O]; exact h2,Y.other J F,O,J,F⟩
theorem xn{xs:List Str}(nd:xs.Nodup)(J:xs.length=6){st m:Nat}(F:st<6)(O:m≤3):(((xs++xs).drop st).take m).Nodup∧(∀ x∈((xs++xs).drop st).take m,x∈xs)∧(((xs++xs).drop st).take m).length≤3:=by
 have e:((xs++xs).drop st).take m=(xs.drop st++xs.take st).take m:=by
  rw[List.drop_append_of_le_length (by omega)]
  conv=>lhs; rw[show xs.drop st++xs=(xs.drop st++xs.take st)++xs.drop st by rw[GC,GT]]
  rw[List.take_append_of_le_length (by rw[zV,GL,vc]; omega)]
 refine⟨?_,fun x hx=>?_,by rw[vc]; omega⟩
 ·rw[e]
  refine List.Nodup.sublist (zbA _ _) ?_
  have pm:(xs.drop st++xs.take st).Perm xs:=by
   have:=List.perm_append_comm (l₁:=xs.drop st) (l₂:=xs.take st)
   rwa [GT]at this
  exact pm.nodup_iff.mpr nd
 ·have:=List.mem_of_mem_drop (GU hx)
  simpa using this
theorem y4(xs:List V)(i j:Nat):dP xs (some (i:Int)) (some (j:Int))=(xs.take j).drop i:=by
 unfold dP;rw[HT.sIx_nat,HT.sIx_nat,List.drop_take];rcases x6 xs.length i with h | h
 ·rw[zbT (by omega),zbT (by omega)]; simp
 ·rcases x6 xs.length j with h2 | h2
  ·rw[show min i xs.length=i by omega,show min j xs.length=xs.length by omega,Gd (by simp),Gd (by simp; omega)]
  ·rw[show min i xs.length=i by omega,show min j xs.length=j by omega]
theorem sC(xs:List V)(lo n:Nat)(S:1≤n):(jP xs (some (lo:Int)) none (some (n:Int))).length≤xs.length:=by
 unfold jP;refine vg (List.length_filterMap_le _ _) ?_
 have J:∃ st:Int,0≤st∧sliceBounds (some (lo:Int)) none (some (n:Int)) xs.length=(st,(xs.length:Int),(n:Int)):=by
  refine⟨max 0 (min (lo:Int) xs.length),by omega,?_⟩
  have F:(n:Int)>0:=by omega
  show (_,_,_)=_
  simp only[sliceBounds,Option.getD_some,F,if_true]
  rw[HP (by omega)]
 obtain⟨st,O,e⟩:=J
 rw[e];unfold sliceRange;rw[zc,iP]
 dsimp only
 rw[HS (by omega)]
 split
 ·rename_i h
  have:((xs.length:Int) - st+n - 1) / n≤xs.length - st:=by
   refine Int.le_of_lt_add_one (Int.ediv_lt_of_lt_mul (by omega) ?_)
   have h1:((xs.length:Int) - st+1) * n=((xs.length:Int) - st) * n+n:=by rw[Int.add_mul,Int.one_mul]
   have h2:((xs.length:Int) - st) * 1≤((xs.length:Int) - st) * n:=Int.mul_le_mul_of_nonneg_left (by omega) (by omega)
   rw[h1];omega
  omega
 ·simp
theorem wO{ns:List Int}{lo hi st:Option Int}:∃ J:List Int,jP (ns.map V.int) lo hi st=J.map V.int:=by
 have h:∀ F:List V,(∀ v∈F,v∈ns.map V.int)→∃ J:List Int,F=J.map V.int:=by
  intro F
  induction F with
  | nil=>exact fun _=>⟨[],rfl⟩
  | cons v F ih=>
   intro h
   obtain⟨J,e⟩:=ih fun u O=>h u (zU _ O)
   obtain⟨z,_,S⟩:=HR.mp (h v wZ)
   exact⟨z::J,by rw[e,← S]; rfl⟩
 exact h _ fun v hv=>As hv
theorem ny:∀ (rs:List Rl) (F:List Nat),rs.length≤F.length→(∀ c∈F,1≤c)→(∀ (k:Nat) r,rs[k]? = some r→r.rs.length≤F.getD k 1)→cE rs≤F.foldr (· * ·) 1
 | [],[],_,_,_=>zg _
 | [],c::F,_,h1,_=>by
  have ih:=ny [] F (yT _) (fun c J=>h1 c (zU _ J)) (fun k r e=>by simp at e)
  show 1≤c * F.foldr (· * ·) 1
  exact Nat.mul_le_mul (h1 c wZ) ih
 | r::rs,[],h,_,_=>by simp at h
 | r::rs,c::F,h,h1,h2=>by
  have ih:=ny rs F (by simpa using h) (fun c J=>h1 c (zU _ J)) (fun k r e=>by have:=h2 (k+1) r (by simpa using e); simpa using this)
  show r.rs.length * cE rs≤c * F.foldr (· * ·) 1
  exact Nat.mul_le_mul (by have:=h2 0 r rfl; simpa using this) ih
theorem sq:∀ (rs:List Rl),(∀ r∈rs,r.ws.length≤3)→(rs.flatMap (·.ws)).length≤3 * rs.length
 | [],_=>yT _
 | r::rs,h=>by
  have ih:=sq rs fun r hr=>h r (zU _ hr)
  rw[List.flatMap_cons,zV,vR];have:=h r wZ
  omega
def FU:List Nat:=[3,3,3,2]
structure j5 (rs:List Rl) (sd:Int):Prop where
 n1:1≤rs.length
 n4:rs.length≤4
 ok:∀ r∈rs,aY r∧r.ws.Nodup∧sortedS r.ws=true∧r.s=sd
 pr:cE rs≤60
 fl:(rs.flatMap (·.ws)).length≤20
 w16:∀ ts,fY ts rs→ts.length≤16
def q9(K:W.Frag):Sp:=fun vs H Q _=>∃ (a wl:Addr) (ns:List Int) (xs:List Str) (sd:Int),vs=[.ref a,.ref wl,.int sd]∧rd K H a (ns.map V.int)∧ns.length≤63∧H wl=some (.lst (xs.map V.str))∧xs.length=6∧(∀ x∈xs,x.length≤10)∧xs.Nodup∧(sd=1∨sd=2)∧∀ (p:Addr) (H':Hp) (nms:List Str) (rs:List Rl),mu H H'→DZ H' p nms rs→j5 rs sd→Q (.ref p) H'
theorem Aa(D:AS K mg "_law_rules" aS) (an:mg "range" = none) (bB:mg "len" = none) (Y:mg "sorted" = none) (F:C9 P w K mg base 1 "_law_cell_at" ["_law_script", "_law_k"] (n9 K)) (J:C9 P w K mg base 2 "_law_rooms" ["_law_cells", "_law_size", "_law_many", "_law_cell"] (uw K)):C9 P w K mg base 3 "_law_rules" ["_law_script", "_law_words_here", "_law_sides"] (q9 K):=by
 refine D.cal CO (fun _ _ _ _ _ _ us hl=>match us,hl with | [_,_,_],_=>rfl) (fun vs H Q E h=>by obtain⟨_,_,_,_,_,rfl,_⟩:=h; rfl) (fun f ei A outer s H vs Q E hr h=>?_)
 obtain⟨a,wl,ns,xs,sd,rfl,hS,ek,ew,b6,cc,dt,cr,q⟩:=h
 refine⟨_,(af (ap 3 CO.nd (aB bx ah (aB cx (aB dJ (aO F hr (ac (pv 0) (ac ah ae))) ah) ah)))
   (af (ap 4 CO.nd (bu ae))
   (af (dj rG rfl (dk HE an (ac (pv 3) ae)) (aU 5 CO.nd) (af (ap 6 CO.nd (aO F hr (ac (pv 0) (ac (aB bx ah (pv 5)) ae))))
   (af (ap 7 CO.nd (aB cx (aB dJ (pv 6) ah) ah))
   (af (ap 8 CO.nd (a_ (kL K) Y iL (ac (dC (dD K) (aB bx (pv 1) (pv 1)) (cM (pv 7)) (cM (aB bx (pv 7) (aB cx (pv 6) ah)))) ae)))
   (af (ap 9 CO.nd (aB bx ah (aB cx (aB dJ (pv 6) ah) (aD (aZ K) (bu (ac ah (ac ah (ac ah (ac ah ae))))) (pv 5) (fun _ _=>rfl)))))
   (af (ap 10 CO.nd (aO J hr (ac (yE K (pv 0) (cM (aB bx ah (pv 5))) fV (cM (pv 3))) (ac (pv 9) (ac (a_ (bq K) bB ce (ac (pv 8) ae)) (ac (aO F hr (ac (pv 0) (ac (aB bx ah (pv 5)) ae))) ae))))))
   (am (c8 (dw K FZ Gy Gw cL (pv 4) (ac (cU (ac (aB bx cI (aD (aZ K) cI (pv 5) (fun _ _=>rfl))) (ac (cU (ac (pv 2) (ac (pv 8) (ac (pv 10) ae)))) ae))) ae))))))))))
   (am (aV (pv 4)))))),?_⟩
 walk_at "r";refine⟨a,ns,0,rfl,hS,by decide,?_⟩
 generalize ns.getD (Int.toNat 0) 0=c0
 walk_at "r";refine⟨⟨by decide,by decide⟩,by decide,?_⟩
 obtain⟨n,en,n1,n4⟩ : ∃ n:Nat,2+c0 / 8 % 3=(n:Int)∧2≤n∧n≤4:=⟨(2+c0 / 8 % 3).toNat,by omega,by omega,by omega⟩
 rw[en];walk_at "n";refine⟨by decide,fun rp ca=>?_⟩
 generalize hH5:upd H rp _=H5
 have s5:=bj hH5 ca;have e5:H5 rp=some (.lst (([]:List Addr).map V.ref)):=bV hH5
 walk_at "n";refine⟨by omega,by omega,?_⟩
 refine gC (fun i σ H'=>∃ (qs ps:List Addr) (Z:List Str) (rs:List Rl) (o5 o6 o7 o8 o9 bp:Option V),σ=[some (.ref a),some (.ref wl),some (.int sd),some (.int n),some (.ref rp),o5,o6,o7,o8,o9,bp]∧mu H H'∧H' rp=some (.lst (qs.map V.ref))∧qs.length=i∧ps.length=i∧Z.length=i∧rs.length=i∧(∀ (k:Nat) q nm p,qs[k]? = some q→Z[k]? = some nm→ps[k]? = some p→H' q=some (.tup [.str nm,.ref p]))∧(∀ (k:Nat) p r,ps[k]? = some p→rs[k]? = some r→Eo H' p r rp)∧∀ (k:Nat) r,rs[k]? = some r→aY r∧r.ws.Nodup∧sortedS r.ws=true∧r.s=sd∧r.ws.length≤3∧(∀ x∈r.ws,x∈xs)∧r.rs.length≤FU.getD k 1)
  ⟨[],[],[],[],none,none,none,none,none,none,rfl,s5,e5,rfl,rfl,rfl,rfl,by simp,by simp,by simp⟩ ?_ ?_
 ·rintro i σ H' hi ⟨qs,ps,Z,rs,o5,o6,o7,o8,o9,bp,rfl,sm,hl,a2,ag,a5,a1,hq,hR,hok⟩
  have eb:i<n:=by omega
  have bA:=sm.seq hS;walk_at "r";refine⟨a,ns,2+(0+(i:Int)),rfl,bA,by omega,?_⟩
  generalize ns.getD (Int.toNat (2+(0+(i:Int)))) 0=hd
  walk_at "n";refine⟨⟨by decide,by decide⟩,by decide,?_⟩
  obtain⟨st,d3,d4⟩ : ∃ z:Nat,hd / 4 % 6=(z:Int)∧z<6:=⟨(hd / 4 % 6).toNat,by omega,by omega⟩
  rw[d3];walk_at "n";have cf:=sm _ _ ew;refine⟨_,_,cf,cf,by rw[zc,b6]; decide,fun dp d1=>?_⟩
  rw[← z9];generalize hH6:upd H' dp _=H6
  obtain⟨s6,e6⟩:=cS hH6 d1
  obtain⟨m,em,hm⟩ : ∃ z:Nat,hd % 4=(z:Int)∧z≤3:=⟨(hd % 4).toNat,by omega,by omega⟩
  rw[em];obtain⟨tn,tm,tl⟩:=xn dt b6 d4 hm
  refine⟨by decide,_,rd.of e6,fun sp dc=>?_⟩
  rw[show (st:Int)+(m:Int)=((st+m:Nat):Int) by omega,y4,← zbc,← List.map_drop,List.drop_take,show st+m - st=m by omega]at *
  generalize hH7:upd H6 sp _=H7
  obtain⟨s7,e7⟩:=cS hH7 dc
  clear hH7;generalize ((xs++xs).drop st).take m=ys at tn tm tl e7;refine⟨ys,rd.of e7,by omega,fun aa ts ad a3 c4=>?_⟩
  generalize hH8:upd H7 aa _=H8
  obtain⟨s8,e8⟩:=cS hH8 ad
  walk_at "n";refine⟨⟨by decide,by decide⟩,by decide,fun kp d5=>?_⟩
  generalize hH9:upd H8 kp _=H9
  have s9:=bj hH9 d5;have e9:H9 kp=some (.lst (FU.map fun k:Nat=>V.int (k:Int))):=bV hH9
  have cb:∀ i:Fin 4,1≤FU.getD i.val 1∧FU.getD i.val 1≤3:=by decide
  obtain⟨cd,cq⟩:=cb ⟨i,by omega⟩
  have d2:i<FU.length:=va eb n4
  have c9:eK (FU.map fun k:Nat=>V.int (k:Int)) (0+(i:Int))=some (.int (FU.getD i 1:Nat)):=by
   rw[Ho];exact aE (by rw[ze,zp,za d2]; rfl)
  refine⟨_,_,.inl (rd.of e9),c9,?_⟩
  dsimp only at cd cq
  generalize hcg:FU.getD i 1=cv at cd cq;walk_at "r";refine⟨by omega,?_⟩
  have ez:=zbt (hd / 24) (show (cv:Int)≠0 by omega)
  have ej:=zbM (hd / 24) (show (0:Int)<cv by omega)
  obtain⟨sz,c2,ea,dl⟩ : ∃ z:Nat,1+hd / 24 % (cv:Int)=(z:Int)∧1≤z∧z≤cv:=⟨(1+hd / 24 % (cv:Int)).toNat,by omega,by omega,by omega⟩
  rw[c2];walk_at "n";rw[Co];walk_at "r";have a6:=((s6.trans s7).trans s8).trans s9;rw[show (10:Int)+(0+(i:Int))=((10+i:Nat):Int) by omega]
  obtain⟨cs,c5⟩:=wO (ns:=ns) (lo:=some ((10+i:Nat):Int)) (hi:=none) (st:=some (n:Int))
  have b1:=sC (ns.map V.int) (10+i) n (by omega)
  rw[zc]at b1
  refine⟨a,_,rfl,a6.seq bA,by simp; omega,bG (by omega),fun vp dV=>?_⟩
  rw[c5];generalize hH10:upd H9 vp _=eg
  obtain⟨a0,ed⟩:=cS hH10 dV
  have cp:ts.length≤3:=by rw[a3.length_eq]; exact tl
  refine⟨_,.inl (rd.of ((s9.trans a0) _ _ e8)),a,ns,6+(0+(i:Int)),rfl,(a6.trans a0).seq bA,by omega,?_⟩
  refine⟨vp,cs,sz,ts.length,_,by rw[zc],rd.of ed,ea,by omega,cp,fun pr b7 as rr cn c1 b5 a8 b8=>?_⟩
  have a9:=(a6.trans a0).trans cn;walk_at "n"
  obtain⟨ch,da⟩ : ∃ c,eK (Str.ofString "abcd").cps.toList (0+(i:Int))=some c:=by
   rw[Ho];have h4:(Str.ofString "abcd").cps.toList.length=4:=by decide +kernel
   exact⟨_,aE (za (by omega))⟩
  refine⟨⟨_,rd.of (a9 _ _ hl)⟩,ch,by decide,da,?_,by decide,fun p1 ec=>⟨by decide,fun p2 bS=>?_⟩⟩
  ·show 4+1≤sizeLine
   decide
  generalize Str.ofString "name" ++ (⟨#[ch]⟩ : Str)=nm at bS ⊢;have a4:=ay ec (.tup [V.int sd,V.ref aa,V.ref pr]);have cm:upd b7 p1 (.tup [V.int sd,V.ref aa,V.ref pr]) p1=some (.tup [V.int sd,V.ref aa,V.ref pr]):=ak
  generalize upd b7 p1 (.tup [V.int sd,V.ref aa,V.ref pr])=d7 at a4 cm bS ⊢;generalize hH13:upd d7 p2 _=b4
  obtain⟨a7,b9⟩:=cS hH13 bS
  have S:=(a9.trans a4).trans a7;have W:=S _ _ hl;refine⟨_,W,by rw[zc]; exact cH (by omega),?_⟩
  have dm:=((((s9.trans a0).trans cn).trans a4).trans a7) _ _ e8;have nW:∀ {b:Addr},eg b=none→b≠rp:=fun e z=>by rw[z,(a6.trans a0) _ _ hl]at e; cases e
  have cl:Eo b4 p1 ⟨sd,ts,rr⟩ rp:=⟨aa,pr,as,a7 _ _ cm,dm,(b5.at'.mono a4).mono a7,(fun z=>(by rw[z,((s6.trans s7)) _ _ hl]at ad; cases ad)),nW c1,fun z=>nW (b5.new _ z).1 rfl⟩
  have b3:aY ⟨sd,ts,rr⟩:=⟨cr,by show ts.length≤16; omega,by show 1≤rr.length; omega,by show rr.length≤60; omega,fun x hx=>⟨(b8 x hx).1,fun k hk=>by show k<rr.length; rw[a8]; exact(b8 x hx).2 k hk⟩,fun x hx=>cc x (tm x (a3.mem_iff.mp hx))⟩
  have be:∀ {b zs},b4 b=some (.tup zs)→b≠rp:=fun e z=>by rw[z,W]at e; cases e
  refine⟨qs++[p2],ps++[p1],Z++[nm],rs++[⟨sd,ts,rr⟩],_,_,_,_,_,_,rfl,(sm.trans S).upd ca _,by rw[ak]; simp,by simp[a2],by simp[ag],by simp[a5],by simp[a1],fun k q' c3 p' O g2 g3=>?_,fun k p' r' O g2=>?_,rH a1 hok ⟨b3,a3.nodup_iff.mpr tn,c4,rfl,cp,fun x hx=>tm x (a3.mem_iff.mp hx),?_⟩⟩
  ·by_cases hk:k<i
   ·rw[vt (by omega)]at O g2 g3
    have z:=S _ _ (hq k q' c3 p' O g2 g3);rw[al (be z)]; exact z
   ·have bz:k=i:=by have:=(HL.mp O).1; simp at this; omega
    subst bz;rw[yS (by omega)]at O g2 g3
    simp[a2]at O
    simp[a5]at g2
    simp[ag]at g3
    subst O g2 g3;rw[al (be b9)]; exact b9
  ·by_cases hk:k<i
   ·rw[vt (by omega)]at O g2
    exact((hR k p' r' O g2).mono S).put W
   ·have bz:k=i:=by have:=(HL.mp O).1; simp at this; omega
    subst bz;rw[yS (by omega)]at O g2
    simp[ag]at O
    simp[a1]at g2
    subst O g2;exact cl.put W
  ·show rr.length≤_
   rw[a8,hcg]; exact dl
 rintro σ H' ⟨qs,ps,Z,rs,o5,o6,o7,o8,o9,bp,rfl,sm,hl,a2,ag,a5,a1,hq,hR,hok⟩
 walk_at "n";rw[uT]at a2 ag a5 a1
 refine q rp H' Z rs sm ⟨qs,ps,hl,by omega,by omega,by omega,hq,fun i p' r' O g2=>(hR i p' r' O g2).to⟩ ⟨by omega,by omega,fun r hr=>?_,?_,?_,fun ts b2=>?_⟩
 ·obtain⟨k,e⟩:=List.getElem?_of_mem hr
  exact⟨(hok k r e).1,(hok k r e).2.1,(hok k r e).2.2.1,(hok k r e).2.2.2.1⟩
 ·refine vg (ny rs FU (by show _≤4; omega) (by decide) fun k r e=>(hok k r e).2.2.2.2.2.2) (by decide)
 ·have:=sq rs fun r hr=>by
   obtain⟨k,e⟩:=List.getElem?_of_mem hr
   exact(hok k r e).2.2.2.2.1
  omega
 ·have:=fX b2.1 (m:=xs) fun x hx=>by
   obtain⟨r,hr,d6⟩:=Iq.mp ((b2.2.2 x).mp hx)
   obtain⟨k,e⟩:=List.getElem?_of_mem hr
   exact(hok k r e).2.2.2.2.2.1 x d6
  omega
end
structure xZ (rs:List Rl) (sd:Int):Prop where
 n1:1≤rs.length
 n4:rs.length≤4
 ok:∀ r∈rs,aY r∧r.ws.Nodup∧sortedS r.ws=true∧r.s=sd
 pr:cE rs≤1000
 fl:(rs.flatMap (·.ws)).length≤20
 gr:∀ ts,fY ts rs→16<ts.length∨∃ r,60<(aw rs ts r).length
theorem yL{rs:List Rl}{us:List Str}{B:Nat}(ok:∀ r∈rs,aY r)(h:∀ r,(aw rs us r).length≤B):∃ M,M=(aw rs us M).length:=by
 have key:∀ r,(∃ M,M=(aw rs us M).length)∨r<(aw rs us r).length:=fun r=>by
  induction r with
  | zero=>exact .inr (dA ok us 0).2.2
  | succ r ih=>
   rcases ih with ih | ih
   ·exact .inl ih
   ·obtain⟨x,e⟩:=fG (rs:=rs) (us:=us) r 1
    have hl:(aw rs us r).length≤(aw rs us (r+1)).length:=by rw[e,zV]; omega
    rcases x6 (r+1) (aw rs us (r+1)).length with z | z
    ·exact .inr z
    ·exact .inl ⟨r+1,by omega⟩
 rcases key B with z | z
 ·exact z
 ·have:=h B
  omega
theorem rg{rs:List Rl}{ts:List Str}{M:Nat}(ok:∀ r∈rs,aY r)(nr:∀ r∈rs,r.ws.Nodup)(F:fY ts rs)(e:M=(aw rs ts M).length):CH rs ts M:=
 ⟨ok,nr,fun y=>by rw[F.2.2,Iq],F.1,e⟩
def cR(S:Int)(u:Str)(n:Nat):Rl:=⟨S,[u],(List.range n).map fun k=>[some ((k+1) % n)]⟩
theorem qO{S:Int}{u:Str}{n:Nat}(Y:S=1∨S=2)(O:u.length≤10)(n1:1≤n)(W:n≤60):aY (cR S u n):=by
 have hl:(cR S u n).rs.length=n:=by simp[cR]
 refine⟨Y,show 1≤16 by decide,by rw[hl]; exact n1,by rw[hl]; exact W,fun x hx=>?_,fun y J=>?_⟩
 ·obtain⟨k,Z,rfl⟩:=HR.mp hx
  refine⟨rfl,fun j F=>?_⟩
  rw[hl];have:=Option.some.inj (HQ.mp F)
  rw[this];exact Nat.mod_lt _ (by omega)
 ·rw[HQ.mp J]; exact O
theorem t7{S:Int}{u:Str}{n i:Nat}(hi:i<n)(y:Str):aC (cR S u n) i y=some (if y=u then (i+1) % n else i):=by
 unfold aC
 by_cases h:y=u
 ·rw[HS (show y∈(cR S u n).ws from HQ.mpr h),HS h]
  have hr:(cR S u n).rs.getD i []=[some ((i+1) % n)]:=by
   rw[aJ (by simp[cR]; exact hi)]
   simp[cR]
  rw[hr];show [some ((i+1) % n)].getD ([u].idxOf y) none=_
  rw[h]; simp
 ·rw[HP (show y∉(cR S u n).ws from fun z=>h (HQ.mp z)),HP h]
theorem wL{S:Int}{u x:Str}{n m:Nat}(hS:S=1∨S=2)(hu:u.length≤10)(hx:x.length≤10)(Z:u≠x)(n1:1≤n)(n2:n≤60)(m1:1≤m)(m2:m≤60)(h:60<n * m){ts:List Str}(hw:fY ts [cR S u n,cR S x m]):∃ r,60<(aw [cR S u n,cR S x m] ts r).length:=by
 have ok:∀ r∈[cR S u n,cR S x m],aY r:=fun r hr=>by
  simp only[vB,Hk,or_false]at hr
  rcases hr with rfl | rfl
  ·exact qO hS hu n1 n2
  ·exact qO hS hx m1 m2
 have nr:∀ r∈[cR S u n,cR S x m],r.ws.Nodup:=fun r hr=>by
  simp only[vB,Hk,or_false]at hr
  rcases hr with rfl | rfl <;> exact HY.mpr ⟨by simp,.nil⟩
 refine iO fun hn=>?_
 have F:∀ r,(aw [cR S u n,cR S x m] ts r).length≤60:=fun r=>zbi fun z=>hn ⟨r,z⟩
 obtain⟨M,hM⟩:=yL ok F
 have W:=rg ok nr hw hM
 have go:∀ {i j:Nat},i<n→j<m→∀ y,[i,j]∈aw [cR S u n,cR S x m] ts M→[if y=u then (i+1) % n else i,if y=x then (j+1) % m else j]∈aw [cR S u n,cR S x m] ts M:=fun {i j} hi O y hm=>by
  have e:aR [cR S u n,cR S x m] [i,j] y=[some (if y=u then (i+1) % n else i),some (if y=x then (j+1) % m else j)]:=by
   show [aC _ i y,aC _ j y]=_
   rw[t7 hi,t7 O]
  have:=W.closed hm (y:=y) (by rw[e]; simp)
  rw[e]at this
  exact this
 have h0:[0,0]∈aw [cR S u n,cR S x m] ts M:=zX W.zero
 have hi:∀ i,i<n→[i,0]∈aw [cR S u n,cR S x m] ts M:=fun i=>by
  induction i with
  | zero=>exact fun _=>h0
  | succ i ih=>
   intro hi
   have:=go (by omega) (by omega) u (ih (by omega))
   rwa [HS rfl,HP Z,zbd hi]at this
 have J:∀ i j,i<n→j<m→[i,j]∈aw [cR S u n,cR S x m] ts M:=fun i j h1=>by
  induction j with
  | zero=>exact fun _=>hi i h1
  | succ j ih=>
   intro O
   have:=go h1 (by omega) x (ih (by omega))
   rwa [HP (zB Z),HS rfl,zbd O]at this
 have hc:=fX (l:=(List.range (n * m)).map fun k=>[k / m,k % m]) (m:=aw [cR S u n,cR S x m] ts M) (HZ.mpr (List.Pairwise.imp (fun {k Y} aa e=>by
  have e1:k / m=Y / m:=(List.cons.inj e).1
  have e2:k % m=Y % m:=(List.cons.inj (List.cons.inj e).2).1
  have h1:=Nat.div_add_mod k m;have h2:=Nat.div_add_mod Y m;rw[e1,e2]at h1
  omega) zbH)) fun t ht=>by
   obtain⟨k,hk,rfl⟩:=HR.mp ht
   exact J _ _ (Nat.div_lt_of_lt_mul (by rw[Nat.mul_comm]; exact HV.mp hk)) (Nat.mod_lt _ (by omega))
 rw[zc,iP]at hc
 have:=F M
 omega
def oR(S:Int)(ws:List Str)(o:Option Nat):Rl:=⟨S,ws,[List.replicate ws.length o]⟩
theorem v3{S:Int}{ws:List Str}{o:Option Nat}(W:S=1∨S=2)(hl:ws.length≤16)(F:∀ y∈ws,y.length≤10)(J:∀ k,o=some k→k=0):aY (oR S ws o):=by
 refine⟨W,hl,zg 1,show 1≤60 by decide,fun x hx=>?_,F⟩
 have e:x=List.replicate ws.length o:=HQ.mp hx
 subst e;refine⟨zbB,fun k O=>?_⟩
 rw[J k (List.eq_of_mem_replicate O).symm];exact Nat.zero_lt_one
section
variable{P:Program}{w:World}{K:W.Frag}{mg:Str→Option Value}{base:Heap}
def A_:Sp:=fun vs H Q _=>∃ (S:Int) (u:Str) (n:Nat),vs=[.int S,.str u,nV n]∧1≤n∧n≤60∧∀ (t:Addr) (H':Hp),mu H H'→tf H' t (cR S u n)→Q (.ref t) H'
theorem CP(D:AS K mg "_law_counter" bZ) (F:mg "range" = none):C9 P w K mg base 1 "_law_counter" ["_law_sides", "_law_word", "_law_many"] A_:=by
 refine D.cal (k:=0) pI (fun _ _ _ _ _ _ us hl=>match us,hl with | [_,_,_],_=>rfl) (fun vs H Q E h=>by obtain⟨_,_,_,rfl,_⟩:=h; rfl) (fun f ag A outer s H vs Q E hr h=>?_)
 obtain⟨S,u,n,rfl,n1,an,q⟩:=h
 refine⟨_,(am (aV (cU (ac (pv 0) (ac (bu (ac (pv 1) ae)) (ac (cX (CW.to (fsc:=(h8 bZ)) (N:=["_law_sides", "_law_word", "_law_many"]) (N0:=["_law_sides", "_law_word", "_law_many"]) (T:=["_law_k"]) ⟨by decide +kernel,by decide +kernel,by decide +kernel,by decide +kernel,by decide +kernel,by decide +kernel,by decide +kernel⟩ rfl rfl) rfl (dk Gs F (ac (pv 2 (hv:=IH)) ae)) (fun _ _ _ _=>(aU 3 (show (["_law_sides", "_law_word", "_law_many", "_law_k"]:List Str).Nodup from by decide +kernel) (hx:=(dG (h8 bZ) (by decide +kernel))) (hf:=fm (h8 bZ) (by decide +kernel)))) (bN (show (["_law_sides", "_law_word", "_law_many"]:List Str).length≤3 from by decide)) (fun _ _ _ _=>bR) (fun _ _ _ _=>(bu (ac (aB cx (aB bx (pv 3 (hv:=(bP (h8 bZ) (by decide +kernel)))) ah) (pv 2 (hv:=(bP (h8 bZ) (by decide +kernel))))) ae)))) ae)))))),?_⟩
 walk_at "r";refine⟨by decide,fun wp ad=>?_⟩
 generalize hH1:upd H wp _=H1
 have s1:=bj hH1 ad;have e1:H1 wp=some (.lst ([u].map V.str)):=bV hH1
 refine⟨by omega,by omega,fun L hL=>?_⟩
 refine fq (fun i ys H'=>∃ J:List Addr,mu H1 H'∧ys=J.map V.ref∧J.length=i∧NR H H' L ((List.range i).map fun k=>[some ((k+1) % n)]) J) ⟨[],ay hL _,rfl,rfl,⟨⟨ak,rfl,by simp⟩,by simp,GQ⟩⟩ ?_ ?_
 ·rintro i ys H' hi ⟨J,sm,rfl,O,Z⟩
  walk_at "r";refine⟨by omega,by decide,fun rp Y=>?_⟩
  generalize hH2:upd H' rp _=H2
  have W:=bj hH2 Y
  have e2:H2 rp=some (.lst ([some ((i+1) % n)].map ar)):=by
   rw[bV hH2,Ho]; rfl
  have aa:=Z.push W (s1.trans sm) Y e2;refine df hi (by rw[zc]; exact O) (bG (by omega)) (W _ _ Z.at'.1) ⟨J++[rp],?_,by simp,by simp[O],by rw[Gz,z9]; exact aa⟩
  intro b o e
  rw[al (au e hL)];exact W _ _ (sm _ _ e)
 ·rintro ys H' ⟨J,sm,rfl,O,Z⟩
  rw[uT]at Z
  walk_at "r";refine⟨by decide,fun t ht=>?_⟩
  generalize hH2:upd H' t _=H2
  have W:=bj hH2 ht;exact q t H2 ((s1.trans sm).trans W) ⟨wp,L,J,bV hH2,(sm.trans W) _ _ e1,(Z.mono W).at'⟩
def uP(K:W.Frag):Sp:=fun vs H Q _=>∃ (a wl:Addr) (ns:List Int) (xs:List Str) (sd:Int) (mo:Nat),vs=[.ref a,.ref wl,.int sd,nV mo]∧rd K H a (ns.map V.int)∧H wl=some (.lst (xs.map V.str))∧xs.length=17∧(∀ x∈xs,x.length≤10)∧xs.Nodup∧(sd=1∨sd=2)∧mo≤1∧∀ (p:Addr) (H':Hp) (nms:List Str) (rs:List Rl),mu H H'→DZ H' p nms rs→(mo=0→j5 rs sd)→(mo=1→xZ rs sd)→Q (.ref p) H'
theorem ul{H:Hp}{p S Y W p2:Addr}{n1 n2:Str}{Z r2:Rl}(h:H p=some (.lst [.ref S,.ref Y]))(h1:H S=some (.tup [.str n1,.ref W]))(h2:H Y=some (.tup [.str n2,.ref p2]))(g1:tf H W Z)(g2:tf H p2 r2):DZ H p [n1,n2] [Z,r2]:=by
 refine⟨[S,Y],[W,p2],h,rfl,rfl,rfl,fun i q n p' F J O=>?_,fun i p' r F J=>?_⟩
 ·match i,F,J,O with
  | 0,F,J,O=>cases F; cases J; cases O; exact h1
  | 1,F,J,O=>cases F; cases J; cases O; exact h2
  | i+2,F,J,O=>simp at F
 ·match i,F,J with
  | 0,F,J=>cases F; cases J; exact g1
  | 1,F,J=>cases F; cases J; exact g2
  | i+2,F,J=>simp at F
theorem pS{F J:Rl}{ts:List Str}(O:fY ts [F,J]):ts.length≤F.ws.length+J.ws.length:=by
 have:=fX (m:=F.ws++J.ws) O.1 fun y S=>by simpa using (O.2.2 y).mp S
 rwa [zV]at this
theorem t9{α : Type}{P:α→Prop}{a b:α}(h1:P a)(h2:P b):∀ x∈[a,b],P x:=fun x hx=>by
 simp only[vB,Hk,or_false]at hx
 rcases hx with rfl | rfl
 ·exact h1
 ·exact h2
theorem HK{α : Type}{xs:List α}{c m:Nat}(h1:c≤m)(h2:m≤xs.length):lP xs none (some (c:Int))=xs.take c∧lP xs (some (c:Int)) (some (m:Int))=(xs.drop c).take (m - c):=by
 unfold lP;rw[HT.sIx_nat,HT.sIx_nat,HT.sIx_nat,HT.sIx_none,Nat.min_eq_left h2,Nat.min_eq_left (vg h1 h2),List.drop_zero,Nat.sub_zero];exact⟨rfl,rfl⟩
theorem uI(c:Nat)(o:Option Nat):(List.replicate c [ar o]).flatten=(List.replicate c o).map ar:=by
 rw[List.map_replicate,List.flatten_replicate_singleton]
theorem uU{H:Hp}{t W pr O:Addr}{S:Int}{ws:List Str}{o:Option Nat}(h1:H t=some (.tup [.int S,.ref W,.ref pr]))(h2:H W=some (.lst (ws.map V.str)))(Y:H pr=some (.lst [.ref O]))(Z:H O=some (.lst ((List.replicate ws.length o).map ar))):tf H t (oR S ws o):=by
 refine⟨W,pr,[O],h1,h2,Y,rfl,fun i a x F J=>?_⟩
 match i,F,J with
 | 0,F,J=>cases F; cases J; exact Z
 | i+1,F,J=>simp at F
theorem Ad(D:AS K mg "_law_great" bD) (an:mg "len" = none) (W:mg "sorted" = none) (F:C9 P w K mg base 1 "_law_cell_at" ["_law_script", "_law_k"] (n9 K)) (O:C9 P w K mg base 1 "_law_counter" ["_law_sides", "_law_word", "_law_many"] A_):C9 P w K mg base 2 "_law_great" ["_law_script", "_law_words_here", "_law_sides", "_law_more"] (uP K):=by
 refine D.cal (k:=1) Dj (fun _ _ _ _ _ _ us hl=>match us,hl with | [_,_,_,_],_=>rfl) (fun vs H Q E h=>by obtain⟨_,_,_,_,_,_,rfl,_⟩:=h; rfl) (fun f ew A outer s H vs Q E hr h=>?_)
 obtain⟨a,wl,ns,xs,S,J,rfl,hS,a5,ev,bz,cd,a1,ey,q⟩:=h
 refine⟨_,(af (cC (ba jE (aB cx (aO F hr (ac (pv 0) (ac ah ae))) ah) ah (bt _)) (af (ap 4 Dj.nd (aB bx ah (aB cx (aB dJ (aO F hr (ac (pv 0) (ac ah ae))) ah) ah)))
   (af (ap 5 Dj.nd (aB bx (aB dJ ah (pv 4)) (pv 3)))
   (am (aV (bu (ac (cU (ac cI (ac (aO O hr (ac (pv 2) (ac (aD (aZ K) (pv 1) ah (fun _ _=>rfl)) (ac (pv 4) ae)))) ae))) (ac (cU (ac cI (ac (aO O hr (ac (pv 2) (ac (aD (aZ K) (pv 1) ah (fun _ _=>rfl)) (ac (pv 5) ae)))) ae))) ae))))))) bI)
   (af (ap 6 Dj.nd (aB cx (aB dJ (aO F hr (ac (pv 0) (ac ah ae))) ah) ah))
   (af (ap 7 Dj.nd (bu (ac (dC (dD K) (pv 1) fV (cM (pv 6))) (ac (dC (dD K) (pv 1) (cM (pv 6)) (cM (aB bx ah (pv 3)))) ae))))
   (af (cC (ba qL (a_ (bq K) an ce (ac (aD (aZ K) (pv 7) ah (fun _ _=>rfl)) ae)) ah (bt _)) (am (ap 7 Dj.nd (bu (ac (dC (dD K) (pv 1) fV (cM ah)) (ac (dC (dD K) (pv 1) (cM ah) (cM (aB bx ah (pv 3)))) ae))))) bI)
   (af (ap 4 Dj.nd (cU (ac (pv 2) (ac (a_ (kL K) W iL (ac (aD (aZ K) (pv 7) ah (fun _ _=>rfl)) ae)) (ac (bu (ac (aB wX (bu (ac ck ae)) (a_ (bq K) an ce (ac (aD (aZ K) (pv 7) ah (fun _ _=>rfl)) ae))) ae)) ae)))))
   (am (aV (bu (ac (cU (ac cI (ac (pv 4) ae))) (ac (cU (ac cI (ac (cU (ac (pv 2) (ac (a_ (kL K) W iL (ac (aD (aZ K) (pv 7) ah (fun _ _=>rfl)) ae)) (ac (bu (ac (aB wX (bu (ac ah ae)) (a_ (bq K) an ce (ac (aD (aZ K) (pv 7) ah (fun _ _=>rfl)) ae))) ae)) ae)))) ae))) ae)))))))))),?_⟩
 walk_at "r";refine⟨a,ns,2,rfl,hS,by decide,?_⟩
 generalize hc2:ns.getD (Int.toNat 2) 0=c2
 walk_at "r";refine⟨by decide,bH (fun _=>?_) (fun _=>?_)⟩
 ·refine⟨a,ns,2,rfl,hS,by decide,?_⟩
  rw[hc2];walk_at "r";refine⟨⟨by decide,by decide⟩,by decide,?_⟩
  obtain⟨n,en,n2,ez⟩ : ∃ n:Nat,2+c2 / 2 % 29=(n:Int)∧2≤n∧n≤30:=⟨(2+c2 / 2 % 29).toNat,by omega,by omega,by omega⟩
  rw[en];walk_at "n";have em:(60:Int) / (n:Int)+(J:Int)=((60 / n+J:Nat):Int):=rfl
  rw[em];have d1:=Nat.mul_div_le 60 n;have d2:=Nat.lt_mul_div_succ 60 (show 0<n by omega)
  have d3:60 / n≤30:=Nat.div_le_of_le_mul (by omega)
  have d4:2≤60 / n:=(Nat.le_div_iff_mul_le (by omega)).mpr (by omega)
  generalize 60 / n=k at d1 d2 d3 d4;refine⟨⟨by omega,by omega⟩,?_⟩
  walk_at "n";obtain⟨u,hu⟩ : ∃ u,xs[0]? = some u:=⟨_,za (by omega)⟩
  obtain⟨v,hv⟩ : ∃ v,xs[1]? = some v:=⟨_,za (by omega)⟩
  have lu:=bz u (zX hu);have lv:=bz v (zX hv)
  have eo:u≠v:=fun e=>by
   have e1:=(HL.mp hu).2;have e2:=(HL.mp hv).2;have:=(Hz cd).mp (e1.trans (e.trans e2.symm))
   cases this
  refine⟨_,.str u,.inl (rd.of a5),(show eK (xs.map V.str) ((0:Nat):Int)=_ from aE (by rw[ze,hu]; rfl)),?_⟩
  refine⟨S,u,n,rfl,by omega,by omega,fun t1 H1 s1 b4=>⟨by decide,fun q1 b3=>?_⟩⟩
  generalize hH2:upd H1 q1 _=H2
  obtain⟨s2,e2⟩:=cS hH2 b3
  have cb:=s1.trans s2;refine⟨_,.str v,.inl (rd.of (cb _ _ a5)),(show eK (xs.map V.str) ((1:Nat):Int)=_ from aE (by rw[ze,hv]; rfl)),?_⟩
  refine⟨S,v,k+J,rfl,by omega,by omega,fun t2 H3 s3 b6=>⟨by decide,fun q2 bS=>?_⟩⟩
  generalize hH4:upd H3 q2 _=H4
  obtain⟨s4,e4⟩:=cS hH4 bS
  refine⟨by decide,fun p hp=>?_⟩
  generalize hH5:upd H4 p _=H5
  obtain⟨s5,e5⟩:=cS hH5 hp
  have hn:DZ H5 p ["one", "two"] [cR S u n,cR S v (k+J)]:=ul e5 ((s3.trans (s4.trans s5)) _ _ e2) (s5 _ _ e4) (b4.mono (s2.trans (s3.trans (s4.trans s5)))) (b6.mono (s4.trans s5))
  have aa:=t9 (P:=fun r=>aY r∧r.ws.Nodup∧sortedS r.ws=true∧r.s=S) (a:=cR S u n) (b:=cR S v (k+J)) ⟨qO a1 lu (by omega) (by omega),HY.mpr ⟨by simp,.nil⟩,rfl,rfl⟩ ⟨qO a1 lv (by omega) (by omega),HY.mpr ⟨by simp,.nil⟩,rfl,rfl⟩
  have ca:cE [cR S u n,cR S v (k+J)]=n * (k+J):=by
   show (cR S u n).rs.length * ((cR S v (k+J)).rs.length * 1)=_
   simp[cR]
  have hz:n * (k+1)=n * k+n:=Nat.mul_succ n k
  refine q p H5 _ _ (cb.trans (s3.trans (s4.trans s5))) hn (fun h0=>⟨show 1≤2 by decide,show 2≤4 by decide,aa,?_,show 2≤20 by decide,fun ts ad=>?_⟩) (fun h1=>⟨show 1≤2 by decide,show 2≤4 by decide,aa,?_,show 2≤20 by decide,fun ts ad=>.inr (wL a1 lu lv eo (by omega) (by omega) (by omega) (by omega) ?_ ad)⟩)
  ·rw[ca,h0,Nat.add_zero]; exact d1
  ·have:=pS ad
   exact vg this (show 2≤16 by decide)
  ·rw[ca,h1]; omega
  ·rw[h1]; exact d2
 ·walk_at "n"
  refine⟨a,ns,2,rfl,hS,by decide,?_⟩
  rw[hc2];walk_at "r";refine⟨⟨by decide,by decide⟩,by decide,?_⟩
  obtain⟨ct,ec,bB⟩ : ∃ n:Nat,c2 / 2 % 17=(n:Int)∧n≤16:=⟨(c2 / 2 % 17).toNat,by omega,by omega⟩
  rw[ec];walk_at "n"
  have a2:∀ {c:Nat} {H':Hp} {X:VK},c≤16→mu H H'→(∀ (lp Y p2:Addr) (H2:Hp),mu H' H2→H2 lp=some (.lst [.ref Y,.ref p2])→H2 Y=some (.lst ((xs.take c).map V.str))→H2 p2=some (.lst (((xs.drop c).take (16+J - c)).map V.str))→X (.ref lp) H2)→
    ∃ ys,rd K H' wl ys∧∀ p,H' p=none→∃ zs,rd K (upd H' p (.lst (dP ys none (some (c:Int))))) wl zs∧∀ Y,upd H' p (.lst (dP ys none (some (c:Int)))) Y=none→2≤sizeLine∧∀ p2,upd (upd H' p (.lst (dP ys none (some (c:Int))))) Y (.lst (dP zs (some (c:Int)) (some (16+(J:Int))))) p2=none→X (.ref p2) (upd (upd (upd H' p (.lst (dP ys none (some (c:Int))))) Y (.lst (dP zs (some (c:Int)) (some (16+(J:Int)))))) p2 (.lst [.ref p,.ref Y])):=fun {c H' X} hc sm c5=>by
   obtain⟨k1,k2⟩:=HK (xs:=xs) (c:=c) (m:=16+J) (by omega) (by omega)
   refine⟨_,rd.of (sm _ _ a5),fun p hp=>?_⟩
   rw[oS,k1];have g1:=ay hp (.lst ((xs.take c).map V.str));refine⟨_,rd.of (g1 _ _ (sm _ _ a5)),fun Y cq=>⟨by decide,fun p2 a8=>?_⟩⟩
   rw[oS,show (16:Int)+(J:Int)=((16+J:Nat):Int) by omega,k2]at a8 ⊢
   generalize hG1:upd H' p _=G1 at g1 cq a8 ⊢;have f1:=bV hG1;generalize hG2:upd G1 Y _=G2 at a8 ⊢;obtain⟨g2,f2⟩:=cS hG2 cq
   generalize hG3:upd G2 p2 _=G3
   have g3:=bj hG3 a8;exact c5 p2 p Y G3 (g1.trans (g2.trans g3)) (bV hG3) ((g2.trans g3) _ _ f1) (g3 _ _ f2)
  refine a2 (X:=fun v G=>oZ _ _ [some (.ref a),some (.ref wl),some (.int S),some (nV J),none,none,some (.int (ct:Int)),some v] G) bB (mu.refl H) fun lp Y p2 H2 s2 Z a0 ag=>?_
  have cv:((xs.drop ct).take (16+J - ct)).length=16+J - ct:=by rw[vc,GL]; omega
  refine jC (fun σ' H3=>∃ (lp Y p2:Addr) (c:Nat),c≤16∧16+J - c≤16∧σ'=[some (.ref a),some (.ref wl),some (.int S),some (nV J),none,none,some (.int (ct:Int)),some (.ref lp)]∧mu H H3∧H3 lp=some (.lst [.ref Y,.ref p2])∧H3 Y=some (.lst ((xs.take c).map V.str))∧H3 p2=some (.lst (((xs.drop c).take (16+J - c)).map V.str))) (fun kk cf=>?_) ?_
  ·walk_at "r"
   refine⟨_,_,.inl (rd.of Z),aE (j:=1) rfl,?_⟩
   walk_at "r";refine⟨_,.inl (rd.of ag),bH (fun c=>?_) (fun c=>?_)⟩
   ·refine a2 (X:=fun v G=>kk [some (.ref a),some (.ref wl),some (.int S),some (nV J),none,none,some (.int (ct:Int)),some v] G) (c:=1) (by decide) s2 fun ed d5 c4 H3 s3 e1 e2 e3=>?_
    exact cf _ _ ⟨ed,d5,c4,1,by decide,by omega,rfl,s2.trans s3,e1,e2,e3⟩
   ·rw[zc,cv]at c
    exact cf _ _ ⟨lp,Y,p2,ct,bB,by omega,rfl,s2,Z,a0,ag⟩
  clear Z a0 ag cv;rintro σ' H3 ⟨lp,Y,p2,c,bB,cm,rfl,s3,Z,a0,ag⟩
  have bA:(xs.take c).length=c:=by rw[vc]; omega
  have b5:((xs.drop c).take (16+J - c)).length=16+J - c:=by rw[vc,GL]; omega
  have bp:xs.take (16+J)=xs.take c++(xs.drop c).take (16+J - c):=by
   have:=List.take_add (l:=xs) (i:=c) (j:=16+J - c)
   rwa [show c+(16+J - c)=16+J by omega]at this
  have as:(xs.take (16+J)).Nodup:=cd.sublist (zbA _ _)
  rw[bp]at as
  have a4:∀ y∈xs.take c++(xs.drop c).take (16+J - c),y.length≤10:=fun y hy=>bz y (GU (by rw[bp]; exact hy))
  generalize xs.take c=ya at a0 bA as a4;generalize (xs.drop c).take (16+J - c)=yb at ag b5 as a4;walk_at "n";refine⟨_,_,.inl (rd.of Z),mz,?_⟩
  refine⟨Y,ya,rfl,rd.of a0,by omega,fun w1 ta eu a7 d6=>?_⟩
  have dl:ta.length=c:=by rw[a7.length_eq,bA]
  generalize hG1:upd H3 w1 _=G1
  obtain⟨g1,f1⟩:=cS hG1 eu
  refine⟨by decide,fun b1 dc=>?_⟩
  generalize hG2:upd G1 b1 _=G2
  obtain⟨g2,f2⟩:=cS hG2 dc
  have b7:=g1.trans g2;refine⟨_,_,.inl (rd.of (b7 _ _ Z)),mz,?_⟩
  walk_at "r";refine⟨_,.inl (rd.of (b7 _ _ a0)),?_⟩
  rw[zc,bA];refine⟨b1,c,_,rfl,rfl,f2,by omega,by omega,by rw[uT]; show 1 * c≤sizeLine; exact bG (by omega),fun v1 da=>?_⟩
  rw[uT,show (List.replicate c [V.non]).flatten=(List.replicate c (none:Option Nat)).map ar from uI c none];generalize hG3:upd G2 v1 _=G3
  obtain⟨g3,f3⟩:=cS hG3 da
  refine⟨by decide,fun u1 c1=>?_⟩
  generalize hG4:upd G3 u1 _=G4
  obtain⟨g4,f4⟩:=cS hG4 c1
  refine⟨by decide,fun t1 ej=>?_⟩
  generalize hG5:upd G4 t1 _=G5
  obtain⟨g5,f5⟩:=cS hG5 ej
  have b4:tf G5 t1 (oR S ta none):=uU f5 ((g2.trans (g3.trans (g4.trans g5))) _ _ f1) (g5 _ _ f4) (by rw[dl]; exact(g4.trans g5) _ _ f3)
  have eb:=b7.trans (g3.trans (g4.trans g5));walk_at "n";refine⟨by decide,fun q1 b3=>?_⟩
  generalize hG6:upd G5 q1 _=G6
  obtain⟨g6,f6⟩:=cS hG6 b3
  have a3:=eb.trans g6;refine⟨_,_,.inl (rd.of (a3 _ _ Z)),aE (j:=1) rfl,?_⟩
  refine⟨p2,yb,rfl,rd.of (a3 _ _ ag),by omega,fun w2 tb c0 a6 dm=>?_⟩
  have d7:tb.length=16+J - c:=by rw[a6.length_eq,b5]
  generalize hG7:upd G6 w2 _=G7
  obtain⟨g7,f7⟩:=cS hG7 c0
  refine⟨by decide,fun b2 ek=>?_⟩
  generalize hG8:upd G7 b2 _=G8
  obtain⟨g8,f8⟩:=cS hG8 ek
  have cs:=a3.trans (g7.trans g8);refine⟨_,_,.inl (rd.of (cs _ _ Z)),aE (j:=1) rfl,?_⟩
  walk_at "r";refine⟨_,.inl (rd.of (cs _ _ ag)),?_⟩
  rw[zc,b5];refine⟨b2,((16+J - c:Nat):Int),_,rfl,rfl,f8,by omega,by omega,by rw[uT]; show 1 * (16+J - c)≤sizeLine; exact bG (by omega),fun v2 ep=>?_⟩
  rw[uT,show (List.replicate (16+J - c) [V.int 0]).flatten=(List.replicate (16+J - c) (some 0:Option Nat)).map ar from uI _ (some 0)];generalize hG9:upd G8 v2 _=G9
  obtain⟨g9,f9⟩:=cS hG9 ep
  refine⟨by decide,fun u2 c9=>?_⟩
  generalize hG10:upd G9 u2 _=eg
  obtain⟨b8,ea⟩:=cS hG10 c9
  refine⟨by decide,fun t2 er=>?_⟩
  generalize hG11:upd eg t2 _=cc
  obtain⟨a9,dt⟩:=cS hG11 er
  have b6:tf cc t2 (oR S tb (some 0)):=uU dt ((g8.trans (g9.trans (b8.trans a9))) _ _ f7) (a9 _ _ ea) (by rw[d7]; exact(b8.trans a9) _ _ f9)
  refine⟨by decide,fun q2 bS=>?_⟩
  generalize hG12:upd cc q2 _=et
  obtain⟨be,ei⟩:=cS hG12 bS
  refine⟨by decide,fun p hp=>?_⟩
  generalize hG13:upd et p _=cl
  obtain⟨b9,dV⟩:=cS hG13 hp
  have gA:=g7.trans (g8.trans (g9.trans (b8.trans (a9.trans (be.trans b9)))));have hn:DZ cl p ["one", "two"] [oR S ta none,oR S tb (some 0)]:=ul dV (gA _ _ f6) (b9 _ _ ei) (b4.mono (g6.trans gA)) (b6.mono (be.trans b9))
  obtain⟨na,nb,c3⟩:=Ie.mp as
  have cp:=a7.nodup_iff.mpr na;have cn:=a6.nodup_iff.mpr nb;have aa:=t9 (P:=fun r=>aY r∧r.ws.Nodup∧sortedS r.ws=true∧r.s=S) (a:=oR S ta none) (b:=oR S tb (some 0)) ⟨v3 a1 (by omega) (fun y hy=>a4 y (mW _ (a7.mem_iff.mp hy))) (fun k e=>by cases e),cp,d6,rfl⟩ ⟨v3 a1 (by omega) (fun y hy=>a4 y (y6 _ (a6.mem_iff.mp hy))) (fun k e=>by cases e; rfl),cn,dm,rfl⟩
  have cr:([oR S ta none,oR S tb (some 0)].flatMap (·.ws)).length≤20:=by
   show (ta++(tb++[])).length≤20
   rw[Gp,zV]; omega
  refine q p cl _ _ (s3.trans (a3.trans gA)) hn (fun h0=>⟨show 1≤2 by decide,show 2≤4 by decide,aa,show 1≤60 by decide,cr,fun ts ad=>?_⟩) (fun h1=>⟨show 1≤2 by decide,show 2≤4 by decide,aa,show 1≤1000 by decide,cr,fun ts ad=>.inl ?_⟩)
  ·have h2:ts.length≤ta.length+tb.length:=pS ad
   omega
  ·have:=fX (l:=ta++tb) (m:=ts) (Ie.mpr ⟨cp,cn,fun y hy z hz e=>c3 y (a7.mem_iff.mp hy) z (a6.mem_iff.mp hz) e⟩) fun y hy=>(ad.2.2 y).mpr (by
    show y∈ta++(tb++[])
    rw[Gp]; exact hy)
   rw[zV]at this
   omega
end
theorem la:bootBuiltins "ValueError" = some (.type "ValueError"):=PyProof.Rows.Boot.«ValueError»
theorem r_{H H':Hp}{a:Addr}{o:HO}(s:mu H H')(h:H' a=none):mu H (upd H' a o):=fun b u z=>by
 have F:=s _ _ z;rw[al (au F h)];exact F
theorem Es{rs:List Rl}{us:List Str}{M:Nat}(h:M=(aw rs us M).length)(r:Nat):(aw rs us r).length≤M:=by
 have F:∀ k,aw rs us (M+k)=aw rs us M:=fun k=>by
  induction k with
  | zero=>rfl
  | succ k ih=>
   show (if M+k<(aw rs us (M+k)).length then _ else aw rs us (M+k))=_
   rw[HP (by rw[ih]; omega),ih]
 rcases x6 r M with z | z
 ·obtain⟨x,e⟩:=fG (rs:=rs) (us:=us) r (M - r)
  rw[show r+(M - r)=M by omega]at e
  have:=congrArg List.length e
  rw[zV]at this
  omega
 ·have:=F (r - M)
  rw[show M+(r - M)=r by omega]at this
  rw[this]; omega
def ur:Sp:=fun vs H Q _=>∃ (l:Addr) (ns:List Str) (rs:List Rl) (sd:Int) (t:Str),vs=[.ref l]∧DZ H l ns rs∧1≤rs.length∧rs.length≤8∧(∀ r∈rs,aY r∧r.ws.Nodup)∧(∃ r∈rs.head?,r.s=sd)∧((t = "fit" ∧ ∃ r∈rs,r.s≠sd)∨(t = "great" ∧ xZ rs sd))∧
 ∀ (p:Addr) (H':Hp),mu H H'→H' p=some (.lst [.str t])→Q (.ref p) H'
section
variable{P:Program}{w:World}{K:W.Frag}{mg:Str→Option Value}{base:Heap}{CN CT CB CU CX CR:Addr}
theorem zr(D:AS K mg "_law_refused" bh) (F:mg "isinstance" = none) (Y:mg "ValueError" = none) (ad:jO mg "NoRule" CR) (ag:jO mg "NoText" CX) (O:gh K mg "NoFit" CN) (J:gh K mg "TooGreat" CT) (an:jO mg "Breach" CB) (Z:jO mg "UseError" CU)
  (k1:W.kitOne K (.ref CN) (.ref CX)=some false) (k2:W.kitOne K (.ref CN) (.ref CR)=some false) (k3:W.kitOne K (.ref CN) (.ref CB)=some false) (k5:W.kitOne K (.ref CN) (.ref CT)=some false) (k6:W.kitOne K (.ref CN) (.ref CU)=some true) (k7:W.kitOne K (.ref CN) (.type "ValueError")=some true)
  (j1:W.kitOne K (.ref CT) (.ref CX)=some false) (j2:W.kitOne K (.ref CT) (.ref CR)=some false) (j3:W.kitOne K (.ref CT) (.ref CB)=some false) (S:W.kitOne K (.ref CT) (.ref CN)=some false) (j6:W.kitOne K (.ref CT) (.ref CU)=some true) (j7:W.kitOne K (.ref CT) (.type "ValueError")=some true)
  (aa:E7 P w K mg base 3 "laid_rules" ["rules"] (sR P w CN CT)):C9 P w K mg base 4 "_law_refused" ["_law_rules_here"] ur:=by
 refine D.cal (k:=3) Aw (fun _ _ _ _ _ _ us hl=>match us,hl with | [_],_=>rfl) (fun vs H Q E h=>by obtain⟨_,_,_,_,_,rfl,_⟩:=h; rfl) (fun f a4 A outer s H vs Q E hr h=>?_)
 obtain⟨l,ns,rs,sd,t,rfl,hN,n1,n8,ok,a0,hb,q⟩:=h
 refine⟨_,(af (ap 1 Aw.nd (bu ae))
   (af (ap 2 Aw.nd iD)
   (af (BJ 3 O J S Aw.nd (fun Ee=>(BP (EC 1 Aw.nd (Cf aa hr (ac (pv 0) ae))))) (fun a=>(af (ap 1 Aw.nd (bu (ac cI ae)))
   (af (ap 2 Aw.nd (gj (a_ (dv K) F bQ (ac (pv 3) (ac (eJ J.m) ae))) (gj (nC (a_ (dv K) F bQ (ac (pv 3) (ac (eJ Z.m) ae)))) (j_ (nC (a_ (dv K) F bQ (ac (pv 3) (ac (rU Y la) ae))))))))
   (am (ap 2 Aw.nd (gj (pv 2) (gj (a_ (dv K) F bQ (ac (pv 3) (ac (eJ ad.m) ae))) (gj (a_ (dv K) F bQ (ac (pv 3) (ac (eJ ag.m) ae))) (j_ (a_ (dv K) F bQ (ac (pv 3) (ac (eJ an.m) ae)))))))))))) (fun a=>(af (ap 1 Aw.nd (bu (ac cI ae)))
   (af (ap 2 Aw.nd (gj (a_ (dv K) F bQ (ac (pv 3) (ac (eJ O.m) ae))) (gj (nC (a_ (dv K) F bQ (ac (pv 3) (ac (eJ Z.m) ae)))) (j_ (nC (a_ (dv K) F bQ (ac (pv 3) (ac (rU Y la) ae))))))))
   (am (ap 2 Aw.nd (gj (pv 2) (gj (a_ (dv K) F bQ (ac (pv 3) (ac (eJ ad.m) ae))) (gj (a_ (dv K) F bQ (ac (pv 3) (ac (eJ ag.m) ae))) (j_ (a_ (dv K) F bQ (ac (pv 3) (ac (eJ an.m) ae)))))))))))) Kd (hg':=Dm))
   (af (cC (oz (pv 2)) (am (aV (bu ae))) bI)
   (am (aV (pv 1))))))),?_⟩
 walk_at "r";refine⟨by decide,fun e0 a2=>?_⟩
 generalize hH1:upd H e0 _=H1
 have s1:=bj hH1 a2;walk_at "n";walk_at "n";rw[Av];walk_at "r";refine⟨l,ns,rs,sd,rfl,hN.mono s1,n1,n8,ok,a0,fun hx H2 s2=>.inl ⟨rfl,fun e he=>?_⟩,fun a1=>?_⟩
 ·have et:t = "fit" := by
   rcases hb with ⟨h,_⟩ | ⟨_,h⟩
   ·exact h
   ·obtain⟨r,hr,as⟩:=hx
    exact absurd (h.ok r hr).2.2.2 as
  subst et;have ha:upd H2 e (ke e (.ref CN)) e=some (ke e (.ref CN)):=ak
  have sX:=r_ (o:=ke e (.ref CN)) (s1.trans s2) he;generalize upd H2 e (ke e (.ref CN))=H3 at ha sX ⊢;walk_at "r";refine⟨by decide,fun p hp=>?_⟩
  generalize hH4:upd H3 p _=H4
  obtain⟨s4,e4⟩:=cS hH4 hp
  have ha:=s4 _ _ ha;walk_at "n";refine eD ha O.c k5 ⟨_,rfl,lM (eD ha O.c k6 ⟨_,rfl,lM (eD ha O.c k7 ⟨_,rfl,?_⟩)⟩)⟩
  walk_at "n";refine eD ha O.c k2 ⟨_,rfl,lM (eD ha O.c k1 ⟨_,rfl,lM (eD ha O.c k3 ?_)⟩)⟩
  walk_at "n";walk_at "n";exact q p H4 (sX.trans s4) e4
 ·rcases hb with ⟨_,r,hr,as⟩ | ⟨rfl,hg⟩
  ·exact absurd (a1 r hr) as
  refine⟨hg.pr,by have:=hg.fl; omega,fun ts a3 a6 H2 s2=>.inr ⟨rfl,fun e he=>?_⟩,fun p H2 s2 hp hT=>?_⟩
  rotate_left
  ·obtain⟨_,_,_,_,ts,_,_,_,hw,_,_,M,_,_,a7,a5,hM,_⟩:=hT
   rcases hg.gr ts hw with z | ⟨r,z⟩
   ·omega
   ·have:=Es hM r
    omega
  have ha:upd H2 e (ke e (.ref CT)) e=some (ke e (.ref CT)):=ak
  have sX:=r_ (o:=ke e (.ref CT)) (s1.trans s2) he;generalize upd H2 e (ke e (.ref CT))=H3 at ha sX ⊢;walk_at "r";refine⟨by decide,fun p hp=>?_⟩
  generalize hH4:upd H3 p _=H4
  obtain⟨s4,e4⟩:=cS hH4 hp
  have ha:=s4 _ _ ha;walk_at "n";refine eD ha J.c S ⟨_,rfl,lM (eD ha J.c j6 ⟨_,rfl,lM (eD ha J.c j7 ⟨_,rfl,?_⟩)⟩)⟩
  walk_at "n";refine eD ha J.c j2 ⟨_,rfl,lM (eD ha J.c j1 ⟨_,rfl,lM (eD ha J.c j3 ?_)⟩)⟩
  walk_at "n";walk_at "n";exact q p H4 (sX.trans s4) e4
end
section
variable{P:Program}{w:World}{K:W.Frag}{mg:Str→Option Value}{base:Heap}
def Er:Sp:=fun vs H Q _=>∃ (p:Addr) (r:Rl) (k:Nat) (y:Str),vs=[.ref p,.int (k:Int),.str y]∧tf H p r∧aY r∧k<r.rs.length∧Q (ar (aC r k y)) H
theorem Fd(D:AS K mg "_law_to" gT):C9 P w K mg base 1 "_law_to" ["_law_rule", "_law_room", "_law_word"] Er:=by
 refine D.cal (k:=0) wH (fun _ _ _ _ _ _ us hl=>match us,hl with | [_,_,_],_=>rfl) (fun Y H Q E h=>by obtain⟨p,r,k,y,rfl,_⟩:=h; rfl) (fun f Z A outer s H Y Q E hr h=>?_)
 obtain⟨p,r,k,y,rfl,hR,ok,O,q⟩:=h
 obtain⟨pw,pr,S,h1,h2,h3,h4,h5⟩:=hR
 refine⟨_,(af (cC (ba (oH K) (pv 2) (aD (aZ K) (pv 0) ah (fun _ _=>rfl)) (by with_unfolding_all rfl)) (am (aV (aD (aZ K) (aD (aZ K) (aD (aZ K) (pv 0) ah (fun _ _=>rfl)) (pv 1) (fun _ _=>rfl)) (dw K FZ zbj zbW (qe K) (aD (aZ K) (pv 0) ah (fun _ _=>rfl)) (ac (pv 2) ae)) (fun _ _=>rfl)))) bI)
   (am (aV (pv 1)))),?_⟩
 walk_at "r";refine⟨_,_,.inr (C3.of h1),aE (j:=1) rfl,?_⟩
 walk_at "r";refine⟨_,.inl (rd.of h2),rfl,pP _,?_⟩
 rw[ub];refine bH (fun c=>?_) (fun c=>?_)
 ·have F:y∈r.ws:=by simpa using c
  have J:k<S.length:=by omega
  have hx:=ok.row _ (zl O);have W:r.ws.idxOf y<(r.rs[k]).length:=by rw[hx.1]; exact HM.mpr F
  refine⟨_,_,.inr (C3.of h1),aE (j:=2) rfl,?_⟩
  walk_at "r";refine⟨_,_,.inl (rd.of h3),aE (v:=.ref S[k]) (by rw[ze,za J]; rfl),?_⟩
  refine⟨_,_,.inr (C3.of h1),aE (j:=1) rfl,?_⟩
  walk_at "r";refine⟨⟨_,rd.of h2⟩,_,rd.of h2,F,?_⟩
  walk_at "r";refine⟨_,_,.inl (rd.of (h5 k _ _ (za J) (za O))),aE (v:=ar (aC r k y)) ?_,q⟩
  rw[ze,za W];unfold aC;rw[HS F,zp,zp,za O];show _=some (ar ((r.rs[k])[r.ws.idxOf y]?.getD none))
  rw[za W]; rfl
 ·have F:y∉r.ws:=by simpa using c
  have e:aC r k y=some k:=by unfold aC; rw[HP F]
  rw[e]at q
  walk_at "n";exact q
def sk:Sp:=fun vs H Q _=>∃ (fp l rp q pb:Addr) (nms:List Str) (rs:List Rl) (ts ys:List Str) (M:Nat) (S:Int) (bs:List Addr),vs=[.ref fp,.ref l,.ref rp]∧H fp=some (.tup [.ref q,.ref pb])∧tf H q (dF S rs ts M)∧aY (dF S rs ts M)∧vr H pb ((List.range M).map (fE rs ts)) bs∧CH rs ts M∧DZ H l nms rs∧rs.length≤8∧H rp=some (.lst (ys.map V.str))∧∀ H',mu H H'→Q (.bl true) H'
theorem yc(D:AS K mg "_law_walked" av) (a2:mg "len" = none) (aa:mg "range" = none) (F:C9 P w K mg base 1 "_law_to" ["_law_rule", "_law_room", "_law_word"] Er):C9 P w K mg base 2 "_law_walked" ["_law_found", "_law_rules_here", "_law_row"] sk:=by
 refine D.cal (k:=1) AK (fun _ _ _ _ _ _ us hl=>match us,hl with | [_,_,_],_=>rfl) (fun vs H Q E h=>by obtain⟨_,_,_,_,_,_,_,_,_,_,_,_,rfl,_⟩:=h; rfl) (fun f cb A outer s H vs Q E hr h=>?_)
 obtain⟨fp,l,rp,qp,pb,bB,rs,ts,ys,M,S,bs,rfl,b7,hR,b5,hB,W,hN,n8,a9,q⟩:=h
 obtain⟨qs,ps,h1,h2,h3,h4,h5,h6⟩:=id hN
 refine⟨_,(af (fu (pv 0) (ff K (n:=2) (cA (aU 3 AK.nd) (cA (aU 4 AK.nd) fc))))
   (af (ap 5 AK.nd ah)
   (af (ap 6 AK.nd (cX (CW.to (fsc:=(h8 av)) (N:=["_law_found", "_law_rules_here", "_law_row", "_law_rule", "_law_blames", "_law_room", "_law_rooms_here", "_law_word", "_law_to_here", "_law_there", "_law_blame"]) (N0:=["_law_found", "_law_rules_here", "_law_row", "_law_rule", "_law_blames", "_law_room", "_law_rooms_here", "_law_word", "_law_to_here", "_law_there", "_law_blame"]) (T:=["_law_one"]) ⟨by decide +kernel,by decide +kernel,by decide +kernel,by decide +kernel,by decide +kernel,by decide +kernel,by decide +kernel⟩ rfl rfl) rfl (bT K (pv 1 (hv:=CA))) (fun _ _ _ _=>(aU 11 (show (["_law_found", "_law_rules_here", "_law_row", "_law_rule", "_law_blames", "_law_room", "_law_rooms_here", "_law_word", "_law_to_here", "_law_there", "_law_blame", "_law_one"]:List Str).Nodup from by decide +kernel) (hx:=(dG (h8 av) (by decide +kernel))) (hf:=fm (h8 av) (by decide +kernel)))) (bN (show (["_law_found", "_law_rules_here", "_law_row", "_law_rule", "_law_blames", "_law_room", "_law_rooms_here", "_law_word", "_law_to_here", "_law_there", "_law_blame"]:List Str).length≤11 from by decide)) (fun _ _ _ _=>bR) (fun _ _ _ _=>ah)) (hx:=D5))
   (af (dj rG rfl (bT K (pv 2)) (aU 7 AK.nd (hx:=H_)) (af (i0 (CW.to (fsc:=(h8 av)) (N:=["_law_found", "_law_rules_here", "_law_row", "_law_rule", "_law_blames", "_law_room", "_law_rooms_here", "_law_word", "_law_to_here", "_law_there", "_law_blame"]) (N0:=["_law_found", "_law_rules_here", "_law_row", "_law_rule", "_law_blames", "_law_room", "_law_rooms_here", "_law_word", "_law_to_here", "_law_there", "_law_blame"]) (T:=["_law_k"]) ⟨by decide +kernel,by decide +kernel,by decide +kernel,by decide +kernel,by decide +kernel,by decide +kernel,by decide +kernel⟩ rfl rfl) rfl AK.nd (i:=8) rfl Kl (dk HJ aa (ac (a_ (bq K) a2 ce (ac (pv 1 (hv:=CA)) ae)) ae)) (fun _ _ _ _=>(aU 11 (show (["_law_found", "_law_rules_here", "_law_row", "_law_rule", "_law_blames", "_law_room", "_law_rooms_here", "_law_word", "_law_to_here", "_law_there", "_law_blame", "_law_k"]:List Str).Nodup from by decide +kernel) (hx:=(dG (h8 av) (by decide +kernel))) (hf:=fm (h8 av) (by decide +kernel)))) (bN (show (["_law_found", "_law_rules_here", "_law_row", "_law_rule", "_law_blames", "_law_room", "_law_rooms_here", "_law_word", "_law_to_here", "_law_there", "_law_blame"]:List Str).length≤11 from by decide)) (fun _ _ _ _=>bR) (fun _ _ _ _=>(aO F hr (ac (aD (aZ K) (aD (aZ K) (pv 1 (hv:=(bP (h8 av) (by decide +kernel)))) (pv 11 (hv:=(bP (h8 av) (by decide +kernel)))) (fun _ _=>rfl)) ah (fun _ _=>rfl)) (ac (aD (aZ K) (pv 6 (hv:=(bP (h8 av) (by decide +kernel)))) (pv 11 (hv:=(bP (h8 av) (by decide +kernel)))) (fun _ _=>rfl)) (ac (pv 7 (hv:=(bP (h8 av) (by decide +kernel)))) ae))) (hg:=(sw (h8 av) (by decide +kernel))))))
   (af (ap 9 AK.nd (aO F hr (ac (pv 3) (ac (pv 5) (ac (pv 7 (hv:=zF)) ae)))))
   (af (cC (ba lc (ip fI (pv 9) ck (bt _)) (ip (oH K) ck (pv 8) (by with_unfolding_all rfl)) (bt _)) (am (aV iD)) bI)
   (af (cC (ba (oH K) (pv 7 (hv:=zF)) (aD (aZ K) (pv 3) ah (fun _ _=>rfl)) (by with_unfolding_all rfl)) (af (ap 10 AK.nd (aD (aZ K) (aD (aZ K) (pv 4) (pv 5) (fun _ _=>rfl)) (dw K FZ zbj zbW (qe K) (aD (aZ K) (pv 3) ah (fun _ _=>rfl)) (ac (pv 7 (hv:=zF)) ae)) (fun _ _=>rfl)))
   (am (cC (PW.pt' (vD (PW.pt' (li (ba fI (pv 9) ck (bt _)) (j8 (ba lc (pv 10) (dw K FZ zbj zbW (yd K) (pv 8) (ac ck ae)) (bt _))))) (qV (PW.pt' (li (ba nA (pv 9) ck (bt _)) (j8 (ba nA (pv 10) ck (bt _)))))))) (am (aV iD)) bI))) bI)
   (af (cC (ba fI (pv 9) ck (bt _)) (am (aV iD)) bI)
   (af (ap 5 AK.nd (pv 9))
   (am (ap 6 AK.nd (pv 8) (hx:=D5))))))))))
   (am (aV iD)))))),?_⟩
 walk_at "r";refine⟨fp,_,rfl,C3.of b7,rfl,?_⟩
 walk_at "r";walk_at "n";walk_at "n";refine⟨⟨_,rd.of h1⟩,fun L hL=>?_⟩
 refine cB (xs:=qs.map V.ref) (fun i ys H'=>mu H H'∧H' L=some (.lst ys)∧ys=(List.replicate i 0).map nV) ⟨ay hL _,ak,rfl⟩ (fun i ys H' _ h=>rd.of (h.1 _ _ h1)) ?_ ?_
 ·rintro i ys H' v hv hi ⟨sm,hl,rfl⟩
  rw[zc]at hi
  walk_at "r";exact df (by rw[zc]; exact hi) (by simp) (by rw[zc]; exact bG (by omega)) hl ⟨sm.upd hL _,ak,by rw[List.replicate_succ',z9]; rfl⟩
 rintro zs H1 ⟨s1,bz,rfl⟩
 rw[zc,h2]at bz
 walk_at "n";refine⟨⟨_,rd.of (s1 _ _ a9)⟩,?_⟩
 refine eP (xs:=ys.map V.str) (fun i σ H'=>∃ (k:Nat) (t:List Nat) (rl:Addr) (o7 o8 o9 O:Option V),σ=[some (.ref fp),some (.ref l),some (.ref rp),some (.ref qp),some (.ref pb),some (nV k),some (.ref rl),o7,o8,o9,O]∧mu H H'∧(aw rs ts M)[k]? = some t∧H' rl=some (.lst (t.map nV))) ⟨0,_,L,_,_,_,_,rfl,s1,W.zero,bz⟩ (fun i σ H' _ h=>by obtain⟨_,_,_,_,_,_,_,_,sm,_⟩:=h; exact rd.of (sm _ _ a9)) ?_ ?_
 ·rintro i v σ H' hv ⟨k,t,rl,o7,o8,o9,O,rfl,sm,ht,bp⟩
  obtain⟨y,rfl⟩ : ∃ y,v = .str y:=by
   obtain⟨y,_,e⟩:=HR.mp (zX hv)
   exact⟨y,e.symm⟩
  clear hv;have a1:=W.inn (zX ht);have an:k<M:=by rw[W.M1]; exact(HL.mp ht).1
  walk_at "r";refine⟨_,.inl (rd.of (sm _ _ h1)),?_⟩
  rw[zc,h2];refine⟨by omega,by omega,fun tl a8=>?_⟩
  have a3:(aR rs t y).length=rs.length:=by unfold aR; rw[zbv,a1.1]; omega
  refine fq (fun j zs a4=>mu H' a4∧a4 tl=some (.lst zs)∧zs=((aR rs t y).take j).map ar) ⟨ay a8 _,ak,rfl⟩ ?_ ?_
  ·rintro j zs a4 hj ⟨sx,hl,rfl⟩
   have Y:j<rs.length:=hj
   have a6:j<t.length:=by rw[a1.1]; exact Y
   have a5:=sm.trans sx;have b8:j<qs.length:=by omega
   have cf:j<ps.length:=by omega
   have cc:j<bB.length:=by omega
   have hq:=a5 _ _ (h5 j qs[j] bB[j] ps[j] (za _) (za _) (za _));have b4:=(h6 j ps[j] rs[j] (za _) (za Y)).mono a5;walk_at "r";rw[Ho];refine⟨_,_,.inl (rd.of (a5 _ _ h1)),aE (v:=.ref qs[j]) (by rw[ze,za b8]; rfl),?_⟩
   walk_at "r";refine⟨_,_,.inr (C3.of hq),aE (j:=1) rfl,?_⟩
   refine⟨_,_,.inl (rd.of (sx _ _ bp)),aE (v:=nV t[j]) (by rw[ze,za a6]; rfl),?_⟩
   refine⟨_,rs[j],t[j],y,rfl,b4,W.ok _ (zl Y),a1.2 j _ _ (za Y) (za a6),?_⟩
   refine df hj (by rw[zc,vc]; omega) (bG (by omega)) hl ⟨sx.upd a8 _,ak,?_⟩
   have e:(aR rs t y)[j]? = some (aC rs[j] t[j] y):=by
    unfold aR;rw[zbe,za Y,za a6]
   rw[vy,e,z9]; rfl
  rintro zs H2 ⟨s2,J,rfl⟩
  rw[uT,Gd (by omega)]at J
  have ag:=sm.trans s2;have be:=hR.mono ag;walk_at "n";refine⟨qp,_,k,y,rfl,be,b5,by rw[gU]; exact an,?_⟩
  rw[W.step ht]
  have bS:(fE rs ts k)=ts.map fun z=>jz (aR rs t z):=by
   unfold fE db;rw[F9,(W.here an).2,(HL.mp ht).2];exact GN fun z _=>rfl
  walk_at "n";have Z:eT (aw rs ts M) (aR rs t y)=if none∈aR rs t y then none else some ((aw rs ts M).idxOf (ci (aR rs t y))):=rfl
  have a0:none∉aR rs t y→(aw rs ts M)[(aw rs ts M).idxOf (ci (aR rs t y))]? = some (ci (aR rs t y)):=fun hb=>by
   have hx:=HM.mpr (W.closed (zX ht) hb);rw[za hx,gV]
  have a7:=fun hb=>nc (t:=aR rs t y) hb
  have b6:=hB.mono ag
  have as:y∈ts→(fE rs ts k)[ts.idxOf y]? = some (jz (aR rs t y)):=fun hy=>by
   have hx:=HM.mpr hy;rw[bS,ze,za hx,gV]; rfl
  generalize (aw rs ts M).idxOf (ci (aR rs t y))=k' at Z a0;rw[Z];generalize aR rs t y=T at J Z a0 a7 as a3 ⊢;refine⟨_,.inl (rd.of J),rfl,ni T,?_⟩
  rw[q8]
  have eN:decide (ar (if none∈T then none else some k')=V.non)=decide (none∈T):=by
   by_cases c:none∈T
   ·rw[HS c,decide_eq_true c]; rfl
   ·rw[HP c,decide_eq_false c]; rfl
  rw[eN];refine bH (fun c=>absurd c (by simp)) (fun _=>?_)
  obtain⟨cd,rr,cl,r1,r2,r3⟩:=be
  refine jC (fun σ' H3=>∃ O,σ'=[some (.ref fp),some (.ref l),some (.ref rp),some (.ref qp),some (.ref pb),some (nV k),some (.ref rl),some (.str y),some (.ref tl),some (ar (if none∈T then none else some k')),O]∧H3=H2) (fun kk ad=>?_) ?_
  ·walk_at "r"
   refine⟨_,_,.inr (C3.of r1),aE (j:=1) rfl,?_⟩
   walk_at "r";refine⟨_,.inl (rd.of r2),rfl,pP _,?_⟩
   rw[ub];refine bH (fun c=>?_) (fun c=>ad _ _ ⟨_,rfl,rfl⟩)
   have hy:y∈ts:=of_decide_eq_true c
   obtain⟨b1,b2,b3⟩:=id b6
   have bA:k<bs.length:=by rw[b2,zc,iP]; exact an
   have b9:=b3 k bs[k] (fE rs ts k) (za bA) (by rw[ze,Gn an]; rfl)
   refine⟨_,_,.inl (rd.of b1),aE (v:=.ref bs[k]) (by rw[ze,za bA]; rfl),?_⟩
   refine⟨_,_,.inr (C3.of r1),aE (j:=1) rfl,?_⟩
   walk_at "r";refine⟨⟨_,rd.of r2⟩,_,rd.of r2,hy,?_⟩
   refine⟨_,_,.inl (rd.of b9),aE (v:=ar (jz T)) (by
    rw[ze];show Option.map ar (fE rs ts k)[ts.idxOf y]? = _
    rw[as hy]; rfl),?_⟩
   walk_at "n"
   by_cases cn:none∈T
   ·have eb:jz T=some (T.idxOf none):=by unfold jz; rw[HS cn]
    rw[HS cn,eb]at *
    refine bH (fun _=>⟨⟨_,rd.of J⟩,tl,keyO T,none,rfl,rfl,by rw[← lG]; exact rd.of J,HR.mpr ⟨none,cn,rfl⟩,?_⟩) (fun c=>absurd rfl c)
    rw[nn];show v6 (V.int ((T.idxOf none:Nat):Int)) _ _ _
    walk_at "r";refine bH (fun c=>absurd c (by simp)) (fun _=>ad _ _ ⟨_,rfl,rfl⟩)
   ·have eb:jz T=none:=by unfold jz; rw[HP cn]
    rw[HP cn,eb]at *
    refine bH (fun c=>by cases c) (fun _=>bH (fun _=>?_) (fun _=>ad _ _ ⟨_,rfl,rfl⟩))
    exact bH (fun c=>absurd c (by decide)) (fun _=>ad _ _ ⟨_,rfl,rfl⟩)
  rintro σ' H3 ⟨ca,rfl,rfl⟩
  walk_at "n"
  by_cases cn:none∈T
  ·rw[HS cn]
   exact bH (fun _=>q _ ag) (fun c=>absurd rfl c)
  ·rw[HP cn]
   refine bH (fun c=>by cases c) (fun _=>?_)
   walk_at "n";walk_at "n";exact⟨k',_,tl,_,_,_,_,rfl,ag,a0 cn,by rw[J,a7 cn]⟩
 ·rintro σ H' ⟨k,t,rl,o7,o8,o9,O,rfl,sm,ht,bp⟩
  walk_at "n";exact q H' sm
end
theorem lA:∀ (a b:List Rl),cE (a++b)=cE a * cE b
 | [],b=>by show cE b=1 * cE b; omega
 | r::a,b=>by
  show r.rs.length * cE (a++b)=r.rs.length * cE a * cE b
  rw[lA a b,Nat.mul_assoc]
theorem pR:∀ (b:List Rl),(∀ r∈b,aY r)→1≤cE b
 | [],_=>zg 1
 | r::b,h=>Nat.mul_pos (h r wZ).n0 (pR b fun r hr=>h r (zU _ hr))
theorem vW{rs:List Rl}(ok:∀ r∈rs,aY r)(i:Nat):cE (rs.take i)≤cE rs:=by
 have e:=lA (rs.take i) (rs.drop i);rw[GT]at e
 rw[e];have:=pR (rs.drop i) fun r hr=>ok r (List.mem_of_mem_drop hr)
 exact Nat.le_mul_of_pos_right _ this
def ui:Sp:=fun vs H Q _=>∃ (fp l q pb:Addr) (nms:List Str) (rs:List Rl) (ts:List Str) (M:Nat) (S:Int),vs=[.ref fp,.ref l]∧H fp=some (.tup [.ref q,.ref pb])∧tf H q (dF S rs ts M)∧aY (dF S rs ts M)∧CH rs ts M∧sortedS ts=true∧ts.length≤16∧M≤60∧DZ H l nms rs∧j5 rs S∧∀ H',Q (.bl true) H'
section
variable{P:Program}{w:World}{K:W.Frag}{mg:Str→Option Value}{base:Heap}
theorem zS(D:AS K mg "_law_joined" cw) (J:C9 P w K mg base 7 "joined_rule" ["one", "other"] (rA dW)) (F:C9 P w K mg base 6 "least_rule" ["rule"] pF):C9 P w K mg base 8 "_law_joined" ["_law_found", "_law_rules_here"] ui:=by
 refine D.cal (k:=7) DF (fun _ _ _ _ _ _ us hl=>match us,hl with | [_,_],_=>rfl) (fun vs H Q E h=>by obtain⟨_,_,_,_,_,_,_,_,_,rfl,_⟩:=h; rfl) (fun f bB A outer s H vs Q E hr h=>?_)
 obtain⟨fp,l,qp,pb,Z,rs,ts,M,S,rfl,a6,hR,as,W,a8,h16,hM,hN,hD,q⟩:=h
 obtain⟨Y,ps,h1,h2,h3,h4,h5,h6⟩:=id hN
 have n1:=hD.n1
 have ad:∀ r∈rs,E9 ts S r.rs.length (kp r) r:=fun r hr=>by
  obtain⟨a1,a2,a3,a4⟩:=hD.ok r hr
  exact⟨a1,a2,a3,fun y hy=>(W.ws y).mpr ⟨r,hr,hy⟩,a4,zg _,fun _=>Iff.rfl⟩
 refine⟨_,(af (ap 2 DF.nd (aD (aZ K) (aD (aZ K) (pv 1) ah (fun _ _=>rfl)) ah (fun _ _=>rfl)))
   (af (dj rG rfl (bT K (dC (dD K) (pv 1) (cM ah) fV)) (ff K (n:=2) (cA (aU 3 DF.nd) (cA (aU 4 DF.nd) fc))) (am (ap 2 DF.nd (aO J hr (ac (pv 2) (ac (pv 4) ae))))))
   (am (aV (ip (BO K hr) (aO F hr (ac (aD (aZ K) (pv 0) ah (fun _ _=>rfl)) ae)) (aO F hr (ac (pv 2) ae)) (bt _)))))),?_⟩
 walk_at "r";have a0:=h5 0 (Y[0]'(by omega)) (Z[0]'(by omega)) (ps[0]'(by omega)) (za _) (za _) (za _)
 have a7:=h6 0 (ps[0]'(by omega)) (rs[0]'(by omega)) (za _) (za _)
 refine⟨_,_,.inl (rd.of h1),aE (j:=0) (v:=.ref (Y[0]'(by omega))) (by rw[ze,za]; rfl),?_⟩
 walk_at "r";refine⟨_,_,.inr (C3.of a0),aE (j:=1) rfl,?_⟩
 walk_at "n";have ag:dP (Y.map V.ref) (some 1) none=(Y.drop 1).map V.ref:=by rw[List.map_drop]; exact pY _ 1
 refine⟨_,rd.of h1,fun lp bA=>?_⟩
 rw[ag];generalize hH1:upd H lp _=H1
 obtain⟨s1,e1⟩:=cS hH1 bA
 have an:rs.take 1=[rs[0]]:=by
  match rs,n1 with
  | r::rs,_=>rfl
 refine⟨⟨_,rd.of e1⟩,?_⟩
 refine eP (xs:=(Y.drop 1).map V.ref) (fun i σ H'=>∃ (p:Addr) (d:Rl) (o3 o4:Option V),σ=[some (.ref fp),some (.ref l),some (.ref p),o3,o4]∧mu H H'∧tf H' p d∧E9 ts S (cE (rs.take (i+1))) (fun ys=>∀ r∈rs.take (i+1),kp r ys) d∧H' lp=some (.lst ((Y.drop 1).map V.ref))) ⟨_,_,_,_,rfl,s1,a7.mono s1,?_,e1⟩ (fun i σ H' _ h=>by obtain⟨_,_,_,_,_,_,_,_,z⟩:=h; exact rd.of z) ?_ ?_
 ·have h0:=ad rs[0] (zl _)
  rw[an];refine⟨h0.ok,h0.nd,h0.so,h0.sub,h0.s,?_,fun ys=>?_⟩
  ·show rs[0].rs.length≤rs[0].rs.length * 1
   omega
  ·simp
 ·rintro i v σ H' hv ⟨p,d,o3,o4,rfl,sm,hd,hI,aa⟩
  have hi:i+1<rs.length:=by
   have:=(HL.mp hv).1
   rw[zc,GL]at this
   omega
  have be:i+1<Y.length:=by omega
  have b1:i+1<ps.length:=by omega
  have bS:i+1<Z.length:=by omega
  rw[ze,List.getElem?_drop,zaZ 1 i,za be]at hv
  cases hv;have hq:=sm _ _ (h5 (i+1) Y[i+1] Z[i+1] ps[i+1] (za _) (za _) (za _));have a5:=(h6 (i+1) ps[i+1] rs[i+1] (za _) (za _)).mono sm;have et:rs.take (i+1+1)=rs.take (i+1)++[rs[i+1]]:=by rw[vy,za hi]; rfl
  have ep:cE (rs.take (i+1+1))=cE (rs.take (i+1)) * rs[i+1].rs.length:=by
   rw[et,lA];show _ * (rs[i+1].rs.length * 1)=_
   rw[Nat.mul_one]
  walk_at "r";refine⟨_,_,rfl,C3.of hq,rfl,?_⟩
  walk_at "r";refine y7 hd a5 hI (ad rs[i+1] (zl _)) h16 ?_ fun t H2 c s2 a9 O _=>?_
  ·rw[← ep]
   exact vg (vW W.ok _) hD.pr
  ·refine⟨t,c,_,_,rfl,sm.trans s2,a9,⟨O.ok,O.nd,O.so,O.sub,O.s,by rw[ep]; exact O.le,fun ys=>?_⟩,s2 _ _ aa⟩
   rw[O.lang,et];simp only[zbx,zbk]
   constructor
   ·rintro⟨z1,z2⟩ r (hr | rfl)
    ·exact z1 r hr
    ·exact z2
   ·exact fun z=>⟨fun r hr=>z r (.inl hr),z _ (.inr rfl)⟩
 rintro σ H' ⟨p,d,o3,o4,rfl,sm,hd,hI,_⟩
 rw[zc,GL,show Y.length - 1+1=rs.length by omega,rP]at hI
 walk_at "n";refine⟨_,_,.inr (C3.of (sm _ _ a6)),mz,?_⟩
 have bp:E9 ts S 60 (fun ys=>∀ r∈rs,kp r ys) (dF S rs ts M):=⟨as,W.nd,a8,fun y hy=>hy,rfl,by rw[gU]; exact hM,fun ys=>W.lang ys⟩
 refine p4 (hR.mono sm) bp fun t1 H2 c1 s2 g1 i1 l1=>?_
 refine p4 (hd.mono s2) hI fun t2 H3 c2 s3 g2 i2 l2=>?_
 have bz:=i1.eq i2 l1 l2 fun _=>Iff.rfl
 subst bz;rw[ii];exact⟨2,true,by decide,BU (g1.mono s3) g2,q _⟩
def uE(P:Program)(w:World):Sp:=fun vs H Q _=>∃ (l:Addr) (ns:List Str) (rs:List Rl) (s:Int),vs=[.ref l]∧DZ H l ns rs∧j5 rs s∧∀ (p:Addr) (H':Hp),mu H H'→wy H H' p s rs→Q (.ref p) H'
theorem xV{rs:List Rl}{F:Int}(n1:1≤rs.length)(ok:∀ r∈rs,aY r∧r.ws.Nodup∧sortedS r.ws=true∧r.s=F):∃ r∈rs.head?,r.s=F:=by
 match rs,n1,ok with
 | r::rs,_,ok=>exact⟨r,rfl,(ok r wZ).2.2.2⟩
theorem yO{CN CT:Addr}(c:E7 P w K mg base 3 "laid_rules" ["rules"] (sR P w CN CT)):C9 P w K mg base 3 "laid_rules" ["rules"] (uE P w):=
 c.calm fun Z H Q E h=>by
  obtain⟨l,ns,rs,s,e,S,F,q⟩:=h
  have n1:=F.n1;have n4:=F.n4;refine⟨l,ns,rs,s,e,S,n1,by omega,fun r hr=>⟨(F.ok r hr).1,(F.ok r hr).2.1⟩,xV n1 F.ok,fun ⟨r,hr,z⟩=>absurd (F.ok r hr).2.2.2 z,fun _=>⟨by have:=F.pr; omega,by have:=F.fl; omega,fun ts J z=>?_,fun p H' s' _ O=>q p H' s' O⟩⟩
  rcases z with z | ⟨r,z⟩
  ·have:=F.w16 ts J
   omega
  ·obtain⟨Y,W,_⟩:=dA (fun r hr=>(F.ok r hr).1) ts r
   have:=oI Y W
   have:=F.pr
   omega
theorem lT{α : Type}{l:List α}{x:α}{c:Nat}(J:c≤l.length)(i:Nat):((l.take c++[x])++l.drop c)[i]? = if i<c then l[i]? else if i=c then some x else l[i - 1]?:=by
 have hl:(l.take c++[x]).length=c+1:=by rw[zV,vc,Hq]; omega
 have F:(l.take c).length=c:=by rw[vc]; omega
 split
 ·rename_i h
  rw[vt (by omega),vt (by omega),List.getElem?_take,HS h]
 ·split
  ·rename_i h1 h
   rw[vt (by omega),yS (by omega),F,h,Nat.sub_self]; rfl
  ·rw[yS (by omega),hl,List.getElem?_drop]
   congr 1
   omega
theorem fQ{α : Type}{l:List α}{x:α}{c:Nat}(F:c≤l.length):((l.take c++[x])++l.drop c).length=l.length+1:=by
 rw[zV,zV,vc,GL,Hq]; omega
theorem By{α : Type}{l:List α}{x:α}{c:Nat}{y:α}(h:y∈(l.take c++[x])++l.drop c):y∈l∨y=x:=by
 rcases HX.mp h with z | z
 ·rcases HX.mp z with z | z
  ·exact .inl (GU z)
  ·exact .inr (HQ.mp z)
 ·exact .inl (List.mem_of_mem_drop z)
theorem BS{H H':Hp}{lp oq op:Addr}{Y ps:List Addr}{O:List Str}{rs:List Rl}{c:Nat}{n0:Str}{r0:Rl}(W:mu H H')(h2:Y.length=rs.length)(h3:ps.length=rs.length)(h4:O.length=rs.length)(h5:∀ (i:Nat) q n p,Y[i]? = some q→O[i]? = some n→ps[i]? = some p→H q=some (.tup [.str n,.ref p]))(h6:∀ (i:Nat) p r,ps[i]? = some p→rs[i]? = some r→tf H p r)(Z:c≤rs.length)
  (hl:H' lp=some (.lst (((Y.take c++[oq])++Y.drop c).map V.ref))) (hq:H' oq=some (.tup [.str n0,.ref op])) (hr:tf H' op r0):DZ H' lp ((O.take c++[n0])++O.drop c) ((rs.take c++[r0])++rs.drop c):=by
 refine⟨_,(ps.take c++[op])++ps.drop c,hl,by rw[fQ (by omega),fQ Z,h2],by rw[fQ (by omega),fQ Z,h3],by rw[fQ (by omega),fQ Z,h4],fun i q n p J F S=>?_,fun i p r J F=>?_⟩
 ·rw[lT (by omega)]at J F S
  by_cases z:i<c
  ·rw[HS z]at J F S
   exact W _ _ (h5 i q n p J F S)
  ·rw[HP z]at J F S
   by_cases z2:i=c
   ·rw[HS z2]at J F S
    cases J; cases F; cases S; exact hq
   ·rw[HP z2]at J F S
    exact W _ _ (h5 (i - 1) q n p J F S)
 ·rw[lT (by omega)]at J F
  by_cases z:i<c
  ·rw[HS z]at J F
   exact(h6 i p r J F).mono W
  ·rw[HP z]at J F
   by_cases z2:i=c
   ·rw[HS z2]at J F
    cases J; cases F; exact hr
   ·rw[HP z2]at J F
    exact(h6 (i - 1) p r J F).mono W
theorem DL{f:Addr}{fd:FuncData}(F:HB K "law" "law" bK f fd) (ad:mg "isinstance" = none) (a6:mg "tuple" = none) (a8:mg "len" = none) (O:C9 P w K mg base 1 "_law_cell_at" ["_law_script", "_law_k"] (n9 K)) (a0:C9 P w K mg base 2 "_law_words" ["_law_cell", "_law_many", "_law_sides"] sD) (a1:C9 P w K mg base 3 "_law_rules" ["_law_script", "_law_words_here", "_law_sides"] (q9 K)) (S:C9 P w K mg base 2 "_law_great" ["_law_script", "_law_words_here", "_law_sides", "_law_more"] (uP K)) (J:C9 P w K mg base 4 "_law_refused" ["_law_rules_here"] ur) (ag:C9 P w K mg base 3 "laid_rules" ["rules"] (uE P w)) (aa:C9 P w K mg base 2 "_law_walked" ["_law_found", "_law_rules_here", "_law_row"] sk) (an:C9 P w K mg base 8 "_law_joined" ["_law_found", "_law_rules_here"] ui):EV P w K mg base mI 9 f fd ["_law_script"] (qP K):=by
 refine F.ok Ei (fun vs H Q E h=>by obtain⟨a,ns,rfl,_⟩:=h; rfl) (fun f0 A outer s H vs Q E hr h=>?_)
 obtain⟨a,ns,rfl,hS,e0,q⟩:=h
 refine⟨_,(af (ap 1 Ei.nd (aO O hr (ac (pv 0) (ac ah ae))))
   (af (ap 2 Ei.nd (aB bx ah (aB cx (pv 1) ah)))
   (af (ap 3 Ei.nd (aO a0 hr (ac (aO O hr (ac (pv 0) (ac ah ae))) (ac ah (ac (pv 2) ae)))) (hx:=Hs))
   (af (ap 4 Ei.nd (aO a1 hr (ac (pv 0) (ac (dC (dD K) (pv 3 (hv:=AR)) fV (cM ah)) (ac (pv 2) ae)))))
   (af (cC (ba jE (aB cx (aB dJ (pv 1) ah) ah) ah (bt _)) (af (ap 4 Ei.nd (aO S hr (ac (pv 0) (ac (pv 3 (hv:=AR)) (ac (pv 2) (ac ah ae))))))
   (am (cC (ba (pq K hr) (aO J hr (ac (pv 4) ae)) (bu (ac cI ae)) (bt _)) (am (aV iD)) bI))) bI)
   (af (cC (ba lf (aB cx (aB dJ (pv 1) ah) ah) ah (bt _)) (af (ap 5 Ei.nd (aB cx (aB dJ (pv 1) ah) (a_ (bq K) a8 ce (ac (pv 4) ae))))
   (af (ap 6 Ei.nd (cU (ac (aB xB ah (pv 2)) (ac (bu (ac (aB bx (aD (aZ K) (bu (ac cI (ac cI ae))) (aB xB (pv 2) ah) (fun _ _=>rfl)) cI) ae)) (ac (bu (ac (bu (ac ck ae)) ae)) ae)))))
   (am (cC (ba (pq K hr) (aO J hr (ac (aB bx (aB bx (dC (dD K) (pv 4) fV (cM (aB bx ah (pv 5)))) (bu (ac (cU (ac cI (ac (pv 6) ae))) ae))) (dC (dD K) (pv 4) (cM (aB bx ah (pv 5))) fV)) ae)) (bu (ac cI ae)) (bt _)) (am (aV iD)) bI)))) bI)
   (af (cC (ba jE (aB cx (aB dJ (pv 1) ah) ah) ah (bt _)) (am (ap 4 Ei.nd (aO S hr (ac (pv 0) (ac (pv 3 (hv:=AR)) (ac (pv 2) (ac ah ae))))))) bI)
   (af (ap 7 Ei.nd (aO ag hr (ac (pv 4) ae)))
   (af (cC (PW.pt' (vD (xx (oz (a_ zb ad bQ (ac (pv 7) (ac (rU a6 kD) ae))))) (qV (ba lc (a_ (bq K) a8 ce (ac (pv 7) ae)) ah (bt _))))) (am (aV iD)) bI)
   (af (i0 (CW.to (fsc:=(h8 bK)) (N:=["_law_script", "_law_first", "_law_sides", "_law_words_here", "_law_rules_here", "_law_at", "_law_odd", "_law_found", "_law_row"]) (N0:=["_law_script", "_law_first", "_law_sides", "_law_words_here", "_law_rules_here", "_law_at", "_law_odd", "_law_found", "_law_row"]) (T:=["_law_cell"]) ⟨by decide +kernel,by decide +kernel,by decide +kernel,by decide +kernel,by decide +kernel,by decide +kernel,by decide +kernel⟩ rfl rfl) rfl Ei.nd (i:=8) rfl Km (bT K (dC (dD K) (pv 0) (cM ah) (cM ah))) (fun _ _ _ _=>(aU 9 (show (["_law_script", "_law_first", "_law_sides", "_law_words_here", "_law_rules_here", "_law_at", "_law_odd", "_law_found", "_law_row", "_law_cell"]:List Str).Nodup from by decide +kernel) (hx:=(dG (h8 bK) (by decide +kernel))) (hf:=fm (h8 bK) (by decide +kernel)))) (bN (show (["_law_script", "_law_first", "_law_sides", "_law_words_here", "_law_rules_here", "_law_at", "_law_odd", "_law_found", "_law_row"]:List Str).length≤9 from by decide)) (fun _ _ _ _=>bR) (fun _ _ _ _=>(aD (aZ K) (aB bx (dC (dD K) (pv 3 (hv:=(bP (h8 bK) (by decide +kernel)))) fV (cM ah)) (bu (ac cI ae))) (aB cx (pv 9 (hv:=(bP (h8 bK) (by decide +kernel)))) ah) (fun _ _=>rfl))))
   (am (aV (DK (aO aa hr (ac (pv 7) (ac (pv 4) (ac (pv 8) ae)))) (j_ (aO an hr (ac (pv 7) (ac (pv 4) ae))))))))))))))))),?_⟩
 walk_at "r";refine⟨a,ns,0,rfl,hS,by decide,?_⟩
 generalize ns.getD (Int.toNat 0) 0=c0
 walk_at "n";refine⟨by decide,?_⟩
 have a3:1+c0 % 2=1∨1+c0 % 2=2:=by omega
 generalize 1+c0 % 2=Y at a3;walk_at "n";refine⟨a,ns,1,rfl,hS,by decide,?_⟩
 refine⟨_,17,Y,rfl,by decide,a3,fun wl H1 xs s1 fx cc cr bz ca=>?_⟩
 walk_at "n";refine⟨_,rd.of cc,fun cp eM=>?_⟩
 have bp:dP (xs.map V.str) none (some 6)=(xs.take 6).map V.str:=by rw[zbc]; exact uF _ 6
 rw[bp];generalize hH2:upd H1 cp _=H2
 obtain⟨s2,e2⟩:=cS hH2 eM
 have cn:=s1.trans s2;refine⟨a,cp,ns,xs.take 6,Y,rfl,cn.seq hS,e0,e2,by rw[vc]; omega,fun x hx=>bz x (GU hx),ca.sublist (zbA _ _),a3,fun p1 H3 Z rs s3 hN hD=>?_⟩
 have e7:=cn.trans s3;have a9:=(s2.trans s3) _ _ cc;refine jC (fun σ' H4=>∃ (p2:Addr) (Z:List Str) (rs:List Rl),σ'=[some (.ref a),some (.int c0),some (.int Y),some (.ref wl),some (.ref p2),none,none,none,none]∧mu H1 H4∧DZ H4 p2 Z rs∧1≤rs.length∧rs.length≤4∧(∀ r∈rs,aY r∧r.ws.Nodup∧sortedS r.ws=true∧r.s=Y)∧(c0 / 2 % 4≠1→j5 rs Y)) (fun kk a2=>?_) ?_
 ·walk_at "r"
  refine⟨⟨by decide,by decide⟩,by decide,bH (fun _=>?_) (fun _=>a2 _ _ ⟨p1,Z,rs,rfl,s2.trans s3,hN,hD.n1,hD.n4,hD.ok,fun _=>hD⟩)⟩
  refine⟨a,wl,ns,xs,Y,1,rfl,e7.seq hS,a9,cr,bz,ca,a3,by decide,fun p2 H4 be cm s4 dm _ hG=>?_⟩
  have hG:=hG rfl;have n4:=hG.n4;walk_at "n";refine⟨p2,be,cm,Y, "great", rfl,dm,hG.n1,by omega,fun r hr=>⟨(hG.ok r hr).1,(hG.ok r hr).2.1⟩,xV hG.n1 hG.ok,.inr ⟨rfl,hG⟩,fun t5 H5 s5 e5=>⟨by decide,fun t6 bS=>?_⟩⟩
  generalize hH6:upd H5 t6 _=H6
  have s6:=bj hH6 bS;have e6:H6 t6=some (.lst ([Str.ofString "great"].map V.str)):=bV hH6
  have cl:=s5.trans s6;rw[fS];refine⟨0,_,by decide,D8.strs (ss:=[Str.ofString "great"]) (rd.of (s6 _ _ e5)) (rd.of e6),_,rfl,?_⟩
  rw[decide_eq_true rfl];refine bH (fun c=>absurd c (by decide)) (fun _=>a2 _ _ ⟨p2,be,cm,rfl,s2.trans (s3.trans (s4.trans cl)),dm.mono cl,hG.n1,hG.n4,hG.ok,fun z=>?_⟩)
  exact absurd (by assumption) z
 clear hN hD a9;rintro σ' H4 ⟨p2,Z,rs,rfl,s4,hN,n1,n4,ok,hD⟩
 refine jC (fun σ' H5=>∃ (o5 o6:Option V),σ'=[some (.ref a),some (.int c0),some (.int Y),some (.ref wl),some (.ref p2),o5,o6,none,none]∧mu H4 H5) (fun kk a2=>?_) ?_
 ·walk_at "r"
  refine⟨⟨by decide,by decide⟩,by decide,bH (fun _=>?_) (fun _=>a2 _ _ ⟨_,_,rfl,mu.refl _⟩)⟩
  obtain⟨qs,ps,h1,h2,h3,h4,h5,h6⟩:=id hN
  refine⟨⟨by decide,by decide⟩,_,.inl (rd.of h1),?_⟩
  rw[zc,h2];walk_at "r";have m0:=zbt (c0 / 24) (show ((rs.length:Nat):Int)≠0 by omega)
  have m1:=zbM (c0 / 24) (show (0:Int)<((rs.length:Nat):Int) by omega)
  obtain⟨at',ez,ga⟩ : ∃ n:Nat,c0 / 24 % ((rs.length:Nat):Int)=(n:Int)∧n<rs.length:=⟨(c0 / 24 % ((rs.length:Nat):Int)).toNat,by omega,by omega⟩
  rw[ez];refine⟨by omega,?_⟩
  walk_at "n";refine⟨by decide,fun b1 en=>?_⟩
  generalize hG1:upd H4 b1 _=G1
  obtain⟨g1,f1⟩:=cS hG1 en
  obtain⟨pre,dl,ft⟩ : ∃ pre:Str,eK [V.str (Str.ofString "1."),V.str (Str.ofString "")] (Y - 1)=some (.str pre)∧pre.length≤2:=by
   rcases a3 with rfl | rfl
   ·exact⟨_,rfl,by decide +kernel⟩
   ·exact⟨_,rfl,by decide +kernel⟩
  refine⟨_,_,.inl (rd.of f1),dl,?_⟩
  walk_at "r";have ew:(Str.ofString "odd").length=3:=by decide +kernel
  have lw:(pre++Str.ofString "odd").length≤10:=by rw[Str.length_append]; omega
  generalize pre++Str.ofString "odd" = od at lw;refine⟨by rw[ew]; exact bG (by omega),by decide,fun b2 e3=>?_⟩
  generalize hG2:upd G1 b2 _=G2
  obtain⟨g2,f2⟩:=cS hG2 e3
  refine⟨by decide,fun b3 d6=>?_⟩
  generalize hG3:upd G2 b3 _=G3
  obtain⟨g3,f3⟩:=cS hG3 d6
  refine⟨by decide,fun b4 e4=>?_⟩
  generalize hG4:upd G3 b4 _=G4
  obtain⟨g4,f4⟩:=cS hG4 e4
  refine⟨by decide,fun b5 er=>?_⟩
  generalize hG5:upd G4 b5 _=G5
  obtain⟨g5,f5⟩:=cS hG5 er
  have ev:tf G5 b5 (oR (3 - Y) [od] none):=uU f5 ((g3.trans (g4.trans g5)) _ _ f2) (g5 _ _ f4) ((g4.trans g5) _ _ f3)
  have c9:=g1.trans (g2.trans (g3.trans (g4.trans g5)));walk_at "n";rw[show (1:Int)+(at':Int)=((1+at':Nat):Int) by omega]
  refine⟨_,rd.of (c9 _ _ h1),fun b6 ea=>?_⟩
  rw[uF,← zbc];generalize hG6:upd G5 b6 _=G6
  obtain⟨g6,f6⟩:=cS hG6 ea
  refine⟨by decide,fun b7 ek=>?_⟩
  generalize hG7:upd G6 b7 _=G7
  obtain⟨g7,f7⟩:=cS hG7 ek
  refine⟨by decide,fun b8 e1=>?_⟩
  generalize hG8:upd G7 b8 _=G8
  obtain⟨g8,f8⟩:=cS hG8 e1
  refine⟨_,_,(g7.trans g8) _ _ f6,f8,by rw[zc,vc]; exact bG (by show _+1≤_; omega),fun b9 em=>?_⟩
  generalize hG9:upd G8 b9 _=G9
  obtain⟨g9,f9⟩:=cS hG9 em
  have cd:=c9.trans (g6.trans (g7.trans (g8.trans g9)));refine⟨_,rd.of (cd _ _ h1),fun bA d7=>?_⟩
  rw[pY,← List.map_drop];generalize hGA:upd G9 bA _=GA
  obtain⟨gA,fA⟩:=cS hGA d7
  refine⟨_,_,gA _ _ f9,fA,by rw[zV,zc,zc,vc,GL]; exact bG (by show _+1+_≤_; omega),fun bB fa=>?_⟩
  generalize hGB:upd GA bB _=GB
  have gB:=bj hGB fa
  have fB:GB bB=some (.lst (((qs.take (1+at')++[b7])++qs.drop (1+at')).map V.ref)):=by
   rw[bV hGB,z9,z9]; rfl
  have cb:=gA.trans gB;have c1:=g8.trans (g9.trans cb);have ep:=BS (c:=1+at') (cd.trans cb) h2 h3 h4 h5 h6 (by omega) fB (c1 _ _ f7) (ev.mono (g6.trans (g7.trans c1)))
  have eb:(oR (3 - Y) [od] none).s≠Y:=by
   show 3 - Y≠Y
   omega
  have c5:aY (oR (3 - Y) [od] none):=v3 (by omega) (show 1≤16 by decide) (fun y hy=>by rw[HQ.mp hy]; exact lw) (fun k e=>by cases e)
  refine⟨bB,_,_,Y, "fit", rfl,ep,by rw[fQ (by omega)]; omega,by rw[fQ (by omega)]; omega,fun r hr=>?_,?_,.inl ⟨rfl,_,mW _ (y6 _ (HQ.mpr rfl)),eb⟩,fun t5 H5 s5 e5=>⟨by decide,fun t6 bS=>?_⟩⟩
  ·rcases By hr with z | z
   ·exact⟨(ok r z).1,(ok r z).2.1⟩
   ·rw[z]; exact⟨c5,HY.mpr ⟨by simp,.nil⟩⟩
  ·match rs,n1,ok with
   | r::rs,_,ok=>exact⟨r,by rw[zaZ]; rfl,(ok r wZ).2.2.2⟩
  generalize hH6:upd H5 t6 _=H6
  have s6:=bj hH6 bS;have e6:H6 t6=some (.lst ([Str.ofString "fit"].map V.str)):=bV hH6
  rw[fS];refine⟨0,_,by decide,D8.strs (ss:=[Str.ofString "fit"]) (rd.of (s6 _ _ e5)) (rd.of e6),_,rfl,?_⟩
  rw[decide_eq_true rfl];exact bH (fun c=>absurd c (by decide)) (fun _=>a2 _ _ ⟨_,_,rfl,(cd.trans cb).trans (s5.trans s6)⟩)
 rintro σ' H5 ⟨o5,o6,rfl,s5⟩
 have dc:=s4.trans s5;have a4:=dc _ _ cc;have cf:=(s1.trans dc).seq hS;refine jC (fun σ' H6=>∃ (p3:Addr) (Z:List Str) (rs:List Rl),σ'=[some (.ref a),some (.int c0),some (.int Y),some (.ref wl),some (.ref p3),o5,o6,none,none]∧mu H5 H6∧DZ H6 p3 Z rs∧j5 rs Y) (fun kk a2=>?_) ?_
 ·walk_at "r"
  refine⟨⟨by decide,by decide⟩,by decide,bH (fun _=>?_) (fun c=>a2 _ _ ⟨p2,Z,rs,rfl,mu.refl _,hN.mono s5,hD c⟩)⟩
  exact⟨a,wl,ns,xs,Y,0,rfl,cf,a4,cr,bz,ca,a3,by decide,fun p3 H6 c2 e9 s6 ei ey _=>a2 _ _ ⟨p3,c2,e9,rfl,s6,ei,ey rfl⟩⟩
 clear hN hD n1 n4 ok;rintro σ' H6 ⟨p3,Z,rs,rfl,s6,hN,hD⟩
 have fb:=s6 _ _ a4;have fy:=s6.seq cf;walk_at "n";refine⟨p3,Z,rs,Y,rfl,hN,hD,fun fp H7 s7 hT=>?_⟩
 obtain⟨qp,wt,pr,pb,ts,f1,f2,f3,hW,_,_,M,as,bs,c4,dt,hM,ec,eu,_⟩:=hT
 have W:=rg (fun r hr=>(hD.ok r hr).1) (fun r hr=>(hD.ok r hr).2.1) hW hM
 have dV:aY (dF Y rs ts M):=W.rl a3 c4 dt
 have d5:tf H7 qp (dF Y rs ts M):=⟨wt,pr,as,f2,f3,ec⟩
 have n4:=hD.n4;walk_at "n";refine⟨"tuple", by simp[dy,f1],by decide,bH (fun c=>absurd c (by decide)) (fun _=>?_)⟩
 refine⟨_,.inr (C3.of f1),bH (fun c=>absurd c (by simp)) (fun _=>?_)⟩
 walk_at "n";have c3:=s6.trans s7;have da:=c3 _ _ a4;refine⟨_,c3.seq cf,fun cq et=>?_⟩
 rw[oS];have eo:=Au ns (some 2) (some 202);generalize lP ns (some 2) (some 202)=cs at eo ⊢;generalize hH8:upd H7 cq _=H8
 obtain⟨s8,e8⟩:=cS hH8 et
 refine⟨⟨_,rd.of e8⟩,fun L hL=>?_⟩
 refine cB (xs:=cs.map V.int) (fun i ys H'=>∃ zs:List Str,mu H8 H'∧H' L=some (.lst ys)∧ys=zs.map V.str∧zs.length=i) ⟨[],ay hL _,ak,rfl,rfl⟩ (fun i ys H' _ h=>by obtain⟨_,sm,_⟩:=h; exact rd.of (sm _ _ e8)) ?_ ?_
 ·rintro i ys H' x hx hi ⟨zs,sm,hl,rfl,cv⟩
  rw[zc]at hi
  rw[ze,za hi]at hx
  cases hx;walk_at "r";refine⟨_,rd.of ((s8.trans sm) _ _ da),fun d1 eN=>?_⟩
  rw[bp];generalize hG1:upd H' d1 _=G1
  obtain⟨g1,k1⟩:=cS hG1 eN
  refine⟨by decide,fun d2 ed=>?_⟩
  generalize hG2:upd G1 d2 _=G2
  obtain⟨g2,k2⟩:=cS hG2 ed
  refine⟨_,_,g2 _ _ k1,k2,by rw[zc,vc]; exact bG (by show _+1≤_; omega),fun d3 eg=>?_⟩
  generalize hG3:upd G2 d3 _=G3
  have g3:=bj hG3 eg
  have k3:G3 d3=some (.lst ((xs.take 6++[Str.ofString "zz"]).map V.str)):=by
   rw[bV hG3,z9]; rfl
  obtain⟨j,ej,j7⟩ : ∃ j:Nat,cs[i] % 7=(j:Int)∧j<7:=⟨(cs[i] % 7).toNat,by omega,by omega⟩
  rw[ej];have hj:j<(xs.take 6++[Str.ofString "zz"]).length:=by rw[zV,vc,Hq]; omega
  refine⟨by decide,_,.str (xs.take 6++[Str.ofString "zz"])[j],.inl (rd.of k3),aE (by rw[ze,za hj]; rfl),?_⟩
  have d4:=g1.trans (g2.trans g3);exact df (by rw[zc]; exact hi) (by rw[zc]; exact cv) (by rw[zc]; exact bG (by omega)) (d4 _ _ hl) ⟨zs++[(xs.take 6++[Str.ofString "zz"])[j]],(sm.trans d4).upd hL _,ak,by rw[z9]; rfl,by simp[cv]⟩
 rintro ys H9 ⟨row,s9,eS,rfl,_⟩
 have a5:=s8.trans s9;walk_at "r";walk_at "n";refine⟨fp,p3,L,qp,pb,Z,rs,ts,row,M,Y,bs,rfl,a5 _ _ f1,d5.mono a5,dV,eu.mono a5,W,(hN.mono s7).mono a5,by omega,eS,fun gc eH=>?_⟩
 walk_at "r";have a7:=a5.trans eH;refine⟨fp,p3,qp,pb,Z,rs,ts,M,Y,rfl,a7 _ _ f1,d5.mono a7,dV,W,hW.2.1,dt,c4,(hN.mono s7).mono a7,hD,q⟩
end
def cV(K:W.Frag)(x:Str)(st:Stmt):Prop:=∃ (f:Addr) (od an:Option Addr) (sl:Array (Option Value)) (oc kV dc pm cd ct:Value),W.nsIn K mainGlobals x=some (some (.ref f))∧K.lookup f=some ⟨oc,od,.func (W.fnOf x x (DX st) (Dn st) (h8 st) .none kV dc pm an cd ct),sl⟩∧W.codeIn K cd x=true∧W.keepIn K (.ref f)=true
theorem dfe_mk{K:W.Frag}{x:Str}{st:Stmt}{f:Addr}{Y J:Option Addr}{Z:Array (Option Value)}{O kV S pm F ct:Value}(a:W.nsIn K mainGlobals x=some (some (.ref f)))(l:K.lookup f=some ⟨O,Y,.func (W.fnOf x x (DX st) (Dn st) (h8 st) .none kV S pm J F ct),Z⟩)(c:W.codeIn K F x=true)(k:W.keepIn K (.ref f)=true):cV K x st:=⟨f,Y,J,Z,O,kV,S,pm,F,ct,a,l,c,k⟩
theorem bC{K:W.Frag}{h:Heap}{mg:Str→Option Value}{x:Str}{st:Stmt}(X:K.In h)(G:h.Ns mainGlobals mg)(e:cV K x st):AS K mg x st:=by
 obtain⟨f,S,F,Y,J,kV,O,pm,Z,ct,a,l,c,k⟩:=e
 exact⟨f,_,yy (st:=st) l c k,GP X G a⟩
theorem all_mk{l:W.OpenLaw}{w:World}{K:W.Frag}{h:Heap}{mg:Str→Option Value}{fa:Addr}(X:K.In h)(G:h.Ns mainGlobals mg)(ho:mg "law" = some (.ref fa))
  {O:Addr} {J:Addr} {bA:Addr} {bz:Addr} {bp:Addr} {aa:Addr}
  (a0:cV K "refuse_unlike" dq)
  (a1:cV K "words_of_both" cW)
  (a2:cV K "ways_for" cD)
  (a3:cV K "ways_by_room" aP)
  (a4:cV K "pairs_behind" cN)
  (a5:cV K "words_of_all" cy)
  (a6:cV K "rooms_behind" aX)
  (a7:cV K "blame_of" iX)
  (a8:cV K "laid_by" aK)
  (a9:cV K "laid_rules" aI)
  (g5:cV K "ways_by" dB)
  (g3:cV K "finer_kinds" bg)
  (hu:cV K "kinds_upto" bO)
  (hm:cV K "merged_rooms" bJ)
  (g6:cV K "rooms_led_to" bw)
  (hF:cV K "numbered_rooms" aG)
  (hC:cV K "does_something" bn)
  (g8:cV K "picked" eh)
  (hs:cV K "least_upto" aA)
  (gI:cV K "least_rule" dZ)
  (g4:cV K "breaks_one" gi)
  (he:cV K "rule_of_pairs" ax)
  (hE:cV K "least_of_pairs" bo)
  (hw:cV K "joined_rule" dr)
  (hj:cV K "_law_cell_at" dI)
  (ha:cV K "_law_mixed" cJ)
  (hD:cV K "_law_words" aW)
  (hA:cV K "_law_way" fR)
  (g0:cV K "_law_rooms" aH)
  (hG:cV K "_law_rules" aS)
  (hb:cV K "_law_counter" bZ)
  (hq:cV K "_law_great" bD)
  (hc:cV K "_law_to" gT)
  (gB:cV K "_law_walked" av)
  (g1:cV K "_law_joined" cw)
  (g9:cV K "_law_refused" bh)
  (g2:cV K "law" bK)
  (eg:W.nsIn K mainGlobals "isinstance" = some none)
  (gp:W.nsIn K mainGlobals "str" = some none)
  (gd:W.nsIn K mainGlobals "len" = some none)
  (f1:W.nsIn K mainGlobals "range" = some none)
  (ge:W.nsIn K mainGlobals "int" = some none)
  (f5:W.nsIn K mainGlobals "list" = some none)
  (fx:W.nsIn K mainGlobals "sorted" = some none)
  (gc:W.nsIn K mainGlobals "min" = some none)
  (f2:W.nsIn K mainGlobals "tuple" = some none)
  (ew:W.nsIn K mainGlobals "enumerate" = some none)
  (gl:W.nsIn K mainGlobals "any" = some none)
  (gt:W.nsIn K mainGlobals "max" = some none)
  (gA:W.nsIn K mainGlobals "set" = some none)
  (f8:W.nsIn K mainGlobals "zip" = some none)
  (ej:W.nsIn K mainGlobals "ValueError" = some none)
  (em:∃ t,W.nsIn K mainGlobals "MOST_ROOMS" = some (some (.int 60 t)))
  (ei:∃ t,W.nsIn K mainGlobals "MOST_WORDS" = some (some (.int 16 t)))
  (f0:W.nsIn K mainGlobals "NoFit" = some (some (.ref O)))
  (fy:oK K O [.type "ValueError", .type "Exception", .type "BaseException", .type "object"] "ValueError.__new__" = true) (e5:W.subIn K (.ref O) (.type "object")=some true) (e7:W.findIn K (.ref O) "__class__" = some (some (.builtin "object.__class__")))
  (eS:W.nsIn K mainGlobals "TooGreat" = some (some (.ref J)))
  (eu:oK K J [.type "ValueError", .type "Exception", .type "BaseException", .type "object"] "ValueError.__new__" = true) (et:W.subIn K (.ref J) (.type "object")=some true) (en:W.findIn K (.ref J) "__class__" = some (some (.builtin "object.__class__")))
  (fB:W.nsIn K mainGlobals "NoText" = some (some (.ref bA)))
  (cn:W.kitOne K (.ref O) (.ref bA)=some false)
  (e4:W.nsIn K mainGlobals "NoRule" = some (some (.ref bz)))
  (cf:W.kitOne K (.ref O) (.ref bz)=some false)
  (e8:W.nsIn K mainGlobals "Breach" = some (some (.ref bp)))
  (cm:W.kitOne K (.ref O) (.ref bp)=some false)
  (b7:W.kitOne K (.ref O) (.ref J)=some false)
  (ez:W.nsIn K mainGlobals "UseError" = some (some (.ref aa)))
  (b6:W.kitOne K (.ref O) (.ref aa)=some true)
  (an:W.kitOne K (.ref O) (.type "ValueError")=some true)
  (b1:W.kitOne K (.ref J) (.ref bA)=some false)
  (bB:W.kitOne K (.ref J) (.ref bz)=some false)
  (bS:W.kitOne K (.ref J) (.ref bp)=some false)
  (b5:W.kitOne K (.ref J) (.ref O)=some false)
  (ag:W.kitOne K (.ref J) (.ref aa)=some true)
  (ad:W.kitOne K (.ref J) (.type "ValueError")=some true) :
  ∃ fd:FuncData,(∀ (s:Shared) (v:Value),BindsTo s fd ⟨[v],[]⟩ [("_law_script", v)])∧∀ base:Heap,K.In base→base.Ns mainGlobals mg→EV l.prog w K mg base mI 9 fa fd ["_law_script"] (qP K):=by
 obtain⟨f9,hI,hB,hK,hH,hy,ht,gO,hk,g7,hn,l9,c9,k9⟩:=g2
 have e:=ho.symm.trans (GP X G hn)
 cases e;have cl:=bC X G a0;have cd:=bC X G a1;have eM:=bC X G a2;have cs:=bC X G a3;have cp:=bC X G a4;have cq:=bC X G a5;have cv:=bC X G a6;have e0:=bC X G a7;have e3:=bC X G a8;have ea:=bC X G a9;have e1:=bC X G g5;have c4:=bC X G g3;have eb:=bC X G hu;have c3:=bC X G hm;have c0:=bC X G g6;have cb:=bC X G hF;have b9:=bC X G hC;have fA:=bC X G g8;have ec:=bC X G hs;have dt:=bC X G gI;have ek:=bC X G g4;have cc:=bC X G he;have ca:=bC X G hE;have c5:=bC X G hw;have dc:=bC X G hj;have ep:=bC X G ha;have er:=bC X G hD;have e2:=bC X G hA;have ev:=bC X G g0;have ey:=bC X G hG;have da:=bC X G hb;have eo:=bC X G hq;have fb:=bC X G hc;have dm:=bC X G gB;have dV:=bC X G g1;have dl:=bC X G g9;have b4:mg "isinstance" = none:=F6 X G eg
 have ga:mg "str" = none:=F6 X G gp
 have S:mg "len" = none:=F6 X G gd
 have Z:mg "range" = none:=F6 X G f1
 have gv:mg "int" = none:=F6 X G ge
 have f6:mg "list" = none:=F6 X G f5
 have be:mg "sorted" = none:=F6 X G fx
 have gz:mg "min" = none:=F6 X G gc
 have b8:mg "tuple" = none:=F6 X G f2
 have Y:mg "enumerate" = none:=F6 X G ew
 have gu:mg "any" = none:=F6 X G gl
 have f7:mg "max" = none:=F6 X G gt
 have f4:mg "set" = none:=F6 X G gA
 have f3:mg "zip" = none:=F6 X G f8
 have ed:mg "ValueError" = none:=F6 X G ej
 have b3:∃ t,mg "MOST_ROOMS" = some (.int 60 t):=let ⟨t,h⟩:=em; ⟨t,GP X G h⟩
 have b2:∃ t,mg "MOST_WORDS" = some (.int 16 t):=let ⟨t,h⟩:=ei; ⟨t,GP X G h⟩
 have eN:gh K mg "NoFit" O:=⟨⟨fy,e5,e7⟩,GP X G f0⟩
 have as:gh K mg "TooGreat" J:=⟨⟨eu,et,en⟩,GP X G eS⟩
 have e9:jO mg "NoText" bA:=⟨GP X G fB⟩
 have e6:jO mg "NoRule" bz:=⟨GP X G e4⟩
 have ft:jO mg "Breach" bp:=⟨GP X G e8⟩
 have eH:jO mg "UseError" aa:=⟨GP X G ez⟩
 have F:=yy (st:=bK) l9 c9 k9;refine⟨W.fnOf "law" "law" (DX bK) (Dn bK) (h8 bK) .none hy ht gO hB hk g7,fun s v=>.of_eq rfl,fun base _ _=>?_⟩
 have c1:=Cm (P:=l.prog) (w:=w) (base:=base) dc S;have c2:=zK (P:=l.prog) (w:=w) (base:=base) ep Z;have cr:=Aa ey Z S be c1 (Ah ev Z S gz c2 (Dq e2))
 have d1:=vb (P:=l.prog) (w:=w) (base:=base) e1;have d2:=AL c4 Y b8 S d1;have d3:=yV eb f7 d2;have d4:=xM c3 Y S d1;have d5:=tq cb Y (EK c0 S) d1;have d6:=BA ec Z S d3 d4 d5 (BL b9 Y gu) (w4 fA);have d7:=AO dt S d6;have u1:=Em (P:=l.prog) (w:=w) (base:=base) eN cl;have wD:=zR (P:=l.prog) (w:=w) (base:=base) cs Y (tV eM);have p1:=Bx (P:=l.prog) (w:=w) (base:=base) cc S (Cj cd be f4) (yR wD) (AF cp f6 f3);have p2:=yh ca S b3 b2 (yi u1) p1 d6;have p3:=xU c5 (vv ek) p2;have lb:=yx (P:=l.prog) (w:=w) (base:=base) as e3 S b8 b3 (yG cv Z b8 f3) (zZ e0);have lr:=BB as ea S b2 u1 (tE cq be f4) wD lb;have rf:=zr dl b4 ed e6 e9 eN as ft eH cn cf cm b7 b6 an b1 bB bS b5 ag ad lr;exact DL F b4 b8 S c1 (vh er Z gv ga c2) cr (Ad eo S be c1 (CP da Z)) rf (yO lr) (yc dm S Z (Fd fb)) (zS dV p3 d7)
theorem walk{l:W.OpenLaw}{q:Program}{loose:List Str}{XP:(Str→Option Value)→Heap→Prop}{YP:World→Heap→Prop}{d:DefRec}{K:Params→W.Frag}(S:l.most=some 63)(J:d.params.defaults=[])
  (Z:∀ (w:World) (h:Heap),YP w h→(K w.params).In h)
  (F:∀ (w:World) (mg:Str→Option Value) (O:Addr) (h:Heap),(K w.params).In h→h.Ns mainGlobals mg→mg d.name=some (.ref O)→
   ∃ fd:FuncData,(∀ (s:Shared) (u:Value),BindsTo s fd ⟨[u],[]⟩ [("_law_script", u)])∧∀ base:Heap,(K w.params).In base→base.Ns mainGlobals mg→EV l.prog w (K w.params) mg base mI 9 O fd ["_law_script"] (qP (K w.params))) :
  W.WalkO q loose XP YP l.row.toRowW d [] (fun f Y=>PySem.call f Y):=
 L2.Gf (n:=63) (k:=9) (x := "_law_script") (CX:=fun _=>mI) (sp:=fun w=>qP (K w.params)) S (by decide) J ⟨rfl,by decide,by decide⟩ Z F (fun _ _ a ns hl _ hS=>⟨a,ns,rfl,hS,hl,fun _=>rfl⟩) fun _ _ _ _ _ z=>z
end K76
end
open PySem PySem.W PyProof.Rows
set_option maxRecDepth 100000 in
set_option maxHeartbeats 0 in
theorem PySem.Challenge.cw_usewarden_k76_whole_laid_is_joined_holds : PySem.Challenge.rw_usewarden_k76_whole_laid_is_joined.Holds := by
 w_on
 refine holds_law (by decide +kernel) fun said=>?_
 refine holds_open (q:=K76.qq) (loose:=K76.loo) (Xt:=K76.xt) (XP:=XL K76.qq []) (Yf:=Hook.obs (kHook K76.KK K76.kk K76.kk_eq)) (Ya:=Hook.val (kHook K76.KK K76.kk K76.kk_eq)) (YP:=Hook.says (kHook K76.KK K76.kk K76.kk_eq)) (N:=5066) K76.hl (Hook.of (kHook K76.KK K76.kk K76.kk_eq)) (Hook.keeps (kHook K76.KK K76.kk K76.kk_eq)) (fun s e=>xl_of s (Bool.and_eq_true_iff.mp e).1) XL.keeps (by rfl) (by rfl) (by rfl) (fun s e=>recFacts_of (Bool.and_eq_true_iff.mp e).2) (by rfl) said (by decide +kernel) ⟨rfl,rfl,rfl,rfl,rfl,by decide +kernel⟩ ?hw ?hc
 (case hw=>w_witness2)
 k_fill
 refine K76.walk (l:=PySem.Challenge.rw_usewarden_k76_whole_laid_is_joined) rfl rfl (fun w h Y=>PySem.W.kIn_of Y) ?F
 case F=>
  intro w mg fa h KX G hmg
  refine' K76.all_mk KX G hmg ?_ ?_ ?_ ?_ ?_ ?_ ?_ ?_ ?_ ?_ ?_ ?_ ?_ ?_ ?_ ?_ ?_ ?_ ?_ ?_ ?_ ?_ ?_ ?_ ?_ ?_ ?_ ?_ ?_ ?_ ?_ ?_ ?_ ?_ ?_ ?_ ?_ ?_ ?_ ?_ ?_ ?_ ?_ ?_ ?_ ?_ ?_ ?_ ?_ ?_ ?_ ?_ ?_ ?_ ?_ ?_ ?_ ?_ ?_ ?_ ?_ ?_ ?_ ?_ ?_ ?_ ?_ ?_ ?_ ?_ ?_ ?_ ?_ ?_ ?_ ?_ ?_ ?_
  all_goals first | (refine' K76.dfe_mk ?a ?l ?c ?k; (case a=>k_is); (case l=>k_is); (case c=>k_is); (case k=>k_is)) | k_is | exact⟨_,by k_is⟩ | kernel_rfl | skip
#print axioms PySem.Challenge.cw_usewarden_k76_whole_laid_is_joined_holds
