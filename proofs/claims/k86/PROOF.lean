import PyProof.Rows.All
import Wide.All
import OpenK.AllK
import Wide.FinOn
import Lean
import PyProof.EqAt
import PyProof.EqKinds
import PyProof.TupleCall
import PyProof.SetScanFacts
import PyProof.SetKind
import PyProof.SetRoads
import PyProof.Rows.SetFrom
import PyProof.FactsBase
import PyProof.TableTree
import PyProof.FactsTree
import PyProof.PlainAttrs
import PyProof.FactsAll.set_1
import PyProof.CollectIter
import PyProof.FactsAll.set
import PyProof.ZipIter
import PyProof.EnumIter
import PyProof.TupleIter
import KE.KRevIter
import KE.KDictList
import PyProof.Rows.SumAny
import KE.KIntText
import PyProof.StrLawsTight
import PyProof.StrLawsChain
import PyProof.Rows.SortStr
import PyProof.Rows.StrNews2
import PyProof.StrLawsFirst
import PyProof.AutoSeq1
import OpenK.KOwn
import PyProof.Rows.CatchOwn
import KE.KDictOf
import PyProof.DictItems
import PyProof.NeKinds
import KE.KPairComp
import PySem.Challenge.RW_usewarden_k86_texts_that_tell_no_rules
set_option Elab.async false
set_option linter.all false
set_option maxRecDepth 100000
set_option maxHeartbeats 4000000
namespace L2
open PySem
def inClass (s : Stmt) (j : Nat) : Stmt := match s with
 | .ClassDef _ _ _ body _ _ _ _ _ _ _ => body.getD j (.Pass ⟨0, 0, 0, 0⟩)
 | _ => .Pass ⟨0, 0, 0, 0⟩
def defArgs (s : Stmt) : Arguments := match s with
 | .FunctionDef _ a _ _ _ _ _ _ _ _ => a
 | _ => { posonlyargs := [], args := [], vararg := none, kwonlyargs := [], kw_defaults := [], kwarg := none, defaults := [] }
def defBody (s : Stmt) : List Stmt := match s with
 | .FunctionDef _ _ b _ _ _ _ _ _ _ => b
 | _ => []
def defScope (s : Stmt) : Scope := match s with
 | .FunctionDef _ _ _ _ _ _ sc _ _ _ => sc
 | _ => { kind := .function, names := [], isGenerator := false, isCoroutine := false }
end L2
namespace K86
open PySem PySem.W
def top (i : Nat) : Stmt := PySem.Challenge.pw_usewarden_k86_texts_that_tell_no_rules.main.body.getD i (.Pass ⟨0, 0, 0, 0⟩)
noncomputable def KK (P : Params) : Frag :=
 (nat_lit 2, ⟨.none, none, .dict #[] 0, #[]⟩) ::
 (nat_lit 3, ⟨.type "dict", none, .dict #[⟨PyData.keyHash P "__name__", .str "__name__" 165, .str "law_usewarden_k86_texts_that_tell_no_rules" 407⟩, ⟨PyData.keyHash P "__doc__", .str "__doc__" 166, .none⟩, ⟨PyData.keyHash P "__package__", .str "__package__" 167, .none⟩, ⟨PyData.keyHash P "__loader__", .str "__loader__" 168, .builtin "__main__.__loader__#opaque"⟩, ⟨PyData.keyHash P "__spec__", .str "__spec__" 169, .none⟩, ⟨PyData.keyHash P "__annotations__", .str "__annotations__" 170, .ref 6⟩, ⟨PyData.keyHash P "__builtins__", .str "__builtins__" 171, .ref 4⟩, ⟨PyData.keyHash P "__file__", .str "__file__" 173, .str "/claim/cut.py" 172⟩, ⟨PyData.keyHash P "__cached__", .str "__cached__" 174, .none⟩, ⟨PyData.keyHash P "UseError", .str "UseError" 206, .ref 24⟩, ⟨PyData.keyHash P "NoRule", .str "NoRule" 222, .ref 37⟩, ⟨PyData.keyHash P "NoText", .str "NoText" 238, .ref 49⟩, ⟨PyData.keyHash P "FIGURES", .str "FIGURES" 242, .str "0123456789" 241⟩, ⟨PyData.keyHash P "number_in", .str "number_in" 248, .ref 56⟩, ⟨PyData.keyHash P "LETTERS", .str "LETTERS" 252, .str "abcdefghijklmnopqrstuvwxyz" 251⟩, ⟨PyData.keyHash P "MOST_LETTERS", .str "MOST_LETTERS" 254, .int 8 253⟩, ⟨PyData.keyHash P "MOST_WORDS", .str "MOST_WORDS" 256, .int 16 255⟩, ⟨PyData.keyHash P "MOST_ROOMS", .str "MOST_ROOMS" 258, .int 60 257⟩, ⟨PyData.keyHash P "is_whole", .str "is_whole" 265, .ref 63⟩, ⟨PyData.keyHash P "is_word", .str "is_word" 271, .ref 68⟩, ⟨PyData.keyHash P "is_sided_word", .str "is_sided_word" 278, .ref 75⟩, ⟨PyData.keyHash P "is_rising", .str "is_rising" 284, .ref 80⟩, ⟨PyData.keyHash P "are_words", .str "are_words" 293, .ref 87⟩, ⟨PyData.keyHash P "is_way", .str "is_way" 301, .ref 94⟩, ⟨PyData.keyHash P "is_room", .str "is_room" 307, .ref 99⟩, ⟨PyData.keyHash P "are_rooms", .str "are_rooms" 313, .ref 104⟩, ⟨PyData.keyHash P "is_rule", .str "is_rule" 321, .ref 111⟩, ⟨PyData.keyHash P "lines_in", .str "lines_in" 330, .ref 118⟩, ⟨PyData.keyHash P "MOST_FIGURES", .str "MOST_FIGURES" 334, .int 2 333⟩, ⟨PyData.keyHash P "show_way", .str "show_way" 342, .ref 125⟩, ⟨PyData.keyHash P "show_room", .str "show_room" 348, .ref 130⟩, ⟨PyData.keyHash P "show_rule", .str "show_rule" 354, .ref 135⟩, ⟨PyData.keyHash P "way_in", .str "way_in" 362, .ref 142⟩, ⟨PyData.keyHash P "ways_in", .str "ways_in" 368, .ref 147⟩, ⟨PyData.keyHash P "numbers_of", .str "numbers_of" 374, .ref 152⟩, ⟨PyData.keyHash P "rule_in", .str "rule_in" 380, .ref 157⟩, ⟨PyData.keyHash P "read_rule", .str "read_rule" 388, .ref 164⟩, ⟨PyData.keyHash P "MOST_RULES", .str "MOST_RULES" 392, .int 8 391⟩, ⟨PyData.keyHash P "named_in", .str "named_in" 400, .ref 171⟩, ⟨PyData.keyHash P "read_rules", .str "read_rules" 406, .ref 176⟩, ⟨PyData.keyHash P "_law_cell_at", .str "_law_cell_at" 416, .ref 183⟩, ⟨PyData.keyHash P "_law_mixed", .str "_law_mixed" 425, .ref 190⟩, ⟨PyData.keyHash P "_law_words", .str "_law_words" 440, .ref 197⟩, ⟨PyData.keyHash P "_law_word", .str "_law_word" 448, .ref 204⟩, ⟨PyData.keyHash P "_law_number", .str "_law_number" 457, .ref 211⟩, ⟨PyData.keyHash P "_law_move", .str "_law_move" 468, .ref 218⟩, ⟨PyData.keyHash P "_law_room", .str "_law_room" 474, .ref 223⟩, ⟨PyData.keyHash P "_law_rule_of", .str "_law_rule_of" 480, .ref 228⟩, ⟨PyData.keyHash P "_law_list_of", .str "_law_list_of" 486, .ref 233⟩, ⟨PyData.keyHash P "_law_drawn_line", .str "_law_drawn_line" 501, .ref 240⟩, ⟨PyData.keyHash P "_law_changed", .str "_law_changed" 507, .ref 245⟩, ⟨PyData.keyHash P "_law_refused", .str "_law_refused" 516, .ref 252⟩, ⟨PyData.keyHash P "law", .str "law" 522, .ref 257⟩] 53, #[]⟩) ::
 (nat_lit 15, ⟨.type "tuple", none, .seq #[.type "ValueError"] 0, #[]⟩) ::
 (nat_lit 22, ⟨.type "tuple", none, .seq #[] 0, #[]⟩) ::
 (nat_lit 23, ⟨.type "dict", none, .dict #[⟨PyData.keyHash P "__module__", .str "__module__" 196, .str "usewarden.errors" 187⟩, ⟨PyData.keyHash P "__firstlineno__", .str "__firstlineno__" 200, .int 2 199⟩, ⟨PyData.keyHash P "__static_attributes__", .str "__static_attributes__" 201, .ref 22⟩, ⟨PyData.keyHash P "__weakref__", .str "__weakref__" 203, .ref 25⟩, ⟨PyData.keyHash P "__doc__", .str "__doc__" 204, .none⟩] 3, #[]⟩) ::
 (nat_lit 24, ⟨.type "type", none, .cls ⟨"UseError", [.type "ValueError"], [.ref 24, .type "ValueError", .type "Exception", .type "BaseException", .type "object"], 23, "UseError", true, [], [.ref 37, .ref 49], false, none, false⟩, #[some (.ref 15), none, some (.str "UseError" 189), some (.str "UseError" 197), some (.builtin "ValueError.__new__"), some (.bool true)]⟩) ::
 (nat_lit 25, ⟨.type "getset_descriptor", none, .fields #[.str "__weakref__" 202, .ref 24, .builtin "ExceptionGroup.__weakref__", .none], #[]⟩) ::
 (nat_lit 28, ⟨.type "tuple", none, .seq #[.ref 24] 0, #[]⟩) ::
 (nat_lit 35, ⟨.type "tuple", none, .seq #[] 0, #[]⟩) ::
 (nat_lit 36, ⟨.type "dict", none, .dict #[⟨PyData.keyHash P "__module__", .str "__module__" 214, .str "usewarden.errors" 187⟩, ⟨PyData.keyHash P "__firstlineno__", .str "__firstlineno__" 218, .int 4 217⟩, ⟨PyData.keyHash P "__static_attributes__", .str "__static_attributes__" 219, .ref 35⟩, ⟨PyData.keyHash P "__doc__", .str "__doc__" 220, .none⟩] 2, #[]⟩) ::
 (nat_lit 37, ⟨.type "type", none, .cls ⟨"NoRule", [.ref 24], [.ref 37, .ref 24, .type "ValueError", .type "Exception", .type "BaseException", .type "object"], 36, "NoRule", true, [], [], false, none, false⟩, #[some (.ref 28), none, some (.str "NoRule" 207), some (.str "NoRule" 215), some (.builtin "ValueError.__new__"), some (.bool true)]⟩) ::
 (nat_lit 40, ⟨.type "tuple", none, .seq #[.ref 24] 0, #[]⟩) ::
 (nat_lit 47, ⟨.type "tuple", none, .seq #[] 0, #[]⟩) ::
 (nat_lit 48, ⟨.type "dict", none, .dict #[⟨PyData.keyHash P "__module__", .str "__module__" 230, .str "usewarden.errors" 187⟩, ⟨PyData.keyHash P "__firstlineno__", .str "__firstlineno__" 234, .int 6 233⟩, ⟨PyData.keyHash P "__static_attributes__", .str "__static_attributes__" 235, .ref 47⟩, ⟨PyData.keyHash P "__doc__", .str "__doc__" 236, .none⟩] 2, #[]⟩) ::
 (nat_lit 49, ⟨.type "type", none, .cls ⟨"NoText", [.ref 24], [.ref 49, .ref 24, .type "ValueError", .type "Exception", .type "BaseException", .type "object"], 48, "NoText", true, [], [], false, none, false⟩, #[some (.ref 40), none, some (.str "NoText" 223), some (.str "NoText" 231), some (.builtin "ValueError.__new__"), some (.bool true)]⟩) ::
 (nat_lit 52, ⟨.type "tuple", none, .seq #[] 0, #[]⟩) ::
 (nat_lit 55, ⟨.type "code", none, .fields #[.str "number_in" 243, .str "number_in" 244, .str "/claim/cut.py" 245, .int 10 0, .int 2 0, .int 0 0, .int 0 0, .int 3 0, .ref 52, .bool true, .int 181 0, .ref 53, .none, .none, .none, .ref 54, .int 246 0, .int 10 0, .str "/claim/cut.py" 247], #[]⟩) ::
 (nat_lit 56, ⟨.type "function", none, .func ⟨"number_in", "number_in", L2.defArgs (top 6), .stmts (L2.defBody (top 6)), L2.defScope (top 6), 3, [], .none, .none, .none, .str "usewarden.figures" 239, none, .ref 55, .none, 0⟩, #[]⟩) ::
 (nat_lit 57, ⟨.type "tuple", none, .seq #[] 0, #[]⟩) ::
 (nat_lit 59, ⟨.type "tuple", none, .seq #[.str "thing" 262] 0, #[]⟩) ::
 (nat_lit 60, ⟨.type "tuple", none, .seq #[] 0, #[]⟩) ::
 (nat_lit 62, ⟨.type "code", none, .fields #[.str "is_whole" 259, .str "is_whole" 260, .str "/claim/cut.py" 261, .int 19 0, .int 1 0, .int 0 0, .int 0 0, .int 3 0, .ref 57, .bool true, .int 181 0, .ref 58, .none, .ref 59, .ref 60, .ref 61, .int 263 0, .int 19 0, .str "/claim/cut.py" 264], #[]⟩) ::
 (nat_lit 63, ⟨.type "function", none, .func ⟨"is_whole", "is_whole", L2.defArgs (top 12), .stmts (L2.defBody (top 12)), L2.defScope (top 12), 3, [], .none, .none, .none, .str "usewarden.rules" 249, none, .ref 62, .none, 0⟩, #[]⟩) ::
 (nat_lit 64, ⟨.type "tuple", none, .seq #[] 0, #[]⟩) ::
 (nat_lit 67, ⟨.type "code", none, .fields #[.str "is_word" 266, .str "is_word" 267, .str "/claim/cut.py" 268, .int 21 0, .int 1 0, .int 0 0, .int 0 0, .int 3 0, .ref 64, .bool true, .int 181 0, .ref 65, .none, .none, .none, .ref 66, .int 269 0, .int 21 0, .str "/claim/cut.py" 270], #[]⟩) ::
 (nat_lit 68, ⟨.type "function", none, .func ⟨"is_word", "is_word", L2.defArgs (top 13), .stmts (L2.defBody (top 13)), L2.defScope (top 13), 3, [], .none, .none, .none, .str "usewarden.rules" 249, none, .ref 67, .none, 0⟩, #[]⟩) ::
 (nat_lit 69, ⟨.type "tuple", none, .seq #[] 0, #[]⟩) ::
 (nat_lit 71, ⟨.type "tuple", none, .seq #[.str "thing" 275] 0, #[]⟩) ::
 (nat_lit 72, ⟨.type "tuple", none, .seq #[] 0, #[]⟩) ::
 (nat_lit 74, ⟨.type "code", none, .fields #[.str "is_sided_word" 272, .str "is_sided_word" 273, .str "/claim/cut.py" 274, .int 25 0, .int 1 0, .int 0 0, .int 0 0, .int 3 0, .ref 69, .bool true, .int 181 0, .ref 70, .none, .ref 71, .ref 72, .ref 73, .int 276 0, .int 25 0, .str "/claim/cut.py" 277], #[]⟩) ::
 (nat_lit 75, ⟨.type "function", none, .func ⟨"is_sided_word", "is_sided_word", L2.defArgs (top 14), .stmts (L2.defBody (top 14)), L2.defScope (top 14), 3, [], .none, .none, .none, .str "usewarden.rules" 249, none, .ref 74, .none, 0⟩, #[]⟩) ::
 (nat_lit 76, ⟨.type "tuple", none, .seq #[] 0, #[]⟩) ::
 (nat_lit 79, ⟨.type "code", none, .fields #[.str "is_rising" 279, .str "is_rising" 280, .str "/claim/cut.py" 281, .int 27 0, .int 1 0, .int 0 0, .int 0 0, .int 3 0, .ref 76, .bool true, .int 181 0, .ref 77, .none, .none, .none, .ref 78, .int 282 0, .int 27 0, .str "/claim/cut.py" 283], #[]⟩) ::
 (nat_lit 80, ⟨.type "function", none, .func ⟨"is_rising", "is_rising", L2.defArgs (top 15), .stmts (L2.defBody (top 15)), L2.defScope (top 15), 3, [], .none, .none, .none, .str "usewarden.rules" 249, none, .ref 79, .none, 0⟩, #[]⟩) ::
 (nat_lit 81, ⟨.type "tuple", none, .seq #[] 0, #[]⟩) ::
 (nat_lit 83, ⟨.type "tuple", none, .seq #[.str "thing" 288, .str "sides" 289, .str "word" 290] 0, #[]⟩) ::
 (nat_lit 84, ⟨.type "tuple", none, .seq #[] 0, #[]⟩) ::
 (nat_lit 86, ⟨.type "code", none, .fields #[.str "are_words" 285, .str "are_words" 286, .str "/claim/cut.py" 287, .int 29 0, .int 2 0, .int 0 0, .int 0 0, .int 3 0, .ref 81, .bool true, .int 181 0, .ref 82, .none, .ref 83, .ref 84, .ref 85, .int 291 0, .int 29 0, .str "/claim/cut.py" 292], #[]⟩) ::
 (nat_lit 87, ⟨.type "function", none, .func ⟨"are_words", "are_words", L2.defArgs (top 16), .stmts (L2.defBody (top 16)), L2.defScope (top 16), 3, [], .none, .none, .none, .str "usewarden.rules" 249, none, .ref 86, .none, 0⟩, #[]⟩) ::
 (nat_lit 88, ⟨.type "tuple", none, .seq #[] 0, #[]⟩) ::
 (nat_lit 90, ⟨.type "tuple", none, .seq #[.str "thing" 297, .str "count" 298] 0, #[]⟩) ::
 (nat_lit 91, ⟨.type "tuple", none, .seq #[] 0, #[]⟩) ::
 (nat_lit 93, ⟨.type "code", none, .fields #[.str "is_way" 294, .str "is_way" 295, .str "/claim/cut.py" 296, .int 36 0, .int 2 0, .int 0 0, .int 0 0, .int 3 0, .ref 88, .bool true, .int 181 0, .ref 89, .none, .ref 90, .ref 91, .ref 92, .int 299 0, .int 36 0, .str "/claim/cut.py" 300], #[]⟩) ::
 (nat_lit 94, ⟨.type "function", none, .func ⟨"is_way", "is_way", L2.defArgs (top 17), .stmts (L2.defBody (top 17)), L2.defScope (top 17), 3, [], .none, .none, .none, .str "usewarden.rules" 249, none, .ref 93, .none, 0⟩, #[]⟩) ::
 (nat_lit 95, ⟨.type "tuple", none, .seq #[] 0, #[]⟩) ::
 (nat_lit 98, ⟨.type "code", none, .fields #[.str "is_room" 302, .str "is_room" 303, .str "/claim/cut.py" 304, .int 38 0, .int 3 0, .int 0 0, .int 0 0, .int 3 0, .ref 95, .bool true, .int 181 0, .ref 96, .none, .none, .none, .ref 97, .int 305 0, .int 38 0, .str "/claim/cut.py" 306], #[]⟩) ::
 (nat_lit 99, ⟨.type "function", none, .func ⟨"is_room", "is_room", L2.defArgs (top 18), .stmts (L2.defBody (top 18)), L2.defScope (top 18), 3, [], .none, .none, .none, .str "usewarden.rules" 249, none, .ref 98, .none, 0⟩, #[]⟩) ::
 (nat_lit 100, ⟨.type "tuple", none, .seq #[] 0, #[]⟩) ::
 (nat_lit 103, ⟨.type "code", none, .fields #[.str "are_rooms" 308, .str "are_rooms" 309, .str "/claim/cut.py" 310, .int 42 0, .int 2 0, .int 0 0, .int 0 0, .int 3 0, .ref 100, .bool true, .int 181 0, .ref 101, .none, .none, .none, .ref 102, .int 311 0, .int 42 0, .str "/claim/cut.py" 312], #[]⟩) ::
 (nat_lit 104, ⟨.type "function", none, .func ⟨"are_rooms", "are_rooms", L2.defArgs (top 19), .stmts (L2.defBody (top 19)), L2.defScope (top 19), 3, [], .none, .none, .none, .str "usewarden.rules" 249, none, .ref 103, .none, 0⟩, #[]⟩) ::
 (nat_lit 105, ⟨.type "tuple", none, .seq #[] 0, #[]⟩) ::
 (nat_lit 107, ⟨.type "tuple", none, .seq #[.str "thing" 317, .str "sides" 318] 0, #[]⟩) ::
 (nat_lit 108, ⟨.type "tuple", none, .seq #[] 0, #[]⟩) ::
 (nat_lit 110, ⟨.type "code", none, .fields #[.str "is_rule" 314, .str "is_rule" 315, .str "/claim/cut.py" 316, .int 46 0, .int 1 0, .int 0 0, .int 0 0, .int 3 0, .ref 105, .bool true, .int 181 0, .ref 106, .none, .ref 107, .ref 108, .ref 109, .int 319 0, .int 46 0, .str "/claim/cut.py" 320], #[]⟩) ::
 (nat_lit 111, ⟨.type "function", none, .func ⟨"is_rule", "is_rule", L2.defArgs (top 20), .stmts (L2.defBody (top 20)), L2.defScope (top 20), 3, [], .none, .none, .none, .str "usewarden.rules" 249, none, .ref 110, .none, 0⟩, #[]⟩) ::
 (nat_lit 112, ⟨.type "tuple", none, .seq #[] 0, #[]⟩) ::
 (nat_lit 114, ⟨.type "tuple", none, .seq #[.str "text" 327] 0, #[]⟩) ::
 (nat_lit 115, ⟨.type "tuple", none, .seq #[] 0, #[]⟩) ::
 (nat_lit 117, ⟨.type "code", none, .fields #[.str "lines_in" 324, .str "lines_in" 325, .str "/claim/cut.py" 326, .int 54 0, .int 1 0, .int 0 0, .int 0 0, .int 3 0, .ref 112, .bool true, .int 181 0, .ref 113, .none, .ref 114, .ref 115, .ref 116, .int 328 0, .int 54 0, .str "/claim/cut.py" 329], #[]⟩) ::
 (nat_lit 118, ⟨.type "function", none, .func ⟨"lines_in", "lines_in", L2.defArgs (top 22), .stmts (L2.defBody (top 22)), L2.defScope (top 22), 3, [], .none, .none, .none, .str "usewarden.progtexts" 322, none, .ref 117, .none, 0⟩, #[]⟩) ::
 (nat_lit 119, ⟨.type "tuple", none, .seq #[] 0, #[]⟩) ::
 (nat_lit 121, ⟨.type "tuple", none, .seq #[.str "word" 338, .str "way" 339] 0, #[]⟩) ::
 (nat_lit 122, ⟨.type "tuple", none, .seq #[] 0, #[]⟩) ::
 (nat_lit 124, ⟨.type "code", none, .fields #[.str "show_way" 335, .str "show_way" 336, .str "/claim/cut.py" 337, .int 58 0, .int 2 0, .int 0 0, .int 0 0, .int 3 0, .ref 119, .bool true, .int 181 0, .ref 120, .none, .ref 121, .ref 122, .ref 123, .int 340 0, .int 58 0, .str "/claim/cut.py" 341], #[]⟩) ::
 (nat_lit 125, ⟨.type "function", none, .func ⟨"show_way", "show_way", L2.defArgs (top 25), .stmts (L2.defBody (top 25)), L2.defScope (top 25), 3, [], .none, .none, .none, .str "usewarden.ruletexts" 331, none, .ref 124, .none, 0⟩, #[]⟩) ::
 (nat_lit 126, ⟨.type "tuple", none, .seq #[] 0, #[]⟩) ::
 (nat_lit 129, ⟨.type "code", none, .fields #[.str "show_room" 343, .str "show_room" 344, .str "/claim/cut.py" 345, .int 62 0, .int 2 0, .int 0 0, .int 0 0, .int 3 0, .ref 126, .bool true, .int 181 0, .ref 127, .none, .none, .none, .ref 128, .int 346 0, .int 62 0, .str "/claim/cut.py" 347], #[]⟩) ::
 (nat_lit 130, ⟨.type "function", none, .func ⟨"show_room", "show_room", L2.defArgs (top 26), .stmts (L2.defBody (top 26)), L2.defScope (top 26), 3, [], .none, .none, .none, .str "usewarden.ruletexts" 331, none, .ref 129, .none, 0⟩, #[]⟩) ::
 (nat_lit 131, ⟨.type "tuple", none, .seq #[] 0, #[]⟩) ::
 (nat_lit 134, ⟨.type "code", none, .fields #[.str "show_rule" 349, .str "show_rule" 350, .str "/claim/cut.py" 351, .int 64 0, .int 1 0, .int 0 0, .int 0 0, .int 3 0, .ref 131, .bool true, .int 181 0, .ref 132, .none, .none, .none, .ref 133, .int 352 0, .int 64 0, .str "/claim/cut.py" 353], #[]⟩) ::
 (nat_lit 135, ⟨.type "function", none, .func ⟨"show_rule", "show_rule", L2.defArgs (top 27), .stmts (L2.defBody (top 27)), L2.defScope (top 27), 3, [], .none, .none, .none, .str "usewarden.ruletexts" 331, none, .ref 134, .none, 0⟩, #[]⟩) ::
 (nat_lit 136, ⟨.type "tuple", none, .seq #[] 0, #[]⟩) ::
 (nat_lit 138, ⟨.type "tuple", none, .seq #[.str "text" 358, .str "parts" 359] 0, #[]⟩) ::
 (nat_lit 139, ⟨.type "tuple", none, .seq #[] 0, #[]⟩) ::
 (nat_lit 141, ⟨.type "code", none, .fields #[.str "way_in" 355, .str "way_in" 356, .str "/claim/cut.py" 357, .int 66 0, .int 1 0, .int 0 0, .int 0 0, .int 3 0, .ref 136, .bool true, .int 181 0, .ref 137, .none, .ref 138, .ref 139, .ref 140, .int 360 0, .int 66 0, .str "/claim/cut.py" 361], #[]⟩) ::
 (nat_lit 142, ⟨.type "function", none, .func ⟨"way_in", "way_in", L2.defArgs (top 28), .stmts (L2.defBody (top 28)), L2.defScope (top 28), 3, [], .none, .none, .none, .str "usewarden.ruletexts" 331, none, .ref 141, .none, 0⟩, #[]⟩) ::
 (nat_lit 143, ⟨.type "tuple", none, .seq #[] 0, #[]⟩) ::
 (nat_lit 146, ⟨.type "code", none, .fields #[.str "ways_in" 363, .str "ways_in" 364, .str "/claim/cut.py" 365, .int 71 0, .int 1 0, .int 0 0, .int 0 0, .int 3 0, .ref 143, .bool true, .int 181 0, .ref 144, .none, .none, .none, .ref 145, .int 366 0, .int 71 0, .str "/claim/cut.py" 367], #[]⟩) ::
 (nat_lit 147, ⟨.type "function", none, .func ⟨"ways_in", "ways_in", L2.defArgs (top 29), .stmts (L2.defBody (top 29)), L2.defScope (top 29), 3, [], .none, .none, .none, .str "usewarden.ruletexts" 331, none, .ref 146, .none, 0⟩, #[]⟩) ::
 (nat_lit 148, ⟨.type "tuple", none, .seq #[] 0, #[]⟩) ::
 (nat_lit 151, ⟨.type "code", none, .fields #[.str "numbers_of" 369, .str "numbers_of" 370, .str "/claim/cut.py" 371, .int 75 0, .int 1 0, .int 0 0, .int 0 0, .int 3 0, .ref 148, .bool true, .int 181 0, .ref 149, .none, .none, .none, .ref 150, .int 372 0, .int 75 0, .str "/claim/cut.py" 373], #[]⟩) ::
 (nat_lit 152, ⟨.type "function", none, .func ⟨"numbers_of", "numbers_of", L2.defArgs (top 30), .stmts (L2.defBody (top 30)), L2.defScope (top 30), 3, [], .none, .none, .none, .str "usewarden.ruletexts" 331, none, .ref 151, .none, 0⟩, #[]⟩) ::
 (nat_lit 153, ⟨.type "tuple", none, .seq #[] 0, #[]⟩) ::
 (nat_lit 156, ⟨.type "code", none, .fields #[.str "rule_in" 375, .str "rule_in" 376, .str "/claim/cut.py" 377, .int 77 0, .int 1 0, .int 0 0, .int 0 0, .int 3 0, .ref 153, .bool true, .int 181 0, .ref 154, .none, .none, .none, .ref 155, .int 378 0, .int 77 0, .str "/claim/cut.py" 379], #[]⟩) ::
 (nat_lit 157, ⟨.type "function", none, .func ⟨"rule_in", "rule_in", L2.defArgs (top 31), .stmts (L2.defBody (top 31)), L2.defScope (top 31), 3, [], .none, .none, .none, .str "usewarden.ruletexts" 331, none, .ref 156, .none, 0⟩, #[]⟩) ::
 (nat_lit 158, ⟨.type "tuple", none, .seq #[] 0, #[]⟩) ::
 (nat_lit 160, ⟨.type "tuple", none, .seq #[.str "text" 384, .str "rule" 385] 0, #[]⟩) ::
 (nat_lit 161, ⟨.type "tuple", none, .seq #[] 0, #[]⟩) ::
 (nat_lit 163, ⟨.type "code", none, .fields #[.str "read_rule" 381, .str "read_rule" 382, .str "/claim/cut.py" 383, .int 82 0, .int 1 0, .int 0 0, .int 0 0, .int 3 0, .ref 158, .bool true, .int 181 0, .ref 159, .none, .ref 160, .ref 161, .ref 162, .int 386 0, .int 82 0, .str "/claim/cut.py" 387], #[]⟩) ::
 (nat_lit 164, ⟨.type "function", none, .func ⟨"read_rule", "read_rule", L2.defArgs (top 32), .stmts (L2.defBody (top 32)), L2.defScope (top 32), 3, [], .none, .none, .none, .str "usewarden.ruletexts" 331, none, .ref 163, .none, 0⟩, #[]⟩) ::
 (nat_lit 165, ⟨.type "tuple", none, .seq #[] 0, #[]⟩) ::
 (nat_lit 167, ⟨.type "tuple", none, .seq #[.str "line" 396, .str "parts" 397] 0, #[]⟩) ::
 (nat_lit 168, ⟨.type "tuple", none, .seq #[] 0, #[]⟩) ::
 (nat_lit 170, ⟨.type "code", none, .fields #[.str "named_in" 393, .str "named_in" 394, .str "/claim/cut.py" 395, .int 91 0, .int 1 0, .int 0 0, .int 0 0, .int 3 0, .ref 165, .bool true, .int 181 0, .ref 166, .none, .ref 167, .ref 168, .ref 169, .int 398 0, .int 91 0, .str "/claim/cut.py" 399], #[]⟩) ::
 (nat_lit 171, ⟨.type "function", none, .func ⟨"named_in", "named_in", L2.defArgs (top 35), .stmts (L2.defBody (top 35)), L2.defScope (top 35), 3, [], .none, .none, .none, .str "usewarden.lists" 389, none, .ref 170, .none, 0⟩, #[]⟩) ::
 (nat_lit 172, ⟨.type "tuple", none, .seq #[] 0, #[]⟩) ::
 (nat_lit 175, ⟨.type "code", none, .fields #[.str "read_rules" 401, .str "read_rules" 402, .str "/claim/cut.py" 403, .int 96 0, .int 1 0, .int 0 0, .int 0 0, .int 3 0, .ref 172, .bool true, .int 181 0, .ref 173, .none, .none, .none, .ref 174, .int 404 0, .int 96 0, .str "/claim/cut.py" 405], #[]⟩) ::
 (nat_lit 176, ⟨.type "function", none, .func ⟨"read_rules", "read_rules", L2.defArgs (top 36), .stmts (L2.defBody (top 36)), L2.defScope (top 36), 3, [], .none, .none, .none, .str "usewarden.lists" 389, none, .ref 175, .none, 0⟩, #[]⟩) ::
 (nat_lit 177, ⟨.type "tuple", none, .seq #[] 0, #[]⟩) ::
 (nat_lit 179, ⟨.type "tuple", none, .seq #[.str "_law_script" 412, .str "_law_k" 413] 0, #[]⟩) ::
 (nat_lit 180, ⟨.type "tuple", none, .seq #[] 0, #[]⟩) ::
 (nat_lit 182, ⟨.type "code", none, .fields #[.str "_law_cell_at" 409, .str "_law_cell_at" 410, .str "/claim/cut.py" 411, .int 107 0, .int 2 0, .int 0 0, .int 0 0, .int 3 0, .ref 177, .bool true, .int 181 0, .ref 178, .none, .ref 179, .ref 180, .ref 181, .int 414 0, .int 107 0, .str "/claim/cut.py" 415], #[]⟩) ::
 (nat_lit 183, ⟨.type "function", none, .func ⟨"_law_cell_at", "_law_cell_at", L2.defArgs (top 38), .stmts (L2.defBody (top 38)), L2.defScope (top 38), 3, [], .none, .none, .none, .str "law_usewarden_k86_texts_that_tell_no_rules" 407, none, .ref 182, .none, 0⟩, #[]⟩) ::
 (nat_lit 184, ⟨.type "tuple", none, .seq #[] 0, #[]⟩) ::
 (nat_lit 186, ⟨.type "tuple", none, .seq #[.str "_law_cell" 420, .str "_law_k" 421, .str "_law_number_here" 422] 0, #[]⟩) ::
 (nat_lit 187, ⟨.type "tuple", none, .seq #[] 0, #[]⟩) ::
 (nat_lit 189, ⟨.type "code", none, .fields #[.str "_law_mixed" 417, .str "_law_mixed" 418, .str "/claim/cut.py" 419, .int 111 0, .int 2 0, .int 0 0, .int 0 0, .int 3 0, .ref 184, .bool true, .int 181 0, .ref 185, .none, .ref 186, .ref 187, .ref 188, .int 423 0, .int 111 0, .str "/claim/cut.py" 424], #[]⟩) ::
 (nat_lit 190, ⟨.type "function", none, .func ⟨"_law_mixed", "_law_mixed", L2.defArgs (top 39), .stmts (L2.defBody (top 39)), L2.defScope (top 39), 3, [], .none, .none, .none, .str "law_usewarden_k86_texts_that_tell_no_rules" 407, none, .ref 189, .none, 0⟩, #[]⟩) ::
 (nat_lit 191, ⟨.type "tuple", none, .seq #[] 0, #[]⟩) ::
 (nat_lit 193, ⟨.type "tuple", none, .seq #[.str "_law_cell" 429, .str "_law_many" 430, .str "_law_letters" 431, .str "_law_size" 432, .str "_law_at" 433, .str "_law_words_here" 434, .str "_law_k" 435, .str "_law_word_here" 436, .str "_law_j" 437] 0, #[]⟩) ::
 (nat_lit 194, ⟨.type "tuple", none, .seq #[] 0, #[]⟩) ::
 (nat_lit 196, ⟨.type "code", none, .fields #[.str "_law_words" 426, .str "_law_words" 427, .str "/claim/cut.py" 428, .int 114 0, .int 2 0, .int 0 0, .int 0 0, .int 3 0, .ref 191, .bool true, .int 181 0, .ref 192, .none, .ref 193, .ref 194, .ref 195, .int 438 0, .int 114 0, .str "/claim/cut.py" 439], #[]⟩) ::
 (nat_lit 197, ⟨.type "function", none, .func ⟨"_law_words", "_law_words", L2.defArgs (top 40), .stmts (L2.defBody (top 40)), L2.defScope (top 40), 3, [], .none, .none, .none, .str "law_usewarden_k86_texts_that_tell_no_rules" 407, none, .ref 196, .none, 0⟩, #[]⟩) ::
 (nat_lit 198, ⟨.type "tuple", none, .seq #[] 0, #[]⟩) ::
 (nat_lit 200, ⟨.type "tuple", none, .seq #[.str "_law_text" 444, .str "_law_sign" 445] 0, #[]⟩) ::
 (nat_lit 201, ⟨.type "tuple", none, .seq #[] 0, #[]⟩) ::
 (nat_lit 203, ⟨.type "code", none, .fields #[.str "_law_word" 441, .str "_law_word" 442, .str "/claim/cut.py" 443, .int 125 0, .int 1 0, .int 0 0, .int 0 0, .int 3 0, .ref 198, .bool true, .int 181 0, .ref 199, .none, .ref 200, .ref 201, .ref 202, .int 446 0, .int 125 0, .str "/claim/cut.py" 447], #[]⟩) ::
 (nat_lit 204, ⟨.type "function", none, .func ⟨"_law_word", "_law_word", L2.defArgs (top 41), .stmts (L2.defBody (top 41)), L2.defScope (top 41), 3, [], .none, .none, .none, .str "law_usewarden_k86_texts_that_tell_no_rules" 407, none, .ref 203, .none, 0⟩, #[]⟩) ::
 (nat_lit 205, ⟨.type "tuple", none, .seq #[] 0, #[]⟩) ::
 (nat_lit 207, ⟨.type "tuple", none, .seq #[.str "_law_text" 452, .str "_law_most" 453, .str "_law_sign" 454] 0, #[]⟩) ::
 (nat_lit 208, ⟨.type "tuple", none, .seq #[] 0, #[]⟩) ::
 (nat_lit 210, ⟨.type "code", none, .fields #[.str "_law_number" 449, .str "_law_number" 450, .str "/claim/cut.py" 451, .int 132 0, .int 2 0, .int 0 0, .int 0 0, .int 3 0, .ref 205, .bool true, .int 181 0, .ref 206, .none, .ref 207, .ref 208, .ref 209, .int 455 0, .int 132 0, .str "/claim/cut.py" 456], #[]⟩) ::
 (nat_lit 211, ⟨.type "function", none, .func ⟨"_law_number", "_law_number", L2.defArgs (top 42), .stmts (L2.defBody (top 42)), L2.defScope (top 42), 3, [], .none, .none, .none, .str "law_usewarden_k86_texts_that_tell_no_rules" 407, none, .ref 210, .none, 0⟩, #[]⟩) ::
 (nat_lit 212, ⟨.type "tuple", none, .seq #[] 0, #[]⟩) ::
 (nat_lit 214, ⟨.type "tuple", none, .seq #[.str "_law_text" 461, .str "_law_most" 462, .str "_law_word_here" 463, .str "_law_mark" 464, .str "_law_number_here" 465] 0, #[]⟩) ::
 (nat_lit 215, ⟨.type "tuple", none, .seq #[] 0, #[]⟩) ::
 (nat_lit 217, ⟨.type "code", none, .fields #[.str "_law_move" 458, .str "_law_move" 459, .str "/claim/cut.py" 460, .int 141 0, .int 2 0, .int 0 0, .int 0 0, .int 3 0, .ref 212, .bool true, .int 181 0, .ref 213, .none, .ref 214, .ref 215, .ref 216, .int 466 0, .int 141 0, .str "/claim/cut.py" 467], #[]⟩) ::
 (nat_lit 218, ⟨.type "function", none, .func ⟨"_law_move", "_law_move", L2.defArgs (top 43), .stmts (L2.defBody (top 43)), L2.defScope (top 43), 3, [], .none, .none, .none, .str "law_usewarden_k86_texts_that_tell_no_rules" 407, none, .ref 217, .none, 0⟩, #[]⟩) ::
 (nat_lit 219, ⟨.type "tuple", none, .seq #[] 0, #[]⟩) ::
 (nat_lit 222, ⟨.type "code", none, .fields #[.str "_law_room" 469, .str "_law_room" 470, .str "/claim/cut.py" 471, .int 148 0, .int 2 0, .int 0 0, .int 0 0, .int 3 0, .ref 219, .bool true, .int 181 0, .ref 220, .none, .none, .none, .ref 221, .int 472 0, .int 148 0, .str "/claim/cut.py" 473], #[]⟩) ::
 (nat_lit 223, ⟨.type "function", none, .func ⟨"_law_room", "_law_room", L2.defArgs (top 44), .stmts (L2.defBody (top 44)), L2.defScope (top 44), 3, [], .none, .none, .none, .str "law_usewarden_k86_texts_that_tell_no_rules" 407, none, .ref 222, .none, 0⟩, #[]⟩) ::
 (nat_lit 224, ⟨.type "tuple", none, .seq #[] 0, #[]⟩) ::
 (nat_lit 227, ⟨.type "code", none, .fields #[.str "_law_rule_of" 475, .str "_law_rule_of" 476, .str "/claim/cut.py" 477, .int 155 0, .int 1 0, .int 0 0, .int 0 0, .int 3 0, .ref 224, .bool true, .int 181 0, .ref 225, .none, .none, .none, .ref 226, .int 478 0, .int 155 0, .str "/claim/cut.py" 479], #[]⟩) ::
 (nat_lit 228, ⟨.type "function", none, .func ⟨"_law_rule_of", "_law_rule_of", L2.defArgs (top 45), .stmts (L2.defBody (top 45)), L2.defScope (top 45), 3, [], .none, .none, .none, .str "law_usewarden_k86_texts_that_tell_no_rules" 407, none, .ref 227, .none, 0⟩, #[]⟩) ::
 (nat_lit 229, ⟨.type "tuple", none, .seq #[] 0, #[]⟩) ::
 (nat_lit 232, ⟨.type "code", none, .fields #[.str "_law_list_of" 481, .str "_law_list_of" 482, .str "/claim/cut.py" 483, .int 169 0, .int 1 0, .int 0 0, .int 0 0, .int 3 0, .ref 229, .bool true, .int 181 0, .ref 230, .none, .none, .none, .ref 231, .int 484 0, .int 169 0, .str "/claim/cut.py" 485], #[]⟩) ::
 (nat_lit 233, ⟨.type "function", none, .func ⟨"_law_list_of", "_law_list_of", L2.defArgs (top 46), .stmts (L2.defBody (top 46)), L2.defScope (top 46), 3, [], .none, .none, .none, .str "law_usewarden_k86_texts_that_tell_no_rules" 407, none, .ref 232, .none, 0⟩, #[]⟩) ::
 (nat_lit 234, ⟨.type "tuple", none, .seq #[] 0, #[]⟩) ::
 (nat_lit 236, ⟨.type "tuple", none, .seq #[.str "_law_cell" 490, .str "_law_name" 491, .str "_law_words_here" 492, .str "_law_many" 493, .str "_law_parts" 494, .str "_law_room_here" 495, .str "_law_moves" 496, .str "_law_k" 497, .str "_law_number_here" 498] 0, #[]⟩) ::
 (nat_lit 237, ⟨.type "tuple", none, .seq #[] 0, #[]⟩) ::
 (nat_lit 239, ⟨.type "code", none, .fields #[.str "_law_drawn_line" 487, .str "_law_drawn_line" 488, .str "/claim/cut.py" 489, .int 182 0, .int 3 0, .int 0 0, .int 0 0, .int 3 0, .ref 234, .bool true, .int 181 0, .ref 235, .none, .ref 236, .ref 237, .ref 238, .int 499 0, .int 182 0, .str "/claim/cut.py" 500], #[]⟩) ::
 (nat_lit 240, ⟨.type "function", none, .func ⟨"_law_drawn_line", "_law_drawn_line", L2.defArgs (top 47), .stmts (L2.defBody (top 47)), L2.defScope (top 47), 3, [], .none, .none, .none, .str "law_usewarden_k86_texts_that_tell_no_rules" 407, none, .ref 239, .none, 0⟩, #[]⟩) ::
 (nat_lit 241, ⟨.type "tuple", none, .seq #[] 0, #[]⟩) ::
 (nat_lit 244, ⟨.type "code", none, .fields #[.str "_law_changed" 502, .str "_law_changed" 503, .str "/claim/cut.py" 504, .int 192 0, .int 3 0, .int 0 0, .int 0 0, .int 3 0, .ref 241, .bool true, .int 181 0, .ref 242, .none, .none, .none, .ref 243, .int 505 0, .int 192 0, .str "/claim/cut.py" 506], #[]⟩) ::
 (nat_lit 245, ⟨.type "function", none, .func ⟨"_law_changed", "_law_changed", L2.defArgs (top 48), .stmts (L2.defBody (top 48)), L2.defScope (top 48), 3, [], .none, .none, .none, .str "law_usewarden_k86_texts_that_tell_no_rules" 407, none, .ref 244, .none, 0⟩, #[]⟩) ::
 (nat_lit 246, ⟨.type "tuple", none, .seq #[] 0, #[]⟩) ::
 (nat_lit 248, ⟨.type "tuple", none, .seq #[.str "_law_thing" 511, .str "_law_other" 512, .str "e" 513] 0, #[]⟩) ::
 (nat_lit 249, ⟨.type "tuple", none, .seq #[] 0, #[]⟩) ::
 (nat_lit 251, ⟨.type "code", none, .fields #[.str "_law_refused" 508, .str "_law_refused" 509, .str "/claim/cut.py" 510, .int 205 0, .int 1 0, .int 0 0, .int 0 0, .int 3 0, .ref 246, .bool true, .int 181 0, .ref 247, .none, .ref 248, .ref 249, .ref 250, .int 514 0, .int 205 0, .str "/claim/cut.py" 515], #[]⟩) ::
 (nat_lit 252, ⟨.type "function", none, .func ⟨"_law_refused", "_law_refused", L2.defArgs (top 49), .stmts (L2.defBody (top 49)), L2.defScope (top 49), 3, [], .none, .none, .none, .str "law_usewarden_k86_texts_that_tell_no_rules" 407, none, .ref 251, .none, 0⟩, #[]⟩) ::
 (nat_lit 253, ⟨.type "tuple", none, .seq #[] 0, #[]⟩) ::
 (nat_lit 256, ⟨.type "code", none, .fields #[.str "law" 517, .str "law" 518, .str "/claim/cut.py" 519, .int 214 0, .int 1 0, .int 0 0, .int 0 0, .int 3 0, .ref 253, .bool true, .int 181 0, .ref 254, .none, .none, .none, .ref 255, .int 520 0, .int 214 0, .str "/claim/cut.py" 521], #[]⟩) ::
 (nat_lit 257, ⟨.type "function", none, .func ⟨"law", "law", L2.defArgs (top 50), .stmts (L2.defBody (top 50)), L2.defScope (top 50), 3, [], .none, .none, .none, .str "law_usewarden_k86_texts_that_tell_no_rules" 407, none, .ref 256, .none, 0⟩, #[]⟩) :: []
def kk : List Addr := [2, 3, 15, 22, 23, 24, 25, 28, 35, 36, 37, 40, 47, 48, 49, 52, 55, 56, 57, 59, 60, 62, 63, 64, 67, 68, 69, 71, 72, 74, 75, 76, 79, 80, 81, 83, 84, 86, 87, 88, 90, 91, 93, 94, 95, 98, 99, 100, 103, 104, 105, 107, 108, 110, 111, 112, 114, 115, 117, 118, 119, 121, 122, 124, 125, 126, 129, 130, 131, 134, 135, 136, 138, 139, 141, 142, 143, 146, 147, 148, 151, 152, 153, 156, 157, 158, 160, 161, 163, 164, 165, 167, 168, 170, 171, 172, 175, 176, 177, 179, 180, 182, 183, 184, 186, 187, 189, 190, 191, 193, 194, 196, 197, 198, 200, 201, 203, 204, 205, 207, 208, 210, 211, 212, 214, 215, 217, 218, 219, 222, 223, 224, 227, 228, 229, 232, 233, 234, 236, 237, 239, 240, 241, 244, 245, 246, 248, 249, 251, 252, 253, 256, 257]
theorem kk_eq : ∀ P, kk = (KK P).map (·.1) := fun _ => by kernel_rfl
noncomputable abbrev HH : Hook := kHook KK kk kk_eq
def qq : Program := view PySem.Challenge.pw_usewarden_k86_texts_that_tell_no_rules [1, 2, 3, 5, 6, 8, 9, 10, 11, 12, 13, 14, 15, 16, 17, 18, 19, 20, 22, 24, 25, 26, 27, 28, 29, 30, 31, 32, 34, 35, 36, 38, 39, 40, 41, 42, 43, 44, 45, 46, 47, 48, 49, 50]
def loo : List Str := []
noncomputable def xt (s : Shared) : Bool := xlAt qq [] s && recOk (RowW.records (OpenRow.toRowW (OpenLaw.row PySem.Challenge.rw_usewarden_k86_texts_that_tell_no_rules))) s
def PH1 (w : World) : Prop := (openEnds treeTable PySem.Challenge.pw_usewarden_k86_texts_that_tell_no_rules w 3550).map (fun s => openSeen qq loo (importedModules (Program.main PySem.Challenge.pw_usewarden_k86_texts_that_tell_no_rules).body) xt true s) = some (openGood qq loo)
def PH2 (w : World) : Prop := (openEnds treeTable PySem.Challenge.pw_usewarden_k86_texts_that_tell_no_rules w 3550).map (fun s => Hook.obs HH s) = some (Hook.val HH w)
set_option maxRecDepth 1000000 in
theorem hlw1 (w : World) : PH1 w := by unfold PH1; kernel_rfl
set_option maxRecDepth 1000000 in
theorem hlw2 (w : World) : PH2 w := by unfold PH2; kernel_rfl
theorem map_both {α β γ : Type} {o : Option α} {f : α → β} {g : α → γ} {a : β} {b : γ} (h1 : o.map f = some a) (h2 : o.map g = some b) : o.map (fun s => (f s, g s)) = some (a, b) := by
 cases o with
 | none => cases h1
 | some s => cases h1; cases h2; rfl
theorem hl (w : World) : (openEnds treeTable PySem.Challenge.pw_usewarden_k86_texts_that_tell_no_rules w 3550).map (fun s => (openSeen qq loo (importedModules (Program.main PySem.Challenge.pw_usewarden_k86_texts_that_tell_no_rules).body) xt true s, Hook.obs HH s)) = some (openGood qq loo, Hook.val HH w) := map_both (hlw1 w) (hlw2 w)
end K86
-- CHANGE: your row's module here, as the last of these rows
set_option Elab.async false
set_option linter.all false
set_option maxRecDepth 100000
namespace L2
open PySem PySem.Spec PyProof.Rows
abbrev Key := Sum Int Str
def keyIs : Key → Value → Bool
 | .inl k, v => Value.isInt k v
 | .inr x, v => Value.isStrOf x v
def keyH (w : World) : Key → Int
 | .inl k => hashInt k
 | .inr x => hashStr w x
theorem keyIs_shape : ∀ {k : Key} {v : Value}, keyIs k v = true → (∃ i t, k = Sum.inl i ∧ v = Value.int i t) ∨ (∃ x t, k = Sum.inr x ∧ v = Value.str x t)
 | .inl i, v, h => by
  obtain ⟨t, e⟩ := Value.isInt_shape (k := i) (v := v) h
  exact .inl ⟨i, t, rfl, e⟩
 | .inr x, v, h => by
  obtain ⟨t, e⟩ := Value.isStrOf_shape (x := x) (v := v) h
  exact .inr ⟨x, t, rfl, e⟩
theorem key_ll (a b : Int) : decide ((Sum.inl a : Key) = Sum.inl b) = (a == b) := by
 by_cases e : a = b
 ·subst e; simp
 ·have h : ¬ (Sum.inl a : Key) = Sum.inl b := fun q => e (Sum.inl.inj q)
  rw [decide_eq_false h]
  exact (beq_eq_false_iff_ne.mpr e).symm
theorem key_rr (a b : Str) : decide ((Sum.inr a : Key) = Sum.inr b) = decide (a = b) := by
 by_cases e : a = b
 ·subst e; simp
 ·have h : ¬ (Sum.inr a : Key) = Sum.inr b := fun q => e (Sum.inr.inj q)
  rw [decide_eq_false h, decide_eq_false e]
theorem key_lr (a : Int) (b : Str) : decide ((Sum.inl a : Key) = Sum.inr b) = false := decide_eq_false (fun q => nomatch q)
theorem key_rl (a : Str) (b : Int) : decide ((Sum.inr a : Key) = Sum.inl b) = false := decide_eq_false (fun q => nomatch q)
def mixKind (prog : Program) (w : World) : PySem.KeyKind prog w Key where
 is := keyIs
 hash := keyH w
 inj := fun v a b ha hb => by
  rcases keyIs_shape ha with ⟨i, t, rfl, rfl⟩ | ⟨x, t, rfl, rfl⟩
  ·rcases keyIs_shape hb with ⟨j, u, rfl, e⟩ | ⟨y, u, rfl, e⟩
   ·injection e with e1 _; rw [e1]
   ·exact nomatch e
  ·rcases keyIs_shape hb with ⟨j, u, rfl, e⟩ | ⟨y, u, rfl, e⟩
   ·exact nomatch e
   ·injection e with e1 _; rw [e1]
 byValue := fun k v h => by
  rcases keyIs_shape h with ⟨i, t, rfl, rfl⟩ | ⟨x, t, rfl, rfl⟩ <;> rfl
 pyHash := fun hv h => by
  rcases keyIs_shape hv with ⟨i, t, rfl, rfl⟩ | ⟨x, t, rfl, rfl⟩
  ·exact wpAny_pyHash_int h
  ·exact wpAny_pyHash_str h
 eqBool := fun hu hv h => by
  rcases keyIs_shape hu with ⟨i, t, rfl, rfl⟩ | ⟨x, t, rfl, rfl⟩
  ·rcases keyIs_shape hv with ⟨j, u, rfl, rfl⟩ | ⟨y, u, rfl, rfl⟩
   ·rw [key_ll] at h; exact wpAny_eqBool_int h
   ·rw [key_lr] at h; exact SeqAt.EqAt.int_str i t y u _ _ _ _ h
  ·rcases keyIs_shape hv with ⟨j, u, rfl, rfl⟩ | ⟨y, u, rfl, rfl⟩
   ·rw [key_rl] at h; exact SeqAt.EqAt.str_int x t j u _ _ _ _ h
   ·rw [key_rr] at h; exact wpAny_eqBool_str h
 «strs» := fun k x t v h => by
  rcases keyIs_shape h with ⟨i, u, rfl, e⟩ | ⟨y, u, rfl, e⟩
  ·exact nomatch e
  ·injection e with e1 _
   subst e1
   cases v <;> rfl
end L2
namespace L2
open PySem PySem.Spec PyProof.Rows
set_option genSizeOf false in
inductive V where
 | non | bl (b : Bool) | int (i : Int) | str (x : Str) | byt (b : Array UInt8) | flt (b : UInt64) | ref (a : Addr) | ty (n : String)
 deriving DecidableEq
def RelV : V → Value → Prop
 | .non, u => u = Value.none
 | .bl b, u => u = Value.bool b
 | .int i, u => ∃ t, u = Value.int i t
 | .str x, u => ∃ t, u = Value.str x t
 | .byt b, u => ∃ t, u = Value.bytes b t
 | .flt b, u => ∃ t, u = Value.float b t
 | .ref a, u => u = Value.ref a
 | .ty n, u => u = Value.type n
abbrev Vals : List V → List Value → Prop := Paired RelV
theorem Vals.length {xs : List V} {us : List Value} (r : Vals xs us) : xs.length = us.length := Paired.length r
theorem Vals.get : ∀ {xs : List V} {us : List Value} {i : Nat} {x : V}, Vals xs us → xs[i]? = some x → ∃ u, us[i]? = some u ∧ RelV x u
 | _, _, _, _, .nil, e => by simp at e
 | _, _, 0, _, .cons r _, e => by simp at e; subst e; exact ⟨_, rfl, r⟩
 | _, _, i + 1, x, .cons _ t, e => by
  obtain ⟨u, h1, h2⟩ := Vals.get (i := i) (x := x) t (by simpa using e)
  exact ⟨u, by simpa using h1, h2⟩
theorem Vals.append : ∀ {xs ys : List V} {us ws : List Value}, Vals xs us → Vals ys ws → Vals (xs ++ ys) (us ++ ws)
 | _, _, _, _, .nil, s => s
 | _, _, _, _, .cons r t, s => .cons r (Vals.append t s)
theorem Vals.take : ∀ {xs : List V} {us : List Value} (n : Nat), Vals xs us → Vals (xs.take n) (us.take n)
 | _, _, 0, _ => .nil
 | _, _, _ + 1, .nil => .nil
 | _, _, n + 1, .cons r t => .cons r (Vals.take n t)
theorem Vals.drop : ∀ {xs : List V} {us : List Value} (n : Nat), Vals xs us → Vals (xs.drop n) (us.drop n)
 | _, _, 0, r => r
 | _, _, _ + 1, .nil => .nil
 | _, _, n + 1, .cons _ t => Vals.drop n t
def RelO : Option V → Option Value → Prop
 | some v, some u => RelV v u
 | none, none => True
 | _, _ => False
def KV {κ : Type} : List (κ × V) → List (κ × Value) → Prop := Paired fun (p : κ × V) (q : κ × Value) => p.1 = q.1 ∧ RelV p.2 q.2
def kV : Key → V
 | .inl i => .int i
 | .inr x => .str x
set_option genSizeOf false in
inductive HO where
 /-- a list -/
 | lst (xs : List V)
 /-- a tuple (never changes) -/
 | tup (xs : List V)
 /-- a dict whose keys are ints and texts; one whose keys are tuples of ints and texts (the empty one is both) -/
 | dK (kvs : List (Key × V)) | dT (kvs : List (List Key × V))
 /-- a set of ints: its members, its size -/
 | set (S : Int → Bool) (n : Nat)
 /-- an instance of the class at C, its dict at dx, its attributes -/
 | ins (C dx : Addr) (fs : List (Str × V))
 /-- the dict of the instance at x -/
 | own (x : Addr)
 /-- the dict of an exception -/
 | xd (fs : List (Str × V))
 /-- a bound method, f of x -/
 | met (f x : Addr)
 /-- a range object lo, lo + 1, .. below hi -/
 | rng (lo hi : Int)
 /-- a thing that is known to the object (the script; a dict while a loop walks it): read, never written while it is so -/
 | frz (o : Obj) (u : HO)
 /-- a code object's table -/
 | tbl (ps : Array Value)
 /-- any other thing, by what is true of its one object (a def of one's own: SetO a S n := HO.ext fun h => ..) -/
 | ext (φ : Heap → Prop)
abbrev Hp := Addr → Option HO
def upd (H : Hp) (a : Addr) (o : HO) : Hp := fun b => if b = a then some o else H b
theorem upd_same {H : Hp} {a : Addr} {o : HO} : upd H a o a = some o := by unfold upd; rw [if_pos rfl]
theorem upd_ne {H : Hp} {a b : Addr} {o : HO} (h : b ≠ a) : upd H a o b = H b := by unfold upd; rw [if_neg h]
theorem ne_of {H : Hp} {a b : Addr} {o u : HO} (h : H a = some o) (h' : H b = some u) (d : o ≠ u) : a ≠ b := by
 intro e; subst e; rw [h] at h'; exact d (Option.some.inj h')
theorem ne_of_none {H : Hp} {a b : Addr} {o : HO} (h : H a = some o) (h' : H b = none) : a ≠ b := by
 intro e; subst e; rw [h] at h'; cases h'
def IsTupN (h : Heap) (a : Addr) (items : Array Value) : Prop := ∃ o, h.get? a = some o ∧ o.cls = .type "tuple" ∧ o.dict = none ∧ ∃ n, o.data = .seq items n
theorem IsTupN.tup {h : Heap} {a : Addr} {items : Array Value} (x : IsTupN h a items) : IsTup h a items := let ⟨o, e, c, _, d⟩ := x; ⟨o, e, c, d⟩
theorem IsTupN.lt {h : Heap} {a : Addr} {items : Array Value} (x : IsTupN h a items) : a < h.objs.size := let ⟨_, e, _⟩ := x; Heap.lt_size e
section
variable (P : Program) (w : World)
def ObjOk (H : Hp) (h : Heap) (a : Addr) : HO → Prop
 | .lst xs => xs.length ≤ sizeLine ∧ ∃ (its : List Value) (n : Nat), Vals xs its ∧ h.get? a = some { cls := .type "list", data := .seq its.toArray n }
 | .tup xs => xs.length ≤ sizeLine ∧ ∃ its : List Value, Vals xs its ∧ IsTupN h a its.toArray
 | .dK kvs => kvs.length ≤ sizeLine ∧ (a == sysModules) = false ∧ ∃ vs, KV kvs vs ∧ h.DictOf (mixKind P w) a vs
 | .dT kvs => kvs.length ≤ sizeLine ∧ (a == sysModules) = false ∧ ∃ xs : List (List Key × Addr × Value),
   Paired (fun (p : List Key × V) (q : List Key × Addr × Value) => p.1 = q.1 ∧ H q.2.1 = some (.tup (p.1.map kV)) ∧ RelV p.2 q.2.2) kvs xs ∧
   ∃ o es ep, h.get? a = some o ∧ o.ExactDict ∧ o.data = .dict es ep ∧ es.toList = xs.map (entryOfKey (tupleKind (mixKind P w))) ∧ (xs.map (·.1)).Nodup
 | .set S n => h.SetOf (intKind P w) a S n
 | .ins C dx fs => H dx = some (.own a) ∧ fs.length ≤ 1000 ∧ dx ≠ a ∧ h.get? a = some (PySem.W.instObj C dx) ∧
   ∃ mA, h.Ns1 dx mA ∧ (∀ f, RelO (fs.lookup f) (mA f)) ∧ PySem.Within mA (fs.map (·.1))
 | .own _ => ∃ o, h.get? a = some o
 | .xd fs => ∃ mA, h.Ns1 a mA ∧ ∀ f, RelO (fs.lookup f) (mA f)
 | .rng lo hi => ∃ t u v, h.get? a = some { cls := .type "range", data := .fields #[.int lo t, .int hi u, .int 1 v] }
 | .frz o u => h.get? a = some o ∧ ObjOk H h a u
 | .tbl ps => h.get? a = some { cls := .none, data := .fields ps }
 | .met f x => h.get? a = some (PySem.W.methodObj (.ref f) (.ref x))
 | .ext φ => φ h ∧ (∃ o, h.get? a = some o) ∧ ∀ h1 h2 : Heap, φ h1 → (∀ o, h1.get? a = some o → h2.get? a = some o) → φ h2
def HOk (H : Hp) (h : Heap) : Prop := ∀ a o, H a = some o → ObjOk P w H h a o
end
section
variable {P : Program} {w : World} {H H' : Hp} {h h' : Heap} {a : Addr} {o : HO}
theorem ObjOk.lt (x : ObjOk P w H h a o) : a < h.objs.size := by
 cases o with
 | lst xs => obtain ⟨_, _, _, _, e⟩ := x; exact Heap.lt_size e
 | tup xs => obtain ⟨_, _, _, p⟩ := x; exact p.lt
 | dK kvs => obtain ⟨_, _, _, _, o, _, _, e, _⟩ := x; exact Heap.lt_size e
 | dT kvs => obtain ⟨_, _, _, _, o, _, _, e, _⟩ := x; exact Heap.lt_size e
 | set S n => obtain ⟨o, _, _, _, e, _⟩ := x; exact Heap.lt_size e
 | ins C dx fs => obtain ⟨_, _, _, e, _⟩ := x; exact Heap.lt_size e
 | own y => obtain ⟨_, e⟩ := x; exact Heap.lt_size e
 | xd fs => obtain ⟨_, ⟨_, _, _, e, _⟩, _⟩ := x; exact Heap.lt_size e
 | rng lo hi => obtain ⟨_, _, _, e⟩ := x; exact Heap.lt_size e
 | frz ob u => obtain ⟨e, _⟩ := x; exact Heap.lt_size e
 | tbl ps => exact Heap.lt_size (show h.get? a = some _ from x)
 | met f y => exact Heap.lt_size (show h.get? a = some _ from x)
 | ext φ => obtain ⟨_, ⟨_, e⟩, _⟩ := x; exact Heap.lt_size e
theorem Paired.mapP {α β : Type} {F G : α → β → Prop} : ∀ {l₁ : List α} {l₂ : List β}, Paired F l₁ l₂ → (∀ a b, F a b → G a b) → Paired G l₁ l₂
 | _, _, .nil, _ => .nil
 | _, _, .cons r t, f => .cons (f _ _ r) (Paired.mapP t f)
theorem ObjOk.stay (x : ObjOk P w H h a o) (k : ∀ b u, (b = a ∨ H b = some (.own a)) → h.get? b = some u → h'.get? b = some u)
  (ho : ∀ b, H b = some (.own a) → H' b = some (.own a)) (ht : ∀ b xs, H b = some (.tup xs) → H' b = some (.tup xs)) : ObjOk P w H' h' a o := by
 induction o with
 | lst xs => obtain ⟨z, its, n, r, e⟩ := x; exact ⟨z, its, n, r, k _ _ (.inl rfl) e⟩
 | tup xs => obtain ⟨z, its, r, ob, e, c⟩ := x; exact ⟨z, its, r, ob, k _ _ (.inl rfl) e, c⟩
 | dK kvs => obtain ⟨z, y, vs, r, ob, es, ep, e, c⟩ := x; exact ⟨z, y, vs, r, ob, es, ep, k _ _ (.inl rfl) e, c⟩
 | dT kvs =>
  obtain ⟨z, y, xs, r, ob, es, ep, e, c⟩ := x
  exact ⟨z, y, xs, Paired.mapP r fun p q z => ⟨z.1, ht _ _ z.2.1, z.2.2⟩, ob, es, ep, k _ _ (.inl rfl) e, c⟩
 | set S n => obtain ⟨ob, es, ep, t, e, c⟩ := x; exact ⟨ob, es, ep, t, k _ _ (.inl rfl) e, c⟩
 | ins C dx fs =>
  obtain ⟨d, z, ne, e, mA, ⟨od, es, ep, e2, c⟩, r⟩ := x
  exact ⟨ho _ d, z, ne, k _ _ (.inl rfl) e, mA, ⟨od, es, ep, k _ _ (.inr d) e2, c⟩, r⟩
 | own y => obtain ⟨ob, e⟩ := x; exact ⟨ob, k _ _ (.inl rfl) e⟩
 | xd fs => obtain ⟨mA, ⟨od, es, ep, e, c⟩, r⟩ := x; exact ⟨mA, ⟨od, es, ep, k _ _ (.inl rfl) e, c⟩, r⟩
 | rng lo hi => obtain ⟨t, u, v, e⟩ := x; exact ⟨t, u, v, k _ _ (.inl rfl) e⟩
 | frz ob u ih => obtain ⟨e, q⟩ := x; exact ⟨k _ _ (.inl rfl) e, ih q⟩
 | tbl ps =>
  have e : h.get? a = some { cls := .none, data := .fields ps } := x
  show h'.get? a = some { cls := .none, data := .fields ps }
  exact k a _ (.inl rfl) e
 | met f y =>
  have e : h.get? a = some (PySem.W.methodObj (.ref f) (.ref y)) := x
  show h'.get? a = some (PySem.W.methodObj (.ref f) (.ref y))
  exact k a _ (.inl rfl) e
 | ext φ => obtain ⟨p, ⟨o, e⟩, st⟩ := x; exact ⟨st _ _ p fun o q => k _ _ (.inl rfl) q, ⟨o, k _ _ (.inl rfl) e⟩, st⟩
theorem HOk.lt (x : HOk P w H h) (e : H a = some o) : a < h.objs.size := (x a o e).lt
theorem HOk.fresh (x : HOk P w H h) (e : h.objs.size ≤ a) : H a = none := by
 cases q : H a with
 | none => rfl
 | some u => exact absurd (Nat.lt_of_lt_of_le (x.lt q) e) (Nat.lt_irrefl _)
theorem HOk.kept (x : HOk P w H h) (k : ∀ b u, h.get? b = some u → h'.get? b = some u) : HOk P w H h' := fun a o e =>
 (x a o e).stay (fun b u _ q => k b u q) (fun _ q => q) fun _ _ q => q
theorem HOk.laid (x : HOk P w H h) (k : ∀ b u, h.get? b = some u → h'.get? b = some u) (hp : h.objs.size ≤ a) (new : ObjOk P w (upd H a o) h' a o) : HOk P w (upd H a o) h' := fun b u e => by
 have hn := x.fresh hp
 by_cases hb : b = a
 ·subst hb; rw [upd_same] at e; cases e; exact new
 ·rw [upd_ne hb] at e
  exact (x b u e).stay (fun c v _ q => k c v q) (fun c q => by rw [upd_ne (ne_of_none q hn)]; exact q) fun c xs q => by rw [upd_ne (ne_of_none q hn)]; exact q
end
def Rd (H : Hp) (a : Addr) (u : HO) : Prop := H a = some u ∨ ∃ o, H a = some (.frz o u)
theorem Rd.ok {P : Program} {w : World} {H : Hp} {h : Heap} {a : Addr} {u : HO} (r : Rd H a u) (x : HOk P w H h) : ObjOk P w H h a u := by
 rcases r with r | ⟨o, r⟩
 ·exact x a u r
 ·obtain ⟨_, q⟩ := x a _ r
  exact q
def Mut : Option HO → Prop
 | some (.lst _) => True
 | some (.dK _) => True
 | some (.dT _) => True
 | some (.set _ _) => True
 | some (.ins _ _ _) => True
 | some (.ext _) => True
 | _ => False
section
variable {P : Program} {w : World} {H : Hp} {h h' : Heap} {x e : Addr} {o' : HO}
theorem HOk.write (ok : HOk P w H h) (mu : Mut (H x)) (he : e = x ∨ H e = some (.own x)) (k : ∀ b u, b ≠ e → h.get? b = some u → h'.get? b = some u) (heo : ∃ u, h'.get? e = some u)
  (new : ObjOk P w (upd H x o') h' x o') : HOk P w (upd H x o') h' := fun b u q => by
 have nown : ∀ c y, H c = some (.own y) → c ≠ x := fun c y r z => by subst z; rw [r] at mu; exact mu
 have ntup : ∀ c xs, H c = some (.tup xs) → c ≠ x := fun c xs r z => by subst z; rw [r] at mu; exact mu
 by_cases hb : b = x
 ·subst hb; rw [upd_same] at q; cases q; exact new
 ·rw [upd_ne hb] at q
  by_cases hbe : b = e
  ·have q' : H b = some (.own x) := by
    rcases he with z | z
    ·exact absurd (hbe.trans z) hb
    ·rw [hbe]; exact z
   rw [q] at q'; cases q'
   obtain ⟨v, hv⟩ := heo
   exact ⟨v, by rw [hbe]; exact hv⟩
  ·refine (ok b u q).stay (fun c v hc r => k c v ?_ r) (fun c r => by rw [upd_ne (nown c b r)]; exact r) fun c xs r => by rw [upd_ne (ntup c xs r)]; exact r
   rcases hc with rfl | hc
   ·exact hbe
   ·rintro rfl
    rcases he with z | z
    ·exact nown c b hc z
    ·rw [hc] at z; cases z; exact hb rfl
end
structure Un (fs ex : List Addr) (H H' : Hp) (h h' : Heap) : Prop where
 keep : ∀ b o, h.get? b = some o → H b = none → b ∉ fs → b ∉ ex → h'.get? b = some o
 slot : ∀ b o, h.get? b = some o → H b = none → b ∈ fs → b ∉ ex → ∃ sl, h'.get? b = some { o with slots := sl }
 free : ∀ b o, h.get? b = some o → H b = none → b ∉ ex → H' b = none
 there : ∀ b o, h.get? b = some o → b ∉ ex → ∃ o', h'.get? b = some o'
 tups : ∀ b xs, H b = some (.tup xs) → H' b = some (.tup xs)
 frzs : ∀ b o u, H b = some (.frz o u) → H' b = some (.frz o u)
 tbls : ∀ b ps, H b = some (.tbl ps) → ∃ more, H' b = some (.tbl (ps ++ more))
section
variable {fs fs' ex ex' : List Addr} {H H1 H2 : Hp} {h h1 h2 h' : Heap} {a x e : Addr} {o : HO}
theorem Un.any (u : Un fs ex H H1 h h1) {b : Addr} {ob : Obj} (q : h.get? b = some ob) (n : H b = none) (hx : b ∉ ex) : ∃ sl, h1.get? b = some { ob with slots := sl } := by
 by_cases hb : b ∈ fs
 ·exact u.slot b ob q n hb hx
 ·exact ⟨ob.slots, u.keep b ob q n hb hx⟩
theorem Un.kept (k : ∀ b u, h.get? b = some u → h'.get? b = some u) : Un fs ex H H h h' :=
 ⟨fun b ob q _ _ _ => k b ob q, fun b ob q _ _ _ => ⟨ob.slots, k b ob q⟩, fun _ _ _ n _ => n, fun b ob q _ => ⟨ob, k b ob q⟩, fun _ _ q => q, fun _ _ _ q => q, fun _ ps q => ⟨#[], by rw [q]; simp⟩⟩
theorem Un.refl : Un fs ex H H h h := Un.kept fun _ _ q => q
theorem Un.laid (k : ∀ b u, h.get? b = some u → h'.get? b = some u) (hp : h.objs.size ≤ a) (hn : H a = none) : Un fs ex H (upd H a o) h h' where
 keep := fun b u q _ _ _ => k b u q
 slot := fun b u q _ _ _ => ⟨u.slots, k b u q⟩
 free := fun b u q n _ => by rw [upd_ne (Nat.ne_of_lt (Nat.lt_of_lt_of_le (Heap.lt_size q) hp))]; exact n
 there := fun b u q _ => ⟨u, k b u q⟩
 tups := fun b xs q => by rw [upd_ne (ne_of_none q hn)]; exact q
 frzs := fun b u xs q => by rw [upd_ne (ne_of_none q hn)]; exact q
 tbls := fun b ps q => ⟨#[], by rw [upd_ne (ne_of_none q hn), q]; simp⟩
theorem Un.write (mu : Mut (H x)) (he : e = x ∨ H e = some (.own x)) (k : ∀ b u, b ≠ e → h.get? b = some u → h'.get? b = some u) (heo : ∃ u, h'.get? e = some u) : Un fs ex H (upd H x o) h h' := by
 have hx : ∀ b, H b = none → b ≠ x := fun b n z => by subst z; rw [n] at mu; exact mu
 have hb : ∀ b, H b = none → b ≠ e := fun b n z => by
  subst z
  rcases he with r | r
  ·exact hx b n r
  ·rw [n] at r; cases r
 have hm : ∀ b u, H b = some u → ¬ Mut (some u) → b ≠ x := fun b u q nm z => by subst z; rw [q] at mu; exact nm mu
 refine ⟨fun b u q n _ _ => k b u (hb b n) q, fun b u q n _ _ => ⟨u.slots, k b u (hb b n) q⟩, fun b u q n _ => by rw [upd_ne (hx b n)]; exact n, fun b u q _ => ?_,
  fun b xs q => by rw [upd_ne (hm b _ q fun z => z)]; exact q, fun b u xs q => by rw [upd_ne (hm b _ q fun z => z)]; exact q, fun b ps q => ⟨#[], by rw [upd_ne (hm b _ q fun z => z), q]; simp⟩⟩
 by_cases hbe : b = e
 ·subst hbe; exact heo
 ·exact ⟨u, k b u hbe q⟩
end
def trk (h : Heap) (H : Hp) : List Addr := (List.range h.objs.size).filter fun a => (H a).isSome
def hidT (h : Heap) (H : Hp) : Heap := PySem.W.hideAll h (trk h H)
theorem hidT_size (h : Heap) (H : Hp) : (hidT h H).objs.size = h.objs.size := PySem.W.hideAll_size _ _
theorem hidT_get {h : Heap} {H : Hp} {b : Addr} {o : Obj} (e : h.get? b = some o) (n : H b = none) : (hidT h H).get? b = some o :=
 PySem.W.hideAll_get _ e fun hm => by
  have q : (H b).isSome = true := (List.mem_filter.mp hm).2
  rw [n] at q; simp at q
theorem of_hidT {h : Heap} {H : Hp} {b : Addr} {o : Obj} (e : (hidT h H).get? b = some o) : h.get? b = some o ∧ H b = none := by
 have e' : h.get? b = some o := PySem.W.of_hideAll (trk h H) e
 refine ⟨e', ?_⟩
 cases q : H b with
 | none => rfl
 | some x =>
  have hm : b ∈ trk h H := List.mem_filter.mpr ⟨List.mem_range.mpr (Heap.lt_size e'), by simp [q]⟩
  have z : (hidT h H).get? b = none := PySem.W.hideAll_none (trk h H) hm
  rw [z] at e; cases e
def allNews (g h : Heap) (L : Addr) : List (Addr × Obj) := (List.range h.objs.size).filterMap fun a => if a = L ∨ (g.get? a).isSome = true then none else (h.get? a).map fun o => (a, o)
def rest (g h : Heap) (L d : Addr) : List (Addr × Obj) := (allNews g h L).filter fun p => decide (p.1 ≠ d)
end L2
namespace L2
open PySem PySem.Spec PyProof.Rows
structure Mod (K : PySem.W.Frag) (mg : Str → Option Value) (base : Heap) : Prop where
 kin : K.In base
 glob : base.Ns mainGlobals mg
 blt : ∃ mb, base.Ns builtinsNs mb ∧ ∀ x : Str, x ≠ "__name__" → mb x = bootBuiltins x
 nolimit : base.NoLimit
set_option genInjectivity false in
set_option genSizeOf false in
structure Cx where
 prog : Program
 w : World
 K : PySem.W.Frag
 mg : Str → Option Value
 base : Heap
 A : Around
 N : List Str
 s₀ : Shared
 H₀ : Hp
 env : Env
 outer : List Env
 stack : List Env
 ex : List Addr
 fn : Str → Bool
 calm : Bool
 pn : List (Addr × Obj)
 xe : Value → Shared → Prop
def frs (l : List Env) : List Addr := l.filterMap (·.frame)
abbrev Cx.fs (X : Cx) : List Addr := frs X.outer
def Vis (sc : Scope) (x : Str) : Prop := sc.names.lookup x = some .local ∨ sc.names.lookup x = some .cell ∨ sc.names.lookup x = some .free
def Loc (sc : Scope) (x : Str) : Prop := sc.names.lookup x = some .local ∨ sc.names.lookup x = some .cell
def Look (env : Env) (h : Heap) (m : Str → Option Value) (x : Str) (u : Value) : Prop :=
 (env.kindOf x = some .local ∧ m x = some u) ∨ ((env.kindOf x = some .cell ∨ env.kindOf x = some .free) ∧ ∃ c, env.cells.lookup x = some c ∧ h.IsCell c (some u))
structure Cx.Ok (X : Cx) : Prop where
 mod : Mod X.K X.mg X.base
 kind : X.env.scope.kind = .function
 glob : X.env.globals = mainGlobals
 blt : X.env.builtins = builtinsNs
 above : X.s₀.heap.objs.size ≤ X.env.locals
 inj : ∀ x y c, X.env.cells.lookup x = some c → X.env.cells.lookup y = some c → x = y
 has : ∀ x, (X.env.kindOf x = some .cell ∨ X.env.kindOf x = some .free) → ∃ c, X.env.cells.lookup x = some c
 cab : ∀ x c, X.fn x = true → X.env.cells.lookup x = some c → X.s₀.heap.objs.size ≤ c
 hd : X.calm = true → X.A.handled = none
 frames : X.A.frames = some X.stack
 stk : X.stack = X.outer ∨ (X.stack = X.env :: X.outer ∧ X.env.frame = some X.env.locals)
 exf : ∀ b ∈ X.ex, b ≠ X.env.locals ∧ ∀ x c, X.env.cells.lookup x = some c → c ≠ b
 bs : ∀ b o, X.base.get? b = some o → X.s₀.heap.get? b = some o ∧ X.H₀ b = none
 bsz : X.base.objs.size ≤ X.s₀.heap.objs.size
 noex : ∀ b o, X.base.get? b = some o → b ∉ X.ex
 exfs : ∀ b ∈ X.ex, b ∉ X.fs
 funs : X.s₀.heap.FunFrames X.base X.outer
 frf : ∀ b ∈ X.fs, X.H₀ b = none
structure Inv (X : Cx) (pins : List (Addr × Obj)) (σ : List (Option V)) (H : Hp) (s : Shared) : Prop where
 ok : X.Ok
 os : s.os = X.s₀.os
 bare : AllBare s.gens
 base : Un X.fs X.ex X.H₀ H X.s₀.heap s.heap
 loc : ∃ m, s.heap.Ns X.env.locals m ∧ ∀ (i : Nat) (x : Str) (v : V), X.N[i]? = some x → σ[i]? = some (some v) → Vis X.env.scope x → ∃ u, RelV v u ∧ Look X.env s.heap m x u
 cell : ∀ x c, X.env.cells.lookup x = some c → ∃ v, s.heap.IsCell c v
 free : H X.env.locals = none
 freeC : ∀ x c, X.env.cells.lookup x = some c → H c = none
 pin : ∀ p ∈ X.pn ++ pins, s.heap.get? p.1 = some p.2 ∧ H p.1 = none ∧ p.1 ≠ X.env.locals ∧ p.1 ∉ X.fs ∧ ∀ v, p.2.data ≠ .cell v
 hok : HOk X.prog X.w H s.heap
 len : σ.length = X.N.length
section
variable {X : Cx} {pins : List (Addr × Obj)} {σ : List (Option V)} {H H' : Hp} {s : Shared} {h' : Heap}
theorem Cx.Ok.nofr (ok : X.Ok) {b : Addr} {o : Obj} (e : X.base.get? b = some o) : b ∉ X.fs := fun hb => by
 have := (ok.funs.mem hb).1
 rw [e] at this; cases this
theorem Inv.bs (I : Inv X pins σ H s) : ∀ b o, X.base.get? b = some o → s.heap.get? b = some o ∧ H b = none := fun b o e =>
 ⟨I.base.keep b o (I.ok.bs b o e).1 (I.ok.bs b o e).2 (I.ok.nofr e) (I.ok.noex b o e), I.base.free b o (I.ok.bs b o e).1 (I.ok.bs b o e).2 (I.ok.noex b o e)⟩
theorem Inv.bk (I : Inv X pins σ H s) : ∀ b o, X.base.get? b = some o → s.heap.get? b = some o := fun b o e => (I.bs b o e).1
theorem Inv.mod (I : Inv X pins σ H s) : Mod X.K X.mg X.base := I.ok.mod
theorem Inv.kIn (I : Inv X pins σ H s) : X.K.In s.heap := I.ok.mod.kin.keeps I.bk
theorem Inv.lt (I : Inv X pins σ H s) : X.env.locals < s.heap.objs.size := let ⟨_, hn, _⟩ := I.loc; hn.lt
theorem Inv.sz (I : Inv X pins σ H s) : X.s₀.heap.objs.size ≤ s.heap.objs.size := Nat.le_trans I.ok.above (Nat.le_of_lt I.lt)
theorem Inv.nofs (I : Inv X pins σ H s) {a : Addr} (h : s.heap.objs.size ≤ a) : a ∉ X.fs := fun hb => by
 obtain ⟨_, o, ho, _⟩ := I.ok.funs.mem hb
 exact absurd (Nat.lt_of_lt_of_le (Heap.lt_size ho) (Nat.le_trans I.sz h)) (Nat.lt_irrefl _)
theorem Inv.cne (I : Inv X pins σ H s) : ∀ x c, X.env.cells.lookup x = some c → c ≠ X.env.locals := fun x c e z => by
 obtain ⟨v, o, ho, hd⟩ := I.cell x c e
 obtain ⟨m, ⟨o', es, ep, ho', hd', _⟩, _⟩ := I.loc
 rw [z, ho'] at ho; cases ho; rw [hd'] at hd; cases hd
theorem Inv.funs (I : Inv X pins σ H s) : s.heap.FunFrames X.base X.outer := by
 have all : ∀ (l : List Env), (∀ b ∈ frs l, b ∈ X.fs) → X.s₀.heap.FunFrames X.base l → s.heap.FunFrames X.base l := by
  intro l
  induction l with
  | nil => intro _ _; trivial
  | cons env r ih =>
   intro hs hl
   obtain ⟨hk, ⟨L, o, hf, hn, ho, hd⟩, hr⟩ := hl
   have hL : L ∈ X.fs := hs L (by unfold frs; rw [List.filterMap_cons, hf]; exact List.mem_cons_self)
   obtain ⟨sl, e⟩ := I.base.slot L o ho (I.ok.frf L hL) hL fun z => I.ok.exfs L z hL
   exact ⟨hk, ⟨L, _, hf, hn, e, hd⟩, ih (fun b hb => hs b (by unfold frs; rw [List.filterMap_cons, hf]; exact List.mem_cons_of_mem _ hb)) hr⟩
 exact all X.outer (fun _ hb => hb) I.ok.funs
theorem Inv.stack (I : Inv X pins σ H s) : s.heap.FunFrames X.base X.stack := by
 rcases I.ok.stk with e | ⟨e, hf⟩
 ·rw [e]; exact I.funs
 ·rw [e]
  obtain ⟨m, hn, _⟩ := I.loc
  refine .cons (by rw [I.ok.kind]; decide) hf hn ?_ I.funs
  exact Heap.get?_none_of_le (Nat.le_trans I.ok.bsz I.ok.above)
theorem Inv.stkSub (I : Inv X pins σ H s) : ∀ b ∈ frs X.stack, b ∈ X.env.locals :: X.fs := fun b hb => by
 rcases I.ok.stk with e | ⟨e, hf⟩
 ·rw [e] at hb; exact List.mem_cons_of_mem _ hb
 ·rw [e] at hb
  unfold frs at hb
  rw [List.filterMap_cons, hf] at hb
  exact hb
theorem Inv.stkFree (I : Inv X pins σ H s) : ∀ b ∈ frs X.stack, H b = none := fun b hb => by
 rcases List.mem_cons.mp (I.stkSub b hb) with e | hb
 ·rw [e]; exact I.free
 ·obtain ⟨_, o, ho, _⟩ := I.ok.funs.mem hb
  exact I.base.free b o ho (I.ok.frf b hb) fun z => I.ok.exfs b z hb
theorem Inv.step {g' : Array GenState} {t' : Nat} {d' : Drawn} {ch : List Addr} (I : Inv X pins σ H s)
  (hch : ∀ b ∈ ch, (b ∈ X.ex ∨ X.s₀.heap.objs.size ≤ b) ∧ b ≠ X.env.locals ∧ (∀ x c, X.env.cells.lookup x = some c → c ≠ b) ∧ ∀ p ∈ X.pn ++ pins, p.1 ≠ b)
  (keep : ∀ b o, b ≠ X.env.locals → b ∉ X.fs → b ∉ ch → s.heap.get? b = some o → H b = none → h'.get? b = some o)
  (slot : ∀ b o, b ≠ X.env.locals → b ∈ X.fs → b ∉ ch → s.heap.get? b = some o → H b = none → ∃ sl, h'.get? b = some { o with slots := sl }) (free : ∀ b o, b ∉ ch → s.heap.get? b = some o → H b = none → H' b = none)
  (there : ∀ b o, b ∉ ch → s.heap.get? b = some o → ∃ o', h'.get? b = some o')
  (tups : ∀ b xs, H b = some (.tup xs) → H' b = some (.tup xs)) (frzs : ∀ b o u, H b = some (.frz o u) → H' b = some (.frz o u)) (tbls : ∀ b ps, H b = some (.tbl ps) → ∃ more, H' b = some (.tbl (ps ++ more)))
  (ns : ∀ m, s.heap.Ns X.env.locals m → h'.Ns X.env.locals m) (hok : HOk X.prog X.w H' h') (hg : AllBare g') :
  Inv X pins σ H' { s with heap := h', gens := g', drawn := d', toks := t' } := by
 have neL : ∀ b o, X.s₀.heap.get? b = some o → b ≠ X.env.locals := fun b o e => Nat.ne_of_lt (Nat.lt_of_lt_of_le (Heap.lt_size e) I.ok.above)
 have neC : ∀ b o, X.s₀.heap.get? b = some o → b ∉ X.ex → b ∉ ch := fun b o e hx hb => by
  rcases (hch b hb).1 with z | z
  ·exact hx z
  ·exact absurd (Nat.lt_of_lt_of_le (Heap.lt_size e) z) (Nat.lt_irrefl _)
 have cellK : ∀ x c, X.env.cells.lookup x = some c → ∀ v, s.heap.IsCell c v → h'.IsCell c v := fun x c e v ⟨o, ho, hd⟩ => by
  have nch : c ∉ ch := fun z => (hch c z).2.2.1 x c e rfl
  by_cases hc : c ∈ X.fs
  ·obtain ⟨sl, q⟩ := slot c o (I.cne x c e) hc nch ho (I.freeC x c e)
   exact ⟨_, q, hd⟩
  ·exact ⟨o, keep c o (I.cne x c e) hc nch ho (I.freeC x c e), hd⟩
 refine ⟨I.ok, I.os, hg, ⟨fun b o e n hb hx => ?_, fun b o e n hb hx => ?_, fun b o e n hx => ?_, fun b o e hx => ?_, fun b xs e => tups b xs (I.base.tups b xs e), fun b o xs e => frzs b o xs (I.base.frzs b o xs e), fun b ps e => ?_⟩, ?_, fun x c e => ?_, ?_, fun x c e => ?_, fun p hp => ?_, hok, I.len⟩
 ·exact keep b o (neL b o e) hb (neC b o e hx) (I.base.keep b o e n hb hx) (I.base.free b o e n hx)
 ·obtain ⟨sl, e1⟩ := I.base.slot b o e n hb hx
  obtain ⟨sl', e2⟩ := slot b _ (neL b o e) hb (neC b o e hx) e1 (I.base.free b o e n hx)
  exact ⟨sl', e2⟩
 ·obtain ⟨o', e1⟩ := I.base.there b o e hx
  exact free b o' (neC b o e hx) e1 (I.base.free b o e n hx)
 ·obtain ⟨o', e1⟩ := I.base.there b o e hx
  exact there b o' (neC b o e hx) e1
 ·obtain ⟨m1, e1⟩ := I.base.tbls b ps e
  obtain ⟨m2, e2⟩ := tbls b _ e1
  exact ⟨m1 ++ m2, by rw [e2, Array.append_assoc]⟩
 ·obtain ⟨m, hn, hl⟩ := I.loc
  refine ⟨m, ns m hn, fun i x v e1 e2 e3 => ?_⟩
  obtain ⟨u, r, l⟩ := hl i x v e1 e2 e3
  refine ⟨u, r, ?_⟩
  rcases l with l | ⟨k, c, e, z⟩
  ·exact .inl l
  ·exact .inr ⟨k, c, e, cellK x c e _ z⟩
 ·obtain ⟨v, z⟩ := I.cell x c e
  exact ⟨v, cellK x c e v z⟩
 ·obtain ⟨m, ⟨o, _, _, ho, _⟩, _⟩ := I.loc
  exact free _ o (fun z => (hch _ z).2.1 rfl) ho I.free
 ·obtain ⟨v, o, ho, hd⟩ := I.cell x c e
  exact free c o (fun z => (hch c z).2.2.1 x c e rfl) ho (I.freeC x c e)
 ·obtain ⟨e, n, ne, nf, d⟩ := I.pin p hp
  have nch : p.1 ∉ ch := fun z => (hch p.1 z).2.2.2 p hp rfl
  exact ⟨keep p.1 p.2 ne nf nch e n, free p.1 p.2 nch e n, ne, nf, d⟩
theorem Inv.un {t' : Nat} (I : Inv X pins σ H s) (u : Un X.fs [] H H' s.heap h') (hok : HOk X.prog X.w H' h') : Inv X pins σ H' { s with heap := h', toks := t' } := by
 obtain ⟨m, ⟨o, es, ep, ho, r⟩, _⟩ := id I.loc
 obtain ⟨sl, hL⟩ := u.any ho I.free (by simp)
 exact I.step (g' := s.gens) (d' := s.drawn) (ch := []) (fun _ z => nomatch z) (fun b o _ hb _ e n => u.keep b o e n hb (by simp)) (fun b o _ hb _ e n => u.slot b o e n hb (by simp)) (fun b o _ e n => u.free b o e n (by simp)) (fun b o _ e => u.there b o e (by simp)) u.tups u.frzs u.tbls (fun m' hm => by
  obtain ⟨o', es', ep', ho', r'⟩ := hm
  rw [ho] at ho'; cases ho'
  exact ⟨_, es', ep', hL, r'⟩) hok I.bare
theorem Inv.call {g' : Array GenState} {t' : Nat} {d' : Drawn} {ch : List Addr} (I : Inv X pins σ H s) (u : Un (frs X.stack) ch H H' s.heap h') (hok : HOk X.prog X.w H' h') (hg : AllBare g')
  (hch : ∀ b ∈ ch, (b ∈ X.ex ∨ X.s₀.heap.objs.size ≤ b) ∧ b ≠ X.env.locals ∧ (∀ x c, X.env.cells.lookup x = some c → c ≠ b) ∧ ∀ p ∈ X.pn ++ pins, p.1 ≠ b) :
  Inv X pins σ H' { s with heap := h', gens := g', drawn := d', toks := t' } := by
 obtain ⟨m, ⟨o, es, ep, ho, r⟩, _⟩ := id I.loc
 obtain ⟨sl, hL⟩ := u.any ho I.free fun z => (hch _ z).2.1 rfl
 exact I.step (ch := ch) hch (fun b o hL hb hc e n => u.keep b o e n (fun z => (List.mem_cons.mp (I.stkSub b z)).elim hL hb) hc) (fun b o _ _ hc e n => u.any e n hc) (fun b o hc e n => u.free b o e n hc) (fun b o hc e => u.there b o e hc) u.tups u.frzs u.tbls (fun m' hm => by
  obtain ⟨o', es', ep', ho', r'⟩ := hm
  rw [ho] at ho'; cases ho'
  exact ⟨_, es', ep', hL, r'⟩) hok hg
theorem Inv.turned {t' : Nat} {it : Addr} (I : Inv X pins σ H s) (k : ∀ b o, b ≠ it → s.heap.get? b = some o → h'.get? b = some o) (hn : H it = none) (hL : it ≠ X.env.locals)
  (h1 : it ∈ X.ex ∨ X.s₀.heap.objs.size ≤ it) (h2 : ∀ x c, X.env.cells.lookup x = some c → c ≠ it) (h3 : ∀ p ∈ X.pn ++ pins, p.1 ≠ it) : Inv X pins σ H { s with heap := h', toks := t' } := by
 have nit : ∀ b u, H b = some u → b ≠ it := fun b u e z => by rw [z, hn] at e; cases e
 refine I.step (g' := s.gens) (d' := s.drawn) (ch := [it]) (fun b hb => ?_) (fun b o _ _ hc e _ => k b o (fun z => hc (by simp [z])) e) (fun b o _ _ hc e _ => ⟨o.slots, k b o (fun z => hc (by simp [z])) e⟩) (fun _ _ _ _ n => n)
  (fun b o hc e => ⟨o, k b o (fun z => hc (by simp [z])) e⟩) (fun _ _ e => e) (fun _ _ _ e => e) (fun b ps e => ⟨#[], by rw [e]; simp⟩) (fun m hm => ?_) (fun b u e => ?_) I.bare
 ·have e : b = it := by simpa using hb
  subst e
  exact ⟨h1, hL, h2, h3⟩
 ·obtain ⟨o, es, ep, ho, r⟩ := hm
  exact ⟨o, es, ep, k _ o (Ne.symm hL) ho, r⟩
 ·refine (I.hok b u e).stay (fun c v hc q => k c v ?_ q) (fun _ q => q) fun _ _ q => q
  rcases hc with z | z
  ·rw [z]; exact nit b u e
  ·exact nit c _ z
theorem Inv.tok (I : Inv X pins σ H s) (t : Nat) : Inv X pins σ H { s with toks := t } := I.un (h' := s.heap) (t' := t) Un.refl I.hok
theorem Inv.kept {t' : Nat} (I : Inv X pins σ H s) (k : ∀ b u, s.heap.get? b = some u → h'.get? b = some u) : Inv X pins σ H { s with heap := h', toks := t' } := I.un (Un.kept k) (I.hok.kept k)
theorem Inv.laid {a : Addr} {o : HO} {t' : Nat} (I : Inv X pins σ H s) (k : ∀ b u, s.heap.get? b = some u → h'.get? b = some u) (hp : s.heap.objs.size ≤ a) (new : ObjOk X.prog X.w (upd H a o) h' a o) :
  Inv X pins σ (upd H a o) { s with heap := h', toks := t' } := I.un (Un.laid k hp (I.hok.fresh hp)) (I.hok.laid k hp new)
theorem Inv.write {x e : Addr} {o : HO} {t' : Nat} (I : Inv X pins σ H s) (mu : Mut (H x)) (he : e = x ∨ H e = some (.own x)) (k : ∀ b u, b ≠ e → s.heap.get? b = some u → h'.get? b = some u) (heo : ∃ u, h'.get? e = some u)
  (new : ObjOk X.prog X.w (upd H x o) h' x o) : Inv X pins σ (upd H x o) { s with heap := h', toks := t' } := I.un (Un.write mu he k heo) (I.hok.write mu he k heo new)
theorem Inv.weak {σ' : List (Option V)} (I : Inv X pins σ H s) (hl : σ'.length = σ.length) (w : ∀ (i : Nat) v, σ'[i]? = some (some v) → σ[i]? = some (some v)) : Inv X pins σ' H s :=
 ⟨I.ok, I.os, I.bare, I.base, let ⟨m, hn, hl'⟩ := I.loc; ⟨m, hn, fun i x v e1 e2 e3 => hl' i x v e1 (w i v e2) e3⟩, I.cell, I.free, I.freeC, I.pin, I.hok, hl.trans I.len⟩
theorem Inv.pins_of {pins' : List (Addr × Obj)} (I : Inv X pins σ H s) (h : ∀ p ∈ pins', s.heap.get? p.1 = some p.2 ∧ H p.1 = none ∧ p.1 ≠ X.env.locals ∧ p.1 ∉ X.fs ∧ ∀ v, p.2.data ≠ .cell v) : Inv X pins' σ H s :=
 ⟨I.ok, I.os, I.bare, I.base, I.loc, I.cell, I.free, I.freeC, fun p hp => (List.mem_append.mp hp).elim (fun z => I.pin p (List.mem_append_left _ z)) (h p), I.hok, I.len⟩
theorem nodup_ix {N : List Str} (hN : N.Nodup) {i j : Nat} {x : Str} (a : N[i]? = some x) (b : N[j]? = some x) : i = j := by
 obtain ⟨h1, e1⟩ := List.getElem?_eq_some_iff.mp a
 obtain ⟨h2, e2⟩ := List.getElem?_eq_some_iff.mp b
 exact (List.getElem_inj hN).mp (e1.trans e2.symm)
theorem store_ok2 {M : Model} {A : Around} {E : Value → Shared → Prop} {i : Nat} {x : Str} {v : V} {u : Value} {Q : Unit → Shared → Prop} (I : Inv X pins σ H s) (hN : X.N.Nodup) (hi : X.N[i]? = some x) (hx : Loc X.env.scope x) (r : RelV v u)
  (h : ∀ s', Inv X pins (σ.set i (some v)) H s' → (∃ a, Heap.SameBut a s.heap s'.heap ∧ (a = X.env.locals ∨ X.env.cells.lookup x = some a)) → Q () s') (hf : X.fn x = true ∨ X.env.scope.names.lookup x = some .local := by first | exact .inl rfl | exact .inr rfl | assumption) : wpAny M A (storeName X.env x u) Q E s := by
 obtain ⟨m, hn, hl⟩ := id I.loc
 have hcls : (X.env.scope.kind == .class || (X.env.scope.kind == .module && X.env.locals != X.env.globals)) = false := by rw [I.ok.kind]; rfl
 have hiσ : i < σ.length := by rw [I.len]; exact (List.getElem?_eq_some_iff.mp hi).1
 have cne := I.cne
 have tracked : ∀ {a : Addr} {h' : Heap}, (∃ o, s.heap.get? a = some o ∧ H a = none) → Heap.SameBut a s.heap h' → HOk X.prog X.w H h' := fun {a h'} ha hs b ob e => by
  obtain ⟨_, _, hfree⟩ := ha
  refine (I.hok b ob e).stay (fun c w' hc q => (hs.2 c ?_).trans q) (fun _ q => q) fun _ _ q => q
  rintro rfl
  rcases hc with rfl | hc
  ·rw [hfree] at e; cases e
  ·rw [hfree] at hc; cases hc
 rcases hx with hk | hk
 ·refine wpAny_storeName_local hk hn (fun h' hn' hs => ?_) hcls
  obtain ⟨oL, _, _, hoL, _⟩ := id hn
  refine h _ ⟨I.ok, I.os, I.bare, ⟨fun b o e n hb hx => ?_, fun b o e n hb hx => ?_, I.base.free, fun b o e hx => ?_, I.base.tups, I.base.frzs, I.base.tbls⟩, ⟨_, hn', fun j y v' e1 e2 e3 => ?_⟩, fun y c e => ?_, I.free, I.freeC, fun p hp => ?_, tracked ⟨oL, hoL, I.free⟩ hs, by simpa using I.len⟩ ⟨_, hs, .inl rfl⟩
  ·exact (hs.2 b (Nat.ne_of_lt (Nat.lt_of_lt_of_le (Heap.lt_size e) I.ok.above))).trans (I.base.keep b o e n hb hx)
  ·obtain ⟨sl, e1⟩ := I.base.slot b o e n hb hx
   exact ⟨sl, (hs.2 b (Nat.ne_of_lt (Nat.lt_of_lt_of_le (Heap.lt_size e) I.ok.above))).trans e1⟩
  ·obtain ⟨o', e1⟩ := I.base.there b o e hx
   exact ⟨o', (hs.2 b (Nat.ne_of_lt (Nat.lt_of_lt_of_le (Heap.lt_size e) I.ok.above))).trans e1⟩
  ·by_cases hj : j = i
   ·subst hj
    rw [hi] at e1; cases e1
    rw [List.getElem?_set_self hiσ] at e2
    cases e2
    exact ⟨u, r, .inl ⟨hk, by simp⟩⟩
   ·rw [List.getElem?_set_ne (Ne.symm hj)] at e2
    obtain ⟨u', r', q⟩ := hl j y v' e1 e2 e3
    refine ⟨u', r', ?_⟩
    rcases q with ⟨k, e⟩ | ⟨k, c, e, z⟩
    ·refine .inl ⟨k, ?_⟩
     have : y ≠ x := fun e => hj (nodup_ix hN e1 (e ▸ hi))
     simp [this, e]
    ·exact .inr ⟨k, c, e, z.sameBut hs (cne y c e)⟩
  ·obtain ⟨w', z⟩ := I.cell y c e
   exact ⟨w', z.sameBut hs (cne y c e)⟩
  ·obtain ⟨e, n, ne, nf, d⟩ := I.pin p hp
   exact ⟨(hs.2 p.1 ne).trans e, n, ne, nf, d⟩
 ·have hfn : X.fn x = true := by
   rcases hf with z | z
   ·exact z
   ·rw [z] at hk; cases hk
  obtain ⟨c, hc⟩ := I.ok.has x (.inl hk)
  obtain ⟨w', z⟩ := I.cell x c hc
  refine wpAny_storeName_cell I.ok.kind hk hc z (fun h' hc' hs => ?_)
  obtain ⟨oc, hoc, hocd⟩ := id z
  refine h { s with heap := h' } ⟨I.ok, I.os, I.bare, ⟨fun b o e n hb hx => ?_, fun b o e n hb hx => ?_, I.base.free, fun b o e hx => ?_, I.base.tups, I.base.frzs, I.base.tbls⟩, ⟨m, hn.sameBut hs (Ne.symm (cne x c hc)), fun j y v' e1 e2 e3 => ?_⟩, fun y c' e => ?_, I.free, I.freeC, fun p hp => ?_, tracked ⟨oc, hoc, I.freeC x c hc⟩ hs, by simpa using I.len⟩ ⟨c, hs, .inr hc⟩
  ·exact (hs.2 b (Nat.ne_of_lt (Nat.lt_of_lt_of_le (Heap.lt_size e) (I.ok.cab x c hfn hc)))).trans (I.base.keep b o e n hb hx)
  ·obtain ⟨sl, e1⟩ := I.base.slot b o e n hb hx
   exact ⟨sl, (hs.2 b (Nat.ne_of_lt (Nat.lt_of_lt_of_le (Heap.lt_size e) (I.ok.cab x c hfn hc)))).trans e1⟩
  ·obtain ⟨o', e1⟩ := I.base.there b o e hx
   exact ⟨o', (hs.2 b (Nat.ne_of_lt (Nat.lt_of_lt_of_le (Heap.lt_size e) (I.ok.cab x c hfn hc)))).trans e1⟩
  ·by_cases hj : j = i
   ·subst hj
    rw [hi] at e1; cases e1
    rw [List.getElem?_set_self hiσ] at e2
    cases e2
    exact ⟨u, r, .inr ⟨.inl hk, c, hc, hc'⟩⟩
   ·rw [List.getElem?_set_ne (Ne.symm hj)] at e2
    obtain ⟨u', r', q⟩ := hl j y v' e1 e2 e3
    refine ⟨u', r', ?_⟩
    rcases q with q | ⟨k, c', e, z'⟩
    ·exact .inl q
    ·refine .inr ⟨k, c', e, z'.sameBut hs ?_⟩
     rintro rfl
     exact hj (nodup_ix hN e1 (I.ok.inj _ _ _ e hc ▸ hi))
  ·by_cases hcc : c' = c
   ·subst hcc; exact ⟨_, hc'⟩
   ·obtain ⟨w2, z2⟩ := I.cell y c' e
    exact ⟨w2, z2.sameBut hs hcc⟩
  ·obtain ⟨e, n, ne, nf, d⟩ := I.pin p hp
   refine ⟨(hs.2 p.1 ?_).trans e, n, ne, nf, d⟩
   intro q
   rw [q, hoc] at e
   have q' : oc = p.2 := Option.some.inj e
   exact d w' (by rw [← q']; exact hocd)
theorem store_ok {M : Model} {A : Around} {E : Value → Shared → Prop} {i : Nat} {x : Str} {v : V} {u : Value} {Q : Unit → Shared → Prop} (I : Inv X pins σ H s) (hN : X.N.Nodup) (hi : X.N[i]? = some x) (hx : Loc X.env.scope x) (r : RelV v u)
  (h : ∀ s', Inv X pins (σ.set i (some v)) H s' → Q () s') (hf : X.fn x = true ∨ X.env.scope.names.lookup x = some .local := by first | exact .inl rfl | exact .inr rfl | assumption) : wpAny M A (storeName X.env x u) Q E s :=
 store_ok2 I hN hi hx r (fun s' I' _ => h s' I') hf
theorem Inv.call' {s' : Shared} {ch : List Addr} (I : Inv X pins σ H s) (ho : s'.os = s.os) (u : Un (frs X.stack) ch H H' s.heap s'.heap) (hok : HOk X.prog X.w H' s'.heap) (hg : AllBare s'.gens)
  (hch : ∀ b ∈ ch, (b ∈ X.ex ∨ X.s₀.heap.objs.size ≤ b) ∧ b ≠ X.env.locals ∧ (∀ x c, X.env.cells.lookup x = some c → c ≠ b) ∧ ∀ p ∈ X.pn ++ pins, p.1 ≠ b) : Inv X pins σ H' s' := by
 obtain ⟨h', g', d', t', o'⟩ := s'
 have e : o' = s.os := ho
 subst e
 exact I.call (g' := g') (t' := t') (d' := d') u hok hg hch
end
abbrev XK := Value → Option Addr → Hp → Prop
abbrev St := List (Option V)
abbrev VK := V → Hp → Prop
abbrev TE := St → Hp → VK → Prop
abbrev TT := St → Hp → (Bool → Hp → Prop) → Prop
abbrev TA := St → Hp → (List V → Hp → Prop) → Prop
set_option genInjectivity false in
set_option genSizeOf false in
structure Ends where
 nx : St → Hp → Prop
 rt : VK
 bk : St → Hp → Prop := fun _ _ => False
 ct : St → Hp → Prop := fun _ _ => False
abbrev TS := Ends → St → Hp → Prop
def EP (X : Cx) (pins : List (Addr × Obj)) (σ : St) (Q : VK) (u : Value) (s' : Shared) : Prop := ∃ v H', Inv X pins σ H' s' ∧ RelV v u ∧ Q v H'
def TP (X : Cx) (pins : List (Addr × Obj)) (σ : St) (Q : Bool → Hp → Prop) (b : Bool) (s' : Shared) : Prop := ∃ H', Inv X pins σ H' s' ∧ Q b H'
def AP (X : Cx) (pins : List (Addr × Obj)) (σ : St) (Q : List V → Hp → Prop) (us : List Value) (s' : Shared) : Prop := ∃ vs H', Inv X pins σ H' s' ∧ Vals vs us ∧ Q vs H'
def SP (X : Cx) (pins : List (Addr × Obj)) (D : Ends) (f : Flow) (s' : Shared) : Prop :=
 match f with
 | .next => ∃ σ' H', Inv X pins σ' H' s' ∧ D.nx σ' H'
 | .brk => ∃ σ' H', Inv X pins σ' H' s' ∧ D.bk σ' H'
 | .cont => ∃ σ' H', Inv X pins σ' H' s' ∧ D.ct σ' H'
 | .ret u => ∃ v σ' H', Inv X pins σ' H' s' ∧ RelV v u ∧ D.rt v H'
def PE (X : Cx) (e : Expr) (t : TE) : Prop :=
 ∀ (pins : List (Addr × Obj)) (s : Shared) (σ : St) (H : Hp) (Q : VK), Inv X pins σ H s → t σ H Q → wpAny (model X.prog X.w) X.A (eval e X.env) (EP X pins σ Q) X.xe s
def PT (X : Cx) (e : Expr) (t : TT) : Prop :=
 ∀ (pins : List (Addr × Obj)) (s : Shared) (σ : St) (H : Hp) (Q : Bool → Hp → Prop), Inv X pins σ H s → t σ H Q → wpAny (model X.prog X.w) X.A (isTrue e X.env (eval e X.env)) (TP X pins σ Q) X.xe s
def PW (X : Cx) (e : Expr) (t : TT) : Prop :=
 ∀ (whole : Sem Value) (pins : List (Addr × Obj)) (s : Shared) (σ : St) (H : Hp) (Q : Bool → Hp → Prop), Inv X pins σ H s → t σ H Q → wpAny (model X.prog X.w) X.A (isTrue e X.env whole) (TP X pins σ Q) X.xe s
theorem PW.pt {X : Cx} {e : Expr} {t : TT} (h : PW X e t) : PT X e t := h _
def PA (X : Cx) (es : List Expr) (t : TA) : Prop :=
 ∀ (pos : Pos) (pins : List (Addr × Obj)) (s : Shared) (σ : St) (H : Hp) (Q : List V → Hp → Prop), Inv X pins σ H s → t σ H Q → wpAny (model X.prog X.w) X.A (spliced (backTo pos (starEach es X.env))) (AP X pins σ Q) X.xe s
def PS (X : Cx) (st : Stmt) (t : TS) : Prop :=
 ∀ (pins : List (Addr × Obj)) (s : Shared) (σ : St) (H : Hp) (D : Ends), Inv X pins σ H s → t D σ H → wpAny (model X.prog X.w) X.A (exec st X.env) (SP X pins D) X.xe s
def PSs (X : Cx) (st : List Stmt) (t : TS) : Prop :=
 ∀ (pins : List (Addr × Obj)) (s : Shared) (σ : St) (H : Hp) (D : Ends), Inv X pins σ H s → t D σ H → wpAny (model X.prog X.w) X.A (execs st X.env) (SP X pins D) X.xe s
theorem thn {α : Type} {t : Sem α} {Q Q' : α → Shared → Prop} {M : Model} {A : Around} {E : Value → Shared → Prop} {s : Shared} (h : wpAny M A t Q E s) (hQ : ∀ a s, Q a s → Q' a s) : wpAny M A t Q' E s := wpAny_mono h hQ fun _ _ x => x
end L2
namespace L2
open PySem PySem.Spec PyProof.Rows
section
variable {X : Cx}
def tVar (i : Nat) : TE := fun σ H Q => ∃ v, σ[i]? = some (some v) ∧ Q v H
def tC (v : V) : TE := fun _ H Q => Q v H
theorem pe_var {i : Nat} {x : Str} {pos : Pos} (hN : X.N[i]? = some x) (hv : Vis X.env.scope x) (hd : (x == ("__debug__" : Str)) = false := by decide) (hcd : (x == ("__classdict__" : Str)) = false := by decide) : PE X (.Name x pos) (tVar i) := by
 intro pins s σ H Q I h
 obtain ⟨v, e, h⟩ := h
 obtain ⟨m, hn, hl⟩ := I.loc
 obtain ⟨u, r, l⟩ := hl i x v hN e hv
 have fin : EP X pins σ Q u s := ⟨v, H, I, r, h⟩
 rcases l with ⟨hk, hm⟩ | ⟨hk, c, hc, hcell⟩
 ·exact wpAny_Name (wpAny_loadName_local I.ok.kind hk hn hm fin) hd
 ·rcases hk with hk | hk
  ·exact wpAny_Name (wpAny_loadName_cell I.ok.kind hk hc hcell fin) hd
  ·exact wpAny_Name (wpAny_loadName_free I.ok.kind hk hc hcell fin hcd) hd
theorem pe_int {i j pos} : PE X (.Constant (.int i) j pos) (tC (.int i)) := fun _ _ _ H _ I h => wpAny_Constant_int ⟨.int i, H, I.tok _, ⟨_, rfl⟩, h⟩
theorem pe_bl {b j pos} : PE X (.Constant (.bool b) j pos) (tC (.bl b)) := fun _ _ _ H _ I h => Constant_bool ⟨.bl b, H, I, rfl, h⟩
theorem pe_non {j pos} : PE X (.Constant .none j pos) (tC .non) := fun _ _ _ H _ I h => Constant_none ⟨.non, H, I, rfl, h⟩
theorem pe_str {x j pos} : PE X (.Constant (.str x) j pos) (tC (.str x)) := fun _ _ _ H _ I h => Calls.Constant_str ⟨.str x, H, I.tok _, ⟨_, rfl⟩, h⟩
def Gl (X : Cx) (x : Str) : Prop := X.env.kindOf x = some .globalImplicit
theorem ld_glob {E : Value → Shared → Prop} {pins : List (Addr × Obj)} {s : Shared} {σ : St} {H : Hp} {x : Str} {u : Value} {pos : Pos} {Q : Value → Shared → Prop} (I : Inv X pins σ H s) (hg : Gl X x) (hm : X.mg x = some u) (h : Q u s)
  (hd : (x == ("__debug__" : Str)) = false := by decide) : wpAny (model X.prog X.w) X.A (eval (.Name x pos) X.env) Q E s :=
 Calls.Name_function_global I.ok.kind hg (Calls.loadGlobal_global (by rw [I.ok.glob]; exact I.mod.glob.keeps I.bk) hm h) hd
theorem ld_blt {E : Value → Shared → Prop} {pins : List (Addr × Obj)} {s : Shared} {σ : St} {H : Hp} {x : Str} {u : Value} {pos : Pos} {Q : Value → Shared → Prop} (I : Inv X pins σ H s) (hg : Gl X x) (hm : X.mg x = none) (hv : bootBuiltins x = some u) (h : Q u s)
  (hn : x ≠ "__name__" := by decide) (hd : (x == ("__debug__" : Str)) = false := by decide) : wpAny (model X.prog X.w) X.A (eval (.Name x pos) X.env) Q E s := by
 obtain ⟨mb, h1, h2⟩ := I.mod.blt
 exact Calls.Name_function_global I.ok.kind hg (Calls.loadGlobal_builtin (by rw [I.ok.glob]; exact I.mod.glob.keeps I.bk) hm (by rw [I.ok.blt]; exact h1.keeps I.bk) ((h2 x hn).trans hv) h) hd
theorem pe_glob {x : Str} {v : V} {u : Value} {pos : Pos} (hg : Gl X x) (hm : X.mg x = some u) (r : RelV v u) (hd : (x == ("__debug__" : Str)) = false := by decide) : PE X (.Name x pos) (tC v) :=
 fun _ _ _ H _ I h => ld_glob I hg hm ⟨v, H, I, r, h⟩ hd
theorem pe_bltn {x : Str} {v : V} {u : Value} {pos : Pos} (hg : Gl X x) (hm : X.mg x = none) (hv : bootBuiltins x = some u) (r : RelV v u) (hn : x ≠ "__name__" := by decide) (hd : (x == ("__debug__" : Str)) = false := by decide) : PE X (.Name x pos) (tC v) :=
 fun _ _ _ H _ I h => ld_blt I hg hm hv ⟨v, H, I, r, h⟩ hn hd
variable {a b : Expr} {ta tb : TE} {pos : Pos}
def tB (t : TE) : TT := fun σ H Q => t σ H fun x H1 => ∃ c, x = .bl c ∧ Q c H1
theorem pt_val {e : Expr} {t : TE} (h : PE X e t) (he : ∀ whole, isTrue e X.env whole = (do let v ← whole; standAt e.pos; holding [v] (truthy v)) := by intro _; rfl) : PT X e (tB t) := by
 intro pins s σ H Q I hw
 refine isTrue_plain (thn (h pins s σ H _ I hw) fun v s1 ⟨x, H1, I1, r1, q1⟩ => ?_) (he _)
 obtain ⟨d, rfl, q⟩ := q1
 cases r1
 exact wpAny_truthy_bool ⟨H1, I1, q⟩
variable {tA tB' : TT} {rest : List Expr}
def tAnd (t u : TT) : TT := fun σ H Q => t σ H fun c H1 => if c = true then u σ H1 Q else Q false H1
def tOr (t u : TT) : TT := fun σ H Q => t σ H fun c H1 => if c = true then Q true H1 else u σ H1 Q
def tNot (t : TT) : TT := fun σ H Q => t σ H fun c H1 => Q (!c) H1
theorem pw_and1 (ha : PT X a tA) : PW X (.BoolOp .And [a] pos) tA := by
 intro wh pins s σ H Q I h
 refine isTrue_and (thn (ha pins s σ H Q I h) fun c s1 e => ?_)
 cases c with
 | true => exact isTrue_and_nil e
 | false => exact e
theorem pw_or1 (ha : PT X a tA) : PW X (.BoolOp .Or [a] pos) tA := by
 intro wh pins s σ H Q I h
 refine isTrue_or (thn (ha pins s σ H Q I h) fun c s1 e => ?_)
 cases c with
 | false => exact isTrue_or_nil e
 | true => exact e
theorem pw_and (ha : PT X a tA) (hb : PW X (.BoolOp .And (b :: rest) pos) tB') : PW X (.BoolOp .And (a :: b :: rest) pos) (tAnd tA tB') := by
 intro wh pins s σ H Q I h
 refine isTrue_and (thn (ha pins s σ H _ I h) fun c s1 ⟨H1, I1, q1⟩ => ?_)
 cases c with
 | true => exact hb wh pins s1 σ H1 Q I1 q1
 | false => exact ⟨H1, I1, q1⟩
theorem pw_or (ha : PT X a tA) (hb : PW X (.BoolOp .Or (b :: rest) pos) tB') : PW X (.BoolOp .Or (a :: b :: rest) pos) (tOr tA tB') := by
 intro wh pins s σ H Q I h
 refine isTrue_or (thn (ha pins s σ H _ I h) fun c s1 ⟨H1, I1, q1⟩ => ?_)
 cases c with
 | true => exact ⟨H1, I1, q1⟩
 | false => exact hb wh pins s1 σ H1 Q I1 q1
theorem pt_not (ha : PT X a tA) : PT X (.UnaryOp .Not a pos) (tNot tA) := by
 intro pins s σ H Q I h
 exact isTrue_not (ha pins s σ H (fun c H1 => Q (!c) H1) I h)
def tAndV (ta tb : TE) : TE := fun σ H Q => ta σ H fun x H1 => ∃ c, x = .bl c ∧ if c = true then tb σ H1 Q else Q (.bl false) H1
def tOrV (ta tb : TE) : TE := fun σ H Q => ta σ H fun x H1 => ∃ c, x = .bl c ∧ if c = true then Q (.bl true) H1 else tb σ H1 Q
def tNotV (ta : TE) : TE := fun σ H Q => ta σ H fun x H1 => ∃ c, x = .bl c ∧ Q (.bl (!c)) H1
theorem pe_one {op} {t : TE} (h : PE X a t) : PE X (.BoolOp op [a] pos) t := fun pins s σ H Q I hw => BoolOp_one (h pins s σ H Q I hw)
theorem pe_and (ha : PE X a ta) (hb : PE X (.BoolOp .And (b :: rest) pos) tb) : PE X (.BoolOp .And (a :: b :: rest) pos) (tAndV ta tb) := by
 intro pins s σ H Q I h
 refine BoolOp_and (thn (ha pins s σ H _ I h) fun v s1 ⟨x, H1, I1, r1, q1⟩ => ?_)
 obtain ⟨c, rfl, q1⟩ := q1
 cases r1
 refine wpAny_truthy_bool ?_
 cases c with
 | true => exact hb pins s1 σ H1 Q I1 q1
 | false => exact ⟨.bl false, H1, I1, rfl, q1⟩
theorem pe_or (ha : PE X a ta) (hb : PE X (.BoolOp .Or (b :: rest) pos) tb) : PE X (.BoolOp .Or (a :: b :: rest) pos) (tOrV ta tb) := by
 intro pins s σ H Q I h
 refine BoolOp_or (thn (ha pins s σ H _ I h) fun v s1 ⟨x, H1, I1, r1, q1⟩ => ?_)
 obtain ⟨c, rfl, q1⟩ := q1
 cases r1
 refine wpAny_truthy_bool ?_
 cases c with
 | false => exact hb pins s1 σ H1 Q I1 q1
 | true => exact ⟨.bl true, H1, I1, rfl, q1⟩
theorem pe_not (ha : PE X a ta) : PE X (.UnaryOp .Not a pos) (tNotV ta) := by
 intro pins s σ H Q I h
 refine UnaryOp_ (thn (ha pins s σ H _ I h) fun v s1 ⟨x, H1, I1, r1, q1⟩ => ?_)
 obtain ⟨c, rfl, q1⟩ := q1
 cases r1
 exact not_of (wpAny_truthy_bool ⟨.bl (!c), H1, I1, rfl, q1⟩)
def tIf (t : TT) (ta tb : TE) : TE := fun σ H Q => t σ H fun c H1 => if c = true then ta σ H1 Q else tb σ H1 Q
theorem pe_ifExp {c : Expr} (hc : PT X c tA) (ha : PE X a ta) (hb : PE X b tb) : PE X (.IfExp c a b pos) (tIf tA ta tb) := by
 intro pins s σ H Q I h
 refine wpAny_IfExp (thn (hc pins s σ H _ I h) fun d s1 ⟨H1, I1, q1⟩ => ?_)
 cases d with
 | true => exact ha pins s1 σ H1 Q I1 q1
 | false => exact hb pins s1 σ H1 Q I1 q1
end
end L2
namespace L2
open PySem PySem.Spec PyProof.Rows
def SqL (K : PySem.W.Frag) (H : Hp) (a : Addr) (xs : List V) : Prop :=
 Rd H a (.lst xs) ∨
  ∃ (o : Obj) (its : Array Value) (n : Nat), K.lookup a = some o ∧ o.cls = .type "list" ∧ o.dict = none ∧ o.data = .seq its n ∧ its.size ≤ sizeLine ∧ Vals xs its.toList
def SqT (K : PySem.W.Frag) (H : Hp) (a : Addr) (xs : List V) : Prop :=
 Rd H a (.tup xs) ∨
  ∃ (o : Obj) (its : Array Value) (n : Nat), K.lookup a = some o ∧ o.cls = .type "tuple" ∧ o.data = .seq its n ∧ its.size ≤ sizeLine ∧ Vals xs its.toList
def absV : Value → Option V
 | .none => some .non
 | .bool b => some (.bl b)
 | .int i _ => some (.int i)
 | .str x _ => some (.str x)
 | .bytes b _ => some (.byt b)
 | .float b _ => some (.flt b)
 | .ref a => some (.ref a)
 | .type n => some (.ty n)
 | _ => none
theorem RelV.abs {x : V} {u : Value} (r : RelV x u) : absV u = some x := by
 cases x with
 | non => cases r; rfl
 | bl _ => cases r; rfl
 | int _ => obtain ⟨t, rfl⟩ := r; rfl
 | str _ => obtain ⟨t, rfl⟩ := r; rfl
 | byt _ => obtain ⟨t, rfl⟩ := r; rfl
 | flt _ => obtain ⟨t, rfl⟩ := r; rfl
 | ref _ => cases r; rfl
 | ty _ => cases r; rfl
theorem RelV.inj {x y : V} {u : Value} (r : RelV x u) (q : RelV y u) : x = y := Option.some.inj (r.abs.symm.trans q.abs)
theorem Vals.inj : ∀ {xs ys : List V} {us : List Value}, Vals xs us → Vals ys us → xs = ys
 | _, _, _, .nil, .nil => rfl
 | _, _, _, .cons r t, .cons r' t' => by rw [r.inj r', Vals.inj t t']
section
variable {X : Cx} {pins : List (Addr × Obj)} {σ : St} {H : Hp} {s : Shared} {a : Addr} {xs ys : List V}
theorem SqL.of {K : PySem.W.Frag} (h : H a = some (.lst xs)) : SqL K H a xs := .inl (.inl h)
theorem SqT.of {K : PySem.W.Frag} (h : H a = some (.tup xs)) : SqT K H a xs := .inl (.inl h)
theorem Inv.list (I : Inv X pins σ H s) (h : SqL X.K H a xs) : ∃ its : List Value, Vals xs its ∧ PlainL s.heap a its.toArray ∧ xs.length ≤ sizeLine := by
 rcases h with h | ⟨o, its, n, hk, hc, hd, hs, hz, r⟩
 ·obtain ⟨z, its, n, r, e⟩ := h.ok I.hok
  exact ⟨its, r, ⟨_, n, e, rfl, rfl, rfl⟩, z⟩
 ·refine ⟨its.toList, r, ⟨o, n, I.kIn a o hk, hc, hd, by simpa using hs⟩, ?_⟩
  have e := r.length
  simp only [Array.length_toList] at e
  omega
theorem Inv.tuple (I : Inv X pins σ H s) (h : SqT X.K H a xs) : ∃ its : List Value, Vals xs its ∧ IsTup s.heap a its.toArray ∧ xs.length ≤ sizeLine := by
 rcases h with h | ⟨o, its, n, hk, hc, hs, hz, r⟩
 ·obtain ⟨z, its, r, p⟩ := h.ok I.hok
  exact ⟨its, r, p.tup, z⟩
 ·refine ⟨its.toList, r, ⟨o, I.kIn a o hk, hc, n, by simpa using hs⟩, ?_⟩
  have e := r.length
  simp only [Array.length_toList] at e
  omega
theorem Inv.list_inj (I : Inv X pins σ H s) (h : SqL X.K H a xs) (h' : SqL X.K H a ys) : xs = ys := by
 obtain ⟨its, r, ⟨o, n, e, _, _, d⟩, _⟩ := I.list h
 obtain ⟨its', r', ⟨o', n', e', _, _, d'⟩, _⟩ := I.list h'
 rw [e] at e'; cases e'
 rw [d] at d'
 injection d' with d1 _
 have : its = its' := by simpa using congrArg Array.toList d1
 subst this
 exact r.inj r'
theorem Inv.tuple_inj (I : Inv X pins σ H s) (h : SqT X.K H a xs) (h' : SqT X.K H a ys) : xs = ys := by
 obtain ⟨its, r, ⟨o, e, _, n, d⟩, _⟩ := I.tuple h
 obtain ⟨its', r', ⟨o', e', _, n', d'⟩, _⟩ := I.tuple h'
 rw [e] at e'; cases e'
 rw [d] at d'
 injection d' with d1 _
 have : its = its' := by simpa using congrArg Array.toList d1
 subst this
 exact r.inj r'
end
abbrev Cx.wish (X : Cx) (E : Value → Shared → Prop) : Cx := { X with xe := E }
abbrev Cx.nox (X : Cx) : Cx := X.wish fun _ _ => False
theorem Cx.Ok.wish {X : Cx} (ok : X.Ok) (E : Value → Shared → Prop) : (X.wish E).Ok :=
 ⟨ok.mod, ok.kind, ok.glob, ok.blt, ok.above, ok.inj, ok.has, ok.cab, ok.hd, ok.frames, ok.stk, ok.exf, ok.bs, ok.bsz, ok.noex, ok.exfs, ok.funs, ok.frf⟩
theorem Cx.Ok.unwish {X : Cx} {E : Value → Shared → Prop} (ok : (X.wish E).Ok) : X.Ok :=
 ⟨ok.mod, ok.kind, ok.glob, ok.blt, ok.above, ok.inj, ok.has, ok.cab, ok.hd, ok.frames, ok.stk, ok.exf, ok.bs, ok.bsz, ok.noex, ok.exfs, ok.funs, ok.frf⟩
section
variable {X : Cx} {pins : List (Addr × Obj)} {σ : St} {H : Hp} {s : Shared} {E : Value → Shared → Prop}
theorem Inv.wish (I : Inv X pins σ H s) (E : Value → Shared → Prop) : Inv (X.wish E) pins σ H s := ⟨I.ok.wish E, I.os, I.bare, I.base, I.loc, I.cell, I.free, I.freeC, I.pin, I.hok, I.len⟩
theorem Inv.unwish (I : Inv (X.wish E) pins σ H s) : Inv X pins σ H s := ⟨I.ok.unwish, I.os, I.bare, I.base, I.loc, I.cell, I.free, I.freeC, I.pin, I.hok, I.len⟩
theorem SP.unwish {D : Ends} {f : Flow} {s' : Shared} (h : SP (X.wish E) pins D f s') : SP X pins D f s' := by
 cases f with
 | next => obtain ⟨σ', H', I, q⟩ := h; exact ⟨σ', H', I.unwish, q⟩
 | brk => obtain ⟨σ', H', I, q⟩ := h; exact ⟨σ', H', I.unwish, q⟩
 | cont => obtain ⟨σ', H', I, q⟩ := h; exact ⟨σ', H', I.unwish, q⟩
 | ret u => obtain ⟨v, σ', H', I, r, q⟩ := h; exact ⟨v, σ', H', I.unwish, r, q⟩
theorem PSs.nox {st : List Stmt} {t : TS} (h : PSs X.nox st t) : PSs X st t := fun pins s σ H D I hw =>
 wpAny_mono (h pins s σ H D (I.wish _) hw) (fun _ _ q => q.unwish) fun _ _ z => False.elim z
end
section
variable {X : Cx} {st : Stmt} {rest : List Stmt} {t u : TS} {e : Expr} {te : TE} {pos : Pos}
def tNext : TS := fun D σ H => D.nx σ H
def tSeq (t u : TS) : TS := fun D σ H => t { D with nx := u D } σ H
theorem pss_nil : PSs X [] tNext := fun _ _ σ H _ I h => wpAny_execs_nil ⟨σ, H, I, h⟩
theorem pss_cons (h1 : PS X st t) (h2 : PSs X rest u) : PSs X (st :: rest) (tSeq t u) := by
 intro pins s σ H D I h
 refine wpAny_execs_cons (thn (h1 pins s σ H { D with nx := u D } I h) fun f s1 q => ?_)
 cases f with
 | next =>
  obtain ⟨σ', H', I', q⟩ := q
  exact h2 pins s1 σ' H' D I' q
 | ret v => exact q
 | brk => exact q
 | cont => exact q
theorem pss_one (h1 : PS X st t) : PSs X [st] t := by
 intro pins s σ H D I h
 refine wpAny_execs_cons (thn (h1 pins s σ H D I h) fun f s1 q => ?_)
 cases f with
 | next => exact wpAny_execs_nil q
 | ret v => exact q
 | brk => exact q
 | cont => exact q
def tCont : TS := fun D σ H => D.ct σ H
theorem ps_continue : PS X (.Continue pos) tCont := fun _ _ σ H _ I h => wpAny_Continue ⟨σ, H, I, h⟩
theorem Inv.quiet {pins : List (Addr × Obj)} {σ : St} {H : Hp} {s : Shared} (I : Inv X pins σ H s) : interactive X.env = false := by simp [interactive, I.ok.kind]
def tDrop (te : TE) : TS := fun D σ H => te σ H fun _ H1 => D.nx σ H1
theorem ps_expr (he : PE X e te) (hs : swapsWith e none pos.line X.env = pure false := by rfl) : PS X (.Expr e pos) (tDrop te) := by
 intro pins s σ H D I h
 exact wpAny_Expr_any (thn (he pins s σ H _ I h) fun v s1 ⟨x, H1, I1, r1, q1⟩ => ⟨σ, H1, I1, q1⟩) I.quiet hs
def tRet (te : TE) : TS := fun D σ H => te σ H D.rt
theorem ps_ret (he : PE X e te) : PS X (.Return (some e) pos) (tRet te) := by
 intro pins s σ H D I h
 exact wpAny_Return_some (thn (he pins s σ H _ I h) fun v s1 ⟨x, H1, I1, r1, q1⟩ => ⟨x, σ, H1, I1, r1, q1⟩)
def tIfS (c : TT) (t u : TS) : TS := fun D σ H => c σ H fun b H1 => if b = true then t D σ H1 else u D σ H1
theorem ps_if {c : Expr} {a b : List Stmt} {tc : TT} (hc : PT X c tc) (ha : PSs X a t) (hb : PSs X b u) : PS X (.If c a b pos) (tIfS tc t u) := by
 intro pins s σ H D I h
 refine wpAny_If (thn (hc pins s σ H _ I h) fun d s1 ⟨H1, I1, q1⟩ => ?_)
 cases d with
 | true => exact ha pins s1 σ H1 D I1 q1
 | false => exact hb pins s1 σ H1 D I1 q1
end
abbrev TG := V → St → Hp → (St → Hp → Prop) → Prop
abbrev TGs := List V → St → Hp → (St → Hp → Prop) → Prop
def PG (X : Cx) (target : Expr) (t : TG) : Prop :=
 ∀ (pins : List (Addr × Obj)) (s : Shared) (σ : St) (H : Hp) (v : V) (u : Value) (Q : St → Hp → Prop), Inv X pins σ H s → RelV v u → t v σ H Q →
  wpAny (model X.prog X.w) X.A (assign target X.env u) (fun _ s' => ∃ σ' H', Inv X pins σ' H' s' ∧ Q σ' H') X.xe s
def PGs (X : Cx) (ts : List Expr) (t : TGs) : Prop :=
 ∀ (pins : List (Addr × Obj)) (s : Shared) (σ : St) (H : Hp) (vs : List V) (us : List Value) (Q : St → Hp → Prop), Inv X pins σ H s → Vals vs us → t vs σ H Q →
  wpAny (model X.prog X.w) X.A (assignInOrder ((assignEach ts X.env).map (·.2)) us) (fun _ s' => ∃ σ' H', Inv X pins σ' H' s' ∧ Q σ' H') X.xe s
abbrev TSet := V → V → V → Hp → (Hp → Prop) → Prop
def PSet (X : Cx) (t : TSet) : Prop :=
 ∀ (pins : List (Addr × Obj)) (s : Shared) (σ : St) (H : Hp) (o i v : V) (ov iv u : Value) (Q : Hp → Prop), Inv X pins σ H s → RelV o ov → RelV i iv → RelV v u → t o i v H Q →
  wpAny (model X.prog X.w) X.A (setItem ov iv u) (fun _ s' => ∃ H', Inv X pins σ H' s' ∧ Q H') X.xe s
section
variable {X : Cx} {pos : Pos}
def gName (i : Nat) : TG := fun v σ H Q => Q (σ.set i (some v)) H
theorem pg_name {i : Nat} {x : Str} (hN : X.N.Nodup) (hi : X.N[i]? = some x) (hx : Loc X.env.scope x) (hf : X.fn x = true ∨ X.env.scope.names.lookup x = some .local := by first | exact .inl rfl | exact .inr rfl | assumption) : PG X (.Name x pos) (gName i) := by
 intro pins s σ H v u Q I r h
 exact wpAny_assign_Name (store_ok I hN hi hx r (fun s' I' => ⟨_, H, I', h⟩) hf)
def gNil : TGs := fun vs σ H Q => vs = [] ∧ Q σ H
def gCons (t : TG) (u : TGs) : TGs := fun vs σ H Q => ∃ v r, vs = v :: r ∧ t v σ H fun σ' H' => u r σ' H' Q
theorem pgs_nil : PGs X [] gNil := by
 intro pins s σ H vs us Q I r h
 obtain ⟨e, h⟩ := h
 subst e
 cases r
 exact assignInOrder_nil ⟨σ, H, I, h⟩
theorem pgs_cons {e : Expr} {es : List Expr} {t : TG} {u : TGs} (h1 : PG X e t) (h2 : PGs X es u)
  (hs : (assignEach (e :: es) X.env).map (·.2) = assign e X.env :: (assignEach es X.env).map (·.2) := by rfl) : PGs X (e :: es) (gCons t u) := by
 intro pins s σ H vs us Q I r h
 obtain ⟨v, vr, e1, h⟩ := h
 subst e1
 cases r with
 | cons r rr =>
  rw [hs]
  refine assignInOrder_cons (thn (h1 pins s σ H _ _ _ I r h) fun _ s1 ⟨σ1, H1, I1, q1⟩ => ?_)
  exact h2 pins s1 σ1 H1 _ _ Q I1 rr q1
def gTup (K : PySem.W.Frag) (n : Nat) (t : TGs) : TG := fun v σ H Q => ∃ a xs, v = .ref a ∧ SqT K H a xs ∧ xs.length = n ∧ t xs σ H Q
theorem pg_tup {es : List Expr} {k : Nat} {t : TGs} {n : Nat} (hc : X.calm = true) (h : PGs X es t)
  (hn : (assignEach es X.env).length = n := by rfl) (hst : (assignEach es X.env).findIdx? (·.1) = none := by rfl) : PG X (.Tuple es k pos) (gTup X.K n t) := by
 intro pins s σ H v u Q I r hw
 obtain ⟨a, xs, e1, hq, hl, hw⟩ := hw
 subst e1
 cases r
 obtain ⟨its, rv, ht, hz⟩ := I.tuple hq
 refine assign_Tuple_tuple (I.ok.hd hc) ht (by simp [hn, ← hl, rv.length]) hst fun h' hx => ?_
 have I1 : Inv X pins σ H { s with heap := h' } := I.kept (t' := s.toks) fun b o e => hx b o (Nat.ne_of_lt (Heap.lt_size e)) e
 exact h pins _ σ H xs _ Q I1 (by simpa using rv) hw
def tAsg (te : TE) (g : TG) : TS := fun D σ H => te σ H fun x H1 => g x σ H1 D.nx
theorem ps_asg {tg e : Expr} {te : TE} {g : TG} (he : PE X e te) (hg : PG X tg g) (hs : swapsWithSole [tg] e pos.line X.env = pure false := by rfl) (hw : swappedStores [tg] e X.env = pure none := by rfl)
  (h1 : (assignEach [tg] X.env).map (·.2) = [assign tg X.env] := by rfl) : PS X (.Assign [tg] e pos) (tAsg te g) := by
 intro pins s σ H D I h
 refine wpAny_Assign_stores (thn (he pins s σ H _ I h) fun v s1 ⟨x, H1, I1, r1, q1⟩ => ?_) hs hw
 rw [h1]
 exact thn (hg pins s1 σ H1 x v _ I1 r1 q1) fun _ s2 q => q
theorem ps_set {i : Nat} {x : Str} {e : Expr} {te : TE} {pos' : Pos} (hN : X.N.Nodup) (hi : X.N[i]? = some x) (hx : Loc X.env.scope x) (he : PE X e te) (hs : swapsWith e (some (.Name x pos')) pos.line X.env = pure false := by rfl) (hf : X.fn x = true ∨ X.env.scope.names.lookup x = some .local := by first | exact .inl rfl | exact .inr rfl | assumption) :
  PS X (.Assign [.Name x pos'] e pos) (tAsg te (gName i)) := by
 intro pins s σ H D I h
 refine wpAny_Assign_Name (thn (he pins s σ H _ I h) fun v s1 ⟨y, H1, I1, r1, q1⟩ => ?_) hs
 exact store_ok I1 hN hi hx r1 (fun s2 I2 => ⟨_, H1, I2, q1⟩) hf
end
section
variable {X : Cx} {pos : Pos}
end
set_option genInjectivity false in
set_option genSizeOf false in
structure It where
 go : Nat → Hp → Prop
 yld : Nat → Hp → V → Hp → Prop
 stop : Nat → Hp → Prop
def FpOk (X : Cx) (pins : List (Addr × Obj)) (H : Hp) (b : Addr) : Prop :=
 H b = none ∧ b ≠ X.env.locals ∧ b ∉ X.fs ∧ (b ∈ X.ex ∨ X.s₀.heap.objs.size ≤ b) ∧ (∀ x c, X.env.cells.lookup x = some c → c ≠ b) ∧ ∀ p ∈ X.pn ++ pins, p.1 ≠ b
theorem Inv.fpOk {X : Cx} {pins : List (Addr × Obj)} {σ : St} {H H' : Hp} {s : Shared} {b : Addr} (I : Inv X pins σ H s) (hb : s.heap.objs.size ≤ b) (hn : H' b = none) : FpOk X pins H' b := by
 refine ⟨hn, Nat.ne_of_gt (Nat.lt_of_lt_of_le I.lt hb), I.nofs hb, .inr (Nat.le_trans I.sz hb), fun x c e z => ?_, fun p hp z => ?_⟩
 ·obtain ⟨v, q⟩ := I.cell x c e
  exact absurd (Nat.lt_of_lt_of_le q.lt (by rw [z]; exact hb)) (Nat.lt_irrefl _)
 ·exact absurd (Nat.lt_of_lt_of_le (Heap.lt_size (I.pin p hp).1) (by rw [z]; exact hb)) (Nat.lt_irrefl _)
structure Turn (P : Program) (w : World) (K : PySem.W.Frag) (tg : Expr) (J : It) (fp : List Addr) (it : Addr) (tn : Nat → Heap → Prop) : Prop where
 mem : it ∈ fp
 obj : ∀ i h, tn i h → ∀ b ∈ fp, ∃ o, h.get? b = some o ∧ ∀ v, o.data ≠ .cell v
 keep : ∀ i h h', tn i h → (∀ b ∈ fp, ∀ o, h.get? b = some o → h'.get? b = some o) → tn i h'
 item : ∀ (X : Cx), X.prog = P → X.w = w → X.K = K → X.calm = true → ∀ (i : Nat) (pins : List (Addr × Obj)) (s : Shared) (σ : St) (H : Hp) (E : Value → Shared → Prop), Inv X pins σ H s → (∀ b ∈ fp, FpOk X pins H b) → tn i s.heap → J.go i H →
  wpAny (model P w) X.A (pyNext (.ref it)) (fun r s1 => ∃ u, r = some u ∧
   wpAny (model P w) X.A (letOwnedTupleGo tg (.ref it) u) (fun _ s2 => ∃ x H', Inv X pins σ H' s2 ∧ RelV x u ∧ J.yld i H x H' ∧ tn (i + 1) s2.heap ∧ ∀ b ∈ fp, H' b = none) E s1) E s
 done : ∀ (X : Cx), X.prog = P → X.w = w → X.K = K → X.calm = true → ∀ (i : Nat) (pins : List (Addr × Obj)) (s : Shared) (σ : St) (H : Hp) (E : Value → Shared → Prop), Inv X pins σ H s → (∀ b ∈ fp, FpOk X pins H b) → tn i s.heap → J.stop i H →
  wpAny (model P w) X.A (pyNext (.ref it)) (fun r s1 => r = none ∧ Inv X pins σ H s1) E s
 self : ∀ (A : Around) (i : Nat) (s : Shared) (Q : Value → Shared → Prop) (E : Value → Shared → Prop), tn i s.heap → Q (.ref it) s → wpAny (model P w) A (pyIter (.ref it)) Q E s
abbrev TI := St → Hp → (It → Hp → Prop) → Prop
def PIE (X : Cx) (pins : List (Addr × Obj)) (σ : St) (tg : Expr) (R : It → Hp → Prop) (itv : Value) (s2 : Shared) : Prop :=
 ∃ (it : Addr) (fp : List Addr) (tn : Nat → Heap → Prop) (J : It) (H' : Hp), itv = .ref it ∧ Inv X pins σ H' s2 ∧ Turn X.prog X.w X.K tg J fp it tn ∧ tn 0 s2.heap ∧ (∀ b ∈ fp, FpOk X pins H' b) ∧ R J H'
def PI (X : Cx) (tg iter : Expr) (wi : TI) : Prop :=
 ∀ (pins : List (Addr × Obj)) (s : Shared) (σ : St) (H : Hp) (R : It → Hp → Prop), Inv X pins σ H s → wi σ H R →
  wpAny (model X.prog X.w) X.A (eval iter X.env) (fun v s1 => wpAny (model X.prog X.w) X.A (pyIter v) (PIE X pins σ tg R) X.xe s1) X.xe s
theorem go_of {M : Model} {A : Around} {E : Value → Shared → Prop} {s : Shared} {tg : Expr} {it : Addr} {u : Value} {o : Obj} {n : String} {vs : Array Value} {Q : Unit → Shared → Prop} (ho : s.heap.get? it = some o) (hc : o.cls = .type n) (hd : o.data = .fields vs)
    (hn : ["enumerate", "zip", "dict_itemiterator", "dict_reverseitemiterator", "odict_iterator", "itertools.zip_longest", "itertools.pairwise"].contains n = false) (hQ : Q () s) : wpAny M A (letOwnedTupleGo tg (.ref it) u) Q E s := by
  unfold letOwnedTupleGo
  cases tg <;> first
    | exact wpAny_pure hQ
    | (cases u <;> first
        | exact wpAny_pure hQ
        | (refine wpAny_bind (wpAny_load ho ?_)
           rw [hc, hd]
           show wpAny M A (if (["enumerate", "zip", "dict_itemiterator", "dict_reverseitemiterator", "odict_iterator", "itertools.zip_longest", "itertools.pairwise"].contains n && vs[0]? == some (rawInt _)) = true then _ else _) Q E s
           rw [if_neg (by intro h; rw [hn, Bool.false_and] at h; cases h)]
           exact wpAny_pure hQ))
def Itl (K : PySem.W.Frag) (a : Addr) : It :=
 ⟨fun i H => ∃ xs x, SqL K H a xs ∧ xs[i]? = some x, fun i H x H' => H' = H ∧ ∀ xs, SqL K H a xs → xs[i]? = some x, fun i H => ∃ xs, SqL K H a xs ∧ xs.length ≤ i⟩
def Itr (lo : Int) (n : Nat) : It := ⟨fun i _ => i < n, fun i H x H' => H' = H ∧ x = .int (lo + i), fun i _ => n ≤ i⟩
theorem turn_list {P : Program} {w : World} {K : PySem.W.Frag} {tg : Expr} (a it : Addr) : Turn P w K tg (Itl K a) [it] it (fun i h => h.IsListIter it a i) where
 mem := by simp
 obj := fun i h st b hb => by
  have e : b = it := by simpa using hb
  subst e
  obtain ⟨o, e, c, d⟩ := st
  exact ⟨o, e, fun v z => by rw [d] at z; cases z⟩
 keep := fun i h h' st k => st.at fun o e => k it (by simp) o e
 item := by
  intro X hP hw hK hc i pins s σ H E I hf st hg
  subst hP hw hK
  obtain ⟨xs, x, hq, hx⟩ := hg
  obtain ⟨its, rv, p, hz⟩ := I.list hq
  obtain ⟨u, hu, ru⟩ := rv.get hx
  obtain ⟨f0, f1, f2, f3, f4, f5⟩ := hf it (by simp)
  refine wpAny_pyNext_list_item st p.isList (x := u) (by simpa using hu) fun h' st' sb => ?_
  have I1 : Inv X pins σ H { s with heap := h' } := I.turned (t' := s.toks) (fun b o hb e => (sb.2 b hb).trans e) f0 f1 f3 f4 f5
  obtain ⟨o, e, c, d⟩ := id st'
  exact ⟨u, rfl, go_of (s := { s with heap := h' }) e c d (by decide) ⟨x, H, I1, ru, ⟨rfl, fun ys hy => by rw [I.list_inj hy hq]; exact hx⟩, st', fun b hb => (hf b hb).1⟩⟩
 done := by
  intro X hP hw hK hc i pins s σ H E I hf st hg
  subst hP hw hK
  obtain ⟨xs, hq, hx⟩ := hg
  obtain ⟨its, rv, p, hz⟩ := I.list hq
  obtain ⟨f0, f1, f2, f3, f4, f5⟩ := hf it (by simp)
  have hl := rv.length
  exact wpAny_pyNext_list_end (I.ok.hd hc) st p.isList (by simp; omega) fun h' eb => ⟨rfl, I.turned (t' := s.toks) (fun b o hb e => eb b o hb e) f0 f1 f3 f4 f5⟩
 self := fun _ _ _ _ _ st h => wpAny_pyIter_listiter st h
theorem turn_range {P : Program} {w : World} {K : PySem.W.Frag} {tg : Expr} (it : Addr) (lo : Int) (n : Nat) : Turn P w K tg (Itr lo n) [it] it (fun i h => IsRangeIter h it (lo + (i : Nat) * 1) ((n : Int) - (i : Nat)) 1) where
 mem := by simp
 obj := fun i h st b hb => by
  have e : b = it := by simpa using hb
  subst e
  exact ⟨_, st, fun v z => by
   have z' : Data.fields _ = Data.cell v := z
   cases z'⟩
 keep := fun i h h' st k => k it (by simp) _ st
 item := by
  intro X hP hw hK hc i pins s σ H E I hf st hg
  subst hP hw hK
  obtain ⟨f0, f1, f2, f3, f4, f5⟩ := hf it (by simp)
  have W := Walks.range (prog := X.prog) (w := X.w) (I.ok.hd hc) it lo 1 n
  refine W.item i s _ _ hg st fun v h' tk hv st' kk => ?_
  obtain ⟨t, rfl⟩ := hv
  have I1 : Inv X pins σ H { s with heap := h', toks := tk } := I.turned (fun b o hb e => kk b o (by simpa using hb) e) f0 f1 f3 f4 f5
  refine ⟨_, rfl, go_of (s := { s with heap := h', toks := tk }) (n := "range_iterator") st' rfl rfl (by decide) ⟨.int (lo + i), H, I1, ⟨t, ?_⟩, ⟨rfl, rfl⟩, st', fun b hb => (hf b hb).1⟩⟩
  rw [Int.mul_one]
 done := by
  intro X hP hw hK hc i pins s σ H E I hf st hg
  subst hP hw hK
  obtain ⟨f0, f1, f2, f3, f4, f5⟩ := hf it (by simp)
  exact wpAny_pyNext_range_end (I.ok.hd hc) st (by have : n ≤ i := hg; omega) fun h' eb => ⟨rfl, I.turned (t' := s.toks) (fun b o hb e => eb b o hb e) f0 f1 f3 f4 f5⟩
 self := fun _ _ _ _ _ st h => wpAny_pyIter_rangeiter st h
end L2
namespace L2
open PySem PySem.Spec PyProof.Rows
section
variable {X : Cx} {tg : Expr}
def iList (K : PySem.W.Frag) (tl : TE) : TI := fun σ H R => tl σ H fun x H1 => ∃ a, x = .ref a ∧ (∃ xs, SqL K H1 a xs) ∧ R (Itl K a) H1
theorem pi_list {l : Expr} {tl : TE} (hl : PE X l tl) : PI X tg l (iList X.K tl) := by
 intro pins s σ H R I h
 refine thn (hl pins s σ H _ I h) fun v s1 ⟨x, H1, I1, r1, q1⟩ => ?_
 obtain ⟨a, e, ⟨xs, hq⟩, q⟩ := q1
 subst e
 cases r1
 obtain ⟨its, rv, p, hz⟩ := I1.list hq
 refine wpAny_pyIter_list p.isList ?_
 refine ⟨s1.heap.objs.size, [s1.heap.objs.size], _, _, H1, rfl, I1.kept (t' := s1.toks) fun b o e => Heap.get?_push_of_some _ e, turn_list a _, ⟨_, Heap.get?_push_size _ rfl, rfl, rfl⟩, fun b hb => ?_, q⟩
 have e : b = s1.heap.objs.size := by simpa using hb
 subst e
 exact I1.fpOk (Nat.le_refl _) (I1.hok.fresh (Nat.le_refl _))
theorem range_it {pins : List (Addr × Obj)} {σ : St} {H : Hp} {s : Shared} {R : It → Hp → Prop} {E : Value → Shared → Prop} {lo hi : Int} {t u v : Tok} {tk : Nat} (I : Inv X pins σ H s) (h1 : -(2 ^ 62) ≤ lo) (h2 : lo < 2 ^ 62) (h3 : -(2 ^ 62) ≤ hi) (h4 : hi < 2 ^ 62)
  (q : R (Itr lo (hi - lo).toNat) H) : wpAny (model X.prog X.w) X.A (pyIter (.ref s.heap.objs.size)) (PIE X pins σ tg R) E { s with heap := s.heap.push { cls := .type "range", data := .fields #[.int lo t, .int hi u, .int 1 v] }, toks := tk } := by
 refine wpAny_pyIter_range (IsRange.new ..) (small_one h1 h2 h3 h4) ?_
 have I1 : Inv X pins σ H { s with heap := s.heap.push { cls := .type "range", data := .fields #[.int lo t, .int hi u, .int 1 v] }, toks := tk } := I.kept fun b o e => Heap.get?_push_of_some _ e
 refine ⟨(s.heap.push { cls := .type "range", data := .fields #[.int lo t, .int hi u, .int 1 v] }).objs.size, [(s.heap.push { cls := .type "range", data := .fields #[.int lo t, .int hi u, .int 1 v] }).objs.size], _, _, H, rfl,
  I1.kept (t' := tk) fun b o e => Heap.get?_push_of_some _ e, turn_range _ lo (hi - lo).toNat, ?_, fun b hb => ?_, q⟩
 ·have e1 : lo + ((0 : Nat) : Int) * 1 = lo := by simp
  have e2 : (((hi - lo).toNat : Nat) : Int) - ((0 : Nat) : Int) = Builtin.Range.rangeSize lo hi 1 := by rw [rangeSize_one]; split <;> omega
  show IsRangeIter _ _ (lo + ((0 : Nat) : Int) * 1) ((((hi - lo).toNat : Nat) : Int) - ((0 : Nat) : Int)) 1
  rw [e1, e2]
  exact Heap.get?_push_size _ rfl
 ·have e : b = (s.heap.push { cls := .type "range", data := .fields #[.int lo t, .int hi u, .int 1 v] }).objs.size := by simpa using hb
  subst e
  exact I1.fpOk (Nat.le_refl _) (I1.hok.fresh (Nat.le_refl _))
def iRng1 (ta : TA) : TI := fun σ H R => ta σ H fun vs H1 => ∃ j : Int, vs = [.int j] ∧ -(2 ^ 62) ≤ j ∧ j < 2 ^ 62 ∧ R (Itr 0 j.toNat) H1
def iRng2 (ta : TA) : TI := fun σ H R => ta σ H fun vs H1 => ∃ i j : Int, vs = [.int i, .int j] ∧ (-(2 ^ 62) ≤ i ∧ i < 2 ^ 62 ∧ -(2 ^ 62) ≤ j ∧ j < 2 ^ 62) ∧ R (Itr i (j - i).toNat) H1
theorem pi_range1 {a : Expr} {ta : TA} {p pos : Pos} (hg : Gl X "range") (hm : X.mg "range" = none) (ha : PA X [a] ta) (hs : starEach [a] X.env = [(false, eval a X.env)] := by rfl) : PI X tg (.Call (.Name "range" p) [a] [] pos) (iRng1 ta) := by
 intro pins s σ H R I h
 refine Call_ (ld_blt I hg hm boot_range (PyProof.Rows.callWith_type1 (thn (ha pos pins s σ H _ I h) fun us s1 ⟨vs, H1, I1, r1, q1⟩ => ?_) hs rfl))
 obtain ⟨j, e, q1, q2, q⟩ := q1
 subst e
 cases r1 with
 | cons r rr =>
  cases rr
  obtain ⟨t, rfl⟩ := r
  exact call_range_1 (range_it I1 (by omega) (by omega) q1 q2 (by simpa using q))
theorem pi_range2 {a b : Expr} {ta : TA} {p pos : Pos} (hg : Gl X "range") (hm : X.mg "range" = none) (ha : PA X [a, b] ta) (hs : starEach [a, b] X.env = [(false, eval a X.env), (false, eval b X.env)] := by rfl) (hs2 : starEach [b] X.env = [(false, eval b X.env)] := by rfl) :
  PI X tg (.Call (.Name "range" p) [a, b] [] pos) (iRng2 ta) := by
 intro pins s σ H R I h
 refine Call_ (ld_blt I hg hm boot_range (PyProof.Rows.callWith_type1 (thn (ha pos pins s σ H _ I h) fun us s1 ⟨vs, H1, I1, r1, q1⟩ => ?_) (by rw [hs, hs2]) (by rw [hs2]; rfl)))
 obtain ⟨i, j, e, ⟨q1, q2, q3, q4⟩, q⟩ := q1
 subst e
 cases r1 with
 | cons r rr =>
  cases rr with
  | cons r' rr =>
   cases rr
   obtain ⟨t, rfl⟩ := r
   obtain ⟨t', rfl⟩ := r'
   exact call_range_2 (range_it I1 q1 q2 q3 q4 q)
def tFor (wi : TI) (g : TG) (tb : TS) : TS := fun D σ H => wi σ H fun J H1 => ∃ W : Nat → Nat → St → Hp → Prop, (∃ m, W 0 m σ H1) ∧ ∀ i m σ H, W i m σ H →
 (J.stop i H ∧ D.nx σ H) ∨ (J.go i H ∧ ∃ N : St → Hp → Prop, (∀ σ' H', N σ' H' → ∃ m', m' < m ∧ W (i + 1) m' σ' H') ∧ ∀ x H', J.yld i H x H' → g x σ H' fun σ2 H2 => tb { D with nx := N, ct := N, bk := D.nx } σ2 H2)
def pinsAt (fp : List Addr) (h : Heap) : List (Addr × Obj) := fp.filterMap fun b => (h.get? b).map fun o => (b, o)
theorem mem_pinsAt {fp : List Addr} {h : Heap} {b : Addr} {o : Obj} (hb : b ∈ fp) (e : h.get? b = some o) : (b, o) ∈ pinsAt fp h := List.mem_filterMap.mpr ⟨b, hb, by rw [e]; rfl⟩
theorem of_pinsAt {fp : List Addr} {h : Heap} {p : Addr × Obj} (hp : p ∈ pinsAt fp h) : p.1 ∈ fp ∧ h.get? p.1 = some p.2 := by
 obtain ⟨b, hb, e⟩ := List.mem_filterMap.mp hp
 cases q : h.get? b with
 | none => rw [q] at e; cases e
 | some o =>
  rw [q] at e
  have e' : (b, o) = p := Option.some.inj e
  subst e'
  exact ⟨hb, q⟩
theorem Inv.pinned {pins : List (Addr × Obj)} {σ : St} {H : Hp} {s : Shared} {fp : List Addr} (I : Inv X pins σ H s) (hf : ∀ b ∈ fp, FpOk X pins H b) (ho : ∀ b ∈ fp, ∃ o, s.heap.get? b = some o ∧ ∀ v, o.data ≠ .cell v) : Inv X (pins ++ pinsAt fp s.heap) σ H s :=
 I.pins_of fun p hp => (List.mem_append.mp hp).elim (fun z => I.pin p (List.mem_append_right _ z)) fun z => by
  obtain ⟨hb, e⟩ := of_pinsAt z
  obtain ⟨f0, f1, f2, _⟩ := hf p.1 hb
  obtain ⟨o, e', d⟩ := ho p.1 hb
  rw [e] at e'; cases e'
  exact ⟨e, f0, f1, f2, d⟩
theorem Inv.unpinned {pins pl : List (Addr × Obj)} {σ : St} {H : Hp} {s : Shared} (I : Inv X (pins ++ pl) σ H s) : Inv X pins σ H s := I.pins_of fun p hp => I.pin p (List.mem_append_right _ (List.mem_append_left _ hp))
theorem ps_for {iter : Expr} {body : List Stmt} {wi : TI} {g : TG} {tb : TS} {pos : Pos} (hp : PassesOwn (model X.prog X.w) X.A X.env X.xe) (hc : X.calm = true) (hi : PI X tg iter wi) (hg : PG X tg g) (hb : PSs X body tb)
  (hs : ∀ x, foldedSetIterable iter X.env x = pure x := by intro _; rfl) : PS X (.For tg iter body [] pos) (tFor wi g tb) := by
 intro pins s σ H D I h
 refine wpAny_For (thn (hi pins s σ H _ I h) fun v s1 h1 => thn h1 fun itv s2 h2 => ?_) hs
 obtain ⟨it, fp, tn, J, H2, e, I2, T, st2, f2, W, ⟨m0, w0⟩, turn⟩ := h2
 subst e
 -- what stays true of the iterator's objects through the loop
 have stat : ∀ {H' : Hp}, (∀ b ∈ fp, H' b = none) → ∀ b ∈ fp, FpOk X pins H' b := fun hn b hb => ⟨hn b hb, (f2 b hb).2⟩
 refine codeAny_forLoop_any (fun n s' => ∃ i σ' H', Inv X pins σ' H' s' ∧ tn i s'.heap ∧ (∀ b ∈ fp, H' b = none) ∧ W i n σ' H') ?_ m0 ⟨0, σ, H2, I2, st2, fun b hb => (f2 b hb).1, w0⟩
 rintro n s3 ⟨i, σ3, H3, I3, st3, fr3, w3⟩
 rcases turn i n σ3 H3 w3 with ⟨stop, qn⟩ | ⟨go, N, hN, step⟩
 ·refine wpAny_passesOwn hp (thn (T.done X rfl rfl rfl hc i pins s3 σ3 H3 X.xe I3 (stat fr3) st3 stop) fun r s4 ⟨hr, I4⟩ => ?_)
  subst hr
  exact wpAny_execs_nil ⟨σ3, H3, I4, qn⟩
 ·refine wpAny_passesOwn hp (thn (T.item X rfl rfl rfl hc i pins s3 σ3 H3 X.xe I3 (stat fr3) st3 go) fun r s4 ⟨u, hr, h4⟩ => ?_)
  subst hr
  refine wpAny_passesOwn hp (thn h4 fun _ s5 ⟨x, H5, I5, r5, y5, st5, fr5⟩ => ?_)
  have I5' := I5.pinned (stat fr5) (T.obj _ _ st5)
  refine wpAny_passesOwn hp (thn (hg _ s5 σ3 H5 x u _ I5' r5 (step x H5 y5)) fun _ s6 ⟨σ6, H6, I6, q6⟩ => ?_)
  refine wpAny_passesOwn hp (thn (hb _ s6 σ6 H6 _ I6 q6) fun f s7 q7 => ?_)
  have again : ∀ {σ7 : St} {H7 : Hp}, Inv X (pins ++ pinsAt fp s5.heap) σ7 H7 s7 → N σ7 H7 → ∃ m, m < n ∧ ∃ i σ' H', Inv X pins σ' H' s7 ∧ tn i s7.heap ∧ (∀ b ∈ fp, H' b = none) ∧ W i m σ' H' := fun {σ7 H7} I7 n7 => by
   obtain ⟨m', hm, w7⟩ := hN σ7 H7 n7
   refine ⟨m', hm, i + 1, σ7, H7, I7.unpinned, T.keep _ _ _ st5 fun b hb o e => (I7.pin (b, o) (List.mem_append_right _ (List.mem_append_right _ (mem_pinsAt hb e)))).1, fun b hb => ?_, w7⟩
   obtain ⟨o, e, d⟩ := T.obj _ _ st5 b hb
   exact (I7.pin (b, o) (List.mem_append_right _ (List.mem_append_right _ (mem_pinsAt hb e)))).2.1
  cases f with
  | next => obtain ⟨σ7, H7, I7, n7⟩ := q7; exact again I7 n7
  | cont => obtain ⟨σ7, H7, I7, n7⟩ := q7; exact again I7 n7
  | brk => obtain ⟨σ7, H7, I7, q7⟩ := q7; exact ⟨σ7, H7, I7.unpinned, q7⟩
  | ret v => obtain ⟨x7, σ7, H7, I7, r7, q7⟩ := q7; exact ⟨x7, σ7, H7, I7.unpinned, r7, q7⟩
end
theorem for_list {K : PySem.W.Frag} {a : Addr} {xs : List V} {g : TG} {tb : TS} {D : Ends} {σ : St} {H : Hp} (Pv : Nat → St → Hp → Prop) (h0 : Pv 0 σ H) (hl : ∀ i σ H, i ≤ xs.length → Pv i σ H → SqL K H a xs)
  (hs : ∀ i x σ H, xs[i]? = some x → Pv i σ H → g x σ H fun σ2 H2 => tb { D with nx := Pv (i + 1), ct := Pv (i + 1), bk := D.nx } σ2 H2) (hd : ∀ σ H, Pv xs.length σ H → D.nx σ H) :
  ∃ W : Nat → Nat → St → Hp → Prop, (∃ m, W 0 m σ H) ∧ ∀ i m σ H, W i m σ H →
   ((Itl K a).stop i H ∧ D.nx σ H) ∨ ((Itl K a).go i H ∧ ∃ N : St → Hp → Prop, (∀ σ' H', N σ' H' → ∃ m', m' < m ∧ W (i + 1) m' σ' H') ∧ ∀ x H', (Itl K a).yld i H x H' → g x σ H' fun σ2 H2 => tb { D with nx := N, ct := N, bk := D.nx } σ2 H2) := by
 refine ⟨fun i m σ H => m = xs.length - i ∧ i ≤ xs.length ∧ Pv i σ H, ⟨xs.length, by simp, Nat.zero_le _, h0⟩, ?_⟩
 rintro i m σ H ⟨rfl, hi, p⟩
 have q := hl i σ H hi p
 by_cases hlt : i < xs.length
 ·refine .inr ⟨⟨xs, xs[i], q, by simp [hlt]⟩, Pv (i + 1), fun σ' H' p' => ⟨xs.length - (i + 1), by omega, rfl, hlt, p'⟩, fun x H' y => ?_⟩
  obtain ⟨e, y⟩ := y
  subst e
  exact hs i x σ _ (y xs q) p
 ·have e : i = xs.length := by omega
  subst e
  exact .inl ⟨⟨xs, q, Nat.le_refl _⟩, hd σ H p⟩
theorem for_range {lo : Int} {n : Nat} {g : TG} {tb : TS} {D : Ends} {σ : St} {H : Hp} (Pv : Nat → St → Hp → Prop) (h0 : Pv 0 σ H)
  (hs : ∀ i σ H, i < n → Pv i σ H → g (.int (lo + i)) σ H fun σ2 H2 => tb { D with nx := Pv (i + 1), ct := Pv (i + 1), bk := D.nx } σ2 H2) (hd : ∀ σ H, Pv n σ H → D.nx σ H) :
  ∃ W : Nat → Nat → St → Hp → Prop, (∃ m, W 0 m σ H) ∧ ∀ i m σ H, W i m σ H →
   ((Itr lo n).stop i H ∧ D.nx σ H) ∨ ((Itr lo n).go i H ∧ ∃ N : St → Hp → Prop, (∀ σ' H', N σ' H' → ∃ m', m' < m ∧ W (i + 1) m' σ' H') ∧ ∀ x H', (Itr lo n).yld i H x H' → g x σ H' fun σ2 H2 => tb { D with nx := N, ct := N, bk := D.nx } σ2 H2) := by
 refine ⟨fun i m σ H => m = n - i ∧ i ≤ n ∧ Pv i σ H, ⟨n, by simp, Nat.zero_le _, h0⟩, ?_⟩
 rintro i m σ H ⟨rfl, hi, p⟩
 by_cases hlt : i < n
 ·refine .inr ⟨hlt, Pv (i + 1), fun σ' H' p' => ⟨n - (i + 1), by omega, rfl, hlt, p'⟩, fun x H' y => ?_⟩
  obtain ⟨e, y⟩ := y
  subst e y
  exact hs i σ _ hlt p
 ·have e : i = n := by omega
  subst e
  exact .inl ⟨Nat.le_refl _, hd σ H p⟩
end L2
namespace L2
open PySem PySem.Spec PyProof.Rows
abbrev R2 := V → V → Hp → VK → Prop
def OpR (X : Cx) (f : Value → Value → Sem Value) (r : R2) : Prop :=
 ∀ (pins : List (Addr × Obj)) (s : Shared) (σ : St) (H : Hp) (x y : V) (v u : Value) (Q : VK), Inv X pins σ H s → RelV x v → RelV y u → r x y H Q →
  wpAny (model X.prog X.w) X.A (f v u) (EP X pins σ Q) X.xe s
def UnR (X : Cx) (f : Value → Sem Value) (r : V → Hp → VK → Prop) : Prop :=
 ∀ (pins : List (Addr × Obj)) (s : Shared) (σ : St) (H : Hp) (x : V) (v : Value) (Q : VK), Inv X pins σ H s → RelV x v → r x H Q →
  wpAny (model X.prog X.w) X.A (f v) (EP X pins σ Q) X.xe s
def CallR (X : Cx) (f : Value) (r : List V → Hp → VK → Prop) : Prop :=
 ∀ (pins : List (Addr × Obj)) (s : Shared) (σ : St) (H : Hp) (xs : List V) (us : List Value) (Q : VK), Inv X pins σ H s → Vals xs us → r xs H Q →
  wpAny (model X.prog X.w) X.A (call f us) (EP X pins σ Q) X.xe s
def tOp (r : R2) (ta tb : TE) : TE := fun σ H Q => ta σ H fun x H1 => tb σ H1 fun y H2 => r x y H2 Q
def tUn (r : V → Hp → VK → Prop) (ta : TE) : TE := fun σ H Q => ta σ H fun x H1 => r x H1 Q
def rI (C : Int → Int → Prop) (g : Int → Int → V) : R2 := fun x y H Q => ∃ i j, x = .int i ∧ y = .int j ∧ C i j ∧ Q (g i j) H
def rI0 (g : Int → Int → V) : R2 := fun x y H Q => ∃ i j, x = .int i ∧ y = .int j ∧ Q (g i j) H
def rU (g : Int → V) : V → Hp → VK → Prop := fun x H Q => ∃ i, x = .int i ∧ Q (g i) H
section
variable {X : Cx} {a b c : Expr} {ta tb tc : TE} {pos : Pos}
theorem binT (ha : PE X a ta) (hb : PE X b tb) {pins : List (Addr × Obj)} {s : Shared} {σ : St} {H : Hp} {R : V → V → Hp → Prop} (I : Inv X pins σ H s)
  (h : ta σ H fun x H1 => tb σ H1 fun y H2 => R x y H2) {Q : Value → Shared → Prop} {f : Value → Value → Sem Value}
  (hf : ∀ v u s2 x y H2, Inv X pins σ H2 s2 → RelV x v → RelV y u → R x y H2 → wpAny (model X.prog X.w) X.A (f v u) Q X.xe s2) :
  wpAny (model X.prog X.w) X.A (eval a X.env) (fun v s₁ => wpAny (model X.prog X.w) X.A (eval b X.env) (fun u s₂ => wpAny (model X.prog X.w) X.A (f v u) Q X.xe s₂) X.xe s₁) X.xe s := by
 refine thn (ha pins s σ H _ I h) fun v s1 ⟨x, H1, I1, r1, q1⟩ => ?_
 refine thn (hb pins s1 σ H1 _ I1 q1) fun u s2 ⟨y, H2, I2, r2, q2⟩ => ?_
 exact hf v u s2 x y H2 I2 r1 r2 q2
theorem pe_op {op : Operator} {r : R2} (ho : OpR X (binaryOp op) r) (ha : PE X a ta) (hb : PE X b tb) : PE X (.BinOp a op b pos) (tOp r ta tb) := by
 intro pins s σ H Q I h
 exact wpAny_BinOp (binT ha hb I h fun v u s2 x y H2 I2 rx ry q => ho pins s2 σ H2 x y v u Q I2 rx ry q)
theorem pe_un {op : UnaryOp} {r : V → Hp → VK → Prop} (ho : UnR X (unaryOp op) r) (ha : PE X a ta) : PE X (.UnaryOp op a pos) (tUn r ta) := by
 intro pins s σ H Q I h
 exact UnaryOp_ (thn (ha pins s σ H _ I h) fun v s1 ⟨x, H1, I1, r1, q1⟩ => ho pins s1 σ H1 x v Q I1 r1 q1)
theorem opI {f : Value → Value → Sem Value} {C : Int → Int → Prop} {g : Int → Int → Int}
  (rule : ∀ (i j : Int) (t u : Tok) (s : Shared) (Q : Value → Shared → Prop) (E : Value → Shared → Prop), C i j → Q (.int (g i j) s.toks) { s with toks := s.toks + 1 } → wpAny (model X.prog X.w) X.A (f (.int i t) (.int j u)) Q E s) :
  OpR X f (rI C fun i j => .int (g i j)) := by
 intro pins s σ H x y v u Q I rx ry h
 obtain ⟨i, j, rfl, rfl, hc, q⟩ := h
 obtain ⟨t, rfl⟩ := rx
 obtain ⟨t', rfl⟩ := ry
 exact rule i j t t' s _ _ hc ⟨.int (g i j), H, I.tok _, ⟨_, rfl⟩, q⟩
theorem opI0 {f : Value → Value → Sem Value} {g : Int → Int → Int}
  (rule : ∀ (i j : Int) (t u : Tok) (s : Shared) (Q : Value → Shared → Prop) (E : Value → Shared → Prop), Q (.int (g i j) s.toks) { s with toks := s.toks + 1 } → wpAny (model X.prog X.w) X.A (f (.int i t) (.int j u)) Q E s) :
  OpR X f (rI0 fun i j => .int (g i j)) := by
 intro pins s σ H x y v u Q I rx ry h
 obtain ⟨i, j, rfl, rfl, q⟩ := h
 obtain ⟨t, rfl⟩ := rx
 obtain ⟨t', rfl⟩ := ry
 exact rule i j t t' s _ _ ⟨.int (g i j), H, I.tok _, ⟨_, rfl⟩, q⟩
theorem opB0 {f : Value → Value → Sem Value} {g : Int → Int → Bool}
  (rule : ∀ (i j : Int) (t u : Tok) (s : Shared) (Q : Value → Shared → Prop) (E : Value → Shared → Prop), Q (.bool (g i j)) s → wpAny (model X.prog X.w) X.A (f (.int i t) (.int j u)) Q E s) :
  OpR X f (rI0 fun i j => .bl (g i j)) := by
 intro pins s σ H x y v u Q I rx ry h
 obtain ⟨i, j, rfl, rfl, q⟩ := h
 obtain ⟨t, rfl⟩ := rx
 obtain ⟨t', rfl⟩ := ry
 exact rule i j t t' s _ _ ⟨.bl (g i j), H, I, rfl, q⟩
def CDiv (i j : Int) : Prop := 0 < j ∧ j < 1073741824
def CMul (i j : Int) : Prop := (-(2 ^ 64) < i ∧ i < 2 ^ 64) ∨ (-(2 ^ 64) < j ∧ j < 2 ^ 64)
theorem CMul.ok {i j : Int} (h : CMul i j) : IntMulOk i j := by
 rcases h with ⟨h1, h2⟩ | ⟨h1, h2⟩
 ·exact .of_left (intBits_le_64 h1 h2)
 ·exact .of_right (intBits_le_64 h1 h2)
theorem op_add : OpR X (binaryOp .Add) (rI0 fun i j => .int (i + j)) := opI0 fun _ _ _ _ _ _ _ q => add_int q
theorem op_sub : OpR X (binaryOp .Sub) (rI0 fun i j => .int (i - j)) := opI0 fun _ _ _ _ _ _ _ q => sub_int q
theorem op_mul : OpR X (binaryOp .Mult) (rI CMul fun i j => .int (i * j)) := opI fun _ _ _ _ _ _ _ hc q => mul_int q hc.ok
theorem op_fdiv : OpR X (binaryOp .FloorDiv) (rI CDiv fun i j => .int (i / j)) := opI fun i j _ _ _ _ _ hc q => by
 have h1 : (0 : Int) < j := hc.1
 have h2 : j < 1073741824 := hc.2
 exact floordiv_int (by omega) (by rw [Int.fdiv_eq_ediv_of_nonneg i (by omega)]; exact q) (.inl (PyProof.noPylong_small (by omega)))
theorem op_mod : OpR X (binaryOp .Mod) (rI (fun _ j => 0 < j) fun i j => .int (i % j)) := opI fun i j _ _ _ _ _ hc q => by
 have h1 : (0 : Int) < j := hc
 exact mod_int' (by omega) (by rw [Int.fmod_eq_emod_of_nonneg i (by omega)]; exact q)
theorem unI {f : Value → Sem Value} {g : Int → Int}
  (rule : ∀ (i : Int) (t : Tok) (s : Shared) (Q : Value → Shared → Prop) (E : Value → Shared → Prop), Q (.int (g i) s.toks) { s with toks := s.toks + 1 } → wpAny (model X.prog X.w) X.A (f (.int i t)) Q E s) :
  UnR X f (rU fun i => .int (g i)) := by
 intro pins s σ H x v Q I rx h
 obtain ⟨i, rfl, q⟩ := h
 obtain ⟨t, rfl⟩ := rx
 exact rule i t s _ _ ⟨.int (g i), H, I.tok _, ⟨_, rfl⟩, q⟩
theorem un_neg : UnR X (unaryOp .USub) (rU fun i => .int (-i)) := unI fun _ _ _ _ _ q => neg_int q
end
def scal : V → V → Bool
 | .non, .non => true | .non, .int _ => true | .int _, .non => true | .non, .bl _ => true | .bl _, .non => true | .non, .str _ => true | .str _, .non => true
 | .int _, .int _ => true | .bl _, .bl _ => true | .str _, .str _ => true | .byt _, .byt _ => true
 | .int _, .str _ => true | .str _, .int _ => true | .bl _, .str _ => true | .str _, .bl _ => true
 | _, _ => false
def rEq : R2 := fun x y H Q => scal x y = true ∧ Q (.bl (decide (x = y))) H
def rNe : R2 := fun x y H Q => scal x y = true ∧ Q (.bl (!decide (x = y))) H
theorem dec_int {i j : Int} : decide (V.int i = V.int j) = (i == j) := by
 rw [Bool.eq_iff_iff]
 simp
theorem dec_bl {i j : Bool} : decide (V.bl i = V.bl j) = (i == j) := by
 rw [Bool.eq_iff_iff]
 simp
theorem dec_str {i j : Str} : decide (V.str i = V.str j) = (i == j) := by
 rw [Bool.eq_iff_iff]
 simp
theorem dec_byt {i j : Array UInt8} : decide (V.byt i = V.byt j) = (i.toList == j.toList) := by
 rw [Bool.eq_iff_iff]
 cases i
 cases j
 simp
section
variable {X : Cx} {a b c : Expr} {ta tb tc : TE} {pos : Pos}
theorem fin_bl {pins : List (Addr × Obj)} {σ : St} {H : Hp} {s : Shared} {Q : VK} {k k' : Bool} (I : Inv X pins σ H s) (q : Q (.bl k) H) (e : k = k') : EP X pins σ Q (.bool k') s := by
 subst e
 exact ⟨.bl k, H, I, rfl, q⟩
theorem op_eq : OpR X (compareOp .Eq) rEq := by
 intro pins s σ H x y v u Q I rx ry h
 obtain ⟨hs, q⟩ := h
 cases x with
 | non =>
  cases rx
  cases y with
  | non => cases ry; exact PySem.EqNone.eq_none_none (fin_bl I q (by simp))
  | bl j => cases ry; exact PySem.EqNone.eq_none_bool (fin_bl I q (by simp))
  | int j => obtain ⟨t', rfl⟩ := ry; exact PySem.EqNone.eq_none_int (fin_bl I q (by simp))
  | str j => obtain ⟨t', rfl⟩ := ry; exact PySem.EqNone.eq_none_str (fin_bl I q (by simp))
  | _ => exact absurd (show false = true from hs) Bool.false_ne_true
 | bl i =>
  cases rx
  cases y with
  | non => cases ry; exact PySem.EqNone.eq_bool_none (fin_bl I q (by simp))
  | bl j => cases ry; exact eq_bool (fin_bl I q dec_bl)
  | str j => obtain ⟨t', rfl⟩ := ry; exact PySem.EqMixed.eq_bool_str (fin_bl I q (by simp))
  | _ => exact absurd (show false = true from hs) Bool.false_ne_true
 | int i =>
  obtain ⟨t, rfl⟩ := rx
  cases y with
  | non => cases ry; exact PySem.EqNone.eq_int_none (fin_bl I q (by simp))
  | int j => obtain ⟨t', rfl⟩ := ry; exact eq_int (fin_bl I q dec_int)
  | str j => obtain ⟨t', rfl⟩ := ry; exact PySem.EqMixed.eq_int_str (fin_bl I q (by simp))
  | _ => exact absurd (show false = true from hs) Bool.false_ne_true
 | str i =>
  obtain ⟨t, rfl⟩ := rx
  cases y with
  | non => cases ry; exact PySem.EqNone.eq_str_none (fin_bl I q (by simp))
  | bl j => cases ry; exact PySem.EqMixed.eq_str_bool (fin_bl I q (by simp))
  | int j => obtain ⟨t', rfl⟩ := ry; exact PySem.EqMixed.eq_str_int (fin_bl I q (by simp))
  | str j => obtain ⟨t', rfl⟩ := ry; exact eq_str (fin_bl I q dec_str)
  | _ => exact absurd (show false = true from hs) Bool.false_ne_true
 | byt i =>
  obtain ⟨t, rfl⟩ := rx
  cases y with
  | byt j => obtain ⟨t', rfl⟩ := ry; exact PySem.W.eq_bytes (fin_bl I q dec_byt)
  | _ => exact absurd (show false = true from hs) Bool.false_ne_true
 | _ => cases y <;> exact absurd (show false = true from hs) Bool.false_ne_true
theorem op_ne : OpR X (compareOp .NotEq) rNe := by
 intro pins s σ H x y v u Q I rx ry h
 obtain ⟨hs, q⟩ := h
 cases x with
 | non =>
  cases rx
  cases y with
  | non => cases ry; exact PySem.EqNone.ne_none_none (fin_bl I q (by simp))
  | bl j => cases ry; exact PySem.EqNone.ne_none_bool (fin_bl I q (by simp))
  | int j => obtain ⟨t', rfl⟩ := ry; exact PySem.EqNone.ne_none_int (fin_bl I q (by simp))
  | str j => obtain ⟨t', rfl⟩ := ry; exact PySem.EqNone.ne_none_str (fin_bl I q (by simp))
  | _ => exact absurd (show false = true from hs) Bool.false_ne_true
 | bl i =>
  cases rx
  cases y with
  | non => cases ry; exact PySem.EqNone.ne_bool_none (fin_bl I q (by simp))
  | bl j => cases ry; exact ne_bool (fin_bl I q (congrArg not dec_bl))
  | str j => obtain ⟨t', rfl⟩ := ry; exact PySem.EqMixed.ne_bool_str (fin_bl I q (by simp))
  | _ => exact absurd (show false = true from hs) Bool.false_ne_true
 | int i =>
  obtain ⟨t, rfl⟩ := rx
  cases y with
  | non => cases ry; exact PySem.EqNone.ne_int_none (fin_bl I q (by simp))
  | int j => obtain ⟨t', rfl⟩ := ry; exact ne_int (fin_bl I q (congrArg not dec_int))
  | str j => obtain ⟨t', rfl⟩ := ry; exact PySem.EqMixed.ne_int_str (fin_bl I q (by simp))
  | _ => exact absurd (show false = true from hs) Bool.false_ne_true
 | str i =>
  obtain ⟨t, rfl⟩ := rx
  cases y with
  | non => cases ry; exact PySem.EqNone.ne_str_none (fin_bl I q (by simp))
  | bl j => cases ry; exact PySem.EqMixed.ne_str_bool (fin_bl I q (by simp))
  | int j => obtain ⟨t', rfl⟩ := ry; exact PySem.EqMixed.ne_str_int (fin_bl I q (by simp))
  | str j => obtain ⟨t', rfl⟩ := ry; exact ne_str (fin_bl I q (congrArg not dec_str))
  | _ => exact absurd (show false = true from hs) Bool.false_ne_true
 | byt i =>
  obtain ⟨t, rfl⟩ := rx
  cases y with
  | byt j => obtain ⟨t', rfl⟩ := ry; exact PySem.W.ne_bytes (fin_bl I q (congrArg not dec_byt))
  | _ => exact absurd (show false = true from hs) Bool.false_ne_true
 | _ => cases y <;> exact absurd (show false = true from hs) Bool.false_ne_true
theorem op_lt : OpR X (compareOp .Lt) (rI0 fun i j => .bl (decide (i < j))) := opB0 fun _ _ _ _ _ _ _ q => lt_int q
theorem op_le : OpR X (compareOp .LtE) (rI0 fun i j => .bl (decide (i ≤ j))) := opB0 fun _ _ _ _ _ _ _ q => le_int q
theorem op_gt : OpR X (compareOp .Gt) (rI0 fun i j => .bl (decide (j < i))) := opB0 fun _ _ _ _ _ _ _ q => gt_int q
theorem op_ge : OpR X (compareOp .GtE) (rI0 fun i j => .bl (decide (j ≤ i))) := opB0 fun _ _ _ _ _ _ _ q => ge_int q
theorem op_lt_str : OpR X (compareOp .Lt) (fun x y H Q => ∃ i j, x = .str i ∧ y = .str j ∧ Q (.bl (decide (i.cps.toList < j.cps.toList))) H) := by
 intro pins s σ H x y v u Q I rx ry h
 obtain ⟨i, j, rfl, rfl, q⟩ := h
 obtain ⟨t, rfl⟩ := rx
 obtain ⟨t', rfl⟩ := ry
 exact lt_str (fin_bl I q rfl)
theorem op_in_str : OpR X (compareOp .In) (fun x y H Q => ∃ i j, x = .str i ∧ y = .str j ∧ Q (.bl (!(Builtin.Str.occurrences j i 0 j.length 1).isEmpty)) H) := by
 intro pins s σ H x y v u Q I rx ry h
 obtain ⟨i, j, rfl, rfl, q⟩ := h
 obtain ⟨t, rfl⟩ := rx
 obtain ⟨t', rfl⟩ := ry
 exact in_str (fin_bl I q rfl)
theorem op_isN : OpR X (compareOp .Is) (fun x y H Q => y = .non ∧ Q (.bl (decide (x = .non))) H) := by
 intro pins s σ H x y v u Q I rx ry h
 obtain ⟨rfl, q⟩ := h
 cases ry
 refine is_none_gen (fin_bl I q ?_)
 cases x <;> first
  | (cases rx; rfl)
  | (obtain ⟨t, rfl⟩ := rx; rfl)
theorem op_notN : OpR X (compareOp .IsNot) (fun x y H Q => y = .non ∧ Q (.bl (!decide (x = .non))) H) := by
 intro pins s σ H x y v u Q I rx ry h
 obtain ⟨rfl, q⟩ := h
 cases ry
 refine isnot_none_gen (fin_bl I q ?_)
 cases x <;> first
  | (cases rx; rfl)
  | (obtain ⟨t, rfl⟩ := rx; rfl)
theorem op_notin_str : OpR X (compareOp .NotIn) (fun x y H Q => ∃ i j, x = .str i ∧ y = .str j ∧ Q (.bl (!(!(Builtin.Str.occurrences j i 0 j.length 1).isEmpty))) H) := by
 intro pins s σ H x y v u Q I rx ry h
 obtain ⟨i, j, rfl, rfl, q⟩ := h
 obtain ⟨t, rfl⟩ := rx
 obtain ⟨t', rfl⟩ := ry
 exact notIn_str (fin_bl I q rfl)
theorem nomark (b : Expr) {op : CmpOp} (h : op ≠ .In := by decide) (h2 : op ≠ .NotIn := by decide) : behindInMarks op b = false := by
 have e1 : (op == CmpOp.In) = false := by cases op <;> first | rfl | exact absurd rfl h
 have e2 : (op == CmpOp.NotIn) = false := by cases op <;> first | rfl | exact absurd rfl h2
 cases b <;> simp [behindInMarks, e1, e2]
theorem pe_cmpR {op : CmpOp} {r : R2} (ho : OpR X (compareOp op) r) (ha : PE X a ta) (hb : PE X b tb) (hm : behindInMarks op b = false) : PE X (.Compare a [op] [b] pos) (tOp r ta tb) := by
 intro pins s σ H Q I h
 exact wpAny_Compare1 (binT ha hb I h fun v u s2 x y H2 I2 rx ry q => ho pins s2 σ H2 x y v u Q I2 rx ry q) hm
def tTest (t : TE) : TT := fun σ H Q => t σ H fun x H' => ∃ k, x = .bl k ∧ Q k H'
theorem pt_cmpR {op : CmpOp} {r : R2} (ho : OpR X (compareOp op) r) (ha : PE X a ta) (hb : PE X b tb) (hm : behindInMarks op b = false) : PT X (.Compare a [op] [b] pos) (tTest (tOp r ta tb)) := by
 intro pins s σ H Q I h
 refine wpAny_isTrue_Compare1 (thn (ha pins s σ H _ I h) fun v s1 ⟨x, H1, I1, r1, q1⟩ => thn (hb pins s1 σ H1 _ I1 q1) fun u s2 ⟨y, H2, I2, r2, q2⟩ =>
  thn (ho pins s2 σ H2 x y v u _ I2 r1 r2 q2) fun c s3 ⟨z, H3, I3, r3, k, e, q3⟩ => ?_) hm
 subst e
 cases r3
 exact wpAny_truthy_bool ⟨H3, I3, q3⟩
def tChain (r r' : R2) (ta tb tc : TE) : TE := fun σ H Q => ta σ H fun x H1 => tb σ H1 fun y H2 => r x y H2 fun z H3 => ∃ k, z = .bl k ∧
 (if k = true then tc σ H3 fun w' H4 => r' y w' H4 Q else Q (.bl false) H3)
theorem pe_chain {op op' : CmpOp} {r r' : R2} (ho : OpR X (compareOp op) r) (ho' : OpR X (compareOp op') r') (ha : PE X a ta) (hb : PE X b tb) (hc : PE X c tc)
  (hm : lastMarks [op, op'] [b, c] = false := by with_unfolding_all rfl) : PE X (.Compare a [op, op'] [b, c] pos) (tChain r r' ta tb tc) := by
 intro pins s σ H Q I h
 refine Compare_chain (thn (ha pins s σ H _ I h) fun v s1 ⟨x, H1, I1, r1, q1⟩ => chain_link (thn (hb pins s1 σ H1 _ I1 q1) fun u s2 ⟨y, H2, I2, r2, q2⟩ =>
  thn (ho pins s2 σ H2 x y v u _ I2 r1 r2 q2) fun d s3 ⟨z, H3, I3, r3, k, e, q3⟩ => ?_)) hm
 subst e
 cases r3
 refine wpAny_truthy_bool ?_
 cases k with
 | false => exact ite_ff ⟨.bl false, H3, I3, rfl, q3⟩
 | true => exact ite_tt (chain_last (thn (hc pins s3 σ H3 _ I3 q3) fun w' s4 ⟨z', H4, I4, r4, q4⟩ => ho' pins s4 σ H4 y z' u w' Q I4 r2 r4 q4))
theorem pt_chain {op op' : CmpOp} {r r' : R2} (ho : OpR X (compareOp op) r) (ho' : OpR X (compareOp op') r') (ha : PE X a ta) (hb : PE X b tb) (hc : PE X c tc)
  (hm : lastMarks [op, op'] [b, c] = false := by with_unfolding_all rfl) : PT X (.Compare a [op, op'] [b, c] pos) (tTest (tChain r r' ta tb tc)) := by
 intro pins s σ H Q I h
 refine isTrue_chain (thn (ha pins s σ H _ I h) fun v s1 ⟨x, H1, I1, r1, q1⟩ => test_link (thn (hb pins s1 σ H1 _ I1 q1) fun u s2 ⟨y, H2, I2, r2, q2⟩ =>
  thn (ho pins s2 σ H2 x y v u _ I2 r1 r2 q2) fun d s3 ⟨z, H3, I3, r3, k, e, q3⟩ => ?_)) hm
 subst e
 cases r3
 refine wpAny_truthy_bool ?_
 cases k with
 | false =>
  obtain ⟨k', e', q'⟩ := q3
  cases e'
  exact ite_ff ⟨H3, I3, q'⟩
 | true =>
  refine ite_tt (test_last (thn (hc pins s3 σ H3 _ I3 q3) fun w' s4 ⟨z', H4, I4, r4, q4⟩ => thn (ho' pins s4 σ H4 y z' u w' _ I4 r2 r4 q4) fun d' s5 ⟨z2, H5, I5, r5, k2, e2, q5⟩ => ?_))
  subst e2
  cases r5
  exact wpAny_truthy_bool ⟨H5, I5, q5⟩
theorem line63 : (sizeLine : Nat) < 2 ^ 63 := by rw [sizeLine_eq]; decide
theorem op_add_str : OpR X (binaryOp .Add) (fun x y H Q => ∃ i j, x = .str i ∧ y = .str j ∧ i.length + j.length ≤ sizeLine ∧ Q (.str (i ++ j)) H) := by
 intro pins s σ H x y v u Q I rx ry h
 obtain ⟨i, j, rfl, rfl, hz, q⟩ := h
 obtain ⟨t, rfl⟩ := rx
 obtain ⟨t', rfl⟩ := ry
 exact add_str (fun t' tk => ⟨.str (i ++ j), H, I.tok _, ⟨_, rfl⟩, q⟩) hz
theorem vals1 {x : V} {us : List Value} (r : Vals [x] us) : ∃ u, us = [u] ∧ RelV x u := by
 cases r with
 | cons r1 r2 => cases r2; exact ⟨_, rfl, r1⟩
theorem vals2 {x y : V} {us : List Value} (r : Vals [x, y] us) : ∃ u w', us = [u, w'] ∧ RelV x u ∧ RelV y w' := by
 cases r with
 | cons r1 r2 =>
  cases r2 with
  | cons r3 r4 => cases r4; exact ⟨_, _, rfl, r1, r3⟩
theorem call_min2 (hc : X.calm = true) : CallR X (.builtin "min") (fun xs H Q => ∃ i j, xs = [.int i, .int j] ∧ Q (.int (if j < i then j else i)) H) := by
 intro pins s σ H xs us Q I r h
 obtain ⟨i, j, rfl, q⟩ := h
 obtain ⟨u, w', rfl, ⟨t, rfl⟩, ⟨t', rfl⟩⟩ := vals2 r
 refine min_two_ints (I.ok.hd hc) fun h' tk k => ⟨_, H, I.kept k, ?_, q⟩
 by_cases hj : j < i
 ·rw [if_pos hj, if_pos hj]; exact ⟨_, rfl⟩
 ·rw [if_neg hj, if_neg hj]; exact ⟨_, rfl⟩
theorem call_int1 : CallR X (.type "int") (fun xs H Q => (∃ i, xs = [.int i] ∧ Q (.int i) H) ∨ ∃ k, xs = [.bl k] ∧ Q (.int (if k then 1 else 0)) H) := by
 intro pins s σ H xs us Q I r h
 rcases h with ⟨i, rfl, q⟩ | ⟨k, rfl, q⟩
 ·obtain ⟨u, rfl, t, rfl⟩ := vals1 r
  exact call_int_int ⟨.int i, H, I, ⟨_, rfl⟩, q⟩
 ·obtain ⟨u, rfl, r1⟩ := vals1 r
  cases r1
  exact call_int_bool ⟨.int (if k then 1 else 0), H, I.tok _, ⟨_, rfl⟩, q⟩
theorem call_str_int : CallR X (.type "str") (fun xs H Q => ∃ i, xs = [.int i] ∧ i.natAbs.log2 < 1920 ∧ Q (.str (toString i)) H) := by
 intro pins s σ H xs us Q I r h
 obtain ⟨i, rfl, hz, q⟩ := h
 obtain ⟨u, rfl, t, rfl⟩ := vals1 r
 exact PySem.P.str_of_int hz ⟨.str _, H, I.tok _, ⟨_, rfl⟩, q⟩
end
end L2
namespace L2
open PySem PySem.Spec PyProof.Rows
structure ObjM (h : Heap) (x dx C : Addr) (mA : Str → Option Value) : Prop where
 obj : h.get? x = some (PySem.W.instObj C dx)
 ns : h.Ns1 dx mA
 ne : dx ≠ x
theorem lookIn_ns {h : Heap} {dx : Addr} {mA : Str → Option Value} (n : h.Ns1 dx mA) : ∃ od, h.get? dx = some od ∧ ∀ name, PySem.W.lookIn name od = some (mA name) := by
 obtain ⟨o, es, ep, ho, hd, hk, _, hm⟩ := n
 refine ⟨o, ho, fun name => ?_⟩
 have e := hm name
 unfold nsFind findBy at e
 rw [← Array.find?_toList] at e
 unfold PySem.W.lookIn
 rw [hd]
 dsimp only
 split
 ·rename_i y q
  rw [q] at e
  exact congrArg some e
 ·rename_i q
  rw [q] at e
  have a : es.toList.any (·.refKey) = false := by
   rw [List.any_eq_false]
   intro y hy
   obtain ⟨z, t, hkey⟩ := hk y (Array.mem_toList_iff.mp hy)
   simp [DictEntry.refKey, hkey]
  have a' : ¬ es.toList.any (·.refKey) = true := by rw [a]; exact Bool.false_ne_true
  rw [if_neg a']
  exact congrArg some e
theorem ObjM.look {h : Heap} {x dx C : Addr} {mA : Str → Option Value} (I : ObjM h x dx C mA) : ∃ od, PySem.W.InstAt h x (PySem.W.instObj C dx) C (some od) ∧ ∀ name, PySem.W.lookIn name od = some (mA name) :=
 let ⟨od, ho, hl⟩ := lookIn_ns I.ns
 ⟨od, ⟨I.obj, rfl, rfl, ho⟩, hl⟩
section
variable {prog : Program} {w : World} {A : Around} {E : Value → Shared → Prop} {s : Shared} {K : PySem.W.Frag} {x dx C f : Addr} {mA : Str → Option Value} {name : Str} {v : Value}
end
def putF (f : Str) (v : V) : List (Str × V) → List (Str × V)
 | [] => [(f, v)]
 | (g, x) :: r => if g = f then (g, v) :: r else (g, x) :: putF f v r
section
variable {P : Program} {w : World} {H H' : Hp} {h h' : Heap} {a C dx : Addr} {fs fs' : List (Str × V)}
theorem ins_get (hok : HOk P w H h) (e : H a = some (.ins C dx fs)) : ∃ mA, ObjM h a dx C mA ∧ (∀ f, RelO (fs.lookup f) (mA f)) ∧ PySem.Within mA (fs.map (·.1)) ∧ fs.length ≤ 1000 ∧ H dx = some (.own a) := by
 obtain ⟨d, z, ne, ob, mA, n, r, q⟩ := (show ObjOk P w H h a (.ins C dx fs) from hok a _ e)
 exact ⟨mA, ⟨ob, n, ne⟩, r, q, z, d⟩
end
structure Cls (K : PySem.W.Frag) (C : Addr) : Prop where
 pg : PySem.W.plainGet K C Str.empty = true
 hd : PySem.W.hasDictIn K C = true
 po : PySem.W.plainOver K C = true
 sa : PySem.W.findIn K (.ref C) "__setattr__" = some (some (.builtin "object.__setattr__"))
theorem Cls.get {K : PySem.W.Frag} {C : Addr} (c : Cls K C) (f : Str) : PySem.W.plainGet K C f = true := c.pg
section
variable {X : Cx} {pins : List (Addr × Obj)} {σ : St} {H : Hp} {s : Shared} {a C dx : Addr} {fs : List (Str × V)} {f : Str} {v : V} {A : Around} {E : Value → Shared → Prop}
end
section
variable {X : Cx} {o e value : Expr} {f : Str} {pos pos' tpos : Pos} {ta tv : TE}
end
section
variable {X : Cx} {pins : List (Addr × Obj)} {σ : St} {H : Hp} {s : Shared} {A : Around} {E : Value → Shared → Prop} {Q : Value → Shared → Prop} {c : Value} {b : Bool}
inductive TyOf (K : PySem.W.Frag) (H : Hp) : V → Value → Prop where
 | non : TyOf K H .non (.type "NoneType")
 | bl (x : Bool) : TyOf K H (.bl x) (.type "bool")
 | int (i : Int) : TyOf K H (.int i) (.type "int")
 | str (x : Str) : TyOf K H (.str x) (.type "str")
 | flt (x : UInt64) : TyOf K H (.flt x) (.type "float")
 | lst {a : Addr} {xs : List V} (e : H a = some (.lst xs)) : TyOf K H (.ref a) (.type "list")
 | frz {a : Addr} {o : Obj} {xs : List V} (e : H a = some (.frz o (.lst xs))) : TyOf K H (.ref a) (.type "list")
 | tup {a : Addr} {xs : List V} (e : H a = some (.tup xs)) : TyOf K H (.ref a) (.type "tuple")
 | dK {a : Addr} {kvs : List (Key × V)} (e : H a = some (.dK kvs)) : TyOf K H (.ref a) (.type "dict")
 | dT {a : Addr} {kvs : List (List Key × V)} (e : H a = some (.dT kvs)) : TyOf K H (.ref a) (.type "dict")
 | ins {a C dx : Addr} {fs : List (Str × V)} (e : H a = some (.ins C dx fs)) (cl : Cls K C) (ha : PySem.W.findIn K (.ref C) "__class__" = some (some (.builtin "object.__class__")))
   (hn : PySem.W.specialIn K (.builtin "object.__class__") "__get__" = some (some (.builtin "getset_descriptor.__get__"))) (htk : PySem.W.takesIn K (.builtin "object.__class__") = some true)
   (hm : PySem.W.mroIn K C (.type "object") = some true) : TyOf K H (.ref a) (.ref C)
theorem isinst_ok {x : V} {u t : Value} (I : Inv X pins σ H s) (rx : RelV x u) (ty : TyOf X.K H x t) (e : PySem.W.kitOne X.K t c = some b) (h : ∀ tk, Q (.bool b) { s with toks := tk }) :
  wpAny (model X.prog X.w) A (call (.builtin "isinstance") [u, c]) Q E s := by
 cases ty with
 | non => cases (show u = Value.none from rx); exact PySem.W.kia_one PySem.W.kitx_none I.kIn True.intro e (fun z => nomatch z) h
 | bl y => cases (show u = Value.bool y from rx); exact PySem.W.kia_one PySem.W.kitx_bool I.kIn True.intro e (fun z => nomatch z) h
 | int i => obtain ⟨t, q⟩ := (show ∃ t, u = Value.int i t from rx); cases q; exact PySem.W.kia_one PySem.W.kitx_int I.kIn True.intro e (fun z => nomatch z) h
 | str y => obtain ⟨t, q⟩ := (show ∃ t, u = Value.str y t from rx); cases q; exact PySem.W.kia_one PySem.W.kitx_str I.kIn True.intro e (fun z => nomatch z) h
 | flt y => obtain ⟨t, q⟩ := (show ∃ t, u = Value.float y t from rx); cases q; exact PySem.W.kia_one PySem.W.kitx_float I.kIn True.intro e (fun z => nomatch z) h
 | @lst a xs ea =>
  cases (show u = Value.ref a from rx)
  obtain ⟨_, _, n, _, h1⟩ := (show ObjOk X.prog X.w H s.heap a (.lst xs) from I.hok a _ ea)
  exact PySem.W.kia_one PySem.W.kitx_list I.kIn ⟨_, h1, rfl⟩ e (fun z => nomatch z) h
 | @frz a ob xs ea =>
  cases (show u = Value.ref a from rx)
  obtain ⟨_, _, _, n, _, h1⟩ := (show ObjOk X.prog X.w H s.heap a (.frz ob (.lst xs)) from I.hok a _ ea)
  exact PySem.W.kia_one PySem.W.kitx_list I.kIn ⟨_, h1, rfl⟩ e (fun z => nomatch z) h
 | @tup a xs ea =>
  cases (show u = Value.ref a from rx)
  obtain ⟨_, _, _, p⟩ := (show ObjOk X.prog X.w H s.heap a (.tup xs) from I.hok a _ ea)
  obtain ⟨o, h1, h2, _⟩ := p
  exact PySem.W.kia_one PySem.W.kitx_tuple I.kIn ⟨o, h1, h2⟩ e (fun z => nomatch z) h
 | @dK a kvs ea =>
  cases (show u = Value.ref a from rx)
  obtain ⟨_, _, vs, _, p⟩ := (show ObjOk X.prog X.w H s.heap a (.dK kvs) from I.hok a _ ea)
  obtain ⟨o, es, ep, h1, h2, _⟩ := p
  exact PySem.W.kia_one PySem.W.kitx_dict I.kIn ⟨o, h1, h2.1⟩ e (fun z => nomatch z) h
 | @dT a kvs ea =>
  cases (show u = Value.ref a from rx)
  obtain ⟨_, _, xs, _, o, es, ep, h1, h2, _⟩ := (show ObjOk X.prog X.w H s.heap a (.dT kvs) from I.hok a _ ea)
  exact PySem.W.kia_one PySem.W.kitx_dict I.kIn ⟨o, h1, h2.1⟩ e (fun z => nomatch z) h
 | @ins a C dx fs ea cl ha hn htk hm =>
  cases (show u = Value.ref a from rx)
  obtain ⟨mA, O, _⟩ := ins_get I.hok ea
  obtain ⟨od, J, _⟩ := O.look
  exact PySem.W.kia_one (PySem.W.kitx_own (cl.get _) cl.hd ha hn htk hm) I.kIn J e (fun z => nomatch z) h
end
end L2
namespace L2
open PySem PySem.Spec PyProof.Rows
structure Room (k : Nat) (A : Around) : Prop where
 hd : A.handled = none
 dp : A.depth + 3 * k + 5 < recursionLimit
 un : A.units + 16 * k + 200 < cLine
theorem Room.mono {j k : Nat} {A : Around} (r : Room k A) (h : j ≤ k) : Room j A := ⟨r.hd, by have := r.dp; omega, by have := r.un; omega⟩
theorem Room.deeper {k : Nat} {A : Around} (r : Room (k + 1) A) (env : Env) : Room k (A.deeper env) :=
 ⟨r.hd, by have := r.dp; show A.depth + 1 + 3 * k + 5 < _; omega, by have := r.un; show A.units + 3 + 16 * k + 200 < _; omega⟩
theorem Room.depth {k : Nat} {A : Around} (r : Room k A) : A.depth < recursionLimit := by have := r.dp; omega
def tNil : TA := fun _ H Q => Q [] H
def tCons (ta : TE) (tr : TA) : TA := fun σ H Q => ta σ H fun x H1 => tr σ H1 fun xs H2 => Q (x :: xs) H2
section
variable {X : Cx} {e : Expr} {es : List Expr} {te : TE} {t : TA} {pos : Pos}
theorem pa_nil : PA X [] tNil := fun _ _ _ _ H Q I h => Calls.spliced_nil ⟨[], H, I, .nil, h⟩
theorem pa_cons (ha : PE X e te) (hr : PA X es t) (hs : starEach (e :: es) X.env = (false, eval e X.env) :: starEach es X.env := by rfl) : PA X (e :: es) (tCons te t) := by
 intro pos pins s σ H Q I h
 rw [hs]
 show wpAny _ _ (spliced ((false, eval e X.env) :: backTo pos (starEach es X.env))) _ _ s
 refine Calls.spliced_cons (thn (ha pins s σ H _ I h) fun u s1 ⟨x, H1, I1, r1, q1⟩ => ?_)
 exact thn (hr pos pins s1 σ H1 _ I1 q1) fun us s2 ⟨xs, H2, I2, r2, q2⟩ => ⟨x :: xs, H2, I2, .cons r1 r2, q2⟩
def tTup (t : TA) : TE := fun σ H Q => t σ H fun xs H1 => xs.length ≤ sizeLine ∧ ∀ p, H1 p = none → Q (.ref p) (upd H1 p (.tup xs))
def tLst (t : TA) : TE := fun σ H Q => t σ H fun xs H1 => xs.length ≤ sizeLine ∧ ∀ p, H1 p = none → Q (.ref p) (upd H1 p (.lst xs))
theorem pe_tup {x1} (h : PA X es t) : PE X (.Tuple es x1 pos) (tTup t) := by
 intro pins s σ H Q I hq
 refine wpAny_Tuple_spliced (thn (h pos pins s σ H _ I hq) fun us s1 ⟨xs, H1, I1, r, z, q⟩ => ⟨by rw [← r.length]; exact z, ?_⟩)
 have hf : H1 s1.heap.objs.size = none := I1.hok.fresh (Nat.le_refl _)
 refine ⟨.ref s1.heap.objs.size, upd H1 s1.heap.objs.size (.tup xs), I1.laid (t' := s1.toks) (fun b u e => Heap.get?_push_of_some _ e) (Nat.le_refl _) ?_, rfl, q _ hf⟩
 exact ⟨z, us, r, ⟨_, Heap.get?_push_size _ rfl, rfl, rfl, _, rfl⟩⟩
theorem pe_lst (h : PA X es t) : PE X (.List es pos) (tLst t) := by
 intro pins s σ H Q I hq
 refine wpAny_List_spliced (thn (h pos pins s σ H _ I hq) fun us s1 ⟨xs, H1, I1, r, z, q⟩ => ⟨by rw [← r.length]; exact z, ?_⟩)
 have hf : H1 s1.heap.objs.size = none := I1.hok.fresh (Nat.le_refl _)
 refine ⟨.ref s1.heap.objs.size, upd H1 s1.heap.objs.size (.lst xs), I1.laid (t' := s1.toks) (fun b u e => Heap.get?_push_of_some _ e) (Nat.le_refl _) ?_, rfl, q _ hf⟩
 exact ⟨z, us, 0, r, Heap.get?_push_size _ rfl⟩
end
abbrev Sp := List V → Hp → VK → XK → Prop
abbrev CXT := List Env → Hp → Shared → XK → Value → Shared → Prop
structure Env0 (P : Program) (w : World) (K : PySem.W.Frag) (mg : Str → Option Value) (base : Heap) (A : Around) (outer : List Env) (s : Shared) (H : Hp) : Prop where
 frames : A.frames = some outer
 mod : Mod K mg base
 bs : ∀ b o, base.get? b = some o → s.heap.get? b = some o ∧ H b = none
 bsz : base.objs.size ≤ s.heap.objs.size
 funs : s.heap.FunFrames base outer
 frf : ∀ b ∈ frs outer, H b = none
 hok : HOk P w H s.heap
 bare : AllBare s.gens
def CE (outer : List Env) (P : Program) (w : World) (H : Hp) (s : Shared) (Q : VK) (u : Value) (s' : Shared) : Prop :=
 ∃ v H', s'.os = s.os ∧ AllBare s'.gens ∧ Un (frs outer) [] H H' s.heap s'.heap ∧ HOk P w H' s'.heap ∧ RelV v u ∧ Q v H'
def CR (CX : CXT) (outer : List Env) (P : Program) (w : World) (H : Hp) (s : Shared) (Q : VK) (E : XK) (r : Result) (s' : Shared) : Prop :=
 match r with
 | .ok (.ret u) => CE outer P w H s Q u s'
 | .ok _ => False
 | .error e => CX outer H s E e s'
structure FnOk (P : Program) (w : World) (K : PySem.W.Frag) (mg : Str → Option Value) (base : Heap) (CX : CXT) (k : Nat) (f : Addr) (fd : FuncData) (ps : List Str) (sp : Sp) : Prop where
 len : ∀ vs H Q E, sp vs H Q E → vs.length = ps.length
 run : ∀ (A : Around) (outer : List Env) (s : Shared) (H : Hp) (args : Args) (us : List Value) (vs : List V) (Q : VK) (E : XK), Room k A → Env0 P w K mg base A outer s H → BindsTo s fd args (ps.zip us) → Vals vs us → sp vs H Q E →
  codeAny (model P w) A (.call (.ref f) args) (CR CX outer P w H s Q E) s
section
variable {X : Cx} {pins : List (Addr × Obj)} {σ : St} {H : Hp} {s s' : Shared}
theorem Inv.env0 (I : Inv X pins σ H s) : Env0 X.prog X.w X.K X.mg X.base X.A X.stack s H :=
 ⟨I.ok.frames, I.ok.mod, I.bs, Nat.le_trans I.ok.bsz I.sz, I.stack, I.stkFree, I.hok, I.bare⟩
theorem Inv.after {Q : VK} {u : Value} (I : Inv X pins σ H s) (h : CE X.stack X.prog X.w H s Q u s') : EP X pins σ Q u s' := by
 obtain ⟨v, H', os, bare, un, hok, r, q⟩ := h
 obtain ⟨hh, g, d, t, os'⟩ := s'
 obtain rfl : os' = s.os := os
 exact ⟨v, H', I.call (h' := hh) (g' := g) (d' := d) (t' := t) (ch := []) un hok bare (fun b z => absurd z (by simp)), r, q⟩
end
def tCall (sp : Sp) (dvs : List V) (E : XK) (t : TA) : TE := fun σ H Q => t σ H fun vs H1 => sp (vs ++ dvs) H1 Q E
def Binds (K : PySem.W.Frag) (fd : FuncData) (ps : List Str) (ds : List Value) : Prop :=
 ∀ (s : Shared) (us : List Value), K.In s.heap → (us ++ ds).length = ps.length → BindsTo s fd ⟨us, []⟩ (ps.zip (us ++ ds))
theorem Binds.all {K : PySem.W.Frag} {fd : FuncData} {ps : List Str} (h : ∀ us : List Value, us.length = ps.length → bindArgs fd ⟨us, []⟩ = pure (ps.zip us)) : Binds K fd ps [] := fun s us _ hl => by
 rw [List.append_nil] at hl ⊢
 exact .of_eq (h us hl)
def Passes (CX : CXT) (X : Cx) (E : XK) : Prop := ∀ (pins : List (Addr × Obj)) (σ : St) (H : Hp) (s : Shared) (e : Value) (s' : Shared), Inv X pins σ H s → CX X.stack H s E e s' → X.xe e s'
section
variable {X : Cx} {CX : CXT} {k : Nat} {f C : Addr} {fd : FuncData} {ps : List Str} {sp : Sp} {dvs : List V} {ds : List Value} {E : XK} {x m : Str} {p pos apos : Pos} {e o : Expr} {es : List Expr} {ta : TE} {t : TA}
theorem run_fn {pins : List (Addr × Obj)} {σ : St} {H : Hp} {s : Shared} {Q : VK} {us : List Value} {vs : List V} (F : FnOk X.prog X.w X.K X.mg X.base CX k f fd ps sp) (hr : Room k X.A) (hb : Binds X.K fd ps ds) (hd : Vals dvs ds) (hx : Passes CX X E)
  (I : Inv X pins σ H s) (r : Vals vs us) (h : sp (vs ++ dvs) H Q E) : wpAny (model X.prog X.w) X.A (call (.ref f) us) (EP X pins σ Q) X.xe s := by
 have r2 : Vals (vs ++ dvs) (us ++ ds) := r.append hd
 have hl : (us ++ ds).length = ps.length := by rw [← r2.length]; exact F.len _ _ _ _ h
 refine wpAny_call (codeAny_mono (F.run X.A X.stack s H ⟨us, []⟩ (us ++ ds) (vs ++ dvs) Q E hr I.env0 (hb s us I.kIn hl) r2 h) fun r s' hq => ?_)
 cases r with
 | error e => exact hx pins σ H s e s' I hq
 | ok fl =>
  cases fl with
  | ret u => exact I.after hq
  | next => exact False.elim hq
  | brk => exact False.elim hq
  | cont => exact False.elim hq
theorem pe_call (F : FnOk X.prog X.w X.K X.mg X.base CX k f fd ps sp) (hr : Room k X.A) (hg : Gl X x) (hm : X.mg x = some (.ref f)) (hk : PySem.W.keepIn X.K (.ref f) = true) (hb : Binds X.K fd ps ds) (hd : Vals dvs ds) (hx : Passes CX X E)
  (ha : PA X (e :: es) t) (hdb : (x == ("__debug__" : Str)) = false := by decide) (he : starEach (e :: es) X.env = (false, eval e X.env) :: starEach es X.env := by rfl) (hpl : (backTo pos (starEach es X.env)).any (·.1) = false := by rfl) :
  PE X (.Call (.Name x p) (e :: es) [] pos) (tCall sp dvs E t) := by
 intro pins s σ H Q I h
 refine wpAny_Call_Name_kw (ld_glob I hg hm ?_ hdb)
 refine PySem.W.callWith_K (h₀ := X.base) I.ok.mod.kin hk (thn (ha pos pins s σ H _ I h) fun us s1 ⟨vs, H1, I1, r, q⟩ => ⟨I1.kIn, ?_⟩) he hpl
 exact run_fn F hr hb hd hx I1 r q
end
section
variable {X : Cx} {CX : CXT} {k : Nat} {f C : Addr} {fd : FuncData} {ps ks : List Str} {sp : Sp} {E : XK} {x m : Str} {p pos apos kpos : Pos} {e o : Expr} {es : List Expr} {kws : List Keyword} {te ta : TE} {t tk : TA} {nm : Option Str}
variable {g : List Value → List Value → List Value} {gV : List V → List V → List V}
end
structure FnScope (N P : List Str) (sc : Scope) : Prop where
 kind : sc.kind = .function
 co : sc.isCoroutine = false
 gen : sc.isGenerator = false
 nd : N.Nodup
 pre : N.take P.length = P
 par : ∀ x ∈ P, sc.names.lookup x = some .local ∨ sc.names.lookup x = some .cell
 nofree : ∀ y ∈ sc.names, y.2 ≠ .free
theorem bindL_out {kindOf : Str → Option NameKind} {x : Str} : ∀ {binds : List (Str × Value)} {m : Str → Option Value}, (∀ v, (x, v) ∉ binds) → bindL kindOf binds m x = m x
 | [], _, _ => rfl
 | (n, v) :: r, m, h => by
  unfold bindL
  rw [bindL_out fun w hw => h w (List.mem_cons_of_mem _ hw)]
  split
  ·have : x ≠ n := by rintro rfl; exact h v List.mem_cons_self
   simp [this]
  ·rfl
theorem bindC_out {kindOf : Str → Option NameKind} {x : Str} : ∀ {binds : List (Str × Value)} {m : Str → Option Value}, (∀ v, (x, v) ∉ binds) → bindC kindOf binds m x = m x
 | [], _, _ => rfl
 | (n, v) :: r, m, h => by
  unfold bindC
  rw [bindC_out fun w hw => h w (List.mem_cons_of_mem _ hw)]
  split
  ·rfl
  ·have : x ≠ n := by rintro rfl; exact h v List.mem_cons_self
   simp [this]
theorem bindL_get {kindOf : Str → Option NameKind} {x : Str} {v : Value} : ∀ {P : List Str} {vs : List Value} {i : Nat} {m : Str → Option Value}, P.Nodup → P[i]? = some x → vs[i]? = some v → kindOf x = some .local →
  bindL kindOf (P.zip vs) m x = some v
 | [], _, _, _, _, h, _, _ => by simp at h
 | _ :: _, [], _, _, _, _, h, _ => by simp at h
 | p :: P, w :: vs, 0, m, nd, h1, h2, hk => by
  simp at h1 h2; subst h1; subst h2
  show bindL kindOf ((p, w) :: P.zip vs) m p = _
  unfold bindL
  rw [bindL_out fun v hv => (List.nodup_cons.mp nd).1 (List.of_mem_zip hv).1, if_pos hk]
  simp
 | p :: P, w :: vs, i + 1, m, nd, h1, h2, hk => by
  show bindL kindOf ((p, w) :: P.zip vs) m x = _
  unfold bindL
  exact bindL_get (i := i) (List.nodup_cons.mp nd).2 (by simpa using h1) (by simpa using h2) hk
theorem bindC_get {kindOf : Str → Option NameKind} {x : Str} {v : Value} : ∀ {P : List Str} {vs : List Value} {i : Nat} {m : Str → Option Value}, P.Nodup → P[i]? = some x → vs[i]? = some v → kindOf x ≠ some .local →
  bindC kindOf (P.zip vs) m x = some v
 | [], _, _, _, _, h, _, _ => by simp at h
 | _ :: _, [], _, _, _, _, h, _ => by simp at h
 | p :: P, w :: vs, 0, m, nd, h1, h2, hk => by
  simp at h1 h2; subst h1; subst h2
  show bindC kindOf ((p, w) :: P.zip vs) m p = _
  unfold bindC
  rw [bindC_out fun v hv => (List.nodup_cons.mp nd).1 (List.of_mem_zip hv).1, if_neg hk]
  simp
 | p :: P, w :: vs, i + 1, m, nd, h1, h2, hk => by
  show bindC kindOf ((p, w) :: P.zip vs) m x = _
  unfold bindC
  exact bindC_get (i := i) (List.nodup_cons.mp nd).2 (by simpa using h1) (by simpa using h2) hk
def start (N : List Str) (vs : List V) : St := vs.map some ++ List.replicate (N.length - vs.length) none
def cxOf (CX : CXT) (P : Program) (w : World) (K : PySem.W.Frag) (mg : Str → Option Value) (base : Heap) (N : List Str) (qual : Str) (scope : Scope) (f : Addr) (cd : Value) (A : Around) (outer : List Env) (s : Shared) (H : Hp) (E : XK) : Cx where
 prog := P
 w := w
 K := K
 mg := mg
 base := base
 A := A.deeper (envOfC qual scope s.heap.objs.size f cd)
 N := N
 s₀ := s
 H₀ := H
 env := envOfC qual scope s.heap.objs.size f cd
 outer := outer
 stack := envOfC qual scope s.heap.objs.size f cd :: outer
 ex := []
 calm := true
 fn := fun _ => true
 pn := []
 xe := fun e s' => wpAny (model P w) (A.deeper (envOfC qual scope s.heap.objs.size f cd)) (leaving (envOfC qual scope s.heap.objs.size f cd) e) (fun _ s'' => CX outer H s E e s'') (fun e' s'' => CX outer H s E e' s'') s'
theorem cell_has {sc : Scope} {n : Nat} {x : Str} (h : sc.names.lookup x = some .cell) : ∃ c, (cellsFrom n sc.names []).lookup x = some c := by
 have q := PySem.W.cellsFrom_some sc.names n [] (.inl h)
 exact Option.isSome_iff_exists.mp q
theorem inv_start {CX : CXT} {P : Program} {w : World} {K : PySem.W.Frag} {mg : Str → Option Value} {base : Heap} {N ps : List Str} {qual : Str} {scope : Scope} {f : Addr} {cd : Value} {A : Around} {outer : List Env} {s s1 : Shared} {H : Hp} {E : XK} {us : List Value} {vs : List V}
  (S : FnScope N ps scope) (hd : A.handled = none) (e0 : Env0 P w K mg base A outer s H) (hl : vs.length = ps.length) (r : Vals vs us)
  (x : InCallC s s.heap.objs.size (bindL (envOfC qual scope s.heap.objs.size f cd).kindOf (ps.zip us) fun _ => none) (cellsFrom (s.heap.objs.size + 1) scope.names []) (bindC (envOfC qual scope s.heap.objs.size f cd).kindOf (ps.zip us) fun _ => none) s1) :
  Inv (cxOf CX P w K mg base N qual scope f cd A outer s H E) [] (start N vs) H s1 := by
 have hpl : ps.length ≤ N.length := by have := congrArg List.length S.pre; rw [List.length_take] at this; omega
 obtain ⟨h1, tk, rfl, hk⟩ := x.done
 have noA : ∀ b : Addr, b ∉ (cxOf CX P w K mg base N qual scope f cd A outer s H E).ex := fun b z => absurd (show b ∈ ([] : List Addr) from z) (by simp)
 refine ⟨⟨e0.mod, S.kind, rfl, rfl, Nat.le_refl _, fun y z c h1 h2 => ?_, fun y hy => ?_, fun y c _ h => ?_, fun _ => hd, Around.frames_deeper e0.frames, .inr ⟨rfl, rfl⟩, fun b z => absurd z (noA b), e0.bs, e0.bsz, fun b _ _ => noA b, fun b z => absurd z (noA b), e0.funs, e0.frf⟩,
  rfl, e0.bare, Un.kept hk, ⟨_, x.toInCall.ns, fun i y v h1 h2 h3 => ?_⟩, fun y c h => ⟨_, x.cell y c h⟩, e0.hok.fresh (Nat.le_refl _), fun y c h => ?_, fun p hp => absurd (show p ∈ ([] : List (Addr × Obj)) from hp) (by simp), e0.hok.kept hk, ?_⟩
 ·exact name_of_addr x.apart (PySem.mem_of_lookup h1) (PySem.mem_of_lookup h2)
 ·have hy : scope.names.lookup y = some .cell ∨ scope.names.lookup y = some .free := hy
  rcases hy with hy | hy
  ·exact cell_has hy
  ·exact absurd rfl (S.nofree _ (PySem.mem_of_lookup hy))
 ·exact Nat.le_of_lt (x.above y c (PySem.mem_of_lookup h))
 ·have hi : i < vs.length := by
   unfold start at h2
   by_cases hi : i < vs.length
   ·exact hi
   ·rw [List.getElem?_append_right (by simpa using hi)] at h2
    rw [List.getElem?_replicate] at h2
    split at h2 <;> cases h2
  have ha : vs[i]? = some v := by
   unfold start at h2
   rw [List.getElem?_append_left (by simpa using hi), List.getElem?_map] at h2
   cases e : vs[i]? with
   | none => rw [e] at h2; cases h2
   | some a => rw [e] at h2; cases h2; rfl
  obtain ⟨u, hu, rv⟩ := r.get ha
  have hp : ps[i]? = some y := by
   rw [← S.pre, List.getElem?_take_of_lt (by omega)]; exact h1
  have ndP : ps.Nodup := by rw [← S.pre]; exact S.nd.sublist (List.take_sublist _ _)
  refine ⟨u, rv, ?_⟩
  rcases S.par y (List.mem_of_getElem? hp) with k | k
  ·exact .inl ⟨k, bindL_get ndP hp hu k⟩
  ·obtain ⟨c, e⟩ := cell_has (n := s.heap.objs.size + 1) k
   refine .inr ⟨.inl k, c, e, ?_⟩
   have q := x.cell y c e
   rw [bindC_get ndP hp hu (by show scope.names.lookup y ≠ _; rw [k]; decide)] at q
   exact q
 ·exact e0.hok.fresh (Nat.le_of_lt (x.above y c (PySem.mem_of_lookup h)))
 ·unfold start
  show _ = N.length
  rw [List.length_append, List.length_map, List.length_replicate]
  omega
theorem fn_of {CX : CXT} {P : Program} {w : World} {K : PySem.W.Frag} {mg : Str → Option Value} {base : Heap} {k : Nat} {f : Addr} {name qual : Str} {params : Arguments} {body : List Stmt} {scope : Scope} {dV kV doc pm cdv ct oc : Value} {an od : Option Addr}
  {osl : Array (Option Value)} {N ps : List Str} {sp : Sp} (lk : K.lookup f = some ⟨oc, od, .func (PySem.W.fnOf name qual params body scope dV kV doc pm an cdv ct), osl⟩) (hcd : PySem.W.codeIn K cdv qual = true) (S : FnScope N ps scope)
  (len : ∀ vs H Q E, sp vs H Q E → vs.length = ps.length)
  (hbody : ∀ (A : Around) (outer : List Env) (s : Shared) (H : Hp) (vs : List V) (Q : VK) (E : XK), Room k (A.deeper (envOfC qual scope s.heap.objs.size f cdv)) → sp vs H Q E →
   ∃ t, PSs (cxOf CX P w K mg base N qual scope f cdv A outer s H E) body t ∧ t { nx := fun _ H' => Q .non H', rt := Q } (start N vs) H) :
  FnOk P w K mg base CX (k + 1) f (PySem.W.fnOf name qual params body scope dV kV doc pm an cdv ct) ps sp := by
 refine ⟨len, fun A outer s H args us vs Q E hr e0 hb r hsp => ?_⟩
 have hl := len _ _ _ _ hsp
 have KX : K.In s.heap := e0.mod.kin.keeps fun b o e => (e0.bs b o e).1
 have lim : s.heap.NoLimit := e0.mod.nolimit.keeps fun b o e => (e0.bs b o e).1
 have hkind : ∀ y ∈ ps.zip us, scope.names.lookup y.1 = some .local ∨ (scope.names.lookup y.1 = some .cell ∧ ((cellsFrom (s.heap.objs.size + 1) scope.names []).lookup y.1).isSome = true) := fun ⟨n, v⟩ hy => by
  rcases S.par n (List.of_mem_zip hy).1 with q | q
  ·exact .inl q
  ·exact .inr ⟨q, PySem.W.cellsFrom_some _ _ _ (.inl q)⟩
 refine codeAny_call_function hr.depth (KX _ _ lk) rfl S.co S.gen rfl (PySem.W.codeRec_of KX hcd) (hb _ _ _ _ ?_)
 refine wpAny_newFunctionEnv_cells S.kind hkind fun env he s1 x => ?_
 subst he
 refine ⟨lim.keeps x.toInCall.keep, codeAny_func ?_⟩
 obtain ⟨t, ht, hq⟩ := hbody A outer s H vs Q E (hr.deeper _) hsp
 have I : Inv (cxOf CX P w K mg base N qual scope f cdv A outer s H E) [] (start N vs) H s1 := inv_start S hr.hd e0 hl r x
 refine wpAny_mono (ht [] s1 (start N vs) H _ I hq) (fun fl s' hs => ?_) fun e s' hs => hs
 have fin : ∀ {σ' : St} {H' : Hp} {v : V} {u : Value}, Inv (cxOf CX P w K mg base N qual scope f cdv A outer s H E) [] σ' H' s' → RelV v u → Q v H' → CE outer P w H s Q u s' :=
  fun {σ' H' v u} J rv q => ⟨v, H', J.os, J.bare, J.base, J.hok, rv, q⟩
 cases fl with
 | ret u =>
  obtain ⟨v, σ', H', J, rv, q⟩ := hs
  exact fin J rv q
 | next =>
  obtain ⟨σ', H', J, q⟩ := hs
  exact fin (v := V.non) (u := Value.none) J rfl q
 | brk =>
  obtain ⟨_, _, _, q⟩ := hs
  exact False.elim q
 | cont =>
  obtain ⟨_, _, _, q⟩ := hs
  exact False.elim q
end L2
namespace L2
open PySem PySem.Spec PyProof.Rows
section
variable {X : Cx} {x : Str} {p pos : Pos} {e : Expr} {es : List Expr} {t : TA} {id T : String} {r : List V → Hp → VK → Prop}
def tCB (r : List V → Hp → VK → Prop) (t : TA) : TE := fun σ H Q => t σ H fun vs H1 => r vs H1 Q
theorem pe_callB (hc : CallR X (.builtin id) r) (hg : Gl X x) (hm : X.mg x = none) (hv : bootBuiltins x = some (.builtin id)) (ha : PA X (e :: es) t) (hn : x ≠ "__name__" := by decide) (hdb : (x == ("__debug__" : Str)) = false := by decide)
  (he : starEach (e :: es) X.env = (false, eval e X.env) :: starEach es X.env := by rfl) (hpl : (backTo pos (starEach es X.env)).any (·.1) = false := by rfl) : PE X (.Call (.Name x p) (e :: es) [] pos) (tCB r t) := by
 intro pins s σ H Q I h
 refine wpAny_Call_Name_kw (ld_blt I hg hm hv ?_ hn hdb)
 exact PyProof.Rows.callWith_builtin1 (thn (ha pos pins s σ H _ I h) fun us s1 ⟨vs, H1, I1, r1, q1⟩ => hc pins s1 σ H1 vs us Q I1 r1 q1) he hpl
theorem pe_callTy (hc : CallR X (.type T) r) (hg : Gl X x) (hm : X.mg x = none) (hv : bootBuiltins x = some (.type T)) (ha : PA X (e :: es) t) (hn : x ≠ "__name__" := by decide) (hdb : (x == ("__debug__" : Str)) = false := by decide)
  (he : starEach (e :: es) X.env = (false, eval e X.env) :: starEach es X.env := by rfl) (hpl : (backTo pos (starEach es X.env)).any (·.1) = false := by rfl) : PE X (.Call (.Name x p) (e :: es) [] pos) (tCB r t) := by
 intro pins s σ H Q I h
 refine wpAny_Call_Name_kw (ld_blt I hg hm hv ?_ hn hdb)
 exact PyProof.Rows.callWith_type1 (thn (ha pos pins s σ H _ I h) fun us s1 ⟨vs, H1, I1, r1, q1⟩ => hc pins s1 σ H1 vs us Q I1 r1 q1) he hpl
end
end L2
namespace HT
open PySem PyProof.Rows
section
open PySem.SeqAt
open PySem.AutoSeq1 (wpAny_loadPart')
open PySem.MeetsSeq PySem.MeetsSeq2 PySem.MeetsSeq3
end
section
variable {prog : Program} {w : World} {A : Around} {E : Value → Shared → Prop} {s : Shared}
def sIx (n d : Nat) : Option Int → Nat
 | none => d
 | some v => if v < 0 then (v + (n : Int)).toNat else min v.toNat n
theorem sIx_nat (n d k : Nat) : sIx n d (some (k : Int)) = min k n := by
 show (if (k : Int) < 0 then ((k : Int) + (n : Int)).toNat else min (k : Int).toNat n) = min k n
 rw [if_neg (by omega), Int.toNat_natCast]
end
end HT
namespace L2
open PySem PySem.Spec PyProof.Rows
abbrev TO := St → Hp → (Option Int → Hp → Prop) → Prop
def PO (X : Cx) (e : Option Expr) (t : TO) : Prop :=
 ∀ (pins : List (Addr × Obj)) (s : Shared) (σ : St) (H : Hp) (Q : Option Int → Hp → Prop), Inv X pins σ H s → t σ H Q →
  wpAny (model X.prog X.w) X.A (evalPart e X.env) (fun u s' => ∃ o H', Inv X pins σ H' s' ∧ IsPart u o ∧ Q o H') X.xe s
def tNoPart : TO := fun _ H Q => Q none H
def tPart (t : TE) : TO := fun σ H Q => t σ H fun x H1 => ∃ i, x = .int i ∧ Q (some i) H1
section
variable {X : Cx} {e : Expr} {te : TE} {lo hi : Option Expr} {tl th : TO} {pos p2 : Pos}
theorem po_none : PO X none tNoPart := by
 intro pins s σ H Q I h
 rw [evalPart_none]
 exact wpAny_pure ⟨none, H, I, .none, h⟩
theorem po_some (h : PE X e te) : PO X (some e) (tPart te) := by
 intro pins s σ H Q I hw
 rw [evalPart_some]
 refine thn (h pins s σ H _ I hw) fun u s1 ⟨x, H1, I1, r1, q1⟩ => ?_
 obtain ⟨i, rfl, q⟩ := q1
 obtain ⟨t, rfl⟩ := r1
 exact ⟨some i, H1, I1, .int i t, q⟩
def SlR (X : Cx) (r : V → Option Int → Option Int → Hp → VK → Prop) : Prop :=
 ∀ (pins : List (Addr × Obj)) (s : Shared) (σ : St) (H : Hp) (x : V) (v vl vu : Value) (lo hi : Option Int) (sl : Addr) (Q : VK), Inv X pins σ H s → RelV x v → s.heap.IsSliceOf sl vl vu .none → IsPart vl lo → IsPart vu hi → r x lo hi H Q →
  ∃ T id, typeLookup (.type T) "__getitem__" = pure (some (.builtin id)) ∧ s.TypeIs v T ∧ wpAny (model X.prog X.w) X.A (getItem v (.ref sl)) (EP X pins σ Q) X.xe s
def tSl (r : V → Option Int → Option Int → Hp → VK → Prop) (te : TE) (tl th : TO) : TE := fun σ H Q => te σ H fun x H1 => tl σ H1 fun l H2 => th σ H2 fun u H3 => r x l u H3 Q
theorem pe_slice {r : V → Option Int → Option Int → Hp → VK → Prop} (hr : SlR X r) (he : PE X e te) (hl : PO X lo tl) (hu : PO X hi th) : PE X (.Subscript e (.Slice lo hi none p2) pos) (tSl r te tl th) := by
 intro pins s σ H Q I h
 refine Subscript_ (thn (he pins s σ H _ I h) fun v s1 ⟨x, H1, I1, r1, q1⟩ => ?_)
 refine wpAny_Slice (thn (hl pins s1 σ H1 _ I1 q1) fun vl s2 ⟨l, H2, I2, pl, q2⟩ => thn (hu pins s2 σ H2 _ I2 q2) fun vu s3 ⟨u, H3, I3, pu, q3⟩ => ?_)
 rw [evalPart_none]
 refine wpAny_pure ?_
 have I4 : Inv X pins σ H3 { s3 with heap := s3.heap.push { cls := .type "slice", data := .fields #[vl, vu, .none] } } := I3.kept (t' := s3.toks) fun b ob q => Heap.get?_push_of_some _ q
 obtain ⟨T, id, hT, ht, hg⟩ := hr pins { s3 with heap := s3.heap.push { cls := .type "slice", data := .fields #[vl, vu, .none] } } σ H3 x v vl vu l u s3.heap.objs.size Q I4 r1 (Heap.IsSliceOf.new ..) pl pu q3
 show wpAny (model X.prog X.w) X.A (subscriptTail e (.Slice lo hi none p2) v (.ref s3.heap.objs.size)) (EP X pins σ Q) X.xe { s3 with heap := s3.heap.push { cls := .type "slice", data := .fields #[vl, vu, .none] } }
 exact tail_any (ops := [.ref s3.heap.objs.size, v]) ht hT hg (by with_unfolding_all rfl)
def cutV (xs : List V) (lo hi : Option Int) : List V := (xs.drop (HT.sIx xs.length 0 lo)).take (HT.sIx xs.length xs.length hi - HT.sIx xs.length 0 lo)
theorem cutV_length (xs : List V) (lo hi : Option Int) : (cutV xs lo hi).length ≤ xs.length := by
 unfold cutV
 rw [List.length_take, List.length_drop]
 omega
end
end L2
namespace L2
open PySem PySem.Spec PyProof.Rows
def ixN (n : Nat) (i : Int) : Option Nat := if 0 ≤ i then (if i < n then some i.toNat else none) else if -(n : Int) ≤ i then some (i + n).toNat else none
def atI {α : Type} (xs : List α) (i : Int) : Option α := (ixN xs.length i).bind fun j => xs[j]?
theorem ixN_seq {n : Nat} {i : Int} {j : Nat} (h : ixN n i = some j) : seqIndex? i n = some j ∧ j < n ∧ -(n : Int) ≤ i ∧ i < n := by
 unfold ixN at h
 by_cases h0 : 0 ≤ i
 ·rw [if_pos h0] at h
  by_cases h1 : i < n
  ·rw [if_pos h1] at h
   have e : i.toNat = j := Option.some.inj h
   exact ⟨by rw [seqIndex_of h0 h1, e], by omega, by omega, h1⟩
  ·rw [if_neg h1] at h; cases h
 ·rw [if_neg h0] at h
  by_cases h1 : -(n : Int) ≤ i
  ·rw [if_pos h1] at h
   have e : (i + n).toNat = j := Option.some.inj h
   exact ⟨by rw [seqIndex_neg (by omega) h1, e], by omega, h1, by omega⟩
  ·rw [if_neg h1] at h; cases h
theorem atI_get {α : Type} {xs : List α} {i : Int} {v : α} (h : atI xs i = some v) : ∃ j, seqIndex? i xs.length = some j ∧ xs[j]? = some v ∧ j < xs.length ∧ -(xs.length : Int) ≤ i ∧ i < xs.length := by
 unfold atI at h
 cases e : ixN xs.length i with
 | none => rw [e] at h; cases h
 | some j =>
  rw [e] at h
  obtain ⟨h1, h2, h3, h4⟩ := ixN_seq e
  exact ⟨j, h1, h, h2, h3, h4⟩
theorem atI_nat {α : Type} {xs : List α} {j : Nat} {v : α} (h : xs[j]? = some v) : atI xs (j : Int) = some v := by
 have hj : j < xs.length := (List.getElem?_eq_some_iff.mp h).1
 have e : ixN xs.length (j : Int) = some j := by
  unfold ixN
  rw [if_pos (by omega), if_pos (by omega)]; simp
 unfold atI; rw [e]; exact h
def PlainIx (b : Expr) : Prop := ∀ o i, subscripted b false o i = operate [o, i] (getItem o i)
def IxR (X : Cx) (r : R2) : Prop :=
 ∀ (value slice : Expr) (pins : List (Addr × Obj)) (s : Shared) (σ : St) (H : Hp) (x y : V) (v u : Value) (Q : VK), Inv X pins σ H s → RelV x v → RelV y u → r x y H Q →
  subscripted slice false v u = operate [v, u] (getItem v u) → wpAny (model X.prog X.w) X.A (subscriptTail value slice v u) (EP X pins σ Q) X.xe s
def MtR (X : Cx) (id : String) (r : V → List V → Hp → VK → Prop) : Prop :=
 ∀ (pins : List (Addr × Obj)) (s : Shared) (σ : St) (H : Hp) (x : V) (xs : List V) (v : Value) (us : List Value) (Q : VK), Inv X pins σ H s → RelV x v → Vals xs us → r x xs H Q →
  wpAny (model X.prog X.w) X.A (call (.builtin id) (v :: us)) (EP X pins σ Q) X.xe s
section
variable {X : Cx} {a b : Expr} {ta tb : TE} {pos : Pos}
theorem IxR.or {r r' : R2} (h : IxR X r) (h' : IxR X r') : IxR X (fun x y H Q => r x y H Q ∨ r' x y H Q) := by
 intro value slice pins s σ H x y v u Q I rx ry q hs
 rcases q with q | q
 ·exact h value slice pins s σ H x y v u Q I rx ry q hs
 ·exact h' value slice pins s σ H x y v u Q I rx ry q hs
theorem pe_ix {r : R2} (hr : IxR X r) (ha : PE X a ta) (hb : PE X b tb) (hs : PlainIx b) : PE X (.Subscript a b pos) (tOp r ta tb) := by
 intro pins s σ H Q I h
 exact Subscript_ (binT ha hb I h fun v u s2 x y H2 I2 rx ry q => hr a b pins s2 σ H2 x y v u Q I2 rx ry q (hs _ _))
def rIxL (K : PySem.W.Frag) : R2 := fun x y H Q => ∃ p xs i v, x = .ref p ∧ y = .int i ∧ SqL K H p xs ∧ atI xs i = some v ∧ Q v H
def rIxT (K : PySem.W.Frag) : R2 := fun x y H Q => ∃ p xs i v, x = .ref p ∧ y = .int i ∧ SqT K H p xs ∧ atI xs i = some v ∧ Q v H
def rIxS : R2 := fun x y H Q => ∃ z i c, x = .str z ∧ y = .int i ∧ z.length ≤ sizeLine ∧ atI z.cps.toList i = some c ∧ Q (.str ⟨#[c]⟩) H
theorem ix_list : IxR X (rIxL X.K) := by
 intro value slice pins s σ H x y v u Q I rx ry h hs
 obtain ⟨p, xs, i, z, rfl, rfl, hq, he, q⟩ := h
 cases rx
 obtain ⟨t, rfl⟩ := ry
 obtain ⟨its, r, pl, hz⟩ := I.list hq
 obtain ⟨j, h1, h2, h3, h4, h5⟩ := atI_get he
 obtain ⟨w, ew, rw'⟩ := r.get h2
 have hl := r.length
 have hn := line63
 have fin : EP X pins σ Q w s := ⟨z, H, I, rw', q⟩
 by_cases h0 : 0 ≤ i
 ·have hj : i.toNat = j := by
   rw [seqIndex_of h0 h5] at h1
   exact Option.some.inj h1
  exact item_listR pl.isList h0 (by omega) (by rw [hj]; simpa using ew) fin hs
 ·have hj : (i + (its.toArray.size : Int)).toNat = j := by
   rw [seqIndex_neg (by omega) h4] at h1
   rw [List.size_toArray, ← hl]
   exact Option.some.inj h1
  exact subscriptTail_builtinR (x := w) pl.isList.typeIs slot_list_getitem.lookup
   (wpAny_getItem_list_neg (Q := fun r s' => r = w ∧ EP X pins σ Q r s') pl.isList (by omega) (by rw [List.size_toArray] <;> omega) (by omega) (by rw [hj]; simpa using ew) ⟨rfl, fin⟩) hs
theorem ix_tup : IxR X (rIxT X.K) := by
 intro value slice pins s σ H x y v u Q I rx ry h hs
 obtain ⟨p, xs, i, z, rfl, rfl, hq, he, q⟩ := h
 cases rx
 obtain ⟨t, rfl⟩ := ry
 obtain ⟨its, r, pl, hz⟩ := I.tuple hq
 obtain ⟨j, h1, h2, h3, h4, h5⟩ := atI_get he
 obtain ⟨w, ew, rw'⟩ := r.get h2
 have hl := r.length
 have hn := line63
 have fin : EP X pins σ Q w s := ⟨z, H, I, rw', q⟩
 exact subscriptTail_builtinR (x := w) pl.typeIs slot_tuple_getitem.lookup
  (getItem_tuple (j := j) (Q := fun r s' => r = w ∧ EP X pins σ Q r s') pl (by omega) (by omega) (by rw [List.size_toArray, ← hl]; exact h1) (by simpa using ew) ⟨rfl, fin⟩) hs
theorem ix_str : IxR X rIxS := by
 intro value slice pins s σ H x y v u Q I rx ry h hs
 obtain ⟨z, i, c, rfl, rfl, hz, he, q⟩ := h
 obtain ⟨t, rfl⟩ := rx
 obtain ⟨t', rfl⟩ := ry
 obtain ⟨j, h1, h2, h3, h4, h5⟩ := atI_get he
 have hl : z.cps.toList.length = z.length := by simp [Str.length]
 rw [hl] at h1 h4 h5
 have hn := line63
 exact tail_any (typeIs_str s z t) slot_str_getitem.lookup (getItem_str (c := c) (by
  have e1 : decide (i < -(2 ^ 63 : Int)) = false := decide_eq_false (by omega)
  have e2 : decide (i ≥ 2 ^ 63) = false := decide_eq_false (by omega)
  rw [e1, e2, Bool.or_false]) (by rw [h1]; simpa using h2) ⟨.str ⟨#[c]⟩, H, I.tok _, ⟨_, rfl⟩, q⟩) hs
def rIx (K : PySem.W.Frag) : R2 := fun x y H Q => rIxL K x y H Q ∨ rIxT K x y H Q ∨ rIxS x y H Q
theorem ix_seq : IxR X (rIx X.K) := ix_list.or (ix_tup.or ix_str)
theorem slice_bounds (lo hi : Option Int) (n : Nat) : (sliceBounds lo hi none n).1 = ((HT.sIx n 0 lo : Nat) : Int) ∧ (sliceBounds lo hi none n).2.1 = ((HT.sIx n n hi : Nat) : Int) ∧ (sliceBounds lo hi none n).2.2 = 1 := by
 refine ⟨?_, ?_, rfl⟩
 ·cases lo with
  | none => simp [sliceBounds, HT.sIx]
  | some i =>
   simp only [sliceBounds, HT.sIx, Option.getD_none, show (1 : Int) > 0 by decide, if_true]
   by_cases h : i < 0
   ·simp only [h, if_true] <;> omega
   ·simp only [h, if_false] <;> omega
 ·cases hi with
  | none => simp [sliceBounds, HT.sIx]
  | some i =>
   simp only [sliceBounds, HT.sIx, Option.getD_none, show (1 : Int) > 0 by decide, if_true]
   by_cases h : i < 0
   ·simp only [h, if_true] <;> omega
   ·simp only [h, if_false] <;> omega
theorem slicePick_cut (its : List Value) (lo hi : Option Int) : slicePick its.toArray lo hi none = ((its.drop (HT.sIx its.length 0 lo)).take (HT.sIx its.length its.length hi - HT.sIx its.length 0 lo)).toArray := by
 obtain ⟨h1, h2, h3⟩ := slice_bounds lo hi its.toArray.size
 unfold slicePick
 rw [h1, h2, h3]
 simp only [sliceRange_one, pick_run, List.size_toArray] <;> rfl
def rSlL (K : PySem.W.Frag) : V → Option Int → Option Int → Hp → VK → Prop := fun x lo hi H Q => ∃ a xs, x = .ref a ∧ SqL K H a xs ∧ ∀ p, H p = none → Q (.ref p) (upd H p (.lst (cutV xs lo hi)))
theorem sl_list : SlR X (rSlL X.K) := by
 intro pins s σ H x v vl vu lo hi sl Q I rx hs pl pu h
 obtain ⟨a, xs, rfl, hx, q⟩ := h
 cases rx
 obtain ⟨its, r, ht, hz⟩ := I.list hx
 have hlen := r.length
 refine ⟨"list", _, slot_list_getitem.lookup, ht.isList.typeIs, ?_⟩
 refine wpAny_getItem_list_slice ht.isList hs pl pu .none (by simp) ?_ (by rw [List.size_toArray] <;> omega)
 rw [slicePick_cut, ← hlen]
 refine ⟨.ref s.heap.objs.size, _, I.laid (t' := s.toks) (o := .lst (cutV xs lo hi)) (fun b ob q => Heap.get?_push_of_some _ q) (Nat.le_refl _) ?_, rfl, q _ (I.hok.fresh (Nat.le_refl _))⟩
 exact ⟨Nat.le_trans (cutV_length xs lo hi) hz, _, 0, (r.drop (HT.sIx xs.length 0 lo)).take (HT.sIx xs.length xs.length hi - HT.sIx xs.length 0 lo), Heap.get?_push_size _ rfl⟩
def flatV : V → Bool
 | .non => true
 | .bl _ => true
 | .int _ => true
 | .str _ => true
 | _ => false
def eqV : V → V → Bool
 | .non, .non => true
 | .bl a, .bl b => a == b
 | .bl a, .int b => (if a then 1 else 0) == b
 | .int a, .bl b => a == (if b then 1 else 0)
 | .int a, .int b => a == b
 | .str a, .str b => a == b
 | _, _ => false
theorem eqAt_V {A : Around} {s : Shared} {y x : V} {u v : Value} (ry : RelV y u) (rx : RelV x v) (fy : flatV y = true) (fx : flatV x = true) : SeqAt.EqAt A s u v (eqV y x) := by
 cases y with
 | non =>
  cases ry
  cases x with
  | non => cases rx; exact SeqAt.EqAt.same _
  | bl b => cases rx; exact SeqAt.EqAt.none_bool b
  | int b => obtain ⟨t, rfl⟩ := rx; exact SeqAt.EqAt.none_int b t
  | str b => obtain ⟨t, rfl⟩ := rx; exact SeqAt.EqAt.none_str b t
  | _ => exact absurd (show false = true from fx) Bool.false_ne_true
 | bl a =>
  cases ry
  cases x with
  | non => cases rx; exact SeqAt.EqAt.bool_none a
  | bl b => cases rx; exact SeqAt.EqAt.bool_bool a b
  | int b => obtain ⟨t, rfl⟩ := rx; exact SeqAt.EqAt.bool_int a b t
  | str b => obtain ⟨t, rfl⟩ := rx; exact SeqAt.EqAt.bool_str a b t
  | _ => exact absurd (show false = true from fx) Bool.false_ne_true
 | int a =>
  obtain ⟨t', rfl⟩ := ry
  cases x with
  | non => cases rx; exact SeqAt.EqAt.int_none a t'
  | bl b => cases rx; exact SeqAt.EqAt.int_bool a t' b
  | int b => obtain ⟨t, rfl⟩ := rx; exact SeqAt.EqAt.int_int a t' b t
  | str b => obtain ⟨t, rfl⟩ := rx; exact SeqAt.EqAt.int_str a t' b t
  | _ => exact absurd (show false = true from fx) Bool.false_ne_true
 | str a =>
  obtain ⟨t', rfl⟩ := ry
  cases x with
  | non => cases rx; exact SeqAt.EqAt.str_none a t'
  | bl b => cases rx; exact SeqAt.EqAt.str_bool a t' b
  | int b => obtain ⟨t, rfl⟩ := rx; exact SeqAt.EqAt.str_int a t' b t
  | str b => obtain ⟨t, rfl⟩ := rx; exact SeqAt.EqAt.str_str a t' b t
  | _ => exact absurd (show false = true from fx) Bool.false_ne_true
 | _ => exact absurd (show false = true from fy) Bool.false_ne_true
def eqU (x : V) (u : Value) : Bool := match u with
 | .none => eqV .non x
 | .bool b => eqV (.bl b) x
 | .int i _ => eqV (.int i) x
 | .str z _ => eqV (.str z) x
 | _ => false
theorem eqU_of {x y : V} {u : Value} (r : RelV y u) (f : flatV y = true) : eqU x u = eqV y x := by
 cases y with
 | non => cases r; rfl
 | bl b => cases r; rfl
 | int i => obtain ⟨t, rfl⟩ := r; rfl
 | str z => obtain ⟨t, rfl⟩ := r; rfl
 | _ => exact absurd (show false = true from f) Bool.false_ne_true
theorem any_eqU {x : V} : ∀ {xs : List V} {us : List Value}, Vals xs us → xs.all flatV = true → us.any (eqU x) = xs.any fun y => eqV y x
 | _, _, .nil, _ => rfl
 | y :: xs, u :: us, .cons r t, f => by
  rw [List.all_cons, Bool.and_eq_true] at f
  rw [List.any_cons, List.any_cons, eqU_of r f.1, any_eqU t f.2]
theorem mem_eqAt {A : Around} {s : Shared} {x : V} {v : Value} (rx : RelV x v) (fx : flatV x = true) : ∀ {xs : List V} {us : List Value}, Vals xs us → xs.all flatV = true → ∀ u ∈ us, SeqAt.EqAt A s u v (eqU x u)
 | _, _, .nil, _ => fun u hu => by cases hu
 | y :: xs, u :: us, .cons r t, f => fun u' hu => by
  rw [List.all_cons, Bool.and_eq_true] at f
  rcases List.mem_cons.mp hu with rfl | hu
  ·rw [eqU_of r f.1]; exact eqAt_V r rx f.1 fx
  ·exact mem_eqAt rx fx t f.2 u' hu
def inV (x : V) (xs : List V) : Bool := xs.any fun y => eqV y x
def rIn (K : PySem.W.Frag) (neg : Bool) : R2 := fun x y H Q => ∃ p xs, y = .ref p ∧ (SqL K H p xs ∨ SqT K H p xs) ∧ flatV x = true ∧ xs.all flatV = true ∧ Q (.bl (if neg then !inV x xs else inV x xs)) H
theorem op_in_seq : OpR X (compareOp .In) (rIn X.K false) := by
 intro pins s σ H x y v u Q I rx ry h
 obtain ⟨p, xs, rfl, hq, fx, fs, q⟩ := h
 cases ry
 rcases hq with hq | hq
 ·obtain ⟨its, r, pl, hz⟩ := I.list hq
  refine SeqAt.in_listAt (eqU x) pl.isList (fun w hw => mem_eqAt rx fx r fs w (by simpa using hw)) ⟨.bl _, H, I, rfl, ?_⟩
  rw [show its.toArray.any (eqU x) = its.any (eqU x) by simp, any_eqU r fs]
  exact q
 ·obtain ⟨its, r, pl, hz⟩ := I.tuple hq
  refine SeqAt.in_tupleAt (eqU x) pl (fun w hw => mem_eqAt rx fx r fs w (by simpa using hw)) ⟨.bl _, H, I, rfl, ?_⟩
  rw [show its.toArray.any (eqU x) = its.any (eqU x) by simp, any_eqU r fs]
  exact q
theorem op_notIn_seq : OpR X (compareOp .NotIn) (rIn X.K true) := by
 intro pins s σ H x y v u Q I rx ry h
 obtain ⟨p, xs, rfl, hq, fx, fs, q⟩ := h
 cases ry
 rcases hq with hq | hq
 ·obtain ⟨its, r, pl, hz⟩ := I.list hq
  refine SeqAt.notIn_listAt (eqU x) pl.isList (fun w hw => mem_eqAt rx fx r fs w (by simpa using hw)) ⟨.bl _, H, I, rfl, ?_⟩
  rw [show its.toArray.any (eqU x) = its.any (eqU x) by simp, any_eqU r fs]
  exact q
 ·obtain ⟨its, r, pl, hz⟩ := I.tuple hq
  refine SeqAt.notIn_tupleAt (eqU x) pl (fun w hw => mem_eqAt rx fx r fs w (by simpa using hw)) ⟨.bl _, H, I, rfl, ?_⟩
  rw [show its.toArray.any (eqU x) = its.any (eqU x) by simp, any_eqU r fs]
  exact q
theorem call_len_seq : CallR X (.builtin "len") (fun xs H Q => ∃ p ys, xs = [.ref p] ∧ (SqL X.K H p ys ∨ SqT X.K H p ys) ∧ Q (.int ys.length) H) := by
 intro pins s σ H xs us Q I r h
 obtain ⟨p, ys, rfl, hq, q⟩ := h
 obtain ⟨u, rfl, rx⟩ := vals1 r
 cases rx
 have hn := line63
 rcases hq with hq | hq
 ·obtain ⟨its, r', pl, hz⟩ := I.list hq
  have hlen := r'.length
  exact Calls.call_len_list pl.isList (by simp only [List.size_toArray] <;> omega) ⟨.int ys.length, H, I.tok _, ⟨s.toks + 1, by rw [List.size_toArray, hlen]⟩, q⟩
 ·obtain ⟨its, r', pl, hz⟩ := I.tuple hq
  have hlen := r'.length
  exact len_tuple pl (by simp only [List.size_toArray] <;> omega) ⟨.int ys.length, H, I.tok _, ⟨s.toks + 1, by rw [List.size_toArray, hlen]⟩, q⟩
theorem call_len_str : CallR X (.builtin "len") (fun xs H Q => ∃ z, xs = [.str z] ∧ z.length ≤ sizeLine ∧ Q (.int z.length) H) := by
 intro pins s σ H xs us Q I r h
 obtain ⟨z, rfl, hz, q⟩ := h
 obtain ⟨u, rfl, t, rfl⟩ := vals1 r
 have hn := line63
 exact len_str (by omega) ⟨.int z.length, H, I.tok _, ⟨_, rfl⟩, q⟩
def tyV (K : PySem.W.Frag) (T : String) (x : V) (H : Hp) : Prop := match x with
 | .str _ => T = "str"
 | .int _ => T = "int"
 | .ref p => (T = "list" ∧ ∃ xs, SqL K H p xs) ∨ (T = "tuple" ∧ ∃ o, K.lookup p = some o ∧ o.cls = .type "tuple" ∧ o.dict = none) ∨
   (T = "dict" ∧ ((∃ kvs, H p = some (.dK kvs)) ∨ ∃ kvs, H p = some (.dT kvs))) ∨ (T = "set" ∧ ∃ S n, H p = some (.set S n))
 | _ => False
theorem tyV_is {pins : List (Addr × Obj)} {σ : St} {H : Hp} {s : Shared} {T : String} {x : V} {v : Value} (I : Inv X pins σ H s) (r : RelV x v) (ty : tyV X.K T x H) :
  s.TypeIs v T ∧ ∀ a, v = .ref a → ∃ ob, s.heap.get? a = some ob ∧ ob.dict = none := by
 cases x with
 | str z =>
  obtain ⟨t, rfl⟩ := r
  cases (show T = "str" from ty)
  exact ⟨typeIs_str s z t, fun _ e => nomatch e⟩
 | int i =>
  obtain ⟨t, rfl⟩ := r
  cases (show T = "int" from ty)
  exact ⟨typeIs_int s i t, fun _ e => nomatch e⟩
 | ref p =>
  cases r
  rcases ty with ⟨rfl, xs, hq⟩ | ⟨rfl, o, hk, hc, hd⟩ | ⟨rfl, hk⟩ | ⟨rfl, S, n, hk⟩
  ·obtain ⟨its, _, pl, _⟩ := I.list hq
   refine ⟨pl.isList.typeIs, fun a e => ?_⟩
   cases e
   obtain ⟨o, n, e, c, hd, _⟩ := pl
   exact ⟨o, e, hd⟩
  ·refine ⟨⟨o, I.kIn p o hk, hc⟩, fun a e => ?_⟩
   cases e
   exact ⟨o, I.kIn _ o hk, hd⟩
  ·have z : ∃ o, s.heap.get? p = some o ∧ o.ExactDict := by
    rcases hk with ⟨kvs, hk⟩ | ⟨kvs, hk⟩
    ·obtain ⟨_, _, _, _, o, _, _, e, ex, _⟩ := I.hok p _ hk
     exact ⟨o, e, ex⟩
    ·obtain ⟨_, _, _, _, o, _, _, e, ex, _⟩ := I.hok p _ hk
     exact ⟨o, e, ex⟩
   obtain ⟨o, e, ex⟩ := z
   refine ⟨⟨o, e, ex.1⟩, fun a e2 => ?_⟩
   cases e2
   exact ⟨o, e, ex.2.1⟩
  ·obtain ⟨o, _, _, _, e, ex, _⟩ := I.hok p _ hk
   refine ⟨⟨o, e, ex.1⟩, fun a e2 => ?_⟩
   cases e2
   exact ⟨o, e, ex.2.1⟩
 | _ => exact False.elim ty
def tBM (K : PySem.W.Frag) (T : String) (r : V → List V → Hp → VK → Prop) (to : TE) (t : TA) : TE := fun σ H Q => to σ H fun x H1 => tyV K T x H1 ∧ t σ H1 fun xs H2 => r x xs H2 Q
variable {o e : Expr} {es : List Expr} {to : TE} {t : TA} {name : Str} {apos cpos : Pos} {T id : String} {r : V → List V → Hp → VK → Prop}
theorem pe_bm (pa : PlainAttrs T) (slot : Slot T name id) (hty : typeOf (.builtin id) = pure (.type "method_descriptor")) (hm : MtR X id r) (ho : PE X o to) (ha : PA X (e :: es) t)
  (hbase : attributeBase o name X.env (eval o X.env) = eval o X.env := by rfl)
  (hfew : ((backTo cpos (starEach (e :: es) X.env)).all (fun x => !x.1) && (backToKw cpos (keywordEach [] X.env)).all (fun x => x.1.isSome)
   && decide ((e :: es).length + ([] : List Keyword).length + (if ([] : List Keyword).isEmpty then 0 else 1) < 30)) = true := by rfl)
  (hline : (apos.endLine == cpos.line) = true := by rfl) (hs : starEach (e :: es) X.env = (false, eval e X.env) :: starEach es X.env := by rfl) (hplain : (backTo cpos (starEach es X.env)).any (·.1) = false := by rfl) :
  PE X (.Call (.Attribute o name apos) (e :: es) [] cpos) (tBM X.K T r to t) := by
 intro pins s σ H Q I h
 refine wpAny_Call_method_late hbase hfew hline rfl (thn (ho pins s σ H _ I h) fun v s1 ⟨x, H1, I1, r1, ty, q1⟩ => ?_)
 obtain ⟨h1, h2⟩ := tyV_is I1 r1 ty
 refine ⟨T, id, pa, slot, hty, h1, h2, ?_⟩
 have hA := ha cpos pins s1 σ H1 _ I1 q1
 rw [hs] at hA ⊢
 refine Calls.callWith_builtin (by show (false || (backTo cpos (starEach es X.env)).any (·.1)) = false; rw [hplain] <;> rfl) (Calls.evalArgs_plain ?_)
 exact thn hA fun us s2 ⟨vs, H2, I2, r2, q2⟩ => hm pins s2 σ H2 x vs v us Q I2 r1 r2 q2
/- xs.append(e), list.index on a module's tuple .. are MtR facts of 06m -/
end
end L2
namespace L2
open PySem PySem.Spec PyProof.Rows
def MtM (X : Cx) (id : String) (r : V → List V → Hp → VK → Prop) : Prop :=
 ∀ (pins : List (Addr × Obj)) (s : Shared) (σ : St) (H : Hp) (x : V) (xs : List V) (v : Value) (us : List Value) (Q : VK), Inv X pins σ H s → RelV x v → Vals xs us → r x xs H Q →
  wpAny (model X.prog X.w) X.A (call (.builtin id) (v :: us)) (EP X pins σ Q) X.xe s
theorem Vals.one : ∀ {x : V} {us : List Value}, Vals [x] us → ∃ u, us = [u] ∧ RelV x u
 | _, _, .cons r .nil => ⟨_, rfl, r⟩
section
variable {X : Cx} {pins : List (Addr × Obj)} {σ : St} {H : Hp} {s : Shared} {l b : Addr} {xs ys zs : List V}
theorem Inv.lset {its its' : List Value} {n : Nat} {f : Array Value → Array Value} {t' : Nat} (I : Inv X pins σ H s) (hH : H l = some (.lst xs))
  (e : s.heap.get? l = some { cls := .type "list", data := .seq its.toArray n }) (hf : f its.toArray = its'.toArray) (hv : Vals ys its') (hz : ys.length ≤ sizeLine) :
  Inv X pins σ (upd H l (.lst ys)) { s with heap := s.heap.update l (Obj.mapSeq f), toks := t' } := by
 have q := PySem.IsL.update e f
 rw [hf] at q
 refine I.write (x := l) (e := l) (by rw [hH]; exact trivial) (.inl rfl) (fun b' u hb hu => (Heap.get?_update_other s.heap (Obj.mapSeq f) (Ne.symm hb)).trans hu) ⟨_, q⟩ ?_
 exact ⟨hz, its', _, hv, q⟩
theorem Inv.lnew {its : List Value} {t' : Nat} (I : Inv X pins σ H s) (hv : Vals ys its) (hz : ys.length ≤ sizeLine) :
  Inv X pins σ (upd H s.heap.objs.size (.lst ys)) { s with heap := s.heap.push { cls := .type "list", data := .seq its.toArray }, toks := t' } :=
 I.laid (fun _ _ q => Heap.get?_push_of_some _ q) (Nat.le_refl _) ⟨hz, its, 0, hv, Heap.get?_push_size _ rfl⟩
theorem Inv.fresh (I : Inv X pins σ H s) : H s.heap.objs.size = none := I.hok.fresh (Nat.le_refl _)
theorem Inv.lstM (I : Inv X pins σ H s) (hH : H l = some (.lst xs)) : xs.length ≤ sizeLine ∧ ∃ (its : List Value) (n : Nat), Vals xs its ∧ xs.length = its.length ∧ s.heap.get? l = some { cls := .type "list", data := .seq its.toArray n } := by
 obtain ⟨z, its, n, r, e⟩ := I.hok l _ hH
 exact ⟨z, its, n, r, r.length, e⟩
end
section
variable {X : Cx}
def rAppend : V → List V → Hp → VK → Prop := fun x vs H Q => ∃ l xs y, x = .ref l ∧ vs = [y] ∧ H l = some (.lst xs) ∧ xs.length < sizeLine ∧ Q .non (upd H l (.lst (xs ++ [y])))
theorem mt_append : MtM X "list.append" rAppend := by
 intro pins s σ H x vs v us Q I rx rv h
 obtain ⟨l, xs, y, rfl, rfl, hH, hz, q⟩ := h
 cases rx
 obtain ⟨u, rfl, ru⟩ := rv.one
 obtain ⟨z, its, n, r, hl, e⟩ := I.lstM hH
 refine call_meets F.slot_list_append ⟨_, e, rfl⟩ F.entry_list_append (F.args_list_append_2 _ _) (PySem.list_append l its.toArray n u (by rw [List.size_toArray]; omega)) ⟨e, ?_⟩
 refine ⟨.non, _, I.lset (its' := its ++ [u]) hH e (by simp) (r.append (.cons ru .nil)) ?_, rfl, q⟩
 rw [List.length_append, List.length_singleton]
 omega
def rCat : R2 := fun x y H Q => ∃ l b xs zs, x = .ref l ∧ y = .ref b ∧ H l = some (.lst xs) ∧ H b = some (.lst zs) ∧ xs.length + zs.length ≤ sizeLine ∧ ∀ p, H p = none → Q (.ref p) (upd H p (.lst (xs ++ zs)))
theorem op_cat : OpR X (binaryOp .Add) rCat := by
 intro pins s σ H x y v u Q I rx ry h
 obtain ⟨l, b, xs, zs, rfl, rfl, hH, hB, hz, q⟩ := h
 cases rx
 cases ry
 obtain ⟨z, its, n, r, hl, e⟩ := I.lstM hH
 obtain ⟨z2, its2, n2, r2, hl2, e2⟩ := I.lstM hB
 refine PySem.P.add_list e e2 ?_ (by rw [List.size_toArray, List.size_toArray]; omega)
 have ea : its.toArray ++ its2.toArray = (its ++ its2).toArray := by simp
 rw [ea]
 exact ⟨.ref _, _, I.lnew (t' := s.toks) (r.append r2) (by rw [List.length_append]; omega), rfl, q _ I.fresh⟩
end
section
variable {prog : Program} {w : World} {A : Around} {E : Value → Shared → Prop} {s : Shared}
end
section
variable {X : Cx}
end
end L2
namespace L2
open PySem PySem.Spec PyProof.Rows
section
variable {κ : Type} [DecidableEq κ]
end
section
variable {P : Program} {w : World} {H : Hp} {h : Heap} {a : Addr}
end
section
variable {X : Cx} {pins : List (Addr × Obj)} {σ : St} {H : Hp} {s : Shared} {a : Addr} {y v : V} {u r : Value} {o : Option V} {A : Around} {E : Value → Shared → Prop}
end
section
variable {X : Cx} {pins : List (Addr × Obj)} {σ : St} {H : Hp} {s : Shared} {a : Addr} {kvs : List (Key × V)} {k : Key} {u : Value} {A : Around} {E : Value → Shared → Prop}
end
section
variable {X : Cx} {o i e value : Expr} {pos pos' tpos : Pos} {td ty tv : TE}
end
section
variable {X : Cx} {pos : Pos}
end
def tPairs : List (TE × TE) → St → Hp → (List (V × V) → Hp → Prop) → Prop
 | [], _, H, Q => Q [] H
 | (tk, tv) :: r, σ, H, Q => tk σ H fun x H1 => tv σ H1 fun y H2 => tPairs r σ H2 fun ps H3 => Q ((x, y) :: ps) H3
abbrev VV : List (V × V) → List (Value × Value) → Prop := Paired fun p q => RelV p.1 q.1 ∧ RelV p.2 q.2
def PPs (X : Cx) (pos : Pos) (keys : List (Option Expr)) (values : List Expr) (trs : List (TE × TE)) : Prop :=
 ∀ (pins : List (Addr × Obj)) (s : Shared) (σ : St) (H : Hp) (Q : List (V × V) → Hp → Prop), Inv X pins σ H s → tPairs trs σ H Q →
  wpAny (model X.prog X.w) X.A (evalPairs (pairTrees keys values X.env pos)) (fun vs s' => ∃ ps H', Inv X pins σ H' s' ∧ VV ps vs ∧ Q ps H') X.xe s
section
variable {X : Cx} {pins : List (Addr × Obj)} {σ : St} {H : Hp} {s : Shared} {a : Addr} {y d : V} {u r : Value} {o : Option V} {A : Around} {E : Value → Shared → Prop}
end
section
variable {X : Cx} {o e f : Expr} {apos cpos : Pos} {td ty tx : TE}
end
section
variable {X : Cx} {pins : List (Addr × Obj)} {σ : St} {H : Hp} {s : Shared} {a : Addr} {kvs : List (Key × V)} {A : Around} {E : Value → Shared → Prop}
end
section
variable {X : Cx} {pins : List (Addr × Obj)} {σ : St} {H : Hp} {s : Shared} {a : Addr} {y : V} {u : Value} {A : Around} {E : Value → Shared → Prop}
end
end L2
namespace Att
open PySem PySem.W PySem.Calls PyProof.Rows
theorem ints_of_wellAll {P : Params} {h : Heap} : ∀ (ns : List Int) (vs : List Value), WellAll P h vs (ns.map WData.int) → IntsAre vs ns := by
 intro ns
 induction ns with
 | nil =>
  intro vs w
  rw [List.map_nil] at w
  cases w
  exact .nil
 | cons n ns ih =>
  intro vs w
  rw [List.map_cons] at w
  cases w with
  | cons a b =>
   cases a
   exact .cons _ _ (ih _ b)
theorem script_of {l : OpenLaw} {n : Nat} (hn : l.most = some n) {P : Params} {h : Heap} {args : List WData} {vals : List Value}
  (hpre : l.row.toRowW.claim.pre args = true) (hwl : WellAll P h vals args) :
  ∃ a vs ns, vals = [Value.ref a] ∧ args = [WData.list (ns.map WData.int)] ∧ h.get? a = some { cls := .type "list", data := .seq vs.toArray } ∧ IntsAre vs ns ∧ ns.length ≤ n := by
 have hsh : WShape.hasAll [] args [.list .int] = true := (pre_splitW hpre).1
 have hc : l.pre.holds [] { args := args } = true := (pre_splitW hpre).2
 obtain ⟨d, r, rfl, h1, h2⟩ := hasAllW_cons hsh
 obtain rfl := hasAllW_nil h2
 obtain ⟨xs, rfl, h3⟩ := hasW_list h1
 obtain ⟨ns, rfl⟩ := items_int h3
 have hlen : ns.length ≤ n := by
  unfold OpenLaw.pre at hc
  have h4 : (WTm.not (.lt (.lit (.int (n : Int))) (.len (.arg 0)))).holds [] { args := [.list (ns.map .int)] } = true := by
   have h4 := (holds_andW hc).1
   rw [hn] at h4
   exact h4
  have h5 := condW_of h4 (w_not (w_lt w_lit (w_len_list (w_arg rfl))))
  rw [List.length_map] at h5
  refine Nat.le_of_not_lt fun q => ?_
  have q' : (n : Int) < ((ns.length : Nat) : Int) := by omega
  first
   | (rw [decide_eq_true q'] at h5; exact absurd h5 (by decide))
   | (simp at h5; omega)
 cases hwl with
 | cons w1 w2 =>
  cases w2
  cases w1 with
  | list ho hall => exact ⟨_, _, ns, rfl, rfl, ho, ints_of_wellAll ns _ hall, hlen⟩
theorem post_true (l : OpenLaw) (args : List WData) : l.row.toRowW.claim.post args (.bool true) args = true :=
 postW_of (r := l.row.toRowW) (X := (true == true))
  (show WShape.has [] (.bool true) .bool = true by first | rfl | decide | simp [WShape.has, WShape.arms, WShape.armsAll])
  (show (WTm.eq .res (.lit (.bool true))).value [] { args := args, res := some (.bool true), after := args } = some (.bool (true == true)) from w_eq_bool (w_res rfl) w_lit) rfl
theorem attach_call {l : OpenLaw} {n : Nat} {q : Program} {loose : List Str} {XP : (Str → Option Value) → Heap → Prop} {YP : World → Heap → Prop} {d : DefRec}
  (hn : l.most = some n) (hdf : d.params.defaults = [])
  (call : ∀ (w : World) (s₀ s₁ : Shared) (mg mb : Str → Option Value) (fa : Addr) (o : Obj) (pm cd doc : Value) (a : Addr) (vs : List Value) (ns : List Int),
   Ground q loose [] XP w s₀ mg mb s₁.heap → YP w s₁.heap →
   s₁.heap.get? fa = some o → o.data = .func (docDef d.name d.params d.body d.scope pm cd doc) → s₁.heap.CodeRec cd d.name → mg d.name = some (.ref fa) →
   s₁.heap.get? a = some { cls := .type "list", data := .seq vs.toArray } → IntsAre vs ns → ns.length ≤ n → s₁.gens = #[] →
   codeAny (model l.prog w) callerA (.call (.ref fa) ⟨[.ref a], []⟩) (fun r s' => r = .ok (.ret (.bool true)) ∧ OldK s₁.heap s'.heap ∧ s'.os = s₁.os ∧ AllBare s'.gens) s₁) :
  WalkO q loose XP YP l.row.toRowW d [] (fun f vs => PySem.call f vs) := by
 intro w s₀ s₁ mg mb G Y fa o pm cd doc dV kV ho hd hcd hD hmg hg args vals as hpre hlay hrd hwl hlo
 obtain rfl : dV = .none := Dflts.none hD hdf
 obtain rfl : kV = .none := Dflts.noKw hD
 obtain ⟨a, vs, ns, rfl, rfl, hobj, hints, hlen⟩ := script_of hn hpre hwl
 refine enter_call (codeAny_mono (call w s₀ s₁ mg mb fa o pm cd doc a vs ns G Y ho (fd_plain hd) hcd hmg hobj hints hlen hg) fun r s' hq => ?_)
 obtain ⟨rfl, h2, h3, h4⟩ := hq
 exact ⟨.inl ⟨.bool true, .bool true, [], rfl, fun _ => rfl, .bool true, post_true l _, fun _ => ⟨List.Pairwise.nil, fun _ hm => (nomatch hm)⟩⟩, h2, h3, h4⟩
section
variable {prog : Program} {w : World} {A : Around} {E : Value → Shared → Prop} {s : Shared} {K : Frag}
end
end Att
namespace L2
open PySem PySem.Spec PyProof.Rows
theorem vals_ints : ∀ {vs : List Value} {ns : List Int}, IntsAre vs ns → Vals (ns.map V.int) vs
 | _, _, .nil => .nil
 | _, _, .cons n t h => .cons ⟨t, rfl⟩ (vals_ints h)
def Only (H : Hp) : Prop := ∀ b, H b = none ∨ ∃ o xs, H b = some (.frz o (.lst xs))
theorem law_call {P : Program} {w : World} {K : PySem.W.Frag} {mg mb : Str → Option Value} {CX : CXT} {k : Nat} {fa a : Addr} {fd : FuncData} {x : Str} {sp : Sp} {s₁ : Shared} {vs : List Value} {ns : List Int}
  (KX : K.In s₁.heap) (hns : s₁.heap.Ns mainGlobals mg) (hb : s₁.heap.Ns builtinsNs mb) (hbb : ∀ x : Str, x ≠ "__name__" → mb x = bootBuiltins x) (hlim : s₁.heap.NoLimit) (hg : s₁.gens = #[])
  (ha : s₁.heap.get? a = some { cls := .type "list", data := .seq vs.toArray }) (hi : IntsAre vs ns) (hl : ns.length ≤ sizeLine) (hr : Room k callerA)
  (F : ∀ base : Heap, K.In base → base.Ns mainGlobals mg → FnOk P w K mg base CX k fa fd [x] sp) (hbind : ∀ (s : Shared) (u : Value), BindsTo s fd ⟨[u], []⟩ [(x, u)])
  (hsp : ∀ H : Hp, Only H → SqL K H a (ns.map V.int) → sp [.ref a] H (fun v _ => v = .bl true) fun _ _ _ => False)
  (hCX : ∀ H e s', CX [] H s₁ (fun _ _ _ => False) e s' → False) :
  codeAny (model P w) callerA (.call (.ref fa) ⟨[.ref a], []⟩) (fun r s' => r = .ok (.ret (.bool true)) ∧ OldK s₁.heap s'.heap ∧ s'.os = s₁.os ∧ AllBare s'.gens) s₁ := by
 have rv := vals_ints hi
 have lenV := hi.length
 -- from an abstract heap in which nothing but the script may be tracked
 have core : ∀ H : Hp, Only H → SqL K H a (ns.map V.int) → HOk P w H s₁.heap → (∀ b, H b ≠ none → b = a) → (H a ≠ none → K.lookup a = none) →
   codeAny (model P w) callerA (.call (.ref fa) ⟨[.ref a], []⟩) (fun r s' => r = .ok (.ret (.bool true)) ∧ OldK s₁.heap s'.heap ∧ s'.os = s₁.os ∧ AllBare s'.gens) s₁ := by
  intro H hO hS hok hA hK
  have base_of : ∀ {b : Addr} {o : Obj}, s₁.heap.get? b = some o → H b = none → (hidT s₁.heap H).get? b = some o := fun e n => hidT_get e n
  have noA : ∀ {b : Addr} {o : Obj} {es : Array DictEntry} {ep : Nat}, s₁.heap.get? b = some o → o.data = .dict es ep → H b = none := fun {b o es ep} e d => by
   cases q : H b with
   | none => rfl
   | some u =>
    have e' : b = a := hA b (by rw [q]; simp)
    subst e'
    rw [ha] at e; cases e
    have d' : Data.seq vs.toArray _ = Data.dict es ep := d
    cases d'
  have nsK : ∀ {b : Addr} {m : Str → Option Value}, s₁.heap.Ns b m → (hidT s₁.heap H).Ns b m := fun {b m} ⟨o, es, ep, e, d, r⟩ => ⟨o, es, ep, base_of e (noA e d), d, r⟩
  have hKb : K.In (hidT s₁.heap H) := fun b o e => base_of (KX b o e) (by
   cases q : H b with
   | none => rfl
   | some u =>
    have e' : b = a := hA b (by rw [q]; simp)
    subst e'
    rw [hK (by rw [q]; simp)] at e; cases e)
  have hM : Mod K mg (hidT s₁.heap H) := ⟨hKb, nsK hns, ⟨mb, nsK hb, hbb⟩, let ⟨mc, h1, h2⟩ := hlim; ⟨mc, nsK h1, h2⟩⟩
  have e0 : Env0 P w K mg (hidT s₁.heap H) callerA [] s₁ H := ⟨rfl, hM, fun b o e => of_hidT e, Nat.le_of_eq (hidT_size _ _), trivial, fun b hb => absurd (show b ∈ ([] : List Addr) from hb) (by simp), hok, .of_eq hg⟩
  refine codeAny_mono ((F _ hKb (nsK hns)).run callerA [] s₁ H ⟨[.ref a], []⟩ [.ref a] [.ref a] _ _ hr e0 (hbind s₁ (.ref a)) (.cons rfl .nil) (hsp H hO hS)) fun r s' h => ?_
  cases r with
  | error e => exact (hCX H e s' h).elim
  | ok fl =>
   cases fl with
   | next => exact False.elim h
   | brk => exact False.elim h
   | cont => exact False.elim h
   | ret u =>
    obtain ⟨v, H', os, bare, un, hok', r', q⟩ := h
    have q' : v = .bl true := q
    subst q'
    obtain rfl : u = Value.bool true := r'
    refine ⟨rfl, OldK.of_keep fun b o e => ?_, os, bare⟩
    cases q : H b with
    | none => exact un.keep b o e q (by intro z; exact absurd (show b ∈ ([] : List Addr) from z) (by simp)) (by simp)
    | some u =>
     rcases hO b with z | ⟨ob, xs, z⟩
     ·rw [q] at z; cases z
     ·have z2 := un.frzs b ob _ z
      obtain ⟨e1, _⟩ := hok b _ z
      obtain ⟨e2, _⟩ := hok' b _ z2
      rw [e] at e1; cases e1
      exact e2
 cases hk : K.lookup a with
 | some o =>
  -- the script is one of the module's own objects
  have e := KX a o hk
  rw [ha] at e
  cases e
  refine core (fun _ => none) (fun _ => .inl rfl) (.inr ⟨_, vs.toArray, _, hk, rfl, rfl, rfl, by rw [List.size_toArray, lenV]; exact hl, by simpa using rv⟩) (fun b u z => by have z' : (none : Option HO) = some u := z; cases z') (fun b z => absurd rfl z) fun z => absurd rfl z
 | none =>
  refine core (fun b => if b = a then some (.frz { cls := .type "list", data := .seq vs.toArray } (.lst (ns.map V.int))) else none) (fun b => ?_) (.inl (.inr ⟨{ cls := .type "list", data := .seq vs.toArray }, if_pos rfl⟩)) (fun b u z => ?_) (fun b z => ?_) fun _ => hk
  ·by_cases hb : b = a
   ·exact .inr ⟨_, _, if_pos hb⟩
   ·exact .inl (if_neg hb)
  ·by_cases hb : b = a
   ·have z' := (if_pos hb).symm.trans z
    cases z'
    subst hb
    exact ⟨ha, by rw [List.length_map]; exact hl, vs, _, rv, ha⟩
   ·have z' := (if_neg hb).symm.trans z
    cases z'
  ·by_cases hb : b = a
   ·exact hb
   ·exact absurd (if_neg hb) z
end L2
namespace L2
open PySem PySem.Spec PyProof.Rows
abbrev KOf {K : PySem.W.Frag} {h : Heap} (_ : K.In h) : PySem.W.Frag := K
theorem walk_of {l : PySem.W.OpenLaw} {n k : Nat} {q : Program} {loose : List Str} {XP : (Str → Option Value) → Heap → Prop} {YP : World → Heap → Prop} {d : DefRec} {K : Params → PySem.W.Frag} {CX : World → CXT} {sp : World → Sp} {x : Str}
  (hn : l.most = some n) (hn2 : n ≤ sizeLine) (hdf : d.params.defaults = []) (hr : Room k callerA)
  (hY : ∀ (w : World) (h : Heap), YP w h → (K w.params).In h)
  (F : ∀ (w : World) (mg : Str → Option Value) (fa : Addr) (h : Heap), (K w.params).In h → h.Ns mainGlobals mg → mg d.name = some (.ref fa) →
   ∃ fd : FuncData, (∀ (s : Shared) (u : Value), BindsTo s fd ⟨[u], []⟩ [(x, u)]) ∧
    ∀ base : Heap, (K w.params).In base → base.Ns mainGlobals mg → FnOk l.prog w (K w.params) mg base (CX w) k fa fd [x] (sp w))
  (hsp : ∀ (w : World) (H : Hp) (a : Addr) (ns : List Int), ns.length ≤ n → Only H → SqL (K w.params) H a (ns.map V.int) → sp w [.ref a] H (fun v _ => v = .bl true) fun _ _ _ => False)
  (hCX : ∀ (w : World) (H : Hp) (s : Shared) (e : Value) (s' : Shared), CX w [] H s (fun _ _ _ => False) e s' → False) :
  PySem.W.WalkO q loose XP YP l.row.toRowW d [] (fun f vs => PySem.call f vs) := by
 refine Att.attach_call hn hdf fun w s₀ s₁ mg mb fa o pm cd doc a vs ns G Y ho hd hcd hmg hobj hints hlen hg => ?_
 have KX := hY w _ Y
 obtain ⟨fd, hb, hF⟩ := F w mg fa _ KX G.T.g hmg
 exact law_call KX G.T.g G.T.b G.T.builtins G.T.nolimit hg hobj hints (Nat.le_trans hlen hn2) hr hF hb (fun H hO hS => hsp w H a ns hlen hO hS) fun H e s' => hCX w H s₁ e s'
end L2
/- THE LAST THEOREM (shape; LID, My.* are yours):
   My.Adr: a structure of the addresses that your layer names (classes, functions); My.Txt K t: a structure (Prop) of the equations over K;
   My.txt_mk : {K} {implicit addresses ..} (e1 : nsIn K mainGlobals "law" = some (some (.ref f))) (e2 : K.lookup f = some ⟨oc, od, .func (fnOf "law" "law" params body scope dV kV doc pm an cdv ct), sl⟩) (e3 : codeIn K cdv "law" = true) .. : ∃ t, My.Txt K t
set_option maxRecDepth 100000 in
set_option maxHeartbeats 0 in
theorem PySem.Challenge.cw_LID_holds : PySem.Challenge.rw_LID.Holds := by
 w_on; o_law; k_head; (case hw => w_witness2)
 k_fill
 refine L2.walk_of (l := PySem.Challenge.rw_LID) (n := 63) (k := 40) (x := "script") (CX := fun w => ..) (sp := fun _ => My.sp_law) rfl (by decide) rfl ⟨rfl, by decide, by decide⟩ (fun w h Y => PySem.W.kIn_of Y) ?F ?S ?C
 case F =>
  intro w mg fa h KX G hmg
  have T : ∃ t, My.Txt (L2.KOf KX) t := by
   dsimp only [L2.KOf]                          -- K must stand as «<heap const> w.params» for k_is
   refine' My.txt_mk ?e1 ?e2 ?e3 ..
   (case e1 => PySem.W.k_is)                    -- in the order: a name -> its address -> its object -> its parts
   (case e2 => PySem.W.k_is)
   ..
  obtain ⟨t, T⟩ := T
  have e0 := hmg.symm.trans (PySem.W.mg_of KX G T.law)
  cases e0                                       -- fa is the law's own address
  exact ⟨_, fun s u => .of_eq rfl, fun base kb nb => My.law_fn T kb nb⟩     -- if «.of_eq rfl» comes too early: refine' ⟨_, ?b, fun base kb nb => My.law_fn T kb nb⟩; exact fun s u => .of_eq rfl
 case S => exact fun w H a ns hl hO hS => ..
 case C => exact ..
(the tactic k_is has no namespace: write k_is) -/
namespace L2
open PySem PySem.Spec PyProof.Rows
abbrev CX0 : CXT := fun _ _ _ _ _ _ => False
abbrev E0 : XK := fun _ _ _ => False
theorem pass0 {X : Cx} : Passes CX0 X E0 := fun _ _ _ _ _ _ _ h => h.elim
structure Fun (K : PySem.W.Frag) (x qual : Str) (st : Stmt) (f : Addr) (fd : FuncData) : Prop where
 ex : ∃ (oc : Value) (od : Option Addr) (kV doc pm : Value) (an : Option Addr) (cdv ct : Value) (osl : Array (Option Value)),
  fd = PySem.W.fnOf x qual (defArgs st) (defBody st) (defScope st) .none kV doc pm an cdv ct ∧ K.lookup f = some ⟨oc, od, .func fd, osl⟩ ∧ PySem.W.codeIn K cdv qual = true
 kp : PySem.W.keepIn K (.ref f) = true
section
variable {P : Program} {w : World} {K : PySem.W.Frag} {mg : Str → Option Value} {base : Heap}
theorem Fun.ok {x qual : Str} {st : Stmt} {f : Addr} {fd : FuncData} {N ps : List Str} {k : Nat} {sp : Sp} (F : Fun K x qual st f fd) (S : FnScope N ps (defScope st)) (len : ∀ vs H Q E, sp vs H Q E → vs.length = ps.length)
  (hbody : ∀ (cdv : Value) (A : Around) (outer : List Env) (s : Shared) (H : Hp) (vs : List V) (Q : VK) (E : XK), Room k (A.deeper (envOfC qual (defScope st) s.heap.objs.size f cdv)) → sp vs H Q E →
   ∃ t, PSs (cxOf CX0 P w K mg base N qual (defScope st) f cdv A outer s H E).nox (defBody st) t ∧ t { nx := fun _ H' => Q .non H', rt := Q } (start N vs) H) : FnOk P w K mg base CX0 (k + 1) f fd ps sp := by
 obtain ⟨oc, od, kV, doc, pm, an, cdv, ct, osl, rfl, lk, hcd⟩ := F.ex
 refine fn_of lk hcd S len fun A outer s H vs Q E hr hsp => ?_
 obtain ⟨t, h, q⟩ := hbody cdv A outer s H vs Q E hr hsp
 exact ⟨t, h.nox, q⟩
theorem Fun.binds {x qual : Str} {st : Stmt} {f : Addr} {fd : FuncData} {ps : List Str} (F : Fun K x qual st f fd)
  (h : ∀ (kV doc pm : Value) (an : Option Addr) (cdv ct : Value) (us : List Value), us.length = ps.length → bindArgs (PySem.W.fnOf x qual (defArgs st) (defBody st) (defScope st) .none kV doc pm an cdv ct) ⟨us, []⟩ = pure (ps.zip us)) : Binds K fd ps [] := by
 obtain ⟨oc, od, kV, doc, pm, an, cdv, ct, osl, rfl, lk, hcd⟩ := F.ex
 exact .all (h kV doc pm an cdv ct)
theorem fun_mk {x qual : Str} {st : Stmt} {f : Addr} {oc : Value} {od an : Option Addr} {osl : Array (Option Value)} {kV doc pm cdv ct : Value} (l : K.lookup f = some ⟨oc, od, .func (PySem.W.fnOf x qual (defArgs st) (defBody st) (defScope st) .none kV doc pm an cdv ct), osl⟩)
  (c : PySem.W.codeIn K cdv qual = true) (k : PySem.W.keepIn K (.ref f) = true) : Fun K x qual st f (PySem.W.fnOf x qual (defArgs st) (defBody st) (defScope st) .none kV doc pm an cdv ct) := ⟨⟨oc, od, kV, doc, pm, an, cdv, ct, osl, rfl, l, c⟩, k⟩
end
section
variable {X : Cx}
theorem pv (i : Nat) {x : Str} {pos : Pos} (hN : X.N[i]? = some x := by rfl) (hv : Vis X.env.scope x := by first | exact Or.inl rfl | exact Or.inr (Or.inl rfl) | exact Or.inr (Or.inr rfl)) (hd : (x == ("__debug__" : Str)) = false := by decide)
  (hcd : (x == ("__classdict__" : Str)) = false := by decide) : PE X (.Name x pos) (tVar i) := pe_var hN hv hd hcd
end
theorem ite2 {c A B : Prop} [Decidable c] (h1 : c → A) (h2 : ¬ c → B) : if c then A else B := by
 by_cases h : c
 ·rw [if_pos h]
  exact h1 h
 ·rw [if_neg h]
  exact h2 h
def Same (H H' : Hp) : Prop := ∀ b o, H b = some o → H' b = some o
theorem Same.refl (H : Hp) : Same H H := fun _ _ h => h
theorem Same.trans {H H1 H2 : Hp} (a : Same H H1) (b : Same H1 H2) : Same H H2 := fun c o h => b c o (a c o h)
theorem Same.free {H H' : Hp} (e : Same H H') {l : Addr} (h : H' l = Option.none) : H l = Option.none := by
 cases q : H l with
 | none => rfl
 | some o =>
  rw [e l o q] at h
  cases h
theorem Same.seq {K : PySem.W.Frag} {H H' : Hp} {a : Addr} {xs : List V} (e : Same H H') (h : SqL K H a xs) : SqL K H' a xs := by
 rcases h with (h | ⟨o, h⟩) | h
 ·exact .inl (.inl (e _ _ h))
 ·exact .inl (.inr ⟨o, e _ _ h⟩)
 ·exact .inr h
section
variable {κ : Type} [DecidableEq κ]
end
end L2
set_option Elab.async false
set_option linter.all false
set_option maxRecDepth 100000
namespace L2
open PySem PySem.Spec PyProof.Rows
def closOf (cells : List (Str × Addr)) : List (Str × NameKind) → List (Str × Addr) → List (Str × Addr)
 | [], acc => acc
 | (n, k) :: r, acc => closOf cells r (if k == .free then (n, (cells.lookup n).getD 0) :: acc else acc)
theorem clos_for {env : Env} {f : (Str × NameKind) → List (Str × Addr) → Sem (ForInStep (List (Str × Addr)))}
  (hf : ∀ n k cs, f (n, k) cs = if (k == NameKind.free) = true then (cellOf env n >>= fun c => pure (ForInStep.yield ((n, c) :: cs))) else pure (ForInStep.yield cs)) :
  ∀ (names : List (Str × NameKind)) (acc : List (Str × Addr)), (∀ x ∈ names, x.2 = .free → ∃ c, env.cells.lookup x.1 = some c) →
  forIn names acc f = (pure (closOf env.cells names acc) : Sem _)
 | [], acc, _ => rfl
 | (n, k) :: r, acc, h => by
  rw [List.forIn_cons, hf]
  have ih := fun acc => clos_for hf r acc fun x hx => h x (List.mem_cons_of_mem _ hx)
  by_cases hk : (k == NameKind.free) = true
  ·rw [if_pos hk]
   obtain ⟨c, hc⟩ := h (n, k) List.mem_cons_self (by simpa using hk)
   have e : cellOf env n = pure c := by unfold cellOf; rw [hc]
   rw [e, pure_bind, pure_bind]
   show forIn r ((n, c) :: acc) f = _
   rw [ih]
   show _ = pure (closOf env.cells r (if (k == NameKind.free) = true then (n, (env.cells.lookup n).getD 0) :: acc else acc))
   rw [if_pos hk, hc]; rfl
  ·rw [if_neg hk, pure_bind]
   show forIn r acc f = _
   rw [ih]
   show _ = pure (closOf env.cells r (if (k == NameKind.free) = true then (n, (env.cells.lookup n).getD 0) :: acc else acc))
   rw [if_neg hk]
theorem closureFor_eq {env : Env} {scope : Scope} (h : ∀ x ∈ scope.names, x.2 = .free → ∃ c, env.cells.lookup x.1 = some c) : closureFor scope env = pure (closOf env.cells scope.names []) := by
 unfold closureFor
 show (forIn scope.names ([] : List (Str × Addr)) _ >>= fun cs => pure cs) = _
 rw [clos_for (env := env) (fun n k cs => ?_) _ _ h]
 ·rfl
 ·rfl
theorem closOf_some {cells : List (Str × Addr)} : ∀ {names : List (Str × NameKind)} {acc : List (Str × Addr)} {x : Str} {c : Addr}, (∀ y ∈ names, y.2 = .free → ∃ c, cells.lookup y.1 = some c) →
  (∀ y c, acc.lookup y = some c → cells.lookup y = some c) → (closOf cells names acc).lookup x = some c → cells.lookup x = some c
 | [], acc, x, c, _, ha, h => ha x c h
 | (n, k) :: r, acc, x, c, hn, ha, h => by
  refine closOf_some (names := r) (fun y hy => hn y (List.mem_cons_of_mem _ hy)) ?_ h
  intro y d hy
  by_cases hk : (k == NameKind.free) = true
  ·rw [if_pos hk] at hy
   obtain ⟨e, he⟩ := hn (n, k) List.mem_cons_self (by simpa using hk)
   have he' : cells.lookup n = some e := he
   rw [List.lookup_cons] at hy
   by_cases hyn : (y == n) = true
   ·rw [hyn] at hy
    have hy' : (cells.lookup n).getD 0 = d := Option.some.inj hy
    rw [he'] at hy'
    have e1 : y = n := by simpa using hyn
    rw [e1, he', ← hy']; rfl
   ·have hf : (y == n) = false := by simpa using hyn
    rw [hf] at hy
    exact ha y d hy
  ·rw [if_neg hk] at hy
   exact ha y d hy
theorem closOf_acc {cells : List (Str × Addr)} : ∀ {names : List (Str × NameKind)} {acc : List (Str × Addr)} {x : Str}, (∃ c, acc.lookup x = some c) → ∃ c, (closOf cells names acc).lookup x = some c
 | [], _, _, h => h
 | (n, k) :: r, acc, x, h => by
  refine closOf_acc (names := r) ?_
  by_cases hk : (k == NameKind.free) = true
  ·rw [if_pos hk, List.lookup_cons]
   cases hx : (x == n) with
   | true => exact ⟨_, rfl⟩
   | false => exact h
  ·rw [if_neg hk]; exact h
theorem closOf_has {cells : List (Str × Addr)} : ∀ {names : List (Str × NameKind)} {acc : List (Str × Addr)} {x : Str}, (x, NameKind.free) ∈ names → ∃ c, (closOf cells names acc).lookup x = some c
 | (n, k) :: r, acc, x, h => by
  rcases List.mem_cons.mp h with e | h
  ·have e1 : x = n := congrArg (·.1) e
   have e2 : NameKind.free = k := congrArg (·.2) e
   subst e1 e2
   refine closOf_acc (names := r) ?_
   rw [if_pos (by rfl), List.lookup_cons]
   rw [beq_self_eq_true]
   exact ⟨_, rfl⟩
  ·exact closOf_has (names := r) h
theorem relabel_free {env : Env} : ∀ {names : List (Str × NameKind)} {x : Str} {k : NameKind}, (∀ y ∈ names, y.2 ≠ .cell) →
  (names.map fun (n, k) => if (k == NameKind.free && env.scope.kind == .function && env.kindOf n == some .cell) then (n, NameKind.cell) else (n, k)).lookup x = some k → (k = .cell ∨ k = .free) → (x, NameKind.free) ∈ names
 | [], _, _, _, h, _ => by simp at h
 | (n, k0) :: r, x, k, hc, h, hk => by
  have ih := @relabel_free env r x k (fun y hy => hc y (List.mem_cons_of_mem _ hy))
  rw [List.map_cons] at h
  by_cases hf : (k0 == NameKind.free && env.scope.kind == .function && env.kindOf n == some .cell) = true
  ·have hk0 : k0 = .free := by
    have : (k0 == NameKind.free) = true := by
     rw [Bool.and_eq_true, Bool.and_eq_true] at hf; exact hf.1.1
    simpa using this
   dsimp only at h
   rw [if_pos hf, List.lookup_cons] at h
   cases hx : (x == n) with
   | true =>
    have : x = n := by simpa using hx
    rw [this, hk0]; exact List.mem_cons_self
   | false => rw [hx] at h; exact List.mem_cons_of_mem _ (ih h hk)
  ·dsimp only at h
   rw [if_neg hf, List.lookup_cons] at h
   cases hx : (x == n) with
   | true =>
    rw [hx] at h
    have e : k0 = k := Option.some.inj h
    have : x = n := by simpa using hx
    rcases hk with z | z
    ·exact absurd (e.trans z) (hc (n, k0) List.mem_cons_self)
    ·rw [this, e, z]; exact List.mem_cons_self
   | false => rw [hx] at h; exact List.mem_cons_of_mem _ (ih h hk)
def cxComp (X : Cx) (N0 T : List Str) (scope : Scope) (C : Addr) (fp : List Addr) (s : Shared) (H : Hp) : Cx :=
 { X with N := N0 ++ T, s₀ := s, H₀ := H, env := compEnvC scope (closOf X.env.cells scope.names []) C X.env, outer := X.stack, stack := X.stack, ex := fp, fn := fun _ => false, pn := [], xe := fun _ _ => False }
structure CompScope (X : Cx) (N0 T : List Str) (scope : Scope) : Prop where
 kind : scope.kind = .function
 nocell : ∀ y ∈ scope.names, y.2 ≠ .cell
 names : ∀ y ∈ scope.names, y.2 = .local → scope.names.lookup y.1 = some .local
 free : ∀ y ∈ scope.names, y.2 = .free → X.env.kindOf y.1 = some .cell ∨ X.env.kindOf y.1 = some .free
 apart : ∀ y ∈ scope.names, y.2 = .local → y.1 ∉ N0
 len0 : N0.length = X.N.length
 same : ∀ (i : Nat) (x : Str) (k : NameKind), N0[i]? = some x → (x, k) ∈ scope.names → X.N[i]? = some x
theorem codeAny_compLoop_go {prog : Program} {w : World} {A : Around} {R : Result → Shared → Prop} {s : Shared} {elt target iter : Expr} {ifs : List Expr} {scope : Scope} {pos : Pos} {it acc : Value} {env : Env} (I : Nat → Shared → Prop)
  (turn : ∀ n s, I n s → wpAny (model prog w) A (pyNext it) (fun r s₁ => match r with
   | none => R (.ok .next) s₁
   | some v => wpAny (model prog w) A (letOwnedTupleGo target it v) (fun _ s₀ => wpAny (model prog w) A (assign target env v) (fun _ s₂ =>
     wpAny (model prog w) A (forIn ifs true fun c r => if r = true then do let ok ← isTrue c env (eval c env); pure (ForInStep.yield ok) else pure (ForInStep.yield r)) (fun ok s₃ =>
      if ok = true then wpAny (model prog w) A (eval elt env) (fun x s₄ =>
       wpAny (model prog w) A (call (.builtin "list.append") [acc, x]) (fun _ s₅ => ∃ m, m < n ∧ I m s₅) (fun _ _ => False) s₄) (fun _ _ => False) s₃
      else ∃ m, m < n ∧ I m s₃) (fun _ _ => False) s₂) (fun _ _ => False) s₀) (fun _ _ => False) s₁) (fun _ _ => False) s)
  (n : Nat) (h : I n s) :
  codeAny (model prog w) A (.compLoop (.ListComp elt [⟨target, iter, ifs, 0⟩] scope pos) 0 it acc env) R s := by
 refine codeAny_loop rfl I (fun n s hI => ?_) n h
 show wpAny _ A ((compTurn (.ListComp elt [⟨target, iter, ifs, 0⟩] scope pos) 0 it acc env).onRaise (fun x => do noteFrame x env; theTreesLotGoes x)) _ _ s
 refine wpAny_noted ?_
 rw [compTurn_list]
 refine wpAny_bind (wpAny_standAt (wpAny_bind (wpAny_mono (turn n s hI) (fun r s₁ h₁ => ?_) fun _ _ h' => h'.elim)))
 cases r with
 | none => exact wpAny_pure h₁
 | some v =>
  refine wpAny_bind (wpAny_mono h₁ (fun _ s₀ h₀ => ?_) fun _ _ h' => h'.elim)
  refine wpAny_bind (wpAny_mono h₀ (fun _ s₂ h₂ => wpAny_bind (wpAny_mono h₂ (fun ok s₃ h₃ => ?_) fun _ _ h' => h'.elim)) fun _ _ h' => h'.elim)
  cases ok with
  | false => exact wpAny_pure ⟨rfl, h₃⟩
  | true =>
   exact wpAny_bind (wpAny_bind (wpAny_mono h₃ (fun x s₄ h₄ => wpAny_bind (wpAny_mono h₄ (fun _ s₅ h₅ => wpAny_pure (wpAny_pure ⟨rfl, h₅⟩)) fun _ _ h' => h'.elim)) fun _ _ h' => h'.elim))
def PIfs (X : Cx) (ifs : List Expr) (tc : TT) : Prop :=
 ∀ (pins : List (Addr × Obj)) (s : Shared) (σ : St) (H : Hp) (Q : Bool → Hp → Prop), Inv X pins σ H s → tc σ H Q →
  wpAny (model X.prog X.w) X.A (forIn ifs true fun c r => if r = true then do let ok ← isTrue c X.env (eval c X.env); pure (ForInStep.yield ok) else pure (ForInStep.yield r)) (TP X pins σ Q) X.xe s
def tYes : TT := fun _ H Q => Q true H
theorem pifs_nil {X : Cx} : PIfs X [] tYes := fun _ _ _ H _ I h => wpAny_tests_nil ⟨H, I, h⟩
def GFr (g : TG) (n : Nat) : Prop := ∀ x σ H Q, g x σ H Q → g x σ H fun σ' H' => Q σ' H' ∧ σ'.length = σ.length ∧ ∀ k, k < n → σ'[k]? = σ[k]?
def GsFr (g : TGs) (n : Nat) : Prop := ∀ x σ H Q, g x σ H Q → g x σ H fun σ' H' => Q σ' H' ∧ σ'.length = σ.length ∧ ∀ k, k < n → σ'[k]? = σ[k]?
theorem gfr_name {i n : Nat} (h : n ≤ i) : GFr (gName i) n := fun x σ H Q q => ⟨q, by simp, fun k hk => by rw [List.getElem?_set_ne (by omega)]⟩
theorem gsfr_nil {n : Nat} : GsFr gNil n := fun x σ H Q q => ⟨q.1, q.2, rfl, fun _ _ => rfl⟩
def GMono (g : TG) : Prop := ∀ x σ H Q Q', (∀ σ' H', Q σ' H' → Q' σ' H') → g x σ H Q → g x σ H Q'
def GsMono (g : TGs) : Prop := ∀ x σ H Q Q', (∀ σ' H', Q σ' H' → Q' σ' H') → g x σ H Q → g x σ H Q'
theorem gm_name {i : Nat} : GMono (gName i) := fun x σ H Q Q' h q => h _ _ q
theorem gsm_nil : GsMono gNil := fun x σ H Q Q' h q => ⟨q.1, h _ _ q.2⟩
theorem gsm_cons {t : TG} {u : TGs} (h1 : GMono t) (h2 : GsMono u) : GsMono (gCons t u) := fun x σ H Q Q' h ⟨v, r, e, q⟩ => ⟨v, r, e, h1 _ _ _ _ _ (fun σ' H' z => h2 _ _ _ _ _ h z) q⟩
theorem gsfr_cons {t : TG} {u : TGs} {n : Nat} (h1 : GFr t n) (m1 : GMono t) (h2 : GsFr u n) (m2 : GsMono u) : GsFr (gCons t u) n := fun x σ H Q ⟨v, r, e, q⟩ => by
 refine ⟨v, r, e, ?_⟩
 refine m1 _ _ _ _ _ (fun σ' H' z => ?_) (h1 _ _ _ _ q)
 obtain ⟨z, l1, k1⟩ := z
 exact m2 _ _ _ _ _ (fun σ2 H2 y => ⟨y.1, y.2.1.trans l1, fun k hk => (y.2.2 k hk).trans (k1 k hk)⟩) (h2 _ _ _ _ z)
theorem gfr_tup {K : PySem.W.Frag} {m n : Nat} {t : TGs} (h : GsFr t n) : GFr (gTup K m t) n := fun x σ H Q ⟨a, xs, e, q, l, z⟩ => ⟨a, xs, e, q, l, h _ _ _ _ z⟩
def compW (J : It) (g : TG) (tc : TT) (te : TE) (nT : Nat) (σ : St) (D : Addr) (Q : VK) (H : Hp) : Prop :=
 ∃ W : Nat → Nat → List V → Hp → Prop, (∃ m, W 0 m [] H) ∧ ∀ i m ys H2, W i m ys H2 →
  (J.stop i H2 ∧ Q (.ref D) H2) ∨ (J.go i H2 ∧ ∀ x H', J.yld i H2 x H' → g x (σ ++ List.replicate nT none) H' fun σ2 H3 => tc σ2 H3 fun b H4 =>
   if b = true then te σ2 H4 fun y H5 => H5 D = some (.lst ys) ∧ ys.length < sizeLine ∧ ∃ m', m' < m ∧ W (i + 1) m' (ys ++ [y]) (upd H5 D (.lst (ys ++ [y]))) else ∃ m', m' < m ∧ W (i + 1) m' ys H4)
def tComp (wi : TI) (g : TG) (tc : TT) (te : TE) (nT : Nat) : TE := fun σ H Q => wi σ H fun J H1 => ∀ D, H1 D = none → compW J g tc te nT σ D Q (upd H1 D (.lst []))
theorem HOk.sameBut {P : Program} {w : World} {H : Hp} {h h' : Heap} {C : Addr} (x : HOk P w H h) (hs : Heap.SameBut C h h') (hC : H C = none) : HOk P w H h' := fun a o e =>
 (x a o e).stay (fun b u hb q => (hs.2 b (by
  rintro rfl
  rcases hb with z | z
  ·rw [z] at hC; rw [hC] at e; cases e
  ·rw [hC] at z; cases z)).trans q) (fun _ q => q) fun _ _ q => q
section
variable {X : Cx} {N0 T : List Str} {scope : Scope} {tg elt iter : Expr} {ifs : List Expr} {pos : Pos} {wi : TI} {g : TG} {tc : TT} {te : TE}
theorem comp_core {pins : List (Addr × Obj)} {σ : St} {H : Hp} {s : Shared} {E : Value → Shared → Prop} {it : Addr} {fp : List Addr} {tn : Nat → Heap → Prop} {J : It} {Q : VK} {RR : Value → Addr → Result → Shared → Prop}
  (S : CompScope X N0 T scope) (hc : X.calm = true)
  (hg : ∀ C fp s H, PG (cxComp X N0 T scope C fp s H) tg g) (hfr : GFr g X.N.length) (hi : ∀ C fp s H, PIfs (cxComp X N0 T scope C fp s H) ifs tc) (he : ∀ C fp s H, PE (cxComp X N0 T scope C fp s H) elt te)
  (I : Inv X pins σ H s) (Tn : Turn X.prog X.w X.K tg J fp it tn) (st : tn 0 s.heap) (hf : ∀ b ∈ fp, FpOk X pins H b)
  (h : ∀ D, H D = none → compW J g tc te T.length σ D Q (upd H D (.lst [])))
  (hRR : ∀ D C s' H' m, s'.heap.Ns C m → H' C = none → C ≠ X.env.locals → (∀ x c, X.env.cells.lookup x = some c → c ≠ C) → (∀ p ∈ X.pn ++ pins, p.1 ≠ C) → X.s₀.heap.objs.size ≤ C → Inv X pins σ H' s' →
   (∀ h', Heap.SameBut C s'.heap h' → Inv X pins σ H' { s' with heap := h' }) → Q (.ref D) H' → RR (.ref D) C (.ok .next) s') :
  wpAny (model X.prog X.w) X.A (newList []) (fun acc s₃ => wpAny (model X.prog X.w) X.A (newFunctionEnv scope X.env.globals (closOf X.env.cells scope.names []) [] X.env.qual none .none (some X.env)) (fun cenv s₄ =>
   codeAny (model X.prog X.w) X.A (.compStart (.ListComp elt [⟨tg, iter, ifs, 0⟩] scope pos) 0 (.ref it) acc { cenv with scope := relabel scope X.env }) (RR acc cenv.locals) s₄) E s₃) E s := by
 refine wpAny_newObj_type (wpAny_newFunctionEnv S.nocell (by intro y hy; simp at hy) (fun h₁ hns₁ hsb₁ => ?_) S.kind)
 dsimp only at hns₁ hsb₁ ⊢
 generalize hH2 : s.heap.push { cls := .type "list", dict := none, data := .seq ([] : List Value).toArray } = P2 at hns₁ hsb₁ ⊢
 have hC : P2.objs.size = s.heap.objs.size + 1 := by rw [← hH2, Heap.size_push]
 -- the new list D, the block's names C
 obtain ⟨D, hD⟩ : ∃ D : Nat, D = s.heap.objs.size := ⟨_, rfl⟩
 obtain ⟨C, hCC⟩ : ∃ C : Nat, C = P2.objs.size := ⟨_, rfl⟩
 rw [← hCC] at hns₁ hsb₁ hC ⊢
 rw [← hD] at hC ⊢
 have hDC : D ≠ C := by omega
 have hDlt : D < C := by omega
 have neD : ∀ b o, s.heap.get? b = some o → b ≠ D := fun b o e => hD ▸ Nat.ne_of_lt (Heap.lt_size e)
 have neC : ∀ b o, s.heap.get? b = some o → b ≠ C := fun b o e => Nat.ne_of_lt (Nat.lt_trans (hD ▸ Heap.lt_size e) hDlt)
 have old : ∀ b o, s.heap.get? b = some o → h₁.get? b = some o := fun b o e => hsb₁.extBut b o (neC b o e) (Heap.get?_push_of_some _ (hH2 ▸ Heap.get?_push_of_some _ e))
 have hHD : H D = none := I.hok.fresh (by omega)
 have hHC : H C = none := I.hok.fresh (by omega)
 have dat : h₁.get? D = some { cls := .type "list", data := .seq ([] : List Value).toArray 0 } := by
  refine hsb₁.extBut _ _ hDC (Heap.get?_push_of_some _ ?_)
  rw [← hH2, hD]
  exact Heap.get?_push_size _ rfl
 -- the block's context stands
 have hcl : ∀ x c, (closOf X.env.cells scope.names []).lookup x = some c → X.env.cells.lookup x = some c := fun x c e =>
  closOf_some (fun y hy hk => I.ok.has y.1 (S.free y hy hk)) (fun y c z => by simp at z) e
 have okC : (cxComp X N0 T scope C fp s H).Ok := by
  refine ⟨I.ok.mod, ?_, I.ok.glob, I.ok.blt, ?_, fun x y c e1 e2 => I.ok.inj x y c (hcl x c e1) (hcl y c e2), fun x hx => ?_, fun x c z _ => (by cases z), I.ok.hd, I.ok.frames, .inl rfl, fun b hb => ⟨?_, fun x c e => (hf b hb).2.2.2.2.1 x c (hcl x c e)⟩,
   I.bs, ?_, fun b o e hb => ?_, fun b hb z => ?_, I.stack, I.stkFree⟩
  ·show (relabel scope X.env).kind = .function
   exact S.kind
  ·show s.heap.objs.size ≤ C
   omega
  ·have hx' : (relabel scope X.env).names.lookup x = some .cell ∨ (relabel scope X.env).names.lookup x = some .free := hx
   have m : (x, NameKind.free) ∈ scope.names := by
    rcases hx' with z | z
    ·exact relabel_free S.nocell z (.inl rfl)
    ·exact relabel_free S.nocell z (.inr rfl)
   exact closOf_has m
  ·show b ≠ C
   obtain ⟨o, e, _⟩ := Tn.obj 0 _ st b hb
   exact neC b o e
  ·exact Nat.le_trans I.ok.bsz I.sz
  ·obtain ⟨_, _, _, z, _⟩ := hf b hb
   rcases z with z | z
   ·exact I.ok.noex b o e z
   ·exact absurd (Nat.lt_of_lt_of_le (Nat.lt_of_lt_of_le (Heap.lt_size e) I.ok.bsz) z) (Nat.lt_irrefl _)
  ·obtain ⟨_, z1, z2, _⟩ := hf b hb
   rcases List.mem_cons.mp (I.stkSub b z) with q | q
   ·exact z1 q
   ·exact z2 q
 have I1 : Inv (cxComp X N0 T scope C fp s H) [] (σ ++ List.replicate T.length none) (upd H D (.lst [])) { s with heap := h₁, toks := s.toks + ([] : List (Str × Value)).length } := by
  refine ⟨okC, rfl, I.bare, Un.laid (h := s.heap) old (by omega) hHD, ⟨_, hns₁, fun i x v e1 e2 e3 => ?_⟩, fun x c e => ?_, ?_, fun x c e => ?_, fun p hp => (by simp [cxComp] at hp), I.hok.laid old (by omega) ?_, ?_⟩
  ·have e1' : (N0 ++ T)[i]? = some x := e1
   have hl := I.len
   have hl0 := S.len0
   have hi : i < σ.length := by
    rcases Nat.lt_or_ge i σ.length with z | z
    ·exact z
    ·rw [List.getElem?_append_right z] at e2
     rw [List.getElem?_replicate] at e2
     split at e2 <;> cases e2
   rw [List.getElem?_append_left hi] at e2
   rw [List.getElem?_append_left (by omega)] at e1'
   have hxN : x ∈ N0 := List.mem_of_getElem? e1'
   have e3' : (relabel scope X.env).names.lookup x = some .local ∨ (relabel scope X.env).names.lookup x = some .cell ∨ (relabel scope X.env).names.lookup x = some .free := e3
   have fr : (relabel scope X.env).names.lookup x = some .cell ∨ (relabel scope X.env).names.lookup x = some .free := by
    rcases e3' with z | z | z
    ·exfalso
     -- a local of the block is no tracked name
     have key : ∀ (names : List (Str × NameKind)), (names.map fun (n, k) => if (k == NameKind.free && X.env.scope.kind == .function && X.env.kindOf n == some .cell) then (n, NameKind.cell) else (n, k)).lookup x = some .local → (x, NameKind.local) ∈ names := by
      intro names
      induction names with
      | nil => intro z; simp at z
      | cons y r ih =>
       obtain ⟨n, k⟩ := y
       intro z
       rw [List.map_cons] at z
       dsimp only at z
       by_cases hfk : (k == NameKind.free && X.env.scope.kind == .function && X.env.kindOf n == some .cell) = true
       ·rw [if_pos hfk, List.lookup_cons] at z
        cases hx : (x == n) with
        | true => rw [hx] at z; cases z
        | false => rw [hx] at z; exact List.mem_cons_of_mem _ (ih z)
       ·rw [if_neg hfk, List.lookup_cons] at z
        cases hx : (x == n) with
        | true =>
         rw [hx] at z
         have ek : k = .local := Option.some.inj z
         have en : x = n := by simpa using hx
         rw [ek, en]; exact List.mem_cons_self
        | false => rw [hx] at z; exact List.mem_cons_of_mem _ (ih z)
     exact S.apart (x, .local) (key _ z) rfl hxN
    ·exact .inl z
    ·exact .inr z
   have m : (x, NameKind.free) ∈ scope.names := by
    rcases fr with z | z
    ·exact relabel_free S.nocell z (.inl rfl)
    ·exact relabel_free S.nocell z (.inr rfl)
   have kX := S.free _ m rfl
   obtain ⟨mm, hn, hl'⟩ := I.loc
   obtain ⟨u, r, lk⟩ := hl' i x v (S.same i x _ e1' m) e2 (.inr kX)
   refine ⟨u, r, .inr ⟨fr, ?_⟩⟩
   rcases lk with ⟨z, _⟩ | ⟨_, c, ec, cc⟩
   ·rcases kX with q | q
    ·rw [q] at z; cases z
    ·rw [q] at z; cases z
   ·obtain ⟨c', ec'⟩ := closOf_has (cells := X.env.cells) (acc := []) m
    have := hcl x c' ec'
    rw [ec] at this; cases this
    exact ⟨c, ec', cc.keeps old⟩
  ·obtain ⟨v, z⟩ := I.cell x c (hcl x c e)
   exact ⟨v, z.keeps old⟩
  ·show upd H D (.lst []) C = none
   rw [upd_ne (Ne.symm hDC)]; exact hHC
  ·have q := I.freeC x c (hcl x c e)
   obtain ⟨v, o, z, _⟩ := I.cell x c (hcl x c e)
   rw [upd_ne (neD c o z)]; exact q
  ·exact ⟨Nat.zero_le _, [], 0, .nil, dat⟩
  ·show (σ ++ List.replicate T.length none).length = (N0 ++ T).length
   rw [List.length_append, List.length_append, List.length_replicate, I.len, S.len0]
 have st1 : tn 0 h₁ := Tn.keep _ _ _ st fun b _ o e => old b o e
 have fp1 : ∀ {H' : Hp}, (∀ b ∈ fp, H' b = none) → ∀ b ∈ fp, FpOk (cxComp X N0 T scope C fp s H) [] H' b := fun hn b hb =>
  ⟨hn b hb, (okC.exf b hb).1, okC.exfs b hb, .inl hb, (okC.exf b hb).2, fun p hp => (by simp [cxComp] at hp)⟩
 have fp0 : ∀ b ∈ fp, upd H D (.lst []) b = none := fun b hb => by
  obtain ⟨o, e, _⟩ := Tn.obj 0 _ st b hb
  rw [upd_ne (neD b o e)]; exact (hf b hb).1
 obtain ⟨W, ⟨m0, w0⟩, turn⟩ := h D hHD
 have loop : ∀ s₃ : Shared, s₃ = { s with heap := h₁, toks := s.toks + ([] : List (Str × Value)).length } →
   codeAny (model X.prog X.w) X.A (.compLoop (.ListComp elt [⟨tg, iter, ifs, 0⟩] scope pos) 0 (.ref it) (.ref D) (compEnvC scope (closOf X.env.cells scope.names []) C X.env)) (RR (.ref D) C) s₃ := by
  rintro s₃ rfl
  refine codeAny_compLoop_go (fun n s' => ∃ i H' ys, Inv (cxComp X N0 T scope C fp s H) [] (σ ++ List.replicate T.length none) H' s' ∧ tn i s'.heap ∧ (∀ b ∈ fp, H' b = none) ∧ W i n ys H') ?_ m0 ⟨0, _, [], I1, st1, fp0, w0⟩
  rintro n s3 ⟨i, H3, ys, I3, st3, fr3, w3⟩
  rcases turn i n ys H3 w3 with ⟨stop, qn⟩ | ⟨go, step⟩
  ·refine thn (Tn.done (cxComp X N0 T scope C fp s H) rfl rfl rfl hc i [] s3 _ H3 (fun _ _ => False) I3 (fp1 fr3) st3 stop) fun r s4 ⟨hr, I4⟩ => ?_
   subst hr
   obtain ⟨m, hm, _⟩ := I4.loc
   have hch : ∀ b ∈ fp, (b ∈ X.ex ∨ X.s₀.heap.objs.size ≤ b) ∧ b ≠ X.env.locals ∧ (∀ x c, X.env.cells.lookup x = some c → c ≠ b) ∧ ∀ p ∈ X.pn ++ pins, p.1 ≠ b := fun b hb =>
    ⟨(hf b hb).2.2.2.1, (hf b hb).2.1, (hf b hb).2.2.2.2.1, (hf b hb).2.2.2.2.2⟩
   have u4 : Un (frs X.stack) fp H H3 s.heap s4.heap := I4.base
   refine hRR D C s4 H3 m hm I4.free (Ne.symm (Nat.ne_of_lt (Nat.lt_trans (hD ▸ I.lt) hDlt))) (fun x c e => ?_) (fun p hp => ?_) (Nat.le_trans (hD ▸ I.sz) (Nat.le_of_lt hDlt)) (I.call' (ch := fp) I4.os u4 I4.hok I4.bare hch) (fun h' hs' => ?_) qn
   ·obtain ⟨v, o, q, _⟩ := I.cell x c e
    exact neC c o q
   ·exact neC _ _ (I.pin p hp).1
   ·refine I.call' (ch := fp) (s' := { s4 with heap := h' }) I4.os ⟨fun b o q n' hb hx => (hs'.2 b (neC b o q)).trans (u4.keep b o q n' hb hx), fun b o q n' hb hx => ?_, u4.free, fun b o q hx => ?_, u4.tups, u4.frzs, u4.tbls⟩ (I4.hok.sameBut hs' I4.free) I4.bare hch
    ·obtain ⟨sl, e⟩ := u4.slot b o q n' hb hx
     exact ⟨sl, (hs'.2 b (neC b o q)).trans e⟩
    ·obtain ⟨o', e⟩ := u4.there b o q hx
     exact ⟨o', (hs'.2 b (neC b o q)).trans e⟩
  ·refine thn (Tn.item (cxComp X N0 T scope C fp s H) rfl rfl rfl hc i [] s3 _ H3 (fun _ _ => False) I3 (fp1 fr3) st3 go) fun r s4 ⟨u, hr, h4⟩ => ?_
   subst hr
   refine thn h4 fun _ s5 ⟨x, H5, I5, r5, y5, st5, fr5⟩ => ?_
   have I5' := I5.pinned (fp1 fr5) (Tn.obj _ _ st5)
   refine thn (hg C fp s H _ s5 _ H5 x u _ I5' r5 (hfr _ _ _ _ (step x H5 y5))) fun _ s6 ⟨σ6, H6, I6, q6, l6, k6⟩ => ?_
   have back : ∀ {H7 : Hp} {s7 : Shared}, Inv (cxComp X N0 T scope C fp s H) ([] ++ pinsAt fp s5.heap) σ6 H7 s7 → (∀ {m' : Nat} {zs : List V}, m' < n → W (i + 1) m' zs H7 → ∃ m, m < n ∧ ∃ i H' ys, Inv (cxComp X N0 T scope C fp s H) [] (σ ++ List.replicate T.length none) H' s7 ∧ tn i s7.heap ∧ (∀ b ∈ fp, H' b = none) ∧ W i m ys H') := fun {H7 s7} I7 {m' zs} hm w7 => by
    refine ⟨m', hm, i + 1, H7, zs, I7.unpinned.weak (by rw [l6]) (fun j v e => ?_), Tn.keep _ _ _ st5 fun b hb o e => (I7.pin (b, o) (List.mem_append_right _ (List.mem_append_right _ (mem_pinsAt hb e)))).1, fun b hb => ?_, w7⟩
    ·have hj : j < σ.length := by
      rcases Nat.lt_or_ge j σ.length with z | z
      ·exact z
      ·rw [List.getElem?_append_right z, List.getElem?_replicate] at e
       split at e <;> cases e
     rw [k6 j (by rw [← I.len]; exact hj)]
     exact e
    ·obtain ⟨o, e, d⟩ := Tn.obj _ _ st5 b hb
     exact (I7.pin (b, o) (List.mem_append_right _ (List.mem_append_right _ (mem_pinsAt hb e)))).2.1
   refine thn (hi C fp s H _ s6 σ6 H6 _ I6 q6) fun b s7 ⟨H7, I7, q7⟩ => ?_
   cases b with
   | false =>
    obtain ⟨m', hm, w7⟩ := (show ∃ m', m' < n ∧ W (i + 1) m' ys H7 from by simpa using q7)
    exact back I7 hm w7
   | true =>
    rw [if_pos rfl] at q7
    refine thn (he C fp s H _ s7 σ6 H7 _ I7 q7) fun v s8 ⟨y, H8, I8, r8, hD8, hz, m', hm, w8⟩ => ?_
    refine thn (mt_append (X := cxComp X N0 T scope C fp s H) _ s8 σ6 H8 (.ref D) [y] (.ref D) [v] (fun _ H9 => H9 = upd H8 D (.lst (ys ++ [y]))) I8 rfl (.cons r8 .nil) ⟨D, ys, y, rfl, rfl, hD8, hz, rfl⟩) fun v9 s9 ⟨y9, H9, I9, _, e9⟩ => ?_
    subst e9
    exact back I9 hm w8
 exact codeAny_compStart_list (loop _ rfl) (Tn.self X.A 0 _ _ _ st1 (loop _ rfl))
theorem pe_comp (S : CompScope X N0 T scope) (hc : X.calm = true) (hI : PI X tg iter wi)
  (hg : ∀ C fp s H, PG (cxComp X N0 T scope C fp s H) tg g) (hfr : GFr g X.N.length) (hi : ∀ C fp s H, PIfs (cxComp X N0 T scope C fp s H) ifs tc) (he : ∀ C fp s H, PE (cxComp X N0 T scope C fp s H) elt te)
  (hs : ∀ x, foldedSetIterable iter X.env x = pure x := by intro _; rfl) : PE X (.ListComp elt [⟨tg, iter, ifs, 0⟩] scope pos) (tComp wi g tc te T.length) := by
 intro pins s σ H Q I h
 rw [eval_ListComp]
 refine wpAny_comprehension_free (use := none) rfl hs (closureFor_eq fun x hx hk => I.ok.has x.1 (S.free x hx hk)) S.kind S.names (thn (hI pins s σ H _ I h) fun v s1 h1 => thn h1 fun itv s2 h2 => ?_)
 obtain ⟨it, fp, tn, J, H2, e, I2, Tn, st2, f2, q2⟩ := h2
 subst e
 refine comp_core (RR := fun acc C => compPost (model X.prog X.w) X.A X.xe none (EP X pins σ Q) acc C) S hc hg hfr hi he I2 Tn st2 f2 q2 ?_
 intro D C s' H' m hn hC hL hcells hpins hfresh I' hI' q
 exact ⟨m, hn, fun h' hs' => ⟨.ref D, H', hI' h' hs', rfl, q⟩⟩
theorem ps_setcomp {i : Nat} {x : Str} {pos' spos : Pos} (S : CompScope X N0 T scope) (hc : X.calm = true) (hN : X.N.Nodup) (hi' : X.N[i]? = some x) (hx : X.env.scope.names.lookup x = some .local) (hI : PI X tg iter wi)
  (hg : ∀ C fp s H, PG (cxComp X N0 T scope C fp s H) tg g) (hfr : GFr g X.N.length) (hi : ∀ C fp s H, PIfs (cxComp X N0 T scope C fp s H) ifs tc) (he : ∀ C fp s H, PE (cxComp X N0 T scope C fp s H) elt te)
  (hsw : swapsWith (.ListComp elt [⟨tg, iter, ifs, 0⟩] scope pos) (some (.Name x pos')) spos.line X.env = pure true := by rfl)
  (hs : ∀ x, foldedSetIterable iter X.env x = pure x := by intro _; rfl) : PS X (.Assign [.Name x pos'] (.ListComp elt [⟨tg, iter, ifs, 0⟩] scope pos) spos) (tAsg (tComp wi g tc te T.length) (gName i)) := by
 intro pins s σ H D I h
 rw [exec_Assign_Name_used _ _ _ _ hsw]
 refine wpAny_bind (wpAny_standAt (wpAny_bind ?_))
 show wpAny _ X.A (do let _ ← comprehension (.ListComp elt [⟨tg, iter, ifs, 0⟩] scope pos) scope X.env _ (newList []) false (eval iter X.env) (some (assign (.Name x pos') X.env))) _ _ s
 refine wpAny_bind (wpAny_mono (wpAny_comprehension_free (use := some (assign (.Name x pos') X.env)) (Q := fun _ s' => SP X pins D .next s') rfl hs (closureFor_eq fun x hx hk => I.ok.has x.1 (S.free x hx hk)) S.kind S.names
  (thn (hI pins s σ H _ I h) fun v s1 h1 => thn h1 fun itv s2 h2 => ?_)) (fun _ s' hq => wpAny_pure (wpAny_pure hq)) fun _ _ e => e)
 obtain ⟨it, fp, tn, J, H2, e, I2, Tn, st2, f2, q2⟩ := h2
 subst e
 refine comp_core (RR := fun acc C => compPost (model X.prog X.w) X.A X.xe (some (assign (.Name x pos') X.env)) (fun _ s' => SP X pins D .next s') acc C) S hc hg hfr hi he I2 Tn st2 f2 q2 ?_
 intro L C s' H' m hn hC hL hcells hpins hfresh I' hI' q
 show wpAny _ X.A (assign (.Name x pos') X.env (.ref L)) _ _ _
 refine wpAny_assign_Name (store_ok2 (v := .ref L) I' hN hi' (.inl hx) rfl (fun s'' I'' ⟨a, hsa, ha⟩ => ?_) (.inr hx))
 have hCa : C ≠ a := by
  rintro rfl
  rcases ha with z | z
  ·exact hL z
  ·exact hcells x C z rfl
 refine ⟨m, hn.sameBut hsa hCa, fun h' hs' => ?_⟩
 exact ⟨σ.set i (some (.ref L)), H', I''.turned (t' := s''.toks) (fun b o hb e => (hs'.2 b hb).trans e) hC hL (.inr hfresh) hcells hpins, q⟩
end
end L2
set_option Elab.async false
set_option linter.all false
set_option maxRecDepth 100000
namespace L2
open PySem PySem.Spec PyProof.Rows
theorem Vals.of : ∀ {xs : List V} {us : List Value} {i : Nat} {u : Value}, Vals xs us → us[i]? = some u → ∃ x, xs[i]? = some x ∧ RelV x u
 | _, _, 0, u, .cons r _, e => ⟨_, rfl, by simp at e; subst e; exact r⟩
 | _, _, i + 1, u, .cons _ rr, e => by
  obtain ⟨x, hx, r⟩ := Vals.of (i := i) rr (by simpa using e)
  exact ⟨x, by simpa using hx, r⟩
theorem vals_strs : ∀ {ss : List Str} {us : List Value}, Vals (ss.map V.str) us → StrsAre us ss
 | [], _, .nil => .nil
 | s :: ss, _, .cons r rr => by
  obtain ⟨t, rfl⟩ := r
  exact .cons s t (vals_strs rr)
theorem strs_vals : ∀ {us : List Value} {ss : List Str}, StrsAre us ss → Vals (ss.map V.str) us
 | _, _, .nil => .nil
 | _, _, .cons y t h => .cons ⟨t, rfl⟩ (strs_vals h)
theorem range_all (bs : List Bool) : (List.range bs.length).all (fun i => bs.getD i false) = bs.all id := by
 rw [Bool.eq_iff_iff, List.all_eq_true, List.all_eq_true]
 constructor
 ·intro h b hb
  obtain ⟨i, hi, rfl⟩ := List.mem_iff_getElem.mp hb
  have := h i (List.mem_range.mpr hi)
  rw [List.getD_eq_getElem?_getD, List.getElem?_eq_getElem hi] at this
  exact this
 ·intro h i hi
  have hi' := List.mem_range.mp hi
  rw [List.getD_eq_getElem?_getD, List.getElem?_eq_getElem hi']
  exact h _ (List.getElem_mem hi')
theorem bools_at {bs : List Bool} {us : List Value} (r : Vals (bs.map V.bl) us) {i : Nat} {v : Value} (e : us.toArray[i]? = some v) : v = .bool (bs.getD i false) := by
 obtain ⟨x, hx, rx⟩ := r.of (i := i) (by simpa using e)
 rw [List.getElem?_map] at hx
 cases hb : bs[i]? with
 | none => rw [hb] at hx; cases hx
 | some b =>
  rw [hb] at hx
  have hx' : V.bl b = x := Option.some.inj hx
  subst hx'
  rw [List.getD_eq_getElem?_getD, hb]
  exact rx
section
variable {X : Cx}
def rAll (K : PySem.W.Frag) : List V → Hp → VK → Prop := fun xs H Q => ∃ (p : Addr) (bs : List Bool), xs = [.ref p] ∧ SqL K H p (bs.map V.bl) ∧ Q (.bl (bs.all id)) H
theorem rAll_at {K : PySem.W.Frag} {H : Hp} {Q : VK} (p : Addr) : rAll K [.ref p] H Q = ∃ bs : List Bool, SqL K H p (bs.map V.bl) ∧ Q (.bl (bs.all id)) H := propext ⟨fun ⟨_, bs, e, q⟩ => by cases e; exact ⟨bs, q⟩, fun ⟨bs, q⟩ => ⟨p, bs, rfl, q⟩⟩
theorem call_allL (hc : X.calm = true) : CallR X (.builtin "all") (rAll X.K) := by
 intro pins s σ H xs us Q I r h
 obtain ⟨p, bs, rfl, hq, q⟩ := h
 obtain ⟨u, rfl, ru⟩ := vals1 r
 cases ru
 obtain ⟨its, rv, pl, hz⟩ := I.list hq
 have hlen : its.length = bs.length := by rw [← rv.length, List.length_map]
 refine call_all_walk (wpAny_pyIter_list pl.isList ?_)
 refine ⟨_, _, _, _, _, _, fun i => bs.getD i false, rfl, Walks.list (A := X.A.in1) (I.ok.hd hc) s.heap.objs.size p (Nat.ne_of_lt pl.lt) its.toArray, ⟨⟨_, Heap.get?_push_size _ rfl, rfl, rfl⟩, (pl.keeps fun b o e => Heap.get?_push_of_some _ e).isList⟩, ?_, fun h' tk hk => ?_⟩
 ·intro i v s' Q' E' hP hQ
  rw [bools_at rv hP]
  exact wpAny_truthy_bool hQ
 ·refine ⟨.bl (bs.all id), H, I.kept (t' := tk) fun b o e => hk b o (fun z => ?_) (Heap.get?_push_of_some _ e), ?_, q⟩
  ·exact Nat.ne_of_lt (Heap.lt_size e) (by simpa using z)
  ·have e : (List.range its.toArray.size).all (fun i => bs.getD i false) = bs.all id := by rw [List.size_toArray, hlen, range_all]
   show Value.bool ((List.range its.toArray.size).all fun i => bs.getD i false) = Value.bool (bs.all id)
   rw [e]
def tyName (H : Hp) : V → Option String
 | .non => some "NoneType"
 | .bl _ => some "bool"
 | .int _ => some "int"
 | .str _ => some "str"
 | .ref a => match H a with
  | some (.lst _) => some "list"
  | some (.frz _ (.lst _)) => some "list"
  | some (.tup _) => some "tuple"
  | some (.dK _) => some "dict"
  | some (.dT _) => some "dict"
  | _ => none
 | _ => none
theorem tyOf_name {K : PySem.W.Frag} {H : Hp} : ∀ {x : V} {T : String}, tyName H x = some T → TyOf K H x (.type T)
 | .non, T, h => by cases h; exact .non
 | .bl b, T, h => by cases h; exact .bl b
 | .int i, T, h => by cases h; exact .int i
 | .str y, T, h => by cases h; exact .str y
 | .byt _, T, h => by cases h
 | .flt _, T, h => by cases h
 | .ty _, T, h => by cases h
 | .ref a, T, h => by
  cases e : H a with
  | none => simp [tyName, e] at h
  | some o =>
   cases o with
   | lst xs => simp [tyName, e] at h; subst h; exact .lst e
   | tup xs => simp [tyName, e] at h; subst h; exact .tup e
   | dK xs => simp [tyName, e] at h; subst h; exact .dK e
   | dT xs => simp [tyName, e] at h; subst h; exact .dT e
   | frz ob u =>
    cases u with
    | lst xs => simp [tyName, e] at h; subst h; exact .frz e
    | _ => simp [tyName, e] at h
   | _ => simp [tyName, e] at h
def isT (T C : String) : Bool := T == C || (T == "bool" && C == "int")
theorem kit_name (K : PySem.W.Frag) {T C : String} (hT : T ∈ ["NoneType", "bool", "int", "str", "list", "tuple", "dict"]) (hC : C ∈ ["bool", "int", "str", "list", "tuple"]) : PySem.W.kitOne K (.type T) (.type C) = some (isT T C) := by
 simp only [List.mem_cons, List.mem_nil_iff, or_false] at hT hC
 rcases hT with rfl | rfl | rfl | rfl | rfl | rfl | rfl <;> rcases hC with rfl | rfl | rfl | rfl | rfl <;> (with_unfolding_all rfl)
theorem tyName_mem {H : Hp} {x : V} {T : String} (h : tyName H x = some T) : T ∈ ["NoneType", "bool", "int", "str", "list", "tuple", "dict"] := by
 cases x with
 | ref a =>
  cases e : H a with
  | none => simp [tyName, e] at h
  | some o =>
   cases o with
   | frz ob u => cases u <;> simp [tyName, e] at h <;> subst h <;> decide
   | _ => simp [tyName, e] at h <;> subst h <;> decide
 | _ => first | (cases h; decide) | cases h
def rIsT : List V → Hp → VK → Prop := fun xs H Q => ∃ (x : V) (T C : String), xs = [x, .ty C] ∧ tyName H x = some T ∧ C ∈ ["bool", "int", "str", "list", "tuple"] ∧ Q (.bl (isT T C)) H
theorem rIsT_at {H : Hp} {Q : VK} (x : V) (C : String) : rIsT [x, .ty C] H Q = ∃ T, tyName H x = some T ∧ C ∈ ["bool", "int", "str", "list", "tuple"] ∧ Q (.bl (isT T C)) H :=
 propext ⟨fun ⟨_, T, _, e, q⟩ => by cases e; exact ⟨T, q⟩, fun ⟨T, q⟩ => ⟨x, T, C, rfl, q⟩⟩
theorem call_isT : CallR X (.builtin "isinstance") rIsT := by
 intro pins s σ H xs us Q I r h
 obtain ⟨x, T, C, rfl, hT, hC, q⟩ := h
 obtain ⟨u, w', rfl, ru, rw'⟩ := vals2 r
 cases rw'
 exact isinst_ok I ru (tyOf_name hT) (kit_name X.K (tyName_mem hT) hC) fun tk => ⟨.bl (isT T C), H, I.tok tk, rfl, q⟩
def rJoin (K : PySem.W.Frag) : V → List V → Hp → VK → Prop := fun x vs H Q => ∃ (sep : Str) (p : Addr) (ss : List Str), x = .str sep ∧ vs = [.ref p] ∧ SqL K H p (ss.map V.str) ∧ (ss.map (·.length)).sum + ss.length * sep.length ≤ 16777216 ∧ Q (.str (Txt.join sep ss)) H
theorem mt_join : MtR X "str.join" (rJoin X.K) := by
 intro pins s σ H x xs v us Q I rx r h
 obtain ⟨sep, p, ss, rfl, rfl, hq, hz, q⟩ := h
 obtain ⟨t, rfl⟩ := rx
 obtain ⟨u, rfl, ru⟩ := vals1 r
 cases ru
 obtain ⟨its, rv, pl, _⟩ := I.list hq
 exact join_list pl.isList (by simpa using vals_strs rv) hz fun t' k => ⟨.str (Txt.join sep ss), H, I.tok k, ⟨t', rfl⟩, q⟩
def Its (x : Str) : It := ⟨fun i _ => i < x.length, fun i H v H' => H' = H ∧ ∃ c, x.cps[i]? = some c ∧ v = .str ⟨#[c]⟩, fun i _ => x.length ≤ i⟩
theorem turn_str {P : Program} {w : World} {K : PySem.W.Frag} {tg : Expr} {it : Addr} {cls : String} {x : Str} {t : Tok} (hn : ["enumerate", "zip", "dict_itemiterator", "dict_reverseitemiterator", "odict_iterator", "itertools.zip_longest", "itertools.pairwise"].contains cls = false)
  (W : ∀ A : Around, A.handled = none → Walks P w A it [it] [it] x.cps.size (SignAt x) (fun i h => h.IsStrIter it cls x t i))
  (hself : ∀ (A : Around) (i : Nat) (s : Shared) (Q : Value → Shared → Prop) (E : Value → Shared → Prop), s.heap.IsStrIter it cls x t i → Q (.ref it) s → wpAny (model P w) A (pyIter (.ref it)) Q E s) : Turn P w K tg (Its x) [it] it (fun i h => h.IsStrIter it cls x t i ∧ i ≤ x.length) where
 mem := by simp
 obj := fun i h st b hb => by
  have e : b = it := by simpa using hb
  subst e
  obtain ⟨⟨o, e, c, d⟩, _⟩ := st
  exact ⟨o, e, fun v z => by rw [d] at z; cases z⟩
 keep := fun i h h' st k => by
  obtain ⟨⟨o, e, c, d⟩, z⟩ := st
  exact ⟨⟨o, k it (by simp) o e, c, d⟩, z⟩
 item := by
  intro X hP hw hK hc i pins s σ H E I hf st hg
  subst hP hw hK
  obtain ⟨f0, f1, f2, f3, f4, f5⟩ := hf it (by simp)
  have hg' : i < x.length := hg
  refine (W X.A (I.ok.hd hc)).item i s _ _ hg st.1 fun v h' tk hv st' kk => ?_
  obtain ⟨c, u, hcc, rfl⟩ := hv
  have I1 : Inv X pins σ H { s with heap := h', toks := tk } := I.turned (fun b o hb e => kk b o (by simpa using hb) e) f0 f1 f3 f4 f5
  obtain ⟨o, e, c', d⟩ := id st'
  exact ⟨_, rfl, go_of (s := { s with heap := h', toks := tk }) e c' d hn ⟨.str ⟨#[c]⟩, H, I1, ⟨u, rfl⟩, ⟨rfl, c, hcc, rfl⟩, ⟨st', hg'⟩, fun b hb => (hf b hb).1⟩⟩
 done := by
  intro X hP hw hK hc i pins s σ H E I hf st hg
  subst hP hw hK
  obtain ⟨f0, f1, f2, f3, f4, f5⟩ := hf it (by simp)
  have hg' : x.length ≤ i := hg
  have e : i = x.cps.size := Nat.le_antisymm st.2 hg'
  subst e
  exact (W X.A (I.ok.hd hc)).done s _ _ st.1 fun h' tk kk => ⟨rfl, I.turned (fun b o hb e => kk b o (by simpa using hb) e) f0 f1 f3 f4 f5⟩
 self := fun A i s Q E st h => hself A i s Q E st.1 h
def iStr (te : TE) : TI := fun σ H R => te σ H fun x H1 => ∃ y, x = .str y ∧ R (Its y) H1
theorem pi_str {tg e : Expr} {te : TE} (he : PE X e te) : PI X tg e (iStr te) := by
 intro pins s σ H R I h
 refine thn (he pins s σ H _ I h) fun v s1 ⟨x, H1, I1, r1, q1⟩ => ?_
 obtain ⟨y, e, q⟩ := q1
 subst e
 obtain ⟨t, rfl⟩ := r1
 have fin : ∀ (cls : String), PIE X pins σ tg R (.ref s1.heap.objs.size) { s1 with heap := s1.heap.push { cls := .type cls, data := .fields #[.str y t, .int 0 0] } } ∨ True := fun _ => .inr trivial
 cases ha : y.cps.all (· < 128)
 ·refine wpAny_pyIter_wide ha ?_
  refine ⟨s1.heap.objs.size, [s1.heap.objs.size], _, Its y, H1, rfl, I1.kept (t' := s1.toks) fun b o e => Heap.get?_push_of_some _ e, turn_str (cls := "str_iterator") (by decide) (fun A hA => Walks.strWide hA _ y t) (fun A i s Q E st h => wpAny_pyIter_striter_wide st h), ⟨⟨_, Heap.get?_push_size _ rfl, rfl, rfl⟩, Nat.zero_le _⟩, fun b hb => ?_, q⟩
  have e : b = s1.heap.objs.size := by simpa using hb
  subst e
  exact I1.fpOk (Nat.le_refl _) (I1.hok.fresh (Nat.le_refl _))
 ·refine wpAny_pyIter_ascii ha ?_
  refine ⟨s1.heap.objs.size, [s1.heap.objs.size], _, Its y, H1, rfl, I1.kept (t' := s1.toks) fun b o e => Heap.get?_push_of_some _ e, turn_str (cls := "str_ascii_iterator") (by decide) (fun A hA => Walks.strAscii hA _ y t) (fun A i s Q E st h => wpAny_pyIter_striter_ascii st h), ⟨⟨_, Heap.get?_push_size _ rfl, rfl, rfl⟩, Nat.zero_le _⟩, fun b hb => ?_, q⟩
  have e : b = s1.heap.objs.size := by simpa using hb
  subst e
  exact I1.fpOk (Nat.le_refl _) (I1.hok.fresh (Nat.le_refl _))
end
def forW (J : It) (g : TG) (tb : TS) (D : Ends) (σ : St) (H : Hp) : Prop := ∃ W : Nat → Nat → St → Hp → Prop, (∃ m, W 0 m σ H) ∧ ∀ i m σ H, W i m σ H →
 (J.stop i H ∧ D.nx σ H) ∨ (J.go i H ∧ ∃ N : St → Hp → Prop, (∀ σ' H', N σ' H' → ∃ m', m' < m ∧ W (i + 1) m' σ' H') ∧ ∀ x H', J.yld i H x H' → g x σ H' fun σ2 H2 => tb { D with nx := N, ct := N, bk := D.nx } σ2 H2)
theorem tFor_at (wi : TI) (g : TG) (tb : TS) (D : Ends) (σ : St) (H : Hp) : tFor wi g tb D σ H = wi σ H fun J H1 => forW J g tb D σ H1 := rfl
theorem forW_by {J : It} {g : TG} {tb : TS} {D : Ends} {σ : St} {H : Hp} (n : Nat) (Pv : Nat → St → Hp → Prop) (h0 : Pv 0 σ H) (hgo : ∀ i σ H, i < n → Pv i σ H → J.go i H) (hst : ∀ σ H, Pv n σ H → J.stop n H)
  (hs : ∀ i σ H x H', i < n → Pv i σ H → J.yld i H x H' → g x σ H' fun σ2 H2 => tb { D with nx := Pv (i + 1), ct := Pv (i + 1), bk := D.nx } σ2 H2) (hd : ∀ σ H, Pv n σ H → D.nx σ H) : forW J g tb D σ H := by
 refine ⟨fun i m σ H => m = n - i ∧ i ≤ n ∧ Pv i σ H, ⟨n, by simp, Nat.zero_le _, h0⟩, ?_⟩
 rintro i m σ H ⟨rfl, hi, p⟩
 by_cases hlt : i < n
 ·exact .inr ⟨hgo i σ H hlt p, Pv (i + 1), fun σ' H' p' => ⟨n - (i + 1), by omega, rfl, hlt, p'⟩, fun x H' y => hs i σ H x H' hlt p y⟩
 ·have e : i = n := by omega
  subst e
  exact .inl ⟨hst σ H p, hd σ H p⟩
theorem forW_list {K : PySem.W.Frag} {a : Addr} {xs : List V} {g : TG} {tb : TS} {D : Ends} {σ : St} {H : Hp} (Pv : Nat → St → Hp → Prop) (h0 : Pv 0 σ H) (hl : ∀ i σ H, i ≤ xs.length → Pv i σ H → SqL K H a xs)
  (hs : ∀ i x σ H, xs[i]? = some x → Pv i σ H → g x σ H fun σ2 H2 => tb { D with nx := Pv (i + 1), ct := Pv (i + 1), bk := D.nx } σ2 H2) (hd : ∀ σ H, Pv xs.length σ H → D.nx σ H) : forW (Itl K a) g tb D σ H :=
 for_list Pv h0 hl hs hd
theorem forW_range {lo : Int} {n : Nat} {g : TG} {tb : TS} {D : Ends} {σ : St} {H : Hp} (Pv : Nat → St → Hp → Prop) (h0 : Pv 0 σ H)
  (hs : ∀ i σ H, i < n → Pv i σ H → g (.int (lo + i)) σ H fun σ2 H2 => tb { D with nx := Pv (i + 1), ct := Pv (i + 1), bk := D.nx } σ2 H2) (hd : ∀ σ H, Pv n σ H → D.nx σ H) : forW (Itr lo n) g tb D σ H :=
 for_range Pv h0 hs hd
theorem forW_str {y : Str} {g : TG} {tb : TS} {D : Ends} {σ : St} {H : Hp} (Pv : Nat → St → Hp → Prop) (h0 : Pv 0 σ H)
  (hs : ∀ i c σ H, y.cps[i]? = some c → Pv i σ H → g (.str ⟨#[c]⟩) σ H fun σ2 H2 => tb { D with nx := Pv (i + 1), ct := Pv (i + 1), bk := D.nx } σ2 H2) (hd : ∀ σ H, Pv y.length σ H → D.nx σ H) : forW (Its y) g tb D σ H := by
 refine forW_by y.length Pv h0 (fun i σ H hi _ => hi) (fun σ H _ => Nat.le_refl _) (fun i σ H x H' hi p yl => ?_) hd
 obtain ⟨rfl, c, hc, rfl⟩ := yl
 exact hs i c σ _ hc p
def CStep (n i : Nat) (Pv : Nat → List V → Hp → Prop) (D : Addr) (ys : List V) (y : V) (H : Hp) : Prop :=
 H D = some (.lst ys) ∧ ys.length < sizeLine ∧ ∃ m', m' < n - i ∧ (m' = n - (i + 1) ∧ i + 1 ≤ n ∧ Pv (i + 1) (ys ++ [y]) (upd H D (.lst (ys ++ [y]))))
theorem cstep {n i : Nat} {Pv : Nat → List V → Hp → Prop} {D : Addr} {ys : List V} {y : V} {H : Hp} (hi : i < n) (hlen : ys.length = i) (hz : n ≤ sizeLine) (h1 : H D = some (.lst ys)) (h2 : Pv (i + 1) (ys ++ [y]) (upd H D (.lst (ys ++ [y])))) : CStep n i Pv D ys y H :=
 ⟨h1, by omega, n - (i + 1), by omega, rfl, hi, h2⟩
def compK (n i : Nat) (Pv : Nat → List V → Hp → Prop) (D : Addr) (ys : List V) (te : TE) (σ : St) (H : Hp) : Prop :=
 if true = true then te σ H (CStep n i Pv D ys) else ∃ m', m' < n - i ∧ (m' = n - (i + 1) ∧ i + 1 ≤ n ∧ Pv (i + 1) ys H)
theorem compK_at {n i : Nat} {Pv : Nat → List V → Hp → Prop} {D : Addr} {ys : List V} {te : TE} {σ : St} {H : Hp} : compK n i Pv D ys te σ H = te σ H (CStep n i Pv D ys) := by
 unfold compK; rw [if_pos rfl]
theorem compW_by {J : It} {g : TG} {te : TE} {nT : Nat} {σ : St} {D : Addr} {Q : VK} {H : Hp} (n : Nat) (Pv : Nat → List V → Hp → Prop) (h0 : Pv 0 [] H) (hgo : ∀ i ys H, i < n → Pv i ys H → J.go i H) (hst : ∀ ys H, Pv n ys H → J.stop n H)
  (hs : ∀ i ys H x H', i < n → Pv i ys H → J.yld i H x H' → g x (σ ++ List.replicate nT none) H' (compK n i Pv D ys te))
  (hd : ∀ ys H, Pv n ys H → Q (.ref D) H) : compW J g tYes te nT σ D Q H := by
 refine ⟨fun i m ys H => m = n - i ∧ i ≤ n ∧ Pv i ys H, ⟨n, by simp, Nat.zero_le _, h0⟩, ?_⟩
 rintro i m ys H ⟨rfl, hi, p⟩
 by_cases hlt : i < n
 ·exact .inr ⟨hgo i ys H hlt p, fun x H' y => hs i ys H x H' hlt p y⟩
 ·have e : i = n := by omega
  subst e
  exact .inl ⟨hst ys H p, hd ys H p⟩
theorem compW_list {K : PySem.W.Frag} {a : Addr} {xs : List V} {g : TG} {te : TE} {nT : Nat} {σ : St} {D : Addr} {Q : VK} {H : Hp} (Pv : Nat → List V → Hp → Prop) (h0 : Pv 0 [] H) (hl : ∀ i ys H, i ≤ xs.length → Pv i ys H → SqL K H a xs)
  (hs : ∀ i ys H x, xs[i]? = some x → i < xs.length → Pv i ys H → g x (σ ++ List.replicate nT none) H (compK xs.length i Pv D ys te))
  (hd : ∀ ys H, Pv xs.length ys H → Q (.ref D) H) : compW (Itl K a) g tYes te nT σ D Q H := by
 refine compW_by xs.length Pv h0 (fun i ys H hi p => ⟨xs, xs[i], hl i ys H (Nat.le_of_lt hi) p, by simp [hi]⟩) (fun ys H p => ⟨xs, hl _ ys H (Nat.le_refl _) p, Nat.le_refl _⟩) (fun i ys H x H' hi p yl => ?_) hd
 obtain ⟨rfl, y⟩ := yl
 exact hs i ys _ x (y xs (hl i ys _ (Nat.le_of_lt hi) p)) hi p
theorem compW_range {lo : Int} {n : Nat} {g : TG} {te : TE} {nT : Nat} {σ : St} {D : Addr} {Q : VK} {H : Hp} (Pv : Nat → List V → Hp → Prop) (h0 : Pv 0 [] H)
  (hs : ∀ i ys H, i < n → Pv i ys H → g (.int (lo + i)) (σ ++ List.replicate nT none) H (compK n i Pv D ys te))
  (hd : ∀ ys H, Pv n ys H → Q (.ref D) H) : compW (Itr lo n) g tYes te nT σ D Q H := by
 refine compW_by n Pv h0 (fun i ys H hi p => hi) (fun ys H p => Nat.le_refl _) (fun i ys H x H' hi p yl => ?_) hd
 obtain ⟨rfl, rfl⟩ := yl
 exact hs i ys _ hi p
theorem compW_str {y : Str} {g : TG} {te : TE} {nT : Nat} {σ : St} {D : Addr} {Q : VK} {H : Hp} (Pv : Nat → List V → Hp → Prop) (h0 : Pv 0 [] H)
  (hs : ∀ i ys H c, y.cps[i]? = some c → i < y.length → Pv i ys H → g (.str ⟨#[c]⟩) (σ ++ List.replicate nT none) H (compK y.length i Pv D ys te))
  (hd : ∀ ys H, Pv y.length ys H → Q (.ref D) H) : compW (Its y) g tYes te nT σ D Q H := by
 refine compW_by y.length Pv h0 (fun i ys H hi p => hi) (fun ys H p => Nat.le_refl _) (fun i ys H x H' hi p yl => ?_) hd
 obtain ⟨rfl, c, hc, rfl⟩ := yl
 exact hs i ys _ c hc hi p
end L2
set_option Elab.async false
set_option linter.all false
set_option maxRecDepth 100000
namespace L2
open PySem PySem.Spec PyProof.Rows
def Rest (u : TS) (D : Ends) (σ : St) (H : Hp) : Prop := u D σ H
section
variable {D : Ends} {σ : St} {H : Hp} {Q : VK} {B : Bool → Hp → Prop} {L : List V → Hp → Prop} {R : It → Hp → Prop} {G : St → Hp → Prop}
theorem tSeq_at (t u : TS) : tSeq t u D σ H = t { D with nx := Rest u D } σ H := rfl
theorem rest_at (u : TS) : Rest u D σ H = u D σ H := rfl
theorem tNext_at : tNext D σ H = D.nx σ H := rfl
theorem tCont_at : tCont D σ H = D.ct σ H := rfl
theorem tIfS_at (c : TT) (t u : TS) : tIfS c t u D σ H = c σ H fun b H1 => if b = true then t D σ H1 else u D σ H1 := rfl
theorem tRet_at (t : TE) : tRet t D σ H = t σ H D.rt := rfl
theorem tDrop_at (t : TE) : tDrop t D σ H = t σ H fun _ H1 => D.nx σ H1 := rfl
theorem tAsg_at (t : TE) (g : TG) : tAsg t g D σ H = t σ H fun x H1 => g x σ H1 D.nx := rfl
theorem gName_at (i : Nat) (v : V) : gName i v σ H G = G (σ.set i (some v)) H := rfl
theorem gNil_at (vs : List V) : gNil vs σ H G = (vs = [] ∧ G σ H) := rfl
theorem gCons_at (t : TG) (u : TGs) (vs : List V) : gCons t u vs σ H G = ∃ v r, vs = v :: r ∧ t v σ H fun σ' H' => u r σ' H' G := rfl
theorem gTup_at (K : PySem.W.Frag) (n : Nat) (t : TGs) (v : V) : gTup K n t v σ H G = ∃ a xs, v = .ref a ∧ SqT K H a xs ∧ xs.length = n ∧ t xs σ H G := rfl
theorem tVar_at (i : Nat) : tVar i σ H Q = ∃ v, σ[i]? = some (some v) ∧ Q v H := rfl
theorem tC_at (v : V) : tC v σ H Q = Q v H := rfl
theorem tOp_at (r : R2) (ta tb : TE) : tOp r ta tb σ H Q = ta σ H fun x H1 => tb σ H1 fun y H2 => r x y H2 Q := rfl
theorem tUn_at (r : V → Hp → VK → Prop) (ta : TE) : tUn r ta σ H Q = ta σ H fun x H1 => r x H1 Q := rfl
theorem tTest_at (t : TE) : tTest t σ H B = t σ H fun x H' => ∃ k, x = .bl k ∧ B k H' := rfl
theorem tB_at (t : TE) : tB t σ H B = t σ H fun x H' => ∃ k, x = .bl k ∧ B k H' := rfl
theorem tAnd_at (t u : TT) : tAnd t u σ H B = t σ H fun c H1 => if c = true then u σ H1 B else B false H1 := rfl
theorem tOr_at (t u : TT) : tOr t u σ H B = t σ H fun c H1 => if c = true then B true H1 else u σ H1 B := rfl
theorem tNot_at (t : TT) : tNot t σ H B = t σ H fun c H1 => B (!c) H1 := rfl
theorem tAndV_at (ta tb : TE) : tAndV ta tb σ H Q = ta σ H fun x H1 => ∃ c, x = .bl c ∧ if c = true then tb σ H1 Q else Q (.bl false) H1 := rfl
theorem tOrV_at (ta tb : TE) : tOrV ta tb σ H Q = ta σ H fun x H1 => ∃ c, x = .bl c ∧ if c = true then Q (.bl true) H1 else tb σ H1 Q := rfl
theorem tNotV_at (ta : TE) : tNotV ta σ H Q = ta σ H fun x H1 => ∃ c, x = .bl c ∧ Q (.bl (!c)) H1 := rfl
theorem tIf_at (t : TT) (ta tb : TE) : tIf t ta tb σ H Q = t σ H fun c H1 => if c = true then ta σ H1 Q else tb σ H1 Q := rfl
theorem tCB_at (r : List V → Hp → VK → Prop) (t : TA) : tCB r t σ H Q = t σ H fun vs H1 => r vs H1 Q := rfl
theorem tCons_at (ta : TE) (tr : TA) : tCons ta tr σ H L = ta σ H fun x H1 => tr σ H1 fun xs H2 => L (x :: xs) H2 := rfl
theorem tNil_at : tNil σ H L = L [] H := rfl
theorem tTup_at (t : TA) : tTup t σ H Q = t σ H fun xs H1 => xs.length ≤ sizeLine ∧ ∀ p, H1 p = none → Q (.ref p) (upd H1 p (.tup xs)) := rfl
theorem tLst_at (t : TA) : tLst t σ H Q = t σ H fun xs H1 => xs.length ≤ sizeLine ∧ ∀ p, H1 p = none → Q (.ref p) (upd H1 p (.lst xs)) := rfl
theorem tCall_at (sp : Sp) (dvs : List V) (E : XK) (t : TA) : tCall sp dvs E t σ H Q = t σ H fun vs H1 => sp (vs ++ dvs) H1 Q E := rfl
theorem tBM_at (K : PySem.W.Frag) (T : String) (r : V → List V → Hp → VK → Prop) (to : TE) (t : TA) : tBM K T r to t σ H Q = to σ H fun x H1 => tyV K T x H1 ∧ t σ H1 fun xs H2 => r x xs H2 Q := rfl
theorem tChain_at (r r' : R2) (ta tb tc : TE) : tChain r r' ta tb tc σ H Q = ta σ H fun x H1 => tb σ H1 fun y H2 => r x y H2 fun z H3 => ∃ k, z = .bl k ∧ (if k = true then tc σ H3 fun w' H4 => r' y w' H4 Q else Q (.bl false) H3) := rfl
theorem tSl_at (r : V → Option Int → Option Int → Hp → VK → Prop) (te : TE) (tl th : TO) : tSl r te tl th σ H Q = te σ H fun x H1 => tl σ H1 fun l H2 => th σ H2 fun u H3 => r x l u H3 Q := rfl
theorem tPart_at (t : TE) (O : Option Int → Hp → Prop) : tPart t σ H O = t σ H fun x H1 => ∃ i, x = .int i ∧ O (some i) H1 := rfl
theorem tNoPart_at (O : Option Int → Hp → Prop) : tNoPart σ H O = O none H := rfl
theorem tComp_at (wi : TI) (g : TG) (tc : TT) (te : TE) (nT : Nat) : tComp wi g tc te nT σ H Q = wi σ H fun J H1 => ∀ D, H1 D = none → compW J g tc te nT σ D Q (upd H1 D (.lst [])) := rfl
theorem tYes_at : tYes σ H B = B true H := rfl
theorem iList_at (K : PySem.W.Frag) (tl : TE) : iList K tl σ H R = tl σ H fun x H1 => ∃ a, x = .ref a ∧ (∃ xs, SqL K H1 a xs) ∧ R (Itl K a) H1 := rfl
theorem iStr_at (te : TE) : iStr te σ H R = te σ H fun x H1 => ∃ y, x = .str y ∧ R (Its y) H1 := rfl
theorem iRng1_at (ta : TA) : iRng1 ta σ H R = ta σ H fun vs H1 => ∃ j : Int, vs = [.int j] ∧ -(2 ^ 62) ≤ j ∧ j < 2 ^ 62 ∧ R (Itr 0 j.toNat) H1 := rfl
theorem iRng2_at (ta : TA) : iRng2 ta σ H R = ta σ H fun vs H1 => ∃ i j : Int, vs = [.int i, .int j] ∧ (-(2 ^ 62) ≤ i ∧ i < 2 ^ 62 ∧ -(2 ^ 62) ≤ j ∧ j < 2 ^ 62) ∧ R (Itr i (j - i).toNat) H1 := rfl
theorem rI0_at (g : Int → Int → V) (i j : Int) : rI0 g (.int i) (.int j) H Q = Q (g i j) H := propext ⟨fun ⟨_, _, e1, e2, q⟩ => by cases e1; cases e2; exact q, fun q => ⟨i, j, rfl, rfl, q⟩⟩
theorem rI_at (C : Int → Int → Prop) (g : Int → Int → V) (i j : Int) : rI C g (.int i) (.int j) H Q = (C i j ∧ Q (g i j) H) := propext ⟨fun ⟨_, _, e1, e2, q⟩ => by cases e1; cases e2; exact q, fun q => ⟨i, j, rfl, rfl, q⟩⟩
end
structure DefAt (K : PySem.W.Frag) (mg : Str → Option Value) (x : Str) (st : Stmt) : Prop where
 ex : ∃ f fd, Fun K x x st f fd ∧ mg x = some (.ref f)
structure Cal (P : Program) (w : World) (K : PySem.W.Frag) (mg : Str → Option Value) (base : Heap) (k : Nat) (x : Str) (ps : List Str) (sp : Sp) : Prop where
 ex : ∃ f fd, FnOk P w K mg base CX0 k f fd ps sp ∧ Binds K fd ps [] ∧ PySem.W.keepIn K (.ref f) = true ∧ mg x = some (.ref f)
section
variable {P : Program} {w : World} {K : PySem.W.Frag} {mg : Str → Option Value} {base : Heap}
theorem DefAt.cal {x : Str} {st : Stmt} {N ps : List Str} {k : Nat} {sp : Sp} (D : DefAt K mg x st) (S : FnScope N ps (defScope st))
  (hb : ∀ (kV doc pm : Value) (an : Option Addr) (cdv ct : Value) (us : List Value), us.length = ps.length → bindArgs (PySem.W.fnOf x x (defArgs st) (defBody st) (defScope st) .none kV doc pm an cdv ct) ⟨us, []⟩ = pure (ps.zip us))
  (len : ∀ vs H Q E, sp vs H Q E → vs.length = ps.length)
  (hbody : ∀ (f : Addr) (cdv : Value) (A : Around) (outer : List Env) (s : Shared) (H : Hp) (vs : List V) (Q : VK) (E : XK), Room k (A.deeper (envOfC x (defScope st) s.heap.objs.size f cdv)) → sp vs H Q E →
   ∃ t, PSs (cxOf CX0 P w K mg base N x (defScope st) f cdv A outer s H E).nox (defBody st) t ∧ t { nx := fun _ H' => Q .non H', rt := Q } (start N vs) H) : Cal P w K mg base (k + 1) x ps sp := by
 obtain ⟨f, fd, F, m⟩ := D.ex
 exact ⟨f, fd, F.ok S len fun cdv A outer s H vs Q E hr h => hbody f cdv A outer s H vs Q E hr h, F.binds hb, F.kp, m⟩
end
section
variable {X : Cx}
theorem pe_cal {j k : Nat} {x : Str} {ps : List Str} {sp : Sp} {p pos : Pos} {e : Expr} {es : List Expr} {t : TA} (c : Cal X.prog X.w X.K X.mg X.base j x ps sp) (hr : Room k X.A) (ha : PA X (e :: es) t) (hle : j ≤ k := by decide) (hg : Gl X x := by rfl)
  (hdb : (x == ("__debug__" : Str)) = false := by decide) (he : starEach (e :: es) X.env = (false, eval e X.env) :: starEach es X.env := by rfl) (hpl : (backTo pos (starEach es X.env)).any (·.1) = false := by rfl) :
  PE X (.Call (.Name x p) (e :: es) [] pos) (tCall sp [] E0 t) := by
 obtain ⟨f, fd, F, b, kp, m⟩ := c.ex
 exact pe_call F (hr.mono hle) hg m kp b .nil pass0 ha hdb he hpl
theorem pe_gstr {x : Str} {y : Str} {pos : Pos} (h : ∃ t, X.mg x = some (.str y t)) (hg : Gl X x := by rfl) (hd : (x == ("__debug__" : Str)) = false := by decide) : PE X (.Name x pos) (tC (.str y)) := by
 obtain ⟨t, h⟩ := h
 exact pe_glob hg h ⟨t, rfl⟩ hd
theorem pe_gint {x : Str} {i : Int} {pos : Pos} (h : ∃ t, X.mg x = some (.int i t)) (hg : Gl X x := by rfl) (hd : (x == ("__debug__" : Str)) = false := by decide) : PE X (.Name x pos) (tC (.int i)) := by
 obtain ⟨t, h⟩ := h
 exact pe_glob hg h ⟨t, rfl⟩ hd
theorem pe_gty {x : Str} {T : String} {pos : Pos} (hm : X.mg x = none) (hv : bootBuiltins x = some (.type T)) (hg : Gl X x := by rfl) (hn : x ≠ "__name__" := by decide) (hd : (x == ("__debug__" : Str)) = false := by decide) : PE X (.Name x pos) (tC (.ty T)) :=
 pe_bltn hg hm hv rfl hn hd
theorem pe_blt {x : Str} {p pos : Pos} {e : Expr} {es : List Expr} {t : TA} {id : String} {r : List V → Hp → VK → Prop} (hc : CallR X (.builtin id) r) (hm : X.mg x = none) (hv : bootBuiltins x = some (.builtin id)) (ha : PA X (e :: es) t) (hg : Gl X x := by rfl)
  (hn : x ≠ "__name__" := by decide) (hdb : (x == ("__debug__" : Str)) = false := by decide) (he : starEach (e :: es) X.env = (false, eval e X.env) :: starEach es X.env := by rfl) (hpl : (backTo pos (starEach es X.env)).any (·.1) = false := by rfl) :
  PE X (.Call (.Name x p) (e :: es) [] pos) (tCB r t) := pe_callB hc hg hm hv ha hn hdb he hpl
theorem pe_bty {x : Str} {p pos : Pos} {e : Expr} {es : List Expr} {t : TA} {T : String} {r : List V → Hp → VK → Prop} (hc : CallR X (.type T) r) (hm : X.mg x = none) (hv : bootBuiltins x = some (.type T)) (ha : PA X (e :: es) t) (hg : Gl X x := by rfl)
  (hn : x ≠ "__name__" := by decide) (hdb : (x == ("__debug__" : Str)) = false := by decide) (he : starEach (e :: es) X.env = (false, eval e X.env) :: starEach es X.env := by rfl) (hpl : (backTo pos (starEach es X.env)).any (·.1) = false := by rfl) :
  PE X (.Call (.Name x p) (e :: es) [] pos) (tCB r t) := pe_callTy hc hg hm hv ha hn hdb he hpl
end
section
variable {X : Cx}
def rAddA : R2 := fun x y H Q => match x, y with
 | .int i, .int j => Q (.int (i + j)) H
 | .str a, .str b => a.length + b.length ≤ sizeLine ∧ Q (.str (a ++ b)) H
 | .ref l, .ref b => ∃ xs zs, H l = some (.lst xs) ∧ H b = some (.lst zs) ∧ xs.length + zs.length ≤ sizeLine ∧ ∀ p, H p = none → Q (.ref p) (upd H p (.lst (xs ++ zs)))
 | _, _ => False
theorem op_addA : OpR X (binaryOp .Add) rAddA := by
 intro pins s σ H x y v u Q I rx ry h
 cases x <;> cases y <;> first
  | exact (show False from h).elim
  | exact op_add pins s σ H _ _ v u Q I rx ry ⟨_, _, rfl, rfl, h⟩
  | exact op_add_str pins s σ H _ _ v u Q I rx ry ⟨_, _, rfl, rfl, h⟩
  | (obtain ⟨xs, zs, h1, h2, h3, h4⟩ := h; exact op_cat pins s σ H _ _ v u Q I rx ry ⟨_, _, xs, zs, rfl, rfl, h1, h2, h3, h4⟩)
def rLtA : R2 := fun x y H Q => match x, y with
 | .int i, .int j => Q (.bl (decide (i < j))) H
 | .str i, .str j => Q (.bl (decide (i.cps.toList < j.cps.toList))) H
 | _, _ => False
theorem op_ltA : OpR X (compareOp .Lt) rLtA := by
 intro pins s σ H x y v u Q I rx ry h
 cases x <;> cases y <;> first
  | exact (show False from h).elim
  | exact op_lt pins s σ H _ _ v u Q I rx ry ⟨_, _, rfl, rfl, h⟩
  | exact op_lt_str pins s σ H _ _ v u Q I rx ry ⟨_, _, rfl, rfl, h⟩
def rInA (K : PySem.W.Frag) : R2 := fun x y H Q => match x, y with
 | .str i, .str j => Q (.bl (!(Builtin.Str.occurrences j i 0 j.length 1).isEmpty)) H
 | x, .ref p => ∃ xs, (SqL K H p xs ∨ SqT K H p xs) ∧ flatV x = true ∧ xs.all flatV = true ∧ Q (.bl (inV x xs)) H
 | _, _ => False
theorem op_inA : OpR X (compareOp .In) (rInA X.K) := by
 intro pins s σ H x y v u Q I rx ry h
 cases y with
 | str j =>
  cases x with
  | str i => exact op_in_str pins s σ H _ _ v u Q I rx ry ⟨i, j, rfl, rfl, h⟩
  | _ => exact (show False from h).elim
 | ref p =>
  have h' : ∃ xs, (SqL X.K H p xs ∨ SqT X.K H p xs) ∧ flatV x = true ∧ xs.all flatV = true ∧ Q (.bl (inV x xs)) H := by cases x <;> exact h
  obtain ⟨xs, h1, h2, h3, h4⟩ := h'
  exact op_in_seq pins s σ H _ _ v u Q I rx ry ⟨p, xs, rfl, h1, h2, h3, h4⟩
 | _ => cases x <;> exact (show False from h).elim
def rNotInA (K : PySem.W.Frag) : R2 := fun x y H Q => match x, y with
 | .str i, .str j => Q (.bl (!(!(Builtin.Str.occurrences j i 0 j.length 1).isEmpty))) H
 | x, .ref p => ∃ xs, (SqL K H p xs ∨ SqT K H p xs) ∧ flatV x = true ∧ xs.all flatV = true ∧ Q (.bl (!inV x xs)) H
 | _, _ => False
theorem op_notInA : OpR X (compareOp .NotIn) (rNotInA X.K) := by
 intro pins s σ H x y v u Q I rx ry h
 cases y with
 | str j =>
  cases x with
  | str i => exact op_notin_str pins s σ H _ _ v u Q I rx ry ⟨i, j, rfl, rfl, h⟩
  | _ => exact (show False from h).elim
 | ref p =>
  have h' : ∃ xs, (SqL X.K H p xs ∨ SqT X.K H p xs) ∧ flatV x = true ∧ xs.all flatV = true ∧ Q (.bl (!inV x xs)) H := by cases x <;> exact h
  obtain ⟨xs, h1, h2, h3, h4⟩ := h'
  exact op_notIn_seq pins s σ H _ _ v u Q I rx ry ⟨p, xs, rfl, h1, h2, h3, h4⟩
 | _ => cases x <;> exact (show False from h).elim
def rLenA (K : PySem.W.Frag) : List V → Hp → VK → Prop := fun xs H Q => match xs with
 | [.str z] => z.length ≤ sizeLine ∧ Q (.int z.length) H
 | [.ref p] => ∃ ys, (SqL K H p ys ∨ SqT K H p ys) ∧ Q (.int ys.length) H
 | _ => False
theorem call_lenA : CallR X (.builtin "len") (rLenA X.K) := by
 intro pins s σ H xs us Q I r h
 match xs, h with
 | [.str z], h => exact call_len_str pins s σ H _ us Q I r ⟨z, rfl, h⟩
 | [.ref p], h => obtain ⟨ys, h1, h2⟩ := h; exact call_len_seq pins s σ H _ us Q I r ⟨p, ys, rfl, h1, h2⟩
def rIxA (K : PySem.W.Frag) : R2 := fun x y H Q => match x, y with
 | .ref p, .int i => ∃ xs v, (SqL K H p xs ∨ SqT K H p xs) ∧ atI xs i = some v ∧ Q v H
 | .str z, .int i => ∃ c, z.length ≤ sizeLine ∧ atI z.cps.toList i = some c ∧ Q (.str ⟨#[c]⟩) H
 | _, _ => False
theorem ix_A : IxR X (rIxA X.K) := by
 intro value slice pins s σ H x y v u Q I rx ry h hs
 refine ix_seq value slice pins s σ H x y v u Q I rx ry ?_ hs
 match x, y, h with
 | .ref p, .int i, h =>
  obtain ⟨xs, v', h1, h2, h3⟩ := h
  rcases h1 with h1 | h1
  ·exact .inl ⟨p, xs, i, v', rfl, rfl, h1, h2, h3⟩
  ·exact .inr (.inl ⟨p, xs, i, v', rfl, rfl, h1, h2, h3⟩)
 | .str z, .int i, h =>
  obtain ⟨c, h1, h2, h3⟩ := h
  exact .inr (.inr ⟨z, i, c, rfl, rfl, h1, h2, h3⟩)
end
section
variable {K : PySem.W.Frag} {H : Hp} {Q : VK}
theorem rAddA_int (i j : Int) : rAddA (.int i) (.int j) H Q = Q (.int (i + j)) H := rfl
theorem rAddA_str (a b : Str) : rAddA (.str a) (.str b) H Q = (a.length + b.length ≤ sizeLine ∧ Q (.str (a ++ b)) H) := rfl
theorem rAddA_ref (l b : Addr) : rAddA (.ref l) (.ref b) H Q = ∃ xs zs, H l = some (.lst xs) ∧ H b = some (.lst zs) ∧ xs.length + zs.length ≤ sizeLine ∧ ∀ p, H p = none → Q (.ref p) (upd H p (.lst (xs ++ zs))) := rfl
theorem rLtA_int (i j : Int) : rLtA (.int i) (.int j) H Q = Q (.bl (decide (i < j))) H := rfl
theorem rLtA_str (i j : Str) : rLtA (.str i) (.str j) H Q = Q (.bl (decide (i.cps.toList < j.cps.toList))) H := rfl
theorem rInA_str (i j : Str) : rInA K (.str i) (.str j) H Q = Q (.bl (!(Builtin.Str.occurrences j i 0 j.length 1).isEmpty)) H := rfl
theorem rInA_ref (x : V) (p : Addr) : rInA K x (.ref p) H Q = ∃ xs, (SqL K H p xs ∨ SqT K H p xs) ∧ flatV x = true ∧ xs.all flatV = true ∧ Q (.bl (inV x xs)) H := by cases x <;> rfl
theorem rNotInA_str (i j : Str) : rNotInA K (.str i) (.str j) H Q = Q (.bl (!(!(Builtin.Str.occurrences j i 0 j.length 1).isEmpty))) H := rfl
theorem rNotInA_ref (x : V) (p : Addr) : rNotInA K x (.ref p) H Q = ∃ xs, (SqL K H p xs ∨ SqT K H p xs) ∧ flatV x = true ∧ xs.all flatV = true ∧ Q (.bl (!inV x xs)) H := by cases x <;> rfl
theorem rLenA_str (z : Str) : rLenA K [.str z] H Q = (z.length ≤ sizeLine ∧ Q (.int z.length) H) := rfl
theorem rLenA_ref (p : Addr) : rLenA K [.ref p] H Q = ∃ ys, (SqL K H p ys ∨ SqT K H p ys) ∧ Q (.int ys.length) H := rfl
theorem rIxA_ref (p : Addr) (i : Int) : rIxA K (.ref p) (.int i) H Q = ∃ xs v, (SqL K H p xs ∨ SqT K H p xs) ∧ atI xs i = some v ∧ Q v H := rfl
theorem rIxA_str (z : Str) (i : Int) : rIxA K (.str z) (.int i) H Q = ∃ c, z.length ≤ sizeLine ∧ atI z.cps.toList i = some c ∧ Q (.str ⟨#[c]⟩) H := rfl
theorem rAppend_at (p : Addr) (y : V) : rAppend (.ref p) [y] H Q = ∃ xs, H p = some (.lst xs) ∧ xs.length < sizeLine ∧ Q .non (upd H p (.lst (xs ++ [y]))) :=
 propext ⟨fun ⟨_, xs, _, e1, e2, q⟩ => by cases e1; cases e2; exact ⟨xs, q⟩, fun ⟨xs, q⟩ => ⟨p, xs, y, rfl, rfl, q⟩⟩
theorem rJoin_at (sep : Str) (p : Addr) : rJoin K (.str sep) [.ref p] H Q = ∃ ss, SqL K H p (ss.map V.str) ∧ (ss.map (·.length)).sum + ss.length * sep.length ≤ 16777216 ∧ Q (.str (Txt.join sep ss)) H :=
 propext ⟨fun ⟨_, _, ss, e1, e2, q⟩ => by cases e1; cases e2; exact ⟨ss, q⟩, fun ⟨ss, q⟩ => ⟨sep, p, ss, rfl, rfl, q⟩⟩
theorem tyV_str (y : Str) : tyV K "str" (.str y) H = True := eq_true rfl
theorem tyV_lst (p : Addr) : (tyV K "list" (.ref p) H) = ∃ xs, SqL K H p xs := by
 refine propext ⟨fun h => ?_, fun h => .inl ⟨rfl, h⟩⟩
 rcases h with ⟨_, h⟩ | ⟨h, _⟩ | ⟨h, _⟩ | ⟨h, _⟩
 ·exact h
 ·exact absurd h (by decide)
 ·exact absurd h (by decide)
 ·exact absurd h (by decide)
end
theorem bt_len : bootBuiltins "len" = some (.builtin "len") := by decide +kernel
theorem bt_isinstance : bootBuiltins "isinstance" = some (.builtin "isinstance") := by decide +kernel
theorem bt_all : bootBuiltins "all" = some (.builtin "all") := by decide +kernel
theorem bt_min : bootBuiltins "min" = some (.builtin "min") := by decide +kernel
theorem bt_sorted : bootBuiltins "sorted" = some (.builtin "sorted") := by decide +kernel
theorem bt_str : bootBuiltins "str" = some (.type "str") := by decide +kernel
theorem bt_int : bootBuiltins "int" = some (.type "int") := by decide +kernel
theorem bt_bool : bootBuiltins "bool" = some (.type "bool") := by decide +kernel
theorem bt_list : bootBuiltins "list" = some (.type "list") := by decide +kernel
theorem bt_tuple : bootBuiltins "tuple" = some (.type "tuple") := by decide +kernel
theorem ps_let {X : Cx} (i : Nat) {x : Str} {e : Expr} {te : TE} {pos pos' : Pos} (hN : X.N.Nodup) (he : PE X e te) (hi : X.N[i]? = some x := by rfl) (hx : Loc X.env.scope x := by first | exact Or.inl rfl | exact Or.inr rfl) (hs : swapsWith e (some (.Name x pos')) pos.line X.env = pure false := by rfl)
  (hf : X.fn x = true ∨ X.env.scope.names.lookup x = some .local := by first | exact .inl rfl | exact .inr rfl | assumption) : PS X (.Assign [.Name x pos'] e pos) (tAsg te (gName i)) := ps_set hN hi hx he hs hf
theorem pg_let {X : Cx} (i : Nat) {x : Str} {pos : Pos} (hN : X.N.Nodup) (hi : X.N[i]? = some x := by rfl) (hx : Loc X.env.scope x := by first | exact Or.inl rfl | exact Or.inr rfl)
  (hf : X.fn x = true ∨ X.env.scope.names.lookup x = some .local := by first | exact .inl rfl | exact .inr rfl | assumption) : PG X (.Name x pos) (gName i) := pg_name hN hi hx hf
structure CompSc (fsc : Scope) (N N0 T : List Str) (scope : Scope) : Prop where
 kind : scope.kind = .function
 nocell : ∀ y ∈ scope.names, y.2 ≠ .cell
 names : ∀ y ∈ scope.names, y.2 = .local → scope.names.lookup y.1 = some .local
 free : ∀ y ∈ scope.names, y.2 = .free → fsc.names.lookup y.1 = some .cell ∨ fsc.names.lookup y.1 = some .free
 apart : ∀ y ∈ scope.names, y.2 = .local → y.1 ∉ N0
 len0 : N0.length = N.length
 same : ((N0.zip N).all fun p => p.1 == p.2 || !(scope.names.any fun y => y.1 == p.1)) = true
theorem CompSc.to {X : Cx} {fsc : Scope} {N N0 T : List Str} {scope : Scope} (S : CompSc fsc N N0 T scope) (h1 : X.env.scope = fsc) (h2 : X.N = N) : CompScope X N0 T scope := by
 subst h1 h2
 refine ⟨S.kind, S.nocell, S.names, S.free, S.apart, S.len0, fun i x k e m => ?_⟩
 have hl := S.len0
 have hi : i < N0.length := (List.getElem?_eq_some_iff.mp e).1
 have hN : X.N[i]? = some X.N[i] := List.getElem?_eq_getElem (by omega)
 have hz : (x, X.N[i]) ∈ N0.zip X.N := List.mem_of_getElem? (i := i) (by rw [List.getElem?_zip_eq_some]; exact ⟨e, hN⟩)
 have q := List.all_eq_true.mp S.same _ hz
 simp only [Bool.or_eq_true, beq_iff_eq, Bool.not_eq_true'] at q
 rcases q with q | q
 ·rw [hN, ← q]
 ·have : (scope.names.any fun y => y.1 == x) = true := List.any_eq_true.mpr ⟨_, m, by simp⟩
  rw [this] at q; cases q
def rEqA : R2 := rEq
def rNeA : R2 := rNe
theorem op_eqA {X : Cx} : OpR X (compareOp .Eq) rEqA := op_eq
theorem op_neA {X : Cx} : OpR X (compareOp .NotEq) rNeA := op_ne
section
variable {K : PySem.W.Frag} {H : Hp} {Q : VK}
theorem rEqA_int (i j : Int) : rEqA (.int i) (.int j) H Q = Q (.bl (decide (i = j))) H := by
 have e : decide (V.int i = V.int j) = decide (i = j) := by by_cases h : i = j <;> simp [h]
 show (scal (.int i) (.int j) = true ∧ Q (.bl (decide (V.int i = V.int j))) H) = _
 rw [e]; exact propext ⟨fun h => h.2, fun h => ⟨rfl, h⟩⟩
theorem rEqA_str (i j : Str) : rEqA (.str i) (.str j) H Q = Q (.bl (decide (i = j))) H := by
 have e : decide (V.str i = V.str j) = decide (i = j) := by by_cases h : i = j <;> simp [h]
 show (scal (.str i) (.str j) = true ∧ Q (.bl (decide (V.str i = V.str j))) H) = _
 rw [e]; exact propext ⟨fun h => h.2, fun h => ⟨rfl, h⟩⟩
theorem rNeA_int (i j : Int) : rNeA (.int i) (.int j) H Q = Q (.bl (!decide (i = j))) H := by
 have e : decide (V.int i = V.int j) = decide (i = j) := by by_cases h : i = j <;> simp [h]
 show (scal (.int i) (.int j) = true ∧ Q (.bl (!decide (V.int i = V.int j))) H) = _
 rw [e]; exact propext ⟨fun h => h.2, fun h => ⟨rfl, h⟩⟩
theorem rNeA_str (i j : Str) : rNeA (.str i) (.str j) H Q = Q (.bl (!decide (i = j))) H := by
 have e : decide (V.str i = V.str j) = decide (i = j) := by by_cases h : i = j <;> simp [h]
 show (scal (.str i) (.str j) = true ∧ Q (.bl (!decide (V.str i = V.str j))) H) = _
 rw [e]; exact propext ⟨fun h => h.2, fun h => ⟨rfl, h⟩⟩
end
section
variable {X : Cx} (K : PySem.W.Frag)
theorem op_inK (hK : X.K = K := by rfl) : OpR X (compareOp .In) (rInA K) := hK ▸ op_inA
theorem op_notInK (hK : X.K = K := by rfl) : OpR X (compareOp .NotIn) (rNotInA K) := hK ▸ op_notInA
theorem call_lenK (hK : X.K = K := by rfl) : CallR X (.builtin "len") (rLenA K) := hK ▸ call_lenA
theorem ix_K (hK : X.K = K := by rfl) : IxR X (rIxA K) := hK ▸ ix_A
theorem call_allK (hK : X.K = K := by rfl) (hc : X.calm = true := by rfl) : CallR X (.builtin "all") (rAll K) := hK ▸ call_allL hc
theorem mt_joinK (hK : X.K = K := by rfl) : MtR X "str.join" (rJoin K) := hK ▸ mt_join
theorem sl_listK (hK : X.K = K := by rfl) : SlR X (rSlL K) := hK ▸ sl_list
theorem pi_listK {tg l : Expr} {tl : TE} (hl : PE X l tl) (hK : X.K = K := by rfl) : PI X tg l (iList K tl) := hK ▸ pi_list hl
theorem pg_tupK {es : List Expr} {k n : Nat} {t : TGs} {pos : Pos} (h : PGs X es t) (hn : (assignEach es X.env).length = n := by rfl) (hst : (assignEach es X.env).findIdx? (·.1) = none := by rfl) (hK : X.K = K := by rfl) (hc : X.calm = true := by rfl) : PG X (.Tuple es k pos) (gTup K n t) := hK ▸ pg_tup hc h hn hst
theorem pe_bmK {o e : Expr} {es : List Expr} {to : TE} {t : TA} {name : Str} {apos cpos : Pos} {T id : String} {r : V → List V → Hp → VK → Prop} (pa : PlainAttrs T) (slot : Slot T name id) (hty : typeOf (.builtin id) = pure (.type "method_descriptor")) (hm : MtR X id r) (ho : PE X o to) (ha : PA X (e :: es) t)
  (hbase : attributeBase o name X.env (eval o X.env) = eval o X.env := by rfl)
  (hfew : ((backTo cpos (starEach (e :: es) X.env)).all (fun x => !x.1) && (backToKw cpos (keywordEach [] X.env)).all (fun x => x.1.isSome) && decide ((e :: es).length + ([] : List Keyword).length + (if ([] : List Keyword).isEmpty then 0 else 1) < 30)) = true := by rfl)
  (hline : (apos.endLine == cpos.line) = true := by rfl) (hs : starEach (e :: es) X.env = (false, eval e X.env) :: starEach es X.env := by rfl) (hplain : (backTo cpos (starEach es X.env)).any (·.1) = false := by rfl) (hK : X.K = K := by rfl) :
  PE X (.Call (.Attribute o name apos) (e :: es) [] cpos) (tBM K T r to t) := hK ▸ pe_bm pa slot hty hm ho ha hbase hfew hline hs hplain
end
theorem ex_one (n : Int) (P : Int → Prop) : (∃ j, [V.int n] = [V.int j] ∧ P j) = P n := propext ⟨fun ⟨_, e, h⟩ => by cases e; exact h, fun h => ⟨n, rfl, h⟩⟩
theorem ex_two (n m : Int) (P : Int → Int → Prop) : (∃ i j, [V.int n, V.int m] = [V.int i, V.int j] ∧ P i j) = P n m := propext ⟨fun ⟨_, _, e, h⟩ => by cases e; exact h, fun h => ⟨n, m, rfl, h⟩⟩
theorem ex_cons (x : V) (xs : List V) (P : V → List V → Prop) : (∃ v r, x :: xs = v :: r ∧ P v r) = P x xs := propext ⟨fun ⟨_, _, e, h⟩ => by cases e; exact h, fun h => ⟨x, xs, rfl, h⟩⟩
def relabelS (scope fsc : Scope) : Scope := { scope with names := scope.names.map fun (n, k) => if (k == .free && fsc.kind == .function && fsc.names.lookup n == some .cell) then (n, .cell) else (n, k) }
section
variable {X : Cx} {N0 T : List Str} {scope : Scope} {C : Addr} {fp : List Addr} {s : Shared} {H : Hp} {x : Str}
theorem glC (fsc : Scope) (h : (relabelS scope fsc).names.lookup x = some .globalImplicit) (e : X.env.scope = fsc := by rfl) : Gl (cxComp X N0 T scope C fp s H) x := by subst e; exact h
theorem visC (fsc : Scope) (h : ((relabelS scope fsc).names.lookup x = some .local || (relabelS scope fsc).names.lookup x = some .cell || (relabelS scope fsc).names.lookup x = some .free) = true) (e : X.env.scope = fsc := by rfl) : Vis (cxComp X N0 T scope C fp s H).env.scope x := by
 subst e
 simp only [Bool.or_eq_true, decide_eq_true_eq] at h
 rcases h with (h | h) | h
 ·exact .inl h
 ·exact .inr (.inl h)
 ·exact .inr (.inr h)
theorem locC (fsc : Scope) (h : (relabelS scope fsc).names.lookup x = some .local) (e : X.env.scope = fsc := by rfl) : Loc (cxComp X N0 T scope C fp s H).env.scope x := by subst e; exact .inl h
theorem fnC (fsc : Scope) (h : (relabelS scope fsc).names.lookup x = some .local) (e : X.env.scope = fsc := by rfl) : (cxComp X N0 T scope C fp s H).fn x = true ∨ (cxComp X N0 T scope C fp s H).env.scope.names.lookup x = some .local := by subst e; exact .inr h
end
theorem mt_appendA {X : Cx} : MtR X "list.append" rAppend := mt_append
theorem PW.pt' {X : Cx} {e : Expr} {t : TT} (h : PW X e t) : PT X e t := h.pt
theorem tPairs_nil {σ : St} {H : Hp} {Q : List (V × V) → Hp → Prop} : tPairs [] σ H Q = Q [] H := rfl
theorem tPairs_cons {σ : St} {H : Hp} {Q : List (V × V) → Hp → Prop} (tk tv : TE) (r : List (TE × TE)) : tPairs ((tk, tv) :: r) σ H Q = tk σ H fun x H1 => tv σ H1 fun y H2 => tPairs r σ H2 fun ps H3 => Q ((x, y) :: ps) H3 := rfl
theorem Same.upd {H H' : Hp} {p : Addr} (sm : Same H H') (h : H p = none) (o : HO) : Same H (upd H' p o) := fun b u q => by rw [upd_ne (ne_of_none q h)]; exact sm b u q
theorem same_new {H : Hp} {p : Addr} (h : H p = none) (o : HO) : Same H (upd H p o) := fun b u q => by rw [upd_ne (ne_of_none q h)]; exact q
end L2
set_option Elab.async false
set_option linter.all false
set_option maxRecDepth 100000
namespace L2
open PySem PySem.Spec PyProof.Rows PySem.SeqAt
def EqN (K : PySem.W.Frag) (H : Hp) : Nat → V → V → Bool → Prop
 | 0, x, y, b => flatV x = true ∧ flatV y = true ∧ b = eqV x y
 | n + 1, x, y, b => (flatV x = true ∧ flatV y = true ∧ b = eqV x y) ∨ ∃ a c xs ys, x = .ref a ∧ y = .ref c ∧ ((SqL K H a xs ∧ SqL K H c ys) ∨ (SqT K H a xs ∧ SqT K H c ys)) ∧
   ((∃ e : Nat → Bool, xs.length = ys.length ∧ (∀ (i : Nat) x y, xs[i]? = some x → ys[i]? = some y → EqN K H n x y (e i)) ∧ b = (List.range xs.length).all e) ∨
    (SqL K H a xs ∧ SqL K H c ys ∧ xs.length ≠ ys.length ∧ b = false))
theorem eqV_self : ∀ {x : V}, flatV x = true → eqV x x = true
 | .non, _ => rfl
 | .bl b, _ => by simp [eqV]
 | .int i, _ => by simp [eqV]
 | .str y, _ => by simp [eqV]
section
variable {X : Cx} {pins : List (Addr × Obj)} {σ : St} {H : Hp} {s : Shared}
theorem EqN.self (I : Inv X pins σ H s) : ∀ {n : Nat} {x : V} {b : Bool}, EqN X.K H n x x b → b = true
 | 0, x, b, h => by obtain ⟨h1, _, rfl⟩ := h; exact eqV_self h1
 | n + 1, x, b, h => by
  rcases h with ⟨h1, _, rfl⟩ | ⟨a, c, xs, ys, rfl, e, hq, h⟩
  ·exact eqV_self h1
  ·cases e
   have exy : xs = ys := by
    rcases hq with ⟨q1, q2⟩ | ⟨q1, q2⟩
    ·exact I.list_inj q1 q2
    ·exact I.tuple_inj q1 q2
   subst exy
   rcases h with ⟨e, _, he, rfl⟩ | ⟨_, _, z, _⟩
   ·rw [List.all_eq_true]
    intro i hi
    have hi' := List.mem_range.mp hi
    have q := he i xs[i] xs[i] (List.getElem?_eq_getElem hi') (List.getElem?_eq_getElem hi')
    exact EqN.self I q
   ·exact absurd rfl z
theorem EqN.rc (I : Inv X pins σ H s) {n : Nat} (ih : ∀ {A : Around} {x y : V} {b : Bool} {u v : Value}, A.units + n < cLine → EqN X.K H n x y b → RelV x u → RelV y v → EqAt A s u v b)
  {A : Around} {a c : Addr} {xs ys : List V} {b : Bool} (hu : A.units + (n + 1) < cLine) (hq : (SqL X.K H a xs ∧ SqL X.K H c ys) ∨ (SqT X.K H a xs ∧ SqT X.K H c ys))
  (h : (∃ e : Nat → Bool, xs.length = ys.length ∧ (∀ (i : Nat) x y, xs[i]? = some x → ys[i]? = some y → EqN X.K H n x y (e i)) ∧ b = (List.range xs.length).all e) ∨ (SqL X.K H a xs ∧ SqL X.K H c ys ∧ xs.length ≠ ys.length ∧ b = false)) :
  RcAt A s (.ref a) (.ref c) b ∧ RcNeAt A s (.ref a) (.ref c) (!b) := by
 have hin : A.in1.units + n < cLine := by
  have : A.in1.units = A.units + 1 := rfl
  omega
 rcases h with ⟨e, hl, he, rfl⟩ | ⟨q1, q2, hl, rfl⟩
 ·rcases hq with ⟨q1, q2⟩ | ⟨q1, q2⟩
  ·obtain ⟨i1, r1, p1, z1⟩ := I.list q1
   obtain ⟨i2, r2, p2, z2⟩ := I.list q2
   have l1 := r1.length
   have l2 := r2.length
   have hit : ∀ j (h1 : j < i1.toArray.size) (h2 : j < i2.toArray.size), EqAt A.in1 s i1.toArray[j] i2.toArray[j] (e j) := fun j h1 h2 => by
    obtain ⟨x, hx, rx⟩ := r1.of (i := j) (u := i1.toArray[j]) (by simp at h1 ⊢)
    obtain ⟨y, hy, ry⟩ := r2.of (i := j) (u := i2.toArray[j]) (by simp at h2 ⊢)
    exact ih hin (he j x y hx hy) rx ry
   have ez : xs.length = i1.toArray.size := by simp; omega
   rw [ez]
   exact ⟨RcAt.lists p1.isList p2.isList (by simp; omega) (by omega) hit, RcNeAt.lists p1.isList p2.isList (by simp; omega) (by omega) hit⟩
  ·obtain ⟨i1, r1, p1, z1⟩ := I.tuple q1
   obtain ⟨i2, r2, p2, z2⟩ := I.tuple q2
   have l1 := r1.length
   have l2 := r2.length
   have hit : ∀ j (h1 : j < i1.toArray.size) (h2 : j < i2.toArray.size), EqAt A.in1 s i1.toArray[j] i2.toArray[j] (e j) := fun j h1 h2 => by
    obtain ⟨x, hx, rx⟩ := r1.of (i := j) (u := i1.toArray[j]) (by simp at h1 ⊢)
    obtain ⟨y, hy, ry⟩ := r2.of (i := j) (u := i2.toArray[j]) (by simp at h2 ⊢)
    exact ih hin (he j x y hx hy) rx ry
   have ez : (List.range xs.length).all e = ((List.range (min i1.toArray.size i2.toArray.size)).all e && i1.toArray.size == i2.toArray.size) := by
    have e1 : i1.toArray.size = xs.length := by simp; omega
    have e2 : i2.toArray.size = xs.length := by simp; omega
    rw [e1, e2, Nat.min_self]; simp
   rw [ez]
   exact ⟨RcAt.tuples (show s.heap.IsTuple a i1.toArray from p1) (show s.heap.IsTuple c i2.toArray from p2) (by omega) hit, RcNeAt.tuples (show s.heap.IsTuple a i1.toArray from p1) (show s.heap.IsTuple c i2.toArray from p2) (by omega) hit⟩
 ·obtain ⟨i1, r1, p1, z1⟩ := I.list q1
  obtain ⟨i2, r2, p2, z2⟩ := I.list q2
  have l1 := r1.length
  have l2 := r2.length
  have hne : (i1.toArray.size != i2.toArray.size) = true := by
   rw [bne_iff_ne]; simp; omega
  exact ⟨RcAt.lists_lengths p1.isList p2.isList hne (by omega), RcNeAt.lists_lengths p1.isList p2.isList hne (by omega)⟩
theorem EqN.at (I : Inv X pins σ H s) : ∀ {n : Nat} {A : Around} {x y : V} {b : Bool} {u v : Value}, A.units + n < cLine → EqN X.K H n x y b → RelV x u → RelV y v → EqAt A s u v b
 | 0, A, x, y, b, u, v, _, h, rx, ry => by obtain ⟨h1, h2, rfl⟩ := h; exact eqAt_V rx ry h1 h2
 | n + 1, A, x, y, b, u, v, hu, h, rx, ry => by
  have h0 := h
  rcases h with ⟨h1, h2, rfl⟩ | ⟨a, c, xs, ys, rfl, rfl, hq, h⟩
  ·exact eqAt_V rx ry h1 h2
  ·cases rx
   cases ry
   by_cases hac : a = c
   ·subst hac
    rw [EqN.self I h0]
    exact EqAt.same _
   ·exact EqAt.of_refs hac (EqN.rc I (fun hu' q rx ry => EqN.at I hu' q rx ry) hu hq h).1
end
section
variable {X : Cx}
def rEqD (K : PySem.W.Frag) : R2 := fun x y H Q => ∃ (a c : Addr) (n : Nat) (b : Bool), x = .ref a ∧ y = .ref c ∧ n ≤ 100 ∧ EqN K H (n + 1) x y b ∧ Q (.bl b) H
def rNeD (K : PySem.W.Frag) : R2 := fun x y H Q => ∃ (a c : Addr) (n : Nat) (b : Bool), x = .ref a ∧ y = .ref c ∧ n ≤ 100 ∧ EqN K H (n + 1) x y b ∧ Q (.bl (!b)) H
theorem op_eqD (hu : X.A.units + 101 < cLine) : OpR X (compareOp .Eq) (rEqD X.K) := by
 intro pins s σ H x y v u Q I rx ry h
 obtain ⟨a, c, n, b, rfl, rfl, hn, he, q⟩ := h
 cases rx
 cases ry
 rcases he with ⟨h1, _⟩ | ⟨a', c', xs, ys, e1, e2, hq, h⟩
 ·cases h1
 ·cases e1
  cases e2
  exact (EqN.rc I (fun hu' q rx ry => EqN.at I hu' q rx ry) (by omega) hq h).1 _ _ _ _ ⟨.bl b, H, I, rfl, q⟩
theorem op_neD (hu : X.A.units + 101 < cLine) : OpR X (compareOp .NotEq) (rNeD X.K) := by
 intro pins s σ H x y v u Q I rx ry h
 obtain ⟨a, c, n, b, rfl, rfl, hn, he, q⟩ := h
 cases rx
 cases ry
 rcases he with ⟨h1, _⟩ | ⟨a', c', xs, ys, e1, e2, hq, h⟩
 ·cases h1
 ·cases e1
  cases e2
  exact (EqN.rc I (fun hu' q rx ry => EqN.at I hu' q rx ry) (by omega) hq h).2 _ _ _ _ ⟨.bl (!b), H, I, rfl, q⟩
theorem op_eqKD (K : PySem.W.Frag) {k : Nat} (hr : Room k X.A) (hK : X.K = K := by rfl) : OpR X (compareOp .Eq) (rEqD K) := by subst hK; exact op_eqD (by have := hr.un; omega)
theorem op_neKD (K : PySem.W.Frag) {k : Nat} (hr : Room k X.A) (hK : X.K = K := by rfl) : OpR X (compareOp .NotEq) (rNeD K) := by subst hK; exact op_neD (by have := hr.un; omega)
end
section
variable {K : PySem.W.Frag} {H : Hp} {Q : VK}
theorem rEqD_at (a c : Addr) : rEqD K (.ref a) (.ref c) H Q = ∃ (n : Nat) (b : Bool), n ≤ 100 ∧ EqN K H (n + 1) (.ref a) (.ref c) b ∧ Q (.bl b) H :=
 propext ⟨fun ⟨_, _, n, b, e1, e2, q⟩ => ⟨n, b, q⟩, fun ⟨n, b, q⟩ => ⟨a, c, n, b, rfl, rfl, q⟩⟩
theorem rNeD_at (a c : Addr) : rNeD K (.ref a) (.ref c) H Q = ∃ (n : Nat) (b : Bool), n ≤ 100 ∧ EqN K H (n + 1) (.ref a) (.ref c) b ∧ Q (.bl (!b)) H :=
 propext ⟨fun ⟨_, _, n, b, e1, e2, q⟩ => ⟨n, b, q⟩, fun ⟨n, b, q⟩ => ⟨a, c, n, b, rfl, rfl, q⟩⟩
theorem EqN.flat {n : Nat} {x y : V} (hx : flatV x = true) (hy : flatV y = true) : EqN K H n x y (eqV x y) := by
 cases n with
 | zero => exact ⟨hx, hy, rfl⟩
 | succ n => exact .inl ⟨hx, hy, rfl⟩
theorem EqN.refl {n : Nat} {x : V} (hx : flatV x = true) : EqN K H n x x true := by
 have q : EqN K H n x x (eqV x x) := EqN.flat hx hx
 rwa [eqV_self hx] at q
theorem EqN.seq {n : Nat} {a c : Addr} {xs ys : List V} (hq : (SqL K H a xs ∧ SqL K H c ys) ∨ (SqT K H a xs ∧ SqT K H c ys)) (hl : xs.length = ys.length) (he : ∀ (i : Nat) x y, xs[i]? = some x → ys[i]? = some y → EqN K H n x y true) : EqN K H (n + 1) (.ref a) (.ref c) true :=
 .inr ⟨a, c, xs, ys, rfl, rfl, hq, .inl ⟨fun _ => true, hl, he, by simp⟩⟩
theorem EqN.seqFlat {n : Nat} {a c : Addr} {xs : List V} (hq : (SqL K H a xs ∧ SqL K H c xs) ∨ (SqT K H a xs ∧ SqT K H c xs)) (hf : ∀ x ∈ xs, flatV x = true) : EqN K H (n + 1) (.ref a) (.ref c) true :=
 EqN.seq hq rfl fun i x y e1 e2 => by
  rw [e1] at e2; cases e2
  exact EqN.refl (hf x (List.mem_of_getElem? e1))
theorem EqN.strs {n : Nat} {a c : Addr} {ss ts : List Str} (h1 : SqL K H a (ss.map V.str)) (h2 : SqL K H c (ts.map V.str)) : EqN K H (n + 1) (.ref a) (.ref c) (decide (ss = ts)) := by
 refine .inr ⟨a, c, _, _, rfl, rfl, .inl ⟨h1, h2⟩, ?_⟩
 by_cases hl : ss.length = ts.length
 ·refine .inl ⟨fun i => ss.getD i default == ts.getD i default, by simp [hl], fun i x y e1 e2 => ?_, ?_⟩
  ·rw [List.getElem?_map] at e1 e2
   cases q1 : ss[i]? with
   | none => rw [q1] at e1; cases e1
   | some u =>
    cases q2 : ts[i]? with
    | none => rw [q2] at e2; cases e2
    | some v =>
     rw [q1] at e1; rw [q2] at e2
     cases e1; cases e2
     dsimp only
     rw [List.getD_eq_getElem?_getD, List.getD_eq_getElem?_getD, q1, q2]
     exact EqN.flat rfl rfl
  ·rw [List.length_map]
   by_cases e : ss = ts
   ·subst e
    rw [decide_eq_true rfl]
    symm
    rw [List.all_eq_true]
    intro i _
    simp
   ·rw [decide_eq_false e]
    symm
    rw [List.all_eq_false]
    have : ∃ i : Nat, ss[i]? ≠ ts[i]? := by
     refine Classical.byContradiction fun hn => e (List.ext_getElem? fun i => ?_)
     exact Classical.byContradiction fun h => hn ⟨i, h⟩
    obtain ⟨i, hi⟩ := this
    have hlt : i < ss.length := by
     refine Classical.byContradiction fun hn => hi ?_
     rw [List.getElem?_eq_none (by omega), List.getElem?_eq_none (by omega)]
    refine ⟨i, List.mem_range.mpr hlt, ?_⟩
    rw [List.getD_eq_getElem?_getD, List.getD_eq_getElem?_getD, List.getElem?_eq_getElem hlt, List.getElem?_eq_getElem (by omega)]
    rw [List.getElem?_eq_getElem hlt, List.getElem?_eq_getElem (by omega)] at hi
    simpa using hi
 ·have e : ss ≠ ts := fun e => hl (by rw [e])
  rw [decide_eq_false e]
  exact .inr ⟨h1, h2, by simpa using hl, rfl⟩
end
section
variable {X : Cx}
def rSortS (K : PySem.W.Frag) : List V → Hp → VK → Prop := fun xs H Q => ∃ (p : Addr) (ss : List Str), xs = [.ref p] ∧ SqL K H p (ss.map V.str) ∧ ss.length < 64 ∧ ∀ (l : Addr) (ts : List Str), H l = none → ts.Perm ss → sortedS ts = true → Q (.ref l) (upd H l (.lst (ts.map V.str)))
theorem rSortS_at {K : PySem.W.Frag} {H : Hp} {Q : VK} (p : Addr) : rSortS K [.ref p] H Q = ∃ ss : List Str, SqL K H p (ss.map V.str) ∧ ss.length < 64 ∧ ∀ (l : Addr) (ts : List Str), H l = none → ts.Perm ss → sortedS ts = true → Q (.ref l) (upd H l (.lst (ts.map V.str))) :=
 propext ⟨fun ⟨_, ss, e, q⟩ => by cases e; exact ⟨ss, q⟩, fun ⟨ss, q⟩ => ⟨p, ss, rfl, q⟩⟩
theorem call_sortS (K : PySem.W.Frag) (hK : X.K = K := by rfl) : CallR X (.builtin "sorted") (rSortS K) := by
 subst hK
 intro pins s σ H xs us Q I r h
 obtain ⟨p, ss, rfl, hq, h64, q⟩ := h
 obtain ⟨u, rfl, ru⟩ := vals1 r
 cases ru
 obtain ⟨its, rv, pl, hz⟩ := I.list hq
 have hlen : its.length = ss.length := by rw [← rv.length, List.length_map]
 refine sorted_strs pl.isList (vals_strs rv) (by omega) fun out ts h1 h2 h3 => ?_
 obtain ⟨e, he⟩ := sortedAll_at s.heap its out
 have hl : ts.length = ss.length := h2.length_eq
 have hs : sizeLine = 16777216 := sizeLine_eq
 exact ⟨.ref (s.heap.objs.size + 1), _, I.laid (t' := s.toks) (fun b o e => sortedAll_old e) (Nat.le_succ _) (show ObjOk X.prog X.w _ _ _ (.lst (ts.map V.str)) from ⟨by rw [List.length_map]; omega, out.toList, e, strs_vals h1, by simpa using he⟩), rfl,
  q _ ts (I.hok.fresh (Nat.le_succ _)) h2 h3⟩
end
section
variable {X : Cx}
def rIsN : R2 := fun x y H Q => y = .non ∧ Q (.bl (decide (x = .non))) H
def rNotN : R2 := fun x y H Q => y = .non ∧ Q (.bl (!decide (x = .non))) H
theorem op_isNA : OpR X (compareOp .Is) rIsN := op_isN
theorem op_notNA : OpR X (compareOp .IsNot) rNotN := op_notN
def rStrI : List V → Hp → VK → Prop := fun xs H Q => ∃ i, xs = [.int i] ∧ i.natAbs.log2 < 1920 ∧ Q (.str (toString i)) H
theorem call_strI : CallR X (.type "str") rStrI := call_str_int
def rInt1 : List V → Hp → VK → Prop := fun xs H Q => (∃ i, xs = [.int i] ∧ Q (.int i) H) ∨ ∃ k, xs = [.bl k] ∧ Q (.int (if k then 1 else 0)) H
theorem call_intA : CallR X (.type "int") rInt1 := call_int1
def rMin2 : List V → Hp → VK → Prop := fun xs H Q => ∃ i j, xs = [.int i, .int j] ∧ Q (.int (if j < i then j else i)) H
theorem call_minA (hc : X.calm = true := by rfl) : CallR X (.builtin "min") rMin2 := call_min2 hc
def rMulB : R2 := fun x y H Q => match x, y with
 | .int i, .int j => CMul i j ∧ Q (.int (i * j)) H
 | .str z, .int n => 0 ≤ n ∧ n ≤ 4096 ∧ z.length ≤ 4096 ∧ Q (.str (Txt.mul z n)) H
 | _, _ => False
theorem op_mulB : OpR X (binaryOp .Mult) rMulB := by
 intro pins s σ H x y v u Q I rx ry h
 match x, y, h with
 | .int i, .int j, h => exact op_mul pins s σ H _ _ v u Q I rx ry ⟨_, _, rfl, rfl, h⟩
 | .str z, .int n, h =>
  obtain ⟨t, rfl⟩ := rx
  obtain ⟨t', rfl⟩ := ry
  obtain ⟨h0, h1, h2, q⟩ := h
  exact SB.mul (mulOk_of 4096 4096 h2 (by omega) (by omega) (by decide) (by decide)) fun t' k => ⟨.str (Txt.mul z n), H, I.tok k, ⟨t', rfl⟩, q⟩
end
section
variable {K : PySem.W.Frag} {H : Hp} {Q : VK}
theorem rIsN_at (x : V) : rIsN x .non H Q = Q (.bl (decide (x = .non))) H := propext ⟨fun h => h.2, fun h => ⟨rfl, h⟩⟩
theorem rNotN_at (x : V) : rNotN x .non H Q = Q (.bl (!decide (x = .non))) H := propext ⟨fun h => h.2, fun h => ⟨rfl, h⟩⟩
theorem rStrI_at (i : Int) : rStrI [.int i] H Q = (i.natAbs.log2 < 1920 ∧ Q (.str (toString i)) H) := propext ⟨fun ⟨_, e, q⟩ => by cases e; exact q, fun q => ⟨i, rfl, q⟩⟩
theorem rInt1_bl (k : Bool) : rInt1 [.bl k] H Q = Q (.int (if k then 1 else 0)) H := propext ⟨fun h => by rcases h with ⟨_, e, q⟩ | ⟨_, e, q⟩ <;> cases e; exact q, fun q => .inr ⟨k, rfl, q⟩⟩
theorem rMin2_at (i j : Int) : rMin2 [.int i, .int j] H Q = Q (.int (if j < i then j else i)) H := propext ⟨fun ⟨_, _, e, q⟩ => by cases e; exact q, fun q => ⟨i, j, rfl, q⟩⟩
theorem rMulB_int (i j : Int) : rMulB (.int i) (.int j) H Q = (CMul i j ∧ Q (.int (i * j)) H) := rfl
theorem rMulB_str (z : Str) (n : Int) : rMulB (.str z) (.int n) H Q = (0 ≤ n ∧ n ≤ 4096 ∧ z.length ≤ 4096 ∧ Q (.str (Txt.mul z n)) H) := rfl
theorem rSlL_at (a : Addr) (lo hi : Option Int) : rSlL K (.ref a) lo hi H Q = ∃ xs, SqL K H a xs ∧ ∀ p, H p = none → Q (.ref p) (upd H p (.lst (cutV xs lo hi))) := propext ⟨fun ⟨_, xs, e, q⟩ => by cases e; exact ⟨xs, q⟩, fun ⟨xs, q⟩ => ⟨a, xs, rfl, q⟩⟩
theorem rU_at (g : Int → V) (i : Int) : rU g (.int i) H Q = Q (g i) H := propext ⟨fun ⟨_, e, q⟩ => by cases e; exact q, fun q => ⟨i, rfl, q⟩⟩
end
theorem small' {n : Nat} (h : n ≤ 1000000) : n < sizeLine := by
 have : sizeLine = 16777216 := sizeLine_eq
 omega
theorem smallL {n : Nat} (h : n ≤ 1000000) : n ≤ sizeLine := Nat.le_of_lt (small' h)
theorem at_map {α : Type} {f : α → V} {xs : List α} {i : Int} {x : α} (h0 : 0 ≤ i) (h : xs[i.toNat]? = some x) : atI (xs.map f) i = some (f x) := by
 have q : (xs.map f)[i.toNat]? = some (f x) := by rw [List.getElem?_map, h]; rfl
 have q' := atI_nat q
 rwa [show ((i.toNat : Nat) : Int) = i by omega] at q'
theorem at_lst {α : Type} {xs : List α} {i : Int} (h0 : 0 ≤ i) (h : i < xs.length) : ∃ x, xs[i.toNat]? = some x ∧ atI xs i = some x := by
 have hk : i.toNat < xs.length := by omega
 refine ⟨xs[i.toNat], List.getElem?_eq_getElem hk, ?_⟩
 have q := atI_nat (List.getElem?_eq_getElem hk)
 rwa [show ((i.toNat : Nat) : Int) = i by omega] at q
theorem al_same {H H' : Hp} {p : Addr} {o : HO} (h : upd H p o = H') (hp : H p = none) : Same H H' := h ▸ same_new hp o
theorem al_at {H H' : Hp} {p : Addr} {o : HO} (h : upd H p o = H') : H' p = some o := h ▸ upd_same
theorem map_push {α β : Type} {f : α → β} (xs : List α) (x : α) : xs.map f ++ [f x] = (xs ++ [x]).map f := by rw [List.map_append]; rfl
theorem len_push {α : Type} {xs : List α} {x : α} {n : Nat} (h : xs.length = n) : (xs ++ [x]).length = n + 1 := by simp [h]
end L2
set_option Elab.async false
set_option linter.all false
set_option maxRecDepth 100000
namespace L2
open PySem PySem.Spec PyProof.Rows
theorem Inv.turnedL {X : Cx} {pins : List (Addr × Obj)} {σ : St} {H : Hp} {s : Shared} {h' : Heap} {t' : Nat} {ch : List Addr} (I : Inv X pins σ H s) (k : ∀ b o, b ∉ ch → s.heap.get? b = some o → h'.get? b = some o)
  (hf : ∀ b ∈ ch, FpOk X pins H b) : Inv X pins σ H { s with heap := h', toks := t' } := by
 have nit : ∀ b u, H b = some u → b ∉ ch := fun b u e z => by rw [(hf b z).1] at e; cases e
 refine I.step (g' := s.gens) (d' := s.drawn) (ch := ch) (fun b hb => ?_) (fun b o _ _ hc e _ => k b o hc e) (fun b o _ _ hc e _ => ⟨o.slots, k b o hc e⟩) (fun _ _ _ _ n => n)
  (fun b o hc e => ⟨o, k b o hc e⟩) (fun _ _ e => e) (fun _ _ _ e => e) (fun b ps e => ⟨#[], by rw [e]; simp⟩) (fun m hm => ?_) (fun b u e => ?_) I.bare
 ·obtain ⟨_, f1, _, f3, f4, f5⟩ := hf b hb
  exact ⟨f3, f1, f4, f5⟩
 ·obtain ⟨o, es, ep, ho, r⟩ := hm
  exact ⟨o, es, ep, k _ o (fun z => (hf _ z).2.1 rfl) ho, r⟩
 ·refine (I.hok b u e).stay (fun c v hc q => k c v ?_ q) (fun _ q => q) fun _ _ q => q
  rcases hc with z | z
  ·rw [z]; exact nit b u e
  ·exact nit c _ z
theorem Inv.turnedLaid {X : Cx} {pins : List (Addr × Obj)} {σ : St} {H : Hp} {s : Shared} {h' : Heap} {t' : Nat} {ch : List Addr} {a : Addr} {o : HO} (I : Inv X pins σ H s) (k : ∀ b o, b ∉ ch → s.heap.get? b = some o → h'.get? b = some o)
  (hf : ∀ b ∈ ch, FpOk X pins H b) (hp : s.heap.objs.size ≤ a) (new : ObjOk X.prog X.w (upd H a o) h' a o) : Inv X pins σ (upd H a o) { s with heap := h', toks := t' } := by
 have hn : H a = none := I.hok.fresh hp
 have nit : ∀ b u, H b = some u → b ∉ ch := fun b u e z => by rw [(hf b z).1] at e; cases e
 refine I.step (g' := s.gens) (d' := s.drawn) (ch := ch) (fun b hb => ?_) (fun b o _ _ hc e _ => k b o hc e) (fun b o _ _ hc e _ => ⟨o.slots, k b o hc e⟩) (fun b u _ q n => ?_)
  (fun b o hc e => ⟨o, k b o hc e⟩) (fun b xs q => ?_) (fun b u xs q => ?_) (fun b ps q => ⟨#[], ?_⟩) (fun m hm => ?_) (fun b u e => ?_) I.bare
 ·obtain ⟨_, f1, _, f3, f4, f5⟩ := hf b hb
  exact ⟨f3, f1, f4, f5⟩
 ·rw [upd_ne (Nat.ne_of_lt (Nat.lt_of_lt_of_le (Heap.lt_size q) hp))]; exact n
 ·rw [upd_ne (ne_of_none q hn)]; exact q
 ·rw [upd_ne (ne_of_none q hn)]; exact q
 ·rw [upd_ne (ne_of_none q hn), q]; simp
 ·obtain ⟨o, es, ep, ho, r⟩ := hm
  exact ⟨o, es, ep, k _ o (fun z => (hf _ z).2.1 rfl) ho, r⟩
 ·by_cases hb : b = a
  ·subst hb; rw [upd_same] at e; cases e; exact new
  ·rw [upd_ne hb] at e
   refine (I.hok b u e).stay (fun c v hc q => k c v ?_ q) (fun c q => by rw [upd_ne (ne_of_none q hn)]; exact q) fun c xs q => by rw [upd_ne (ne_of_none q hn)]; exact q
   rcases hc with z | z
   ·rw [z]; exact nit b u e
   ·exact nit c _ z
def Itz (K : PySem.W.Frag) (a b : Addr) : It :=
  ⟨fun i H => ∃ xs ys x y, SqL K H a xs ∧ SqL K H b ys ∧ xs[i]? = some x ∧ ys[i]? = some y,
   fun i H v H' => ∃ t x y, H t = none ∧ v = .ref t ∧ H' = upd H t (.tup [x, y]) ∧ (∀ xs, SqL K H a xs → xs[i]? = some x) ∧ ∀ ys, SqL K H b ys → ys[i]? = some y,
   fun i H => ∃ xs ys, SqL K H a xs ∧ SqL K H b ys ∧ (xs.length ≤ i ∨ ys.length ≤ i)⟩
structure ZApart (z TI TO i1 i2 : Addr) : Prop where
 TIz : TI ≠ z
 TOz : TO ≠ z
 i1z : i1 ≠ z
 i2z : i2 ≠ z
 TITO : TI ≠ TO
 TIi1 : TI ≠ i1
 TIi2 : TI ≠ i2
 TOi1 : TO ≠ i1
 TOi2 : TO ≠ i2
 i12 : i1 ≠ i2
theorem list_ne {h : Heap} {l c : Addr} {xs : Array Value} {o : Obj} (hl : h.IsList l xs) (e : h.get? c = some o) (hc : o.cls ≠ .type "list") : l ≠ c := by
 rintro rfl
 obtain ⟨o', e', c', _⟩ := hl
 rw [e] at e'; cases e'
 exact hc c'
def ZSt (z TI TO i1 i2 l1 l2 : Addr) (i : Nat) (h : Heap) : Prop :=
 IsZip h z TI TO .none ∧ IsPair h TI (.ref i1) (.ref i2) ∧ (∃ a b, IsPair h TO a b) ∧ h.IsListIter i1 l1 i ∧ h.IsListIter i2 l2 i
theorem zapart {h : Heap} {z TI TO i1 i2 l1 l2 : Addr} {i : Nat} {xs ys : Array Value} (D : ZApart z TI TO i1 i2) (st : ZSt z TI TO i1 i2 l1 l2 i h) (h1 : h.IsList l1 xs) (h2 : h.IsList l2 ys) : ZipApart z TI TO i1 i2 l1 l2 := by
 obtain ⟨s1, s2, ⟨a, b, s3⟩, ⟨o4, s4, c4, _⟩, ⟨o5, s5, c5, _⟩⟩ := st
 have n4 : o4.cls ≠ .type "list" := by rw [c4]; decide
 have n5 : o5.cls ≠ .type "list" := by rw [c5]; decide
 have nz : Value.type "zip" ≠ Value.type "list" := by decide
 have nt : Value.type "tuple" ≠ Value.type "list" := by decide
 exact ⟨D.TIz, D.TOz, D.i1z, D.i2z, D.TITO, D.TIi1, D.TIi2, D.TOi1, D.TOi2, D.i12, list_ne h1 s1 nz, list_ne h1 s3 nt, list_ne h1 s4 n4, list_ne h1 s5 n5, list_ne h2 s1 nz, list_ne h2 s3 nt, list_ne h2 s4 n4, list_ne h2 s5 n5⟩
theorem turn_zip {P : Program} {w : World} {K : PySem.W.Frag} {elts : List Expr} {k : Nat} {pos : Pos} {z TI TO i1 i2 l1 l2 : Addr} (D : ZApart z TI TO i1 i2) : Turn P w K (.Tuple elts k pos) (Itz K l1 l2) [z, TI, TO, i1, i2] z (ZSt z TI TO i1 i2 l1 l2) where
 mem := by simp
 obj := fun i h st b hb => by
  obtain ⟨s1, s2, ⟨_, _, s3⟩, ⟨o4, s4, c4, d4⟩, ⟨o5, s5, c5, d5⟩⟩ := st
  simp only [List.mem_cons, List.mem_nil_iff, or_false] at hb
  rcases hb with rfl | rfl | rfl | rfl | rfl
  ·exact ⟨_, s1, fun v e => by cases e⟩
  ·exact ⟨_, s2, fun v e => by cases e⟩
  ·exact ⟨_, s3, fun v e => by cases e⟩
  ·exact ⟨_, s4, fun v e => by rw [d4] at e; cases e⟩
  ·exact ⟨_, s5, fun v e => by rw [d5] at e; cases e⟩
 keep := fun i h h' st kk => by
  obtain ⟨s1, s2, ⟨a, b, s3⟩, s4, s5⟩ := st
  exact ⟨kk z (by simp) _ s1, kk TI (by simp) _ s2, ⟨a, b, kk TO (by simp) _ s3⟩, s4.at fun o e => kk i1 (by simp) o e, s5.at fun o e => kk i2 (by simp) o e⟩
 item := by
  intro X hP hw hK hc i pins s σ H E I hf st hg
  subst hP hw hK
  obtain ⟨xs, ys, x, y, q1, q2, hx, hy⟩ := hg
  obtain ⟨is1, rv1, p1, _⟩ := I.list q1
  obtain ⟨is2, rv2, p2, _⟩ := I.list q2
  obtain ⟨u1, hu1, ru1⟩ := rv1.get hx
  obtain ⟨u2, hu2, ru2⟩ := rv2.get hy
  have D' := zapart D st p1.isList p2.isList
  obtain ⟨s1, s2, ⟨a, b, s3⟩, s4, s5⟩ := st
  refine wpAny_pyNext_zip_item D' s1 s2 s3 s4 s5 p1.isList p2.isList (x := u1) (y := u2) (by simpa using hu1) (by simpa using hu2) fun h' a1 a2 a3 a4 a5 a6 kk => ?_
  refine ⟨_, rfl, wpAny_letOwnedTupleGo_zip a1 fun h'' hz' hs' => ?_⟩
  have lt : ∀ {c o}, s.heap.get? c = some o → s.heap.objs.size ≠ c := fun e => Nat.ne_of_gt (Heap.lt_size e)
  have zne : s.heap.objs.size ≠ z := lt s1
  have keep2 : ∀ b o, b ∉ [z, TI, TO, i1, i2] → s.heap.get? b = some o → h''.get? b = some o := fun b o hb e => by
   simp only [List.mem_cons, List.mem_nil_iff, or_false, not_or] at hb
   exact hs'.extBut _ _ hb.1 (kk b o hb.1 hb.2.2.1 hb.2.2.2.1 hb.2.2.2.2 e)
  have hsz : H s.heap.objs.size = none := I.hok.fresh (Nat.le_refl _)
  have tupN : IsPair h'' s.heap.objs.size u1 u2 := hs'.extBut _ _ zne a5
  have nlt : ∀ c ∈ [z, TI, TO, i1, i2], c ≠ s.heap.objs.size := fun c hc' => by
   obtain ⟨o4, e4, _⟩ := id s4
   obtain ⟨o5, e5, _⟩ := id s5
   simp only [List.mem_cons, List.mem_nil_iff, or_false] at hc'
   rcases hc' with rfl | rfl | rfl | rfl | rfl
   ·exact (lt s1).symm
   ·exact (lt s2).symm
   ·exact (lt s3).symm
   ·exact (lt e4).symm
   ·exact (lt e5).symm
  refine ⟨.ref s.heap.objs.size, upd H s.heap.objs.size (.tup [x, y]), I.turnedLaid (t' := s.toks) keep2 hf (Nat.le_refl _) ⟨smallL (by show 2 ≤ 1000000; decide), [u1, u2], .cons ru1 (.cons ru2 .nil), ⟨_, tupN, rfl, rfl, 0, rfl⟩⟩, rfl, ⟨_, x, y, hsz, rfl, rfl, fun xs' q' => ?_, fun ys' q' => ?_⟩,
   ⟨hz', hs'.extBut _ _ D.TIz (kk _ _ D.TIz D.TITO D.TIi1 D.TIi2 s2), ⟨_, _, hs'.extBut _ _ D.TOz a2⟩, a3.extBut hs'.extBut D.i1z, a4.extBut hs'.extBut D.i2z⟩, fun c hc' => ?_⟩
  ·rw [I.list_inj q' q1]; exact hx
  ·rw [I.list_inj q' q2]; exact hy
  ·rw [upd_ne (nlt c hc')]; exact (hf c hc').1
 done := by
  intro X hP hw hK hc i pins s σ H E I hf st hg
  subst hP hw hK
  obtain ⟨xs, ys, q1, q2, hlen⟩ := hg
  obtain ⟨is1, rv1, p1, _⟩ := I.list q1
  obtain ⟨is2, rv2, p2, _⟩ := I.list q2
  have l1 := rv1.length
  have l2 := rv2.length
  have D' := zapart D st p1.isList p2.isList
  obtain ⟨s1, s2, ⟨a, b, s3⟩, s4, s5⟩ := st
  refine wpAny_pyNext_zip_end (I.ok.hd hc) D' s1 s2 s3 s4 s5 p1.isList p2.isList ?_ fun h' kk => ⟨rfl, I.turnedL (t' := s.toks) (fun b o hb e => ?_) hf⟩
  ·rcases hlen with z | z
   ·exact .inl (by simp; omega)
   ·exact .inr (by simp; omega)
  ·simp only [List.mem_cons, List.mem_nil_iff, or_false, not_or] at hb
   exact kk b o hb.1 hb.2.2.1 hb.2.2.2.1 hb.2.2.2.2 e
 self := fun A i s Q E st h => wpAny_pyIter_zip st.1 h
theorem zap (n : Nat) : ZApart (n + 4) (n + 2) (n + 3) n (n + 1) := ⟨(show (@Ne Nat (n + 2) (n + 4) : Prop) by omega), (show (@Ne Nat (n + 3) (n + 4) : Prop) by omega), (show (@Ne Nat (n) (n + 4) : Prop) by omega), (show (@Ne Nat (n + 1) (n + 4) : Prop) by omega), (show (@Ne Nat (n + 2) (n + 3) : Prop) by omega), (show (@Ne Nat (n + 2) (n) : Prop) by omega), (show (@Ne Nat (n + 2) (n + 1) : Prop) by omega), (show (@Ne Nat (n + 3) (n) : Prop) by omega), (show (@Ne Nat (n + 3) (n + 1) : Prop) by omega), (show (@Ne Nat (n) (n + 1) : Prop) by omega)⟩
theorem boot_zip : bootBuiltins "zip" = some (.type "zip") := by decide +kernel
def iZip (K : PySem.W.Frag) (ta : TA) : TI := fun σ H R => ta σ H fun vs H1 => ∃ a b : Addr, vs = [.ref a, .ref b] ∧ (∃ xs, SqL K H1 a xs) ∧ (∃ ys, SqL K H1 b ys) ∧ R (Itz K a b) H1
theorem iZip_at (K : PySem.W.Frag) (ta : TA) {σ : St} {H : Hp} {R : It → Hp → Prop} : iZip K ta σ H R = ta σ H fun vs H1 => ∃ a b : Addr, vs = [.ref a, .ref b] ∧ (∃ xs, SqL K H1 a xs) ∧ (∃ ys, SqL K H1 b ys) ∧ R (Itz K a b) H1 := rfl
theorem ex_refs2 (n m : Addr) (P : Addr → Addr → Prop) : (∃ i j, [V.ref n, V.ref m] = [V.ref i, V.ref j] ∧ P i j) = P n m := propext ⟨fun ⟨_, _, e, h⟩ => by cases e; exact h, fun h => ⟨n, m, rfl, h⟩⟩
theorem pi_zip {X : Cx} {elts : List Expr} {k : Nat} {tpos : Pos} {a b : Expr} {ta : TA} {p pos : Pos} (hg : Gl X "zip") (hm : X.mg "zip" = none) (ha : PA X [a, b] ta) (hs : starEach [a, b] X.env = [(false, eval a X.env), (false, eval b X.env)] := by rfl) (hs2 : starEach [b] X.env = [(false, eval b X.env)] := by rfl) :
  PI X (.Tuple elts k tpos) (.Call (.Name "zip" p) [a, b] [] pos) (iZip X.K ta) := by
 intro pins s σ H R I h
 refine Call_ (ld_blt I hg hm boot_zip (PyProof.Rows.callWith_type1 (thn (ha pos pins s σ H _ I h) fun us s1 ⟨vs, H1, I1, r1, q1⟩ => ?_) (by rw [hs, hs2]) (by rw [hs2]; rfl)))
 obtain ⟨l1, l2, e, ⟨xs, h1⟩, ⟨ys, h2⟩, q⟩ := q1
 subst e
 obtain ⟨u1, u2, rfl, r1, r2⟩ := vals2 r1
 cases r1
 cases r2
 obtain ⟨is1, _, p1, _⟩ := I1.list h1
 obtain ⟨is2, _, p2, _⟩ := I1.list h2
 refine call_zip_2 p1.isList p2.isList fun h' a1 a2 a3 a4 a5 a6 kk => ?_
 refine wpAny_pyIter_zip a1 ⟨_, [s1.heap.objs.size + 4, s1.heap.objs.size + 2, s1.heap.objs.size + 3, s1.heap.objs.size, s1.heap.objs.size + 1], _, _, H1, rfl, I1.kept (t' := s1.toks) kk,
  turn_zip (z := s1.heap.objs.size + 4) (TI := s1.heap.objs.size + 2) (TO := s1.heap.objs.size + 3) (i1 := s1.heap.objs.size) (i2 := s1.heap.objs.size + 1) (zap _), ⟨a1, a2, ⟨_, _, a3⟩, a4, a5⟩, fun b hb => ?_, q⟩
 have hb' : s1.heap.objs.size ≤ b := by
  simp only [List.mem_cons, List.mem_nil_iff, or_false] at hb
  rcases hb with rfl | rfl | rfl | rfl | rfl <;> first | exact Nat.le_refl _ | exact Nat.le_add_right _ _
 exact I1.fpOk hb' (I1.hok.fresh hb')
theorem pi_zipK (K : PySem.W.Frag) {X : Cx} {elts : List Expr} {k : Nat} {tpos : Pos} {a b : Expr} {ta : TA} {p pos : Pos} (hg : Gl X "zip") (hm : X.mg "zip" = none) (ha : PA X [a, b] ta) (hs : starEach [a, b] X.env = [(false, eval a X.env), (false, eval b X.env)] := by rfl) (hs2 : starEach [b] X.env = [(false, eval b X.env)] := by rfl) (hK : X.K = K := by rfl) :
  PI X (.Tuple elts k tpos) (.Call (.Name "zip" p) [a, b] [] pos) (iZip K ta) := hK ▸ pi_zip hg hm ha hs hs2
theorem compW_zip {K : PySem.W.Frag} {a b : Addr} {xs ys : List V} {g : TG} {te : TE} {nT : Nat} {σ : St} {D : Addr} {Q : VK} {H : Hp} (Pv : Nat → List V → Hp → Prop) (hn : xs.length = ys.length) (h0 : Pv 0 [] H) (hl : ∀ i zs H, i ≤ xs.length → Pv i zs H → SqL K H a xs ∧ SqL K H b ys)
  (hs : ∀ i zs H x y t, xs[i]? = some x → ys[i]? = some y → i < xs.length → Pv i zs H → H t = none → g (.ref t) (σ ++ List.replicate nT none) (upd H t (.tup [x, y])) (compK xs.length i Pv D zs te))
  (hd : ∀ zs H, Pv xs.length zs H → Q (.ref D) H) : compW (Itz K a b) g tYes te nT σ D Q H := by
 refine compW_by xs.length Pv h0 (fun i zs H hi p => ⟨xs, ys, xs[i], ys[i], (hl i zs H (Nat.le_of_lt hi) p).1, (hl i zs H (Nat.le_of_lt hi) p).2, by simp [hi], by simp [hn ▸ hi]⟩) (fun zs H p => ⟨xs, ys, (hl _ zs H (Nat.le_refl _) p).1, (hl _ zs H (Nat.le_refl _) p).2, .inl (Nat.le_refl _)⟩) (fun i zs H v H' hi p yl => ?_) hd
 obtain ⟨t, x, y, ht, rfl, rfl, y1, y2⟩ := yl
 exact hs i zs H x y t (y1 xs (hl i zs H (Nat.le_of_lt hi) p).1) (y2 ys (hl i zs H (Nat.le_of_lt hi) p).2) hi p ht
def fmtV (x : V) (H : Hp) (Q : VK) : Prop := match x with
 | .str y => y.length ≤ sizeLine ∧ Q (.str y) H
 | .int i => i.natAbs.log2 < 1920 ∧ Q (.str (toString i)) H
 | _ => False
def tFmt (te : TE) : TE := fun σ H Q => te σ H fun x H1 => fmtV x H1 Q
abbrev TJ := Str → St → Hp → VK → Prop
def tjNil : TJ := fun acc _ H Q => acc.length ≤ sizeLine ∧ Q (.str acc) H
def tjCons (te : TE) (tj : TJ) : TJ := fun acc σ H Q => te σ H fun x H1 => ∃ y, x = .str y ∧ (acc ++ y).length ≤ sizeLine ∧ tj (acc ++ y) σ H1 Q
def PJ (X : Cx) (es : List Expr) (tj : TJ) : Prop := ∀ (pins : List (Addr × Obj)) (s : Shared) (σ : St) (H : Hp) (acc : Str) (Q : VK), Inv X pins σ H s → tj acc σ H Q → wpAny (model X.prog X.w) X.A (joinParts acc (evalEach es X.env)) (EP X pins σ Q) X.xe s
def tFstr (tj : TJ) : TE := fun σ H Q => tj Str.empty σ H Q
section
variable {X : Cx}
theorem pe_fmt {e : Expr} {te : TE} {pos : Pos} (he : PE X e te) : PE X (.FormattedValue e (-1) none pos) (tFmt te) := by
 intro pins s σ H Q I h
 refine FormattedValue_plain (thn (he pins s σ H _ I h) fun v s1 ⟨x, H1, I1, r1, q1⟩ => ?_)
 match x, r1, q1 with
 | .str y, r1, q1 =>
  obtain ⟨t, rfl⟩ := r1
  exact formatField_str (fun t' tk => ⟨.str y, H1, I1.tok tk, ⟨t', rfl⟩, q1.2⟩) q1.1
 | .int i, r1, q1 =>
  obtain ⟨t, rfl⟩ := r1
  exact formatField_int_small q1.1 ⟨.str (toString i), H1, I1.tok _, ⟨_, rfl⟩, q1.2⟩
theorem pj_nil : PJ X [] tjNil := fun pins s σ H acc Q I h => joinParts_nil ⟨.str acc, H, I.tok _, ⟨_, rfl⟩, h.2⟩ h.1
theorem pj_cons {e : Expr} {es : List Expr} {te : TE} {tj : TJ} (he : PE X e te) (hj : PJ X es tj) : PJ X (e :: es) (tjCons te tj) := by
 intro pins s σ H acc Q I h
 show wpAny _ _ (joinParts acc (eval e X.env :: evalEach es X.env)) _ _ _
 refine joinParts_cons (thn (he pins s σ H _ I h) fun v s1 ⟨x, H1, I1, r1, y, e, hz, q⟩ => ?_)
 subst e
 obtain ⟨t, rfl⟩ := r1
 exact ⟨hz, hj pins s1 σ H1 (acc ++ y) Q I1 q⟩
theorem pe_fstr {e₁ e₂ : Expr} {es : List Expr} {tj : TJ} {pos : Pos} (h : PJ X (e₁ :: e₂ :: es) tj) : PE X (.JoinedStr (e₁ :: e₂ :: es) pos) (tFstr tj) := fun pins s σ H Q I q => JoinedStr_many (h pins s σ H Str.empty Q I q)
end
section
variable {σ : St} {H : Hp} {Q : VK}
theorem tFmt_at (te : TE) : tFmt te σ H Q = te σ H fun x H1 => fmtV x H1 Q := rfl
theorem tFstr_at (tj : TJ) : tFstr tj σ H Q = tj Str.empty σ H Q := rfl
theorem tjNil_at (acc : Str) : tjNil acc σ H Q = (acc.length ≤ sizeLine ∧ Q (.str acc) H) := rfl
theorem tjCons_at (te : TE) (tj : TJ) (acc : Str) : tjCons te tj acc σ H Q = te σ H fun x H1 => ∃ y, x = .str y ∧ (acc ++ y).length ≤ sizeLine ∧ tj (acc ++ y) σ H1 Q := rfl
theorem fmtV_str (y : Str) : fmtV (.str y) H Q = (y.length ≤ sizeLine ∧ Q (.str y) H) := rfl
theorem fmtV_int (i : Int) : fmtV (.int i) H Q = (i.natAbs.log2 < 1920 ∧ Q (.str (toString i)) H) := rfl
end
end L2
set_option Elab.async false
set_option linter.all false
set_option maxRecDepth 100000
namespace L2
open PySem PySem.Spec PyProof.Rows
section
variable {K : PySem.W.Frag} {a b : Addr} {xs ys : List V} {g : TG} {te : TE} {nT : Nat} {σ : St} {D : Addr} {Q : VK} {H : Hp}
end
end L2
set_option Elab.async false
set_option linter.all false
set_option maxRecDepth 100000
namespace L2
open PySem PySem.Spec PyProof.Rows
def rSlS : V → Option Int → Option Int → Hp → VK → Prop := fun x lo hi H Q => ∃ y, x = .str y ∧ y.length ≤ sizeLine ∧ Q (.str (Txt.slice y lo hi)) H
theorem sl_str {X : Cx} : SlR X rSlS := by
 intro pins s σ H x v vl vu lo hi sl Q I rx hs pl pu h
 obtain ⟨y, rfl, hz, q⟩ := h
 obtain ⟨t, rfl⟩ := rx
 obtain ⟨l, hl, el⟩ : ∃ l : Option (Int × Tok), vl = partValue l ∧ l.map (·.1) = lo := by
  cases pl with
  | none => exact ⟨none, rfl, rfl⟩
  | int i t => exact ⟨some (i, t), rfl, rfl⟩
 obtain ⟨u, hu, eu⟩ : ∃ l : Option (Int × Tok), vu = partValue l ∧ l.map (·.1) = hi := by
  cases pu with
  | none => exact ⟨none, rfl, rfl⟩
  | int i t => exact ⟨some (i, t), rfl, rfl⟩
 subst hl hu el eu
 refine ⟨"str", _, PySem.F.slot_str_getitem.lookup, typeIs_str _ _ _, wpAny_getItem_str_slice (l := l) (u := u) (st := none) hs rfl (post_val_or_str ⟨Nat.le_trans (Txt.slice_le y _ _) hz, fun t' k => ⟨.str _, H, I.tok k, ⟨t', rfl⟩, q⟩⟩)⟩
theorem rSlS_at {H : Hp} {Q : VK} (y : Str) (lo hi : Option Int) : rSlS (.str y) lo hi H Q = (y.length ≤ sizeLine ∧ Q (.str (Txt.slice y lo hi)) H) := propext ⟨fun ⟨_, e, h⟩ => by cases e; exact h, fun h => ⟨y, rfl, h⟩⟩
end L2
set_option Elab.async false
set_option linter.all false
set_option maxRecDepth 100000
namespace L2
open PySem PySem.Spec PyProof.Rows
set_option genInjectivity false in
set_option genSizeOf false in
structure IK (prog : Program) (w : World) (κ : Type) [DecidableEq κ] where
 is : Heap → κ → Value → Prop
 hash : κ → Int
 draws : κ → Nat
 deep : Nat
 inj : ∀ {h : Heap} {v : Value} {x y : κ}, is h x v → is h y v → x = y
 keeps : ∀ {h h' : Heap} {k : κ} {v : Value} {d : Addr} {o : Obj} {es ep}, is h k v → h.get? d = some o → o.data = .dict es ep → Heap.SameBut d h h' → is h' k v
 pyHash : ∀ {A : Around} {E : Value → Shared → Prop} {s : Shared} {k : κ} {v : Value} {Q : Int → Shared → Prop}, A.units + deep < cLine → is s.heap k v → Q (hash k) { s with toks := s.toks + draws k } →
  wpAny (model prog w) A (PySem.pyHash v) Q E s
 eqBool : ∀ {A : Around} {E : Value → Shared → Prop} {s : Shared} {x y : κ} {u v : Value} {Q : Bool → Shared → Prop}, A.units + deep < cLine → is s.heap x u → is s.heap y v → Q (decide (x = y)) s →
  wpAny (model prog w) A (PySem.eqBool u v) Q E s
 quiet : ∀ {A : Around} {E : Value → Shared → Prop} {s : Shared} {k : κ} {v : Value} {n : Nat} {Q : Bool → Shared → Prop}, is s.heap k v → Q true s → wpAny (model prog w) A (eqIsQuiet (n + deep) v) Q E s
section
variable {prog : Program} {w : World} {κ : Type} [DecidableEq κ] (K : IK prog w κ)
variable {K}
end
end L2
set_option Elab.async false
set_option linter.all false
set_option maxRecDepth 100000
namespace L2
open PySem PySem.Spec PyProof.Rows
end L2
set_option Elab.async false
set_option linter.all false
set_option maxRecDepth 100000
namespace L2
open PySem PySem.Spec PyProof.Rows
abbrev NKey := Int × List (Option Int)
section
variable {P : Program} {w : World} {H : Hp}
end
section
variable {X : Cx} {pins : List (Addr × Obj)} {σ : St} {H : Hp} {s : Shared} {a b : Addr} {k : NKey} {kvs : List (NKey × V)}
end
end L2
set_option Elab.async false
set_option linter.all false
set_option maxRecDepth 100000
namespace L2
open PySem PySem.Spec PyProof.Rows PySem.SeqAt
section
variable {X : Cx}
end
section
variable {K : PySem.W.Frag} {H : Hp} {Q : VK}
end
section
variable {X : Cx}
end
end L2
set_option Elab.async false
set_option linter.all false
set_option maxRecDepth 100000
namespace L2
open PySem PySem.Spec PyProof.Rows PySem.SeqAt
section
variable {K : PySem.W.Frag} {H : Hp} {Q : VK}
end
end L2
set_option Elab.async false
set_option linter.all false
set_option maxRecDepth 100000
namespace L2
open PySem PySem.Spec PyProof.Rows PySem.SeqAt
section
variable {X : Cx}
end
section
variable {X : Cx}
end
section
variable {prog : Program} {w : World} {K : Type} [DecidableEq K] {knd : KeyKind prog w K} {A : Around} {E : Value → Shared → Prop} {s : Shared}
end
section
variable {X : Cx}
theorem bt_set : bootBuiltins "set" = some (.type "set") := by decide +kernel
end
end L2
set_option Elab.async false
set_option linter.all false
set_option maxRecDepth 100000
namespace L2
open PySem PySem.Spec PyProof.Rows PySem.SeqAt
def Rises (xs : Array Nat) : Prop := ∀ (a b : Nat) (ha : a < xs.size) (hb : b < xs.size), a < b → xs[a] < xs[b]
theorem below_go {xs : Array Nat} (h : Rises xs) (j : Nat) : ∀ (fuel lo hi : Nat), lo ≤ hi → hi ≤ xs.size → hi - lo ≤ fuel → (∀ k (hk : k < xs.size), k < lo → xs[k] < j) → (∀ k (hk : k < xs.size), hi ≤ k → j ≤ xs[k]) →
  SetTable.below.go xs j fuel lo hi ≤ xs.size ∧ (∀ k (hk : k < xs.size), k < SetTable.below.go xs j fuel lo hi → xs[k] < j) ∧ (∀ k (hk : k < xs.size), SetTable.below.go xs j fuel lo hi ≤ k → j ≤ xs[k])
 | 0, lo, hi, h1, h2, h3, h4, h5 => by
  have e : lo = hi := by omega
  subst e
  exact ⟨h2, h4, h5⟩
 | fuel + 1, lo, hi, h1, h2, h3, h4, h5 => by
  unfold SetTable.below.go
  split
  ·rename_i hlt
   have hm : (lo + hi) / 2 < xs.size := by omega
   have eg : xs.getD ((lo + hi) / 2) j = xs[(lo + hi) / 2] := by simp [Array.getD, hm]
   dsimp only
   rw [eg]
   split
   ·rename_i hj
    refine below_go h j fuel _ hi (by omega) h2 (by omega) (fun k hk hkm => ?_) h5
    rcases Nat.lt_or_ge k ((lo + hi) / 2) with z | z
    ·exact Nat.lt_trans (h k _ hk hm z) hj
    ·have : k = (lo + hi) / 2 := by omega
     subst this; exact hj
   ·rename_i hj
    refine below_go h j fuel lo _ (by omega) (by omega) (by omega) h4 (fun k hk hkm => ?_)
    rcases Nat.lt_or_ge ((lo + hi) / 2) k with z | z
    ·exact Nat.le_trans (Nat.le_of_not_lt hj) (Nat.le_of_lt (h _ k hm hk z))
    ·have : k = (lo + hi) / 2 := by omega
     subst this; exact Nat.le_of_not_lt hj
  ·have e : lo = hi := by omega
   subst e
   exact ⟨h2, h4, h5⟩
theorem below_spec {xs : Array Nat} (h : Rises xs) (j : Nat) : SetTable.below xs j ≤ xs.size ∧ (∀ k (hk : k < xs.size), k < SetTable.below xs j → xs[k] < j) ∧ (∀ k (hk : k < xs.size), SetTable.below xs j ≤ k → j ≤ xs[k]) :=
 below_go h j xs.size 0 xs.size (Nat.zero_le _) (Nat.le_refl _) (by omega) (fun k _ z => absurd z (Nat.not_lt_zero _)) (fun k hk z => absurd hk (by omega))
theorem below_zero {xs : Array Nat} (h : Rises xs) : SetTable.below xs 0 = 0 := by
 obtain ⟨h1, h2, h3⟩ := below_spec h 0
 refine Classical.byContradiction fun hn => ?_
 exact absurd (h2 0 (by omega) (by omega)) (Nat.not_lt_zero _)
theorem below_next {xs : Array Nat} (h : Rises xs) {i : Nat} (hi : i < xs.size) : SetTable.below xs (xs[i] + 1) = i + 1 := by
 obtain ⟨h1, h2, h3⟩ := below_spec h (xs[i] + 1)
 rcases Nat.lt_trichotomy (SetTable.below xs (xs[i] + 1)) (i + 1) with z | z | z
 ·have := h3 i hi (by omega); omega
 ·exact z
 ·have h4 := h2 (i + 1) (by omega) z
  have h5 := h i (i + 1) hi (by omega) (by omega)
  omega
theorem insert_at {xs : Array Nat} {p x k : Nat} (hp : p ≤ xs.size) (hk : k < (SetTable.insertAt xs p x).size) : (SetTable.insertAt xs p x)[k] = if h : k < p then xs[k]'(by omega) else if k = p then x else xs.getD (k - 1) 0 := by
 have hs : (SetTable.insertAt xs p x).size = xs.size + 1 := by
  unfold SetTable.insertAt; simp; omega
 have e : (SetTable.insertAt xs p x)[k]? = some (if h : k < p then xs[k]'(by omega) else if k = p then x else xs.getD (k - 1) 0) := by
  unfold SetTable.insertAt
  rw [Array.getElem?_append]
  simp only [Array.size_push, Array.size_extract]
  split
  ·rename_i h
   rw [Array.getElem?_push]
   simp only [Array.size_extract]
   by_cases hkp : k < p
   ·rw [if_neg (by omega), dif_pos hkp, Array.getElem?_extract]
    simp; omega
   ·have : k = p := by omega
    subst this
    rw [if_pos (by omega), dif_neg hkp, if_pos rfl]
  ·rename_i h
   rw [dif_neg (by omega), if_neg (by omega), Array.getElem?_extract]
   have hk' : k - 1 < xs.size := by omega
   rw [if_pos (by omega), show p + (k - (min p xs.size - 0 + 1)) = k - 1 by omega]
   simp [Array.getD, hk']
 rw [Array.getElem?_eq_getElem hk] at e
 exact Option.some.inj e
theorem insert_rises {xs : Array Nat} (h : Rises xs) {j : Nat} (hj : ∀ k (hk : k < xs.size), xs[k] ≠ j) : Rises (SetTable.insertAt xs (SetTable.below xs j) j) := by
 obtain ⟨h1, h2, h3⟩ := below_spec h j
 have hs : (SetTable.insertAt xs (SetTable.below xs j) j).size = xs.size + 1 := by
  unfold SetTable.insertAt; simp; omega
 generalize SetTable.below xs j = p at h1 h2 h3 hs
 intro a b ha hb hab
 rw [insert_at h1 ha, insert_at h1 hb]
 have gd : ∀ k, k < xs.size → ∃ hk : k < xs.size, xs.getD k 0 = xs[k] := fun k hk => ⟨hk, by simp [Array.getD, hk]⟩
 by_cases a1 : a < p
 ·rw [dif_pos a1]
  by_cases b1 : b < p
  ·rw [dif_pos b1]; exact h a b _ _ hab
  ·rw [dif_neg b1]
   by_cases b2 : b = p
   ·rw [if_pos b2]; exact h2 a (by omega) a1
   ·rw [if_neg b2]
    obtain ⟨hk, e⟩ := gd (b - 1) (by omega)
    rw [e]; exact h a (b - 1) _ _ (by omega)
 ·rw [dif_neg a1, dif_neg (by omega)]
  by_cases a2 : a = p
  ·rw [if_pos a2, if_neg (by omega)]
   obtain ⟨hk, e⟩ := gd (b - 1) (by omega)
   rw [e]
   have := h3 (b - 1) hk (by omega)
   have := hj (b - 1) hk
   omega
  ·rw [if_neg a2, if_neg (by omega)]
   obtain ⟨hk, e⟩ := gd (b - 1) (by omega)
   obtain ⟨hk2, e2⟩ := gd (a - 1) (by omega)
   rw [e, e2]; exact h _ _ _ _ (by omega)
theorem slot_free {t : SetTable} {j : Nat} (h : Rises t.place) (e : ∀ i, t.slot j ≠ .live i) : ∀ k (hk : k < t.place.size), t.place[k] ≠ j := fun k hk ek => by
 obtain ⟨h1, h2, h3⟩ := below_spec h j
 have hb : SetTable.below t.place j = k := by
  rcases Nat.lt_trichotomy (SetTable.below t.place j) k with z | z | z
  ·have := h3 (SetTable.below t.place j) (by omega) (Nat.le_refl _)
   have := h (SetTable.below t.place j) k (by omega) hk z
   omega
  ·exact z
  ·have := h2 k hk z; omega
 refine e k ?_
 unfold SetTable.slot
 rw [hb]
 dsimp only
 rw [Array.getElem?_eq_getElem hk, ek]
 simp
theorem probe_go {t : SetTable} {hashAt : Nat → Int} {h : Int} : ∀ (fuel : Nat) (p : SetTable.Probe), (∀ d, p.dummy = some d → t.slot d = .dummy) → ∀ j dm, SetTable.probe.go t hashAt h fuel p = some (.empty j dm) → t.slot j = .empty ∧ ∀ d, dm = some d → t.slot d = .dummy
 | 0, p, _, j, dm, e => by unfold SetTable.probe.go at e; cases e
 | fuel + 1, p, hp, j, dm, e => by
  unfold SetTable.probe.go at e
  have adv : ∀ q : SetTable.Probe, (t.advance q).dummy = q.dummy := fun q => by unfold SetTable.advance; split <;> rfl
  cases hs : t.slot p.j with
  | empty =>
   rw [hs] at e
   cases e
   exact ⟨hs, hp⟩
  | dummy =>
   rw [hs] at e
   refine probe_go fuel _ (fun d hd => ?_) j dm e
   rw [adv] at hd
   cases hd
   exact hs
  | live i =>
   rw [hs] at e
   dsimp only at e
   split at e
   ·cases e
   ·exact probe_go fuel _ (fun d hd => by rw [adv] at hd; exact hp d hd) j dm e
structure Good (L : Bool) (t : SetTable) : Prop where
 led : t.led = L
 rise : Rises t.place
theorem rises_range (n : Nat) : Rises (Array.range n) := fun a b ha hb hab => by simpa using hab
theorem good_standIn {L : Bool} {t : SetTable} (h : Good L t) (n : Nat) : Good L (t.standIn n) := ⟨h.led, rises_range n⟩
theorem good_free {L : Bool} {t : SetTable} (h : Good L t) {hh : Int} {j : Nat} {b : Bool} (e : t.freeSlot hh = some (j, b)) : Good L (t.put j).1 := by
 refine ⟨h.led, insert_rises h.rise (slot_free h.rise ?_)⟩
 unfold SetTable.freeSlot at e
 split at e
 ·rename_i j' dm hpr
  have := probe_go (t := t) _ (t.probeStart hh) (fun d hd => by cases hd) j' dm hpr
  cases dm with
  | none =>
   cases e
   exact fun i z => by have := this.1; rw [show (none : Option Nat).getD j' = j' from rfl, this] at z; cases z
  | some d =>
   cases e
   exact fun i z => by have := this.2 d rfl; rw [show (some d : Option Nat).getD j' = d from rfl, this] at z; cases z
 ·cases e
theorem good_layNew {L : Bool} {t : SetTable} (h : Good L t) (es : Array (Int × Value)) (hh : Int) (x : Value) : Good L (layNew t es hh x).2.1 := by
 unfold layNew
 cases e : t.freeSlot hh with
 | none => exact good_standIn h _
 | some q =>
  obtain ⟨j, b⟩ := q
  have hg := good_free h e
  show Good L ((t.put j).1.orStandIn _)
  unfold SetTable.orStandIn
  split
  ·exact hg
  ·exact good_standIn hg _
theorem rises_of_pairwise {l : List Nat} (h : l.Pairwise (· < ·)) : Rises l.toArray := fun a b ha hb hab => by
 have := (List.pairwise_iff_getElem.mp h) a b (by simpa using ha) (by simpa using hb) hab
 simpa using this
theorem good_relay {L : Bool} {t : SetTable} (h : Good L t) (es : Array (Int × Value)) (n : Nat) : Good L (relayAll t es n).2.1 := by
 unfold relayAll
 split
 ·rename_i t' order e
  dsimp only
  split
  ·unfold SetTable.relaid SetTable.laid at e
   cases ho : SetTable.layClean (SetTable.sizeAbove n - 1) (es.map (·.1)) with
   | none => rw [ho] at e; cases e
   | some owner =>
    rw [ho] at e
    cases e
    refine ⟨h.led, rises_of_pairwise ?_⟩
    refine List.pairwise_map.mpr ?_
    refine List.Pairwise.filterMap _ ?_ List.pairwise_lt_range
    intro a b hab x hx y hy
    obtain ⟨k, _, rfl⟩ := Option.map_eq_some_iff.mp hx
    obtain ⟨k', _, rfl⟩ := Option.map_eq_some_iff.mp hy
    exact hab
  ·exact good_standIn h _
 ·exact good_standIn h _
end L2
set_option Elab.async false
set_option linter.all false
set_option maxRecDepth 100000
namespace L2
open PySem PySem.Spec PyProof.Rows PySem.SeqAt
section
variable {prog : Program} {w : World} {K : Type} [DecidableEq K] {knd : KeyKind prog w K} {A : Around} {E : Value → Shared → Prop} {s : Shared} {G : SetTable → Prop}
def Apart (knd : KeyKind prog w K) (l : List (Int × Value)) : Prop := l.Pairwise fun e e' => ∀ k, knd.is k e.2 = true → knd.is k e'.2 = false
theorem Apart.perm {l l' : List (Int × Value)} (h : Apart knd l) (p : l'.Perm l) : Apart knd l' :=
 (p.pairwise_iff fun {x y} hxy k hk => by
  cases e : knd.is k x.2 with
  | false => rfl
  | true => rw [hxy k e] at hk; cases hk).mpr h
theorem Apart.push {l : List (Int × Value)} {k : K} {x : Value} {hh : Int} (h : Apart knd l) (hn : ∀ e ∈ l, knd.is k e.2 = false) (hk : knd.is k x = true) : Apart knd (l ++ [(hh, x)]) := by
 refine List.pairwise_append.mpr ⟨h, List.pairwise_singleton _ _, fun e he b hb k' hk' => ?_⟩
 rw [List.mem_singleton.mp hb]
 show knd.is k' x = false
 rw [KeyKind.is_eq_decide hk k']
 refine decide_eq_false fun e' => ?_
 subst e'
 rw [hn e he] at hk'; cases hk'
structure Tab (knd : KeyKind prog w K) (G : SetTable → Prop) (o : Obj) (es : Array (Int × Value)) (ep : Nat) (t : SetTable) (S : K → Bool) (n : Nat) : Prop where
 ex : o.ExactSet
 dat : o.data = .set es ep t
 el : ElemsOf knd es.toList
 mem : ∀ k, S k = true ↔ ∃ e ∈ es.toList, knd.is k e.2 = true
 few : es.size < scanBound
 fit : t.fits es.size = true
 num : es.size = n
 good : G t
 apart : Apart knd es.toList
def SetG (knd : KeyKind prog w K) (G : SetTable → Prop) (h : Heap) (a : Addr) (S : K → Bool) (n : Nat) : Prop := ∃ o es ep t, h.get? a = some o ∧ Tab knd G o es ep t S n
theorem stored {h : Heap} {a : Addr} {o : Obj} {es : Array (Int × Value)} {ep : Nat} {t : SetTable} {S : K → Bool} {n : Nat} {es' : Array (Int × Value)} {t' : SetTable} {S' : K → Bool} {n' : Nat} (ho : h.get? a = some o) (T : Tab knd G o es ep t S n)
  (T' : ∀ o', o'.ExactSet → o'.data = .set es' (ep + 1) t' → Tab knd G o' es' (ep + 1) t' S' n') : ∃ o', (h.update a (Obj.putSet es' t')).get? a = some o' ∧ Tab knd G o' es' (ep + 1) t' S' n' := by
 have hp := putSet_of es' t' T.dat
 have hg := Heap.get?_update_self (Obj.putSet es' t') ho (by rw [hp]; rfl)
 rw [hp] at hg
 exact ⟨_, hg, T' _ T.ex rfl⟩
theorem addTailG (gr : ∀ t es n, G t → G (relayAll t es n).2.1) {g : Bool → Sem Unit} (hg : ∀ (b : Bool) (s₁ : Shared) (Q' : Unit → Shared → Prop), Q' () s₁ → wpAny (model prog w) A (g b) Q' E s₁)
  {a : Addr} {o : Obj} {es : Array (Int × Value)} {ep : Nat} {t : SetTable} {S : K → Bool} {n : Nat} (ho : s.heap.get? a = some o) (T : Tab knd G o es ep t S n)
  {es1 : Array (Int × Value)} {t2 : SetTable} {S' : K → Bool} {n' : Nat} (T1 : ∀ o', o'.ExactSet → o'.data = .set es1 (ep + 1) t2 → Tab knd G o' es1 (ep + 1) t2 S' n') {wasDummy : Bool} {R : Option Bool → Shared → Prop}
  (h : ∀ h', Heap.SameBut a s.heap h' → SetG knd G h' a S' n' → R (some true) { s with heap := h' }) :
  wpAny (model prog w) A (do
    storeSet a es1 t2
    if (!wasDummy && t2.tooFull) = true then do
      g (relayAll t2 es1 (SetTable.grown es1.size)).2.2
      storeSet a (relayAll t2 es1 (SetTable.grown es1.size)).1 (relayAll t2 es1 (SetTable.grown es1.size)).2.1
      pure (some true)
     else pure (some true)) R E s := by
 obtain ⟨o1, ho1, U1⟩ := stored ho T T1
 refine wpAny_bind (wpAny_storeSet_of ho T.dat ?_ (fits_of_scanBound U1.few))
 have hsb1 := Heap.SameBut.update s.heap a (Obj.putSet es1 t2)
 split
 ·have hp := relayAll_perm t2 es1 (SetTable.grown es1.size)
  have hfr := relayAll_fits t2 es1 (SetTable.grown es1.size)
  have hgr := gr t2 es1 (SetTable.grown es1.size) U1.good
  generalize relayAll t2 es1 (SetTable.grown es1.size) = Rl at hp hfr hgr ⊢
  obtain ⟨es2, t3, gave2⟩ := Rl
  dsimp only at hp hfr hgr ⊢
  have hsz : es2.size = es1.size := by rw [← Array.length_toList, hp.length_eq, Array.length_toList]
  obtain ⟨o2, ho2, U2⟩ := stored (es' := es2) (t' := t3) (S' := S') (n' := n') ho1 U1 fun o' ex da => ⟨ex, da, U1.el.perm hp, fun k' => (U1.mem k').trans ⟨fun ⟨e, he, q⟩ => ⟨e, hp.mem_iff.mpr he, q⟩, fun ⟨e, he, q⟩ => ⟨e, hp.mem_iff.mp he, q⟩⟩, by rw [hsz]; exact U1.few, hfr, by rw [hsz]; exact U1.num, hgr, U1.apart.perm hp⟩
  refine wpAny_bind (hg _ _ _ ?_)
  refine wpAny_bind (wpAny_storeSet_of ho1 U1.dat ?_ (fits_of_scanBound U2.few))
  exact wpAny_pure (h _ (hsb1.trans (Heap.SameBut.update _ a _)) ⟨_, _, _, _, ho2, U2⟩)
 ·exact wpAny_pure (h _ hsb1 ⟨_, _, _, _, ho1, U1⟩)
theorem addG (gl : ∀ t es h x, G t → G (layNew t es h x).2.1) (gr : ∀ t es n, G t → G (relayAll t es n).2.1) (gp : ∀ t : SetTable, G t → G { t with plain := false })
  {a : Addr} {S : K → Bool} {n : Nat} {k : K} {x : Value} {Q : Bool → Shared → Prop} (hkey : knd.is k x = true) (hsc : x.scannable = true) (hS : SetG knd G s.heap a S n) (hroom : n + 1 < scanBound)
  (h : ∀ h', Heap.SameBut a s.heap h' → SetG knd G h' a (fun k' => S k' || decide (k' = k)) (if S k then n else n + 1) → Q (!S k) { s with heap := h' }) :
  wpAny (model prog w) A (setAddHashed a x (knd.hash k)) Q E s := by
 obtain ⟨o, es, ep, t, ho, T⟩ := hS
 have hb1 : es.size + 1 < scanBound := by rw [T.num]; exact hroom
 unfold setAddHashed setAddHashedIn
 refine wpAny_holding (wpAny_bind (wpAny_setState_of ho T.dat T.fit ?_))
 dsimp only
 rw [byScan_of hsc T.few T.el]
 simp only [↓reduceIte]
 unfold setAddByScan
 refine wpAny_bind ?_
 refine wpAny_bind (wpAny_rule ?_)
 refine wpAny_bind (wpAny_setScan_of hkey ho T.dat T.fit T.el ?_)
 cases hr : List.findIdx? (fun e => knd.is k e.2) es.toList with
 | some j =>
  dsimp only
  obtain ⟨hj, hpj, _⟩ := List.findIdx?_eq_some_iff_getElem.mp hr
  have hSk : S k = true := (T.mem k).mpr ⟨es.toList[j], List.getElem_mem hj, hpj⟩
  refine wpAny_pure (wpAny_pure ?_)
  have e : s = { s with heap := s.heap } := by cases s; rfl
  have q := h s.heap (Heap.SameBut.refl a s.heap) ⟨o, es, ep, t, ho, T.ex, T.dat, T.el, fun k' => by
   rw [Bool.or_eq_true, decide_eq_true_eq, ← T.mem k']
   exact ⟨fun hk => hk.elim id (fun e => e ▸ hSk), .inl⟩, T.few, T.fit, by rw [hSk]; exact T.num, T.good, T.apart⟩
  rw [hSk] at q; rw [e]; exact q
 | none =>
  dsimp only
  have hno := List.findIdx?_eq_none_iff.mp hr
  have hSk : S k = false := by
   cases hk : S k with
   | false => rfl
   | true => obtain ⟨e, he, hp⟩ := (T.mem k).mp hk; rw [hno e he] at hp; cases hp
  have hgw : ∀ (b : Bool) {s₁ : Shared} {Q' : Unit → Shared → Prop}, Q' () s₁ → wpAny (model prog w) A (match b with | true => rule "set.scan.the-table-gave-way" | false => pure ()) Q' E s₁ := fun b s₁ Q' hq => by
   cases b <;> first | exact wpAny_pure hq | exact wpAny_rule hq
  have hperm := layNew_perm t es (knd.hash k) x
  have hfits := layNew_fits t es (knd.hash k) x
  have hgood := gl t es (knd.hash k) x T.good
  generalize layNew t es (knd.hash k) x = Ly at hperm hfits hgood ⊢
  obtain ⟨es1, t1, wasDummy, gave⟩ := Ly
  dsimp only at hperm hfits hgood ⊢
  rw [Array.toList_push] at hperm
  have hsz1 : es1.size = n + 1 := by rw [← Array.length_toList, hperm.length_eq, List.length_append, Array.length_toList, T.num]; rfl
  have mk : ∀ t2 : SetTable, t2.fits es1.size = true → G t2 → ∀ o', o'.ExactSet → o'.data = .set es1 (ep + 1) t2 → Tab knd G o' es1 (ep + 1) t2 (fun k' => S k' || decide (k' = k)) (n + 1) := fun t2 hf2 g2 o' ex da =>
   ⟨ex, da, (T.el.push hkey hsc).perm hperm, mem_push_iff hkey T.mem hperm, by rw [hsz1]; exact hroom, hf2, hsz1, g2, (T.apart.push (fun e he => by have := hno e he; simpa using this) hkey).perm hperm⟩
  refine wpAny_bind (hgw _ ?_)
  have hend : ∀ h', Heap.SameBut a s.heap h' → SetG knd G h' a (fun k' => S k' || decide (k' = k)) (n + 1) → Q true { s with heap := h' } := by
   intro h' hsb hS'; have := h h' hsb; rw [hSk] at this; exact this hS'
  split
  ·refine wpAny_bind ?_
   rw [hashByValue_scannable 8 hsc]
   refine wpAny_pure ?_
   refine addTailG gr ?_ ho T (mk _ ?_ ?_) ?_
   ·intro b s₁ Q' hq; cases b <;> first | exact wpAny_pure hq | exact wpAny_rule hq
   ·split
    ·exact hfits
    ·exact SetTable.fits_plain_off hfits
   ·split
    ·exact hgood
    ·exact gp _ hgood
   ·intro h' hsb hS'; dsimp only; exact wpAny_pure (hend h' hsb hS')
  ·refine wpAny_bind (wpAny_pure ?_)
   simp only [↓reduceIte]
   refine addTailG gr ?_ ho T (mk _ hfits hgood) ?_
   ·intro b s₁ Q' hq; cases b <;> first | exact wpAny_pure hq | exact wpAny_rule hq
   ·intro h' hsb hS'; dsimp only; exact wpAny_pure (hend h' hsb hS')
end
end L2
set_option Elab.async false
set_option linter.all false
set_option maxRecDepth 100000
set_option maxHeartbeats 4000000
namespace L2
open PySem PySem.Spec PyProof.Rows PySem.SeqAt
section
variable {prog : Program} {w : World} {A : Around} {R : Result → Shared → Prop} {I : Addr} {fp wr : List Addr} {Gm : Array GenState → Array GenState → Prop} {n : Nat} {P : Nat → Value → Prop} {St : Nat → Shared → Prop} {L : Bool}
theorem good_plain {t : SetTable} (h : Good L t) : Good L { t with plain := false } := ⟨h.led, h.rise⟩
theorem SetG.at' {K : Type} [DecidableEq K] {knd : KeyKind prog w K} {G : SetTable → Prop} {h h' : Heap} {a : Addr} {S S' : K → Bool} {m m' : Nat} (x : SetG knd G h a S m) (e : ∀ o, h.get? a = some o → h'.get? a = some o) (eS : ∀ k, S k = S' k) (em : m = m') : SetG knd G h' a S' m' := by
 obtain ⟨o, es, ep, t, ho, T⟩ := x
 have : S = S' := funext eS
 subst this; subst em
 exact ⟨o, es, ep, t, e o ho, T⟩
end
section
variable {prog : Program} {w : World} {A : Around} {E : Value → Shared → Prop} {s : Shared}
def ledOf (w : World) : Bool := !(w.params.followText "set-order")
theorem set_newG (a : Value) {Q₁ : Value → Shared → Prop}
  (h : Q₁ (.ref s.heap.objs.size) { s with heap := s.heap.push { cls := .type "set", dict := none, data := .set #[] 0 (.fresh 0 0 (ledOf w)) } }) :
  codeAny (model prog w) A (.call (.builtin "set.__new__") ⟨[.type "set", a], []⟩) (wants Q₁ E) s := by
 refine codeAny_of_tree ?_
 show wpAny _ A.in1 (do checkBuiltinCall "set.__new__" ⟨[.type "set", a], []⟩; again (.builtin "set.__new__" ⟨[.type "set", a], []⟩)) _ _ s
 refine wpAny_bind (wpAny_of_eq (F.newCall_set_1 a) (wpAny_pure ⟨plainId_quiet F.plain_set_new _, codeAny_builtin F.entry_set_new ?_⟩))
 rw [Around.under_plainId F.plain_set_new _]
 unfold Builtin.«set.__new__» Builtin.Frozenset.newClass
 have hsub := sub_set_self
 obtain ⟨hp, g, d, tk, os⟩ := s
 dsimp only
 wp_walk
 refine wpAny_askSetting (wpAny_pure ?_)
 dsimp only
 simp only [newObj]
 refine wpAny_bind (wpAny_alloc (wpAny_pure ?_))
 exact wpAny_pure h
end
end L2
set_option Elab.async false
set_option linter.all false
set_option maxRecDepth 100000
set_option maxHeartbeats 4000000
namespace L2
open PySem PySem.Spec PyProof.Rows PySem.SeqAt
section
variable {X : Cx}
end
end L2
set_option Elab.async false
set_option linter.all false
set_option maxRecDepth 100000
set_option maxHeartbeats 4000000
namespace L2
open PySem PySem.Spec PyProof.Rows PySem.SeqAt
theorem erase_perm {α : Type} : ∀ (l : List α) (i : Nat) (hi : i < l.length), (l[i] :: l.eraseIdx i).Perm l
 | x :: l, 0, _ => .rfl
 | x :: l, i + 1, hi => (List.Perm.swap x (l[i]'(by simpa using hi)) (l.eraseIdx i)).trans (List.Perm.cons x (erase_perm l i (by simpa using hi)))
theorem pick_go {α : Type} (next : Nat → Nat) : ∀ (fuel k : Nat) (left : List α) (out : Array α), fuel = left.length → (pickOrder.go next fuel k left out).toList.Perm (out.toList ++ left)
 | 0, k, left, out, h => by
  have : left = [] := List.eq_nil_of_length_eq_zero h.symm
  subst this
  unfold pickOrder.go; simp
 | fuel + 1, k, left, out, h => by
  unfold pickOrder.go
  have hi : next k % left.length < left.length := Nat.mod_lt _ (by omega)
  rw [List.getElem?_eq_getElem hi]
  dsimp only
  refine (pick_go next fuel (k + 1) _ _ (by rw [List.length_eraseIdx]; rw [if_pos hi]; omega)).trans ?_
  rw [Array.toList_push, List.append_assoc]
  refine List.Perm.append_left _ ?_
  exact erase_perm _ _ hi
theorem pick_perm {α : Type} (next : Nat → Nat) (xs : Array α) : (pickOrder next xs).toList.Perm xs.toList := by
 unfold pickOrder
 have := pick_go next xs.size 0 xs.toList #[] (by simp)
 simpa using this
section
variable {M : Model} {A : Around} {E : Value → Shared → Prop}
theorem choose_rule {s : Shared} {n : Nat} {Q : Nat → Shared → Prop} (hn : n ≠ 0) (h : ∀ i d', i < n → Q i { s with drawn := d' }) : wpAny M A (choose .order n) Q E s := fun Γ p hΓ => by
 show Sem.wp M Γ (.choose .order n .pure) _ _ _ _
 rw [Sem.wp_choose]
 refine ⟨hn, ?_⟩
 rw [Sem.wp_pure]
 exact h _ _ (Nat.mod_lt _ (by omega))
theorem draw_rule {α : Type} : ∀ (n : Nat) (xs : List α) (s : Shared) (Q : List α → Shared → Prop), n = xs.length → (∀ ys d', ys.Perm xs → Q ys { s with drawn := d' }) → wpAny M A (drawOrder n xs) Q E s
 | 0, xs, s, Q, hn, h => by
  have : xs = [] := List.eq_nil_of_length_eq_zero hn.symm
  subst this
  unfold drawOrder
  exact wpAny_pure (by have := h [] s.drawn .nil; cases s; exact this)
 | n + 1, [], s, Q, hn, h => by simp at hn
 | n + 1, x :: xs, s, Q, hn, h => by
  unfold drawOrder
  refine wpAny_bind (choose_rule (by simp) fun i d' hi => ?_)
  rw [List.getElem?_eq_getElem hi]
  dsimp only
  refine wpAny_bind (draw_rule n _ _ _ (by rw [List.length_eraseIdx, if_pos hi]; omega) fun ys d'' hp => ?_)
  refine wpAny_pure ?_
  exact h _ d'' ((List.Perm.cons _ hp).trans (erase_perm _ _ hi))
end
end L2
set_option Elab.async false
set_option linter.all false
set_option maxRecDepth 100000
set_option maxHeartbeats 4000000
namespace L2
open PySem PySem.Spec PyProof.Rows PySem.SeqAt
theorem slot_si_next : Slot "set_iterator" "__next__" "set_iterator.__next__" :=
 .of (owner := "set_iterator") (n := "__next__") (by rw [typeLookup_type, builtinLookup_eq_fast]; kernel_rfl) (by decide +kernel) (by decide +kernel) (by decide +kernel)
  (by first | exact .inl (by decide +kernel) | exact .inr (by decide +kernel)) (by rw [isSubtype_type]; kernel_rfl)
theorem entry_si_next : entryFor table "set_iterator.__next__" = some Builtin.«set_iterator.__next__» := entryFor_of_tree (by kernel_rfl)
theorem entry_set_iter : entryFor table "set.__iter__" = some Builtin.«frozenset.__iter__» :=
 entryFor_alias (id' := "frozenset.__iter__") (by kernel_rfl) rfl (by decide +kernel) (by kernel_rfl)
theorem owner_si : Manifest.owners.lookup (String.ofList ['r', 'o', 't', 'a', 'r', 'e', 't', 'i', '_', 't', 'e', 's'].reverse) = some Manifest.sig_set_iterator := by kernel_rfl
theorem args_si_next (a : Value) : argsOk "set_iterator.__next__" ⟨[a], []⟩ := by
 unfold argsOk; rw [signature?_of (id := "set_iterator.__next__") (n := ['_', '_', 't', 'x', 'e', 'n', '_', '_']) (o := ['r', 'o', 't', 'a', 'r', 'e', 't', 'i', '_', 't', 'e', 's']) (by kernel_rfl) owner_si]; kernel_rfl
section
variable {prog : Program} {w : World} {A : Around} {E : Value → Shared → Prop} {s : Shared}
def ordOf (w : World) (a : Addr) (ep : Nat) (es : Array (Int × Value)) : List Value := ((if w.params.followText "set-order" then pickOrder (w.params.setOrder a ep) es else es).toList.map (·.2))
def slotAt (w : World) (t : SetTable) (i : Nat) : Nat := if w.params.followText "set-order" then 0 else if i = 0 then 0 else t.place.getD (i - 1) 0 + 1
theorem ord_perm (a : Addr) (ep : Nat) (es : Array (Int × Value)) : (ordOf w a ep es).Perm (es.toList.map (·.2)) := by
 unfold ordOf
 split
 ·exact (pick_perm _ _).map _
 ·exact .rfl
theorem next_rule {a : Addr} {o : Obj} {es : Array (Int × Value)} {ep : Nat} {t : SetTable} {i : Nat} {Q : Option (Value × Nat) → Shared → Prop} (ho : s.heap.get? a = some o) (hd : o.data = .set es ep t) (hf : t.fits es.size = true) (hg : Good (ledOf w) t) (hi : i ≤ es.size)
  (hn : w.params.followText "set-order" = true ∨ (!t.plain && decide (es.size > 1)) = false) (h : Q (((ordOf w a ep es)[i]?).map fun x => (x, slotAt w t (i + 1))) s) : wpAny (model prog w) A (setNext a (slotAt w t i) i ep) Q E s := by
 have hps : t.place.size = es.size := by
  unfold SetTable.fits at hf
  simp only [Bool.and_eq_true, beq_iff_eq] at hf
  exact hf.1
 unfold setNext
 refine wpAny_bind (wpAny_setState_of ho hd hf ?_)
 refine wpAny_bind ?_
 unfold setsByText
 refine wpAny_bind (wpAny_askSetting (wpAny_pure ?_))
 show wpAny _ _ (if w.params.followText "set-order" = true then _ else _) _ _ _
 unfold ordOf slotAt at h
 unfold slotAt
 cases hb : w.params.followText "set-order" with
 | true =>
  rw [hb] at h
  simp only [if_true] at h ⊢
  rw [if_neg (by simp)]
  refine wpAny_bind ?_
  unfold setWalk
  refine wpAny_bind (wpAny_setState_of ho hd hf ?_)
  refine wpAny_bind ?_
  unfold setsByText
  refine wpAny_bind (wpAny_askSetting (wpAny_pure ?_))
  show wpAny _ _ (if w.params.followText "set-order" = true then _ else _) _ _ _
  rw [if_pos hb]
  refine wpAny_bind (wpAny_askSetting (wpAny_pure ?_))
  refine wpAny_pure ?_
  rw [List.getElem?_map, Option.map_map, Array.getElem?_toList] at h
  exact h
 | false =>
  rw [hb] at h
  simp only [Bool.false_eq_true, if_false] at h ⊢
  have hled : t.led = true := by rw [hg.led]; unfold ledOf; rw [hb]; rfl
  refine wpAny_ite_split (fun hab => ?_) (fun _ => ?_)
  ·rcases hn with z | z
   ·rw [hb] at z; cases z
   ·exact absurd (z.symm.trans hab) (by decide)
  refine wpAny_bind ?_
  show wpAny _ _ (if (!t.led && !es.isEmpty) = true then unsupported "set:maker-not-led" else pure ()) _ _ _
  rw [if_neg (by rw [hled]; simp)]
  refine wpAny_pure (wpAny_pure ?_)
  have hbel : SetTable.below t.place (if i = 0 then 0 else t.place.getD (i - 1) 0 + 1) = i := by
   by_cases h0 : i = 0
   ·rw [if_pos h0, below_zero hg.rise, h0]
   ·have hi1 : i - 1 < t.place.size := by omega
    rw [if_neg h0, show t.place.getD (i - 1) 0 = t.place[i - 1] by simp [Array.getD, hi1], below_next hg.rise hi1]
    omega
  rw [hbel]
  rw [List.getElem?_map, Array.getElem?_toList, if_neg (by omega), Nat.add_sub_cancel] at h
  by_cases hlt : i < es.size
  ·have hlp : i < t.place.size := by omega
   rw [Array.getElem?_eq_getElem hlt, Array.getElem?_eq_getElem hlp]
   rw [Array.getElem?_eq_getElem hlt, show t.place.getD i 0 = t.place[i] by simp [Array.getD, hlp]] at h
   exact h
  ·rw [Array.getElem?_eq_none (by omega)]
   rw [Array.getElem?_eq_none (by omega)] at h
   exact h
end
end L2
set_option Elab.async false
set_option linter.all false
set_option maxRecDepth 100000
set_option maxHeartbeats 4000000
namespace L2
open PySem PySem.Spec PyProof.Rows PySem.SeqAt
section
variable {prog : Program} {w : World} {A : Around} {E : Value → Shared → Prop} {s : Shared}
def IsSI (h : Heap) (it : Addr) (first : Value) (i : Nat) (a : Addr) (n ep : Nat) : Prop := ∃ o, h.get? it = some o ∧ o.cls = .type "set_iterator" ∧ o.data = .fields #[first, .int i 0, .ref a, .int n 0, .int ep 0]
theorem IsSI.typeIs {it a : Addr} {first : Value} {i n ep : Nat} (x : IsSI s.heap it first i a n ep) : s.TypeIs (.ref it) "set_iterator" := let ⟨o, ho, hc, _⟩ := x; ⟨o, ho, hc⟩
theorem si_item {it a : Addr} {o : Obj} {es : Array (Int × Value)} {ep : Nat} {t : SetTable} {i : Nat} {v : Value} {Q : Option Value → Shared → Prop} (hit : IsSI s.heap it (.int (slotAt w t i) 0) i a es.size ep) (ho : s.heap.get? a = some o) (hd : o.data = .set es ep t) (hf : t.fits es.size = true) (hg : Good (ledOf w) t)
  (hn : w.params.followText "set-order" = true ∨ (!t.plain && decide (es.size > 1)) = false) (hi : i < es.size) (hv : (ordOf w a ep es)[i]? = some v)
  (hQ : ∀ h', IsSI h' it (.int (slotAt w t (i + 1)) 0) (i + 1) a es.size ep → Heap.SameBut it s.heap h' → Q (some v) { s with heap := h' }) : wpAny (model prog w) A (pyNext (.ref it)) Q E s := by
 obtain ⟨oi, hoi, hci, hdi⟩ := id hit
 unfold pyNext
 refine wpAny_bind (wpAny_attempt (wpAny_callSpecial?_slot (name := Str.ofString "__next__") hit.typeIs slot_si_next (wpAny_call_entry slot_si_next hit.typeIs entry_si_next ?_ (args_si_next _))))
 unfold Builtin.«set_iterator.__next__»
 refine wpAny_bind (wpAny_pure ?_)
 refine wpAny_bind (wpAny_fieldsOf hoi hdi ?_)
 dsimp only
 refine wpAny_bind (wpAny_setEntries_of ho hd hf ?_)
 rw [if_neg (by simp)]
 simp only [Int.toNat_natCast]
 refine wpAny_bind (next_rule ho hd hf hg (by omega) hn ?_)
 rw [hv]
 show wpAny _ _ (setField (.ref it) 0 (rawInt (slotAt w t (i + 1) : Nat)) >>= fun _ => setField (.ref it) 1 (rawInt ((i : Int) + 1)) >>= fun _ => ret v) _ _ _
 refine wpAny_bind (wpAny_setField hoi hdi (by simp) ?_)
 have hdi1 := Obj.data_mapFields hdi (fun xs => xs.setIfInBounds 0 (rawInt (slotAt w t (i + 1) : Nat)))
 have hoi1 := Heap.get?_update_self (Obj.mapFields (fun xs => xs.setIfInBounds 0 (rawInt (slotAt w t (i + 1) : Nat)))) hoi (Obj.isFreed_of_fields hdi1)
 refine wpAny_bind (wpAny_setField hoi1 hdi1 (by simp) ?_)
 have hdi2 := Obj.data_mapFields hdi1 (fun xs => xs.setIfInBounds 1 (rawInt ((i : Int) + 1)))
 have hoi2 := Heap.get?_update_self (Obj.mapFields (fun xs => xs.setIfInBounds 1 (rawInt ((i : Int) + 1)))) hoi1 (Obj.isFreed_of_fields hdi2)
 refine wpAny_pure ⟨_, rfl, wpAny_pure (hQ _ ⟨_, hoi2, ?_, ?_⟩ ((Heap.SameBut.update ..).trans (Heap.SameBut.update ..)))⟩
 ·rw [Obj.cls_mapFields, Obj.cls_mapFields]; exact hci
 ·rw [hdi2]; simp [rawInt]
theorem si_end {it a : Addr} {o : Obj} {es : Array (Int × Value)} {ep : Nat} {t : SetTable} {Q : Option Value → Shared → Prop} (hh : A.handled = none) (hit : IsSI s.heap it (.int (slotAt w t es.size) 0) es.size a es.size ep) (ho : s.heap.get? a = some o) (hd : o.data = .set es ep t) (hf : t.fits es.size = true) (hg : Good (ledOf w) t)
  (hn : w.params.followText "set-order" = true ∨ (!t.plain && decide (es.size > 1)) = false)
  (hQ : ∀ h', Heap.ExtBut it s.heap h' → Q none { s with heap := h' }) : wpAny (model prog w) A (pyNext (.ref it)) Q E s := by
 obtain ⟨oi, hoi, hci, hdi⟩ := id hit
 have hv : (ordOf w a ep es)[es.size]? = none := List.getElem?_eq_none (by rw [(ord_perm (w := w) a ep es).length_eq]; simp)
 unfold pyNext
 refine wpAny_bind (wpAny_attempt (wpAny_callSpecial?_slot (name := Str.ofString "__next__") hit.typeIs slot_si_next (wpAny_call_entry slot_si_next hit.typeIs entry_si_next ?_ (args_si_next _))))
 unfold Builtin.«set_iterator.__next__»
 refine wpAny_bind (wpAny_pure ?_)
 refine wpAny_bind (wpAny_fieldsOf hoi hdi ?_)
 dsimp only
 refine wpAny_bind (wpAny_setEntries_of ho hd hf ?_)
 rw [if_neg (by simp)]
 simp only [Int.toNat_natCast]
 refine wpAny_bind (next_rule ho hd hf hg (Nat.le_refl _) hn ?_)
 rw [hv]
 show wpAny _ _ (setField (.ref it) 2 .none >>= fun _ => newExc (.type "StopIteration") [] >>= fun e => raiseNew e) _ _ _
 refine wpAny_bind (wpAny_setField hoi hdi (by simp) ?_)
 refine wpAny_bind ?_
 simp only [newExc, newTuple]
 refine wpAny_bind (wpAny_newObj_type ?_ (by size_fits))
 refine wpAny_bind (m := firstArgMember _ _) (wpAny_of_eq (a := Value.none) (by first | rfl | (simp only [firstArgMember]; rfl)) ?_)
 refine wpAny_newObj_type ?_ (by size_fits)
 simp only [raiseNew]
 refine wpAny_bind (wpAny_handled ?_)
 rw [show A.in1.handled = none from hh]
 refine wpAny_bind (wpAny_pure (wpAny_throw ?_))
 refine wpAny_bind (wpAny_isInstance (T := "StopIteration") (b := true) ⟨_, Heap.get?_push_size _ rfl, rfl⟩ isSubtype_stop ?_)
 exact wpAny_pure (hQ _ (((Heap.SameBut.update ..).extBut.push _).push _))
end
end L2
set_option Elab.async false
set_option linter.all false
set_option maxRecDepth 100000
set_option maxHeartbeats 4000000
namespace L2
open PySem PySem.Spec PyProof.Rows PySem.SeqAt
section
variable {prog : Program} {w : World} {A : Around} {E : Value → Shared → Prop} {s : Shared}
theorem drawn_rule {a : Addr} {o : Obj} {es : Array (Int × Value)} {ep : Nat} {t : SetTable} {Q : Bool → Shared → Prop} (ho : s.heap.get? a = some o) (hd : o.data = .set es ep t) (hf : t.fits es.size = true)
  (h : Q (!(w.params.followText "set-order") && (!t.plain && decide (es.size > 1))) s) : wpAny (model prog w) A (setDrawn a) Q E s := by
 unfold setDrawn
 refine wpAny_bind (wpAny_setState_of ho hd hf ?_)
 refine wpAny_bind ?_
 unfold setsByText
 refine wpAny_bind (wpAny_askSetting (wpAny_pure ?_))
 exact wpAny_pure h
theorem si_iter {a : Addr} {o : Obj} {es : Array (Int × Value)} {ep : Nat} {t : SetTable} {Q : Value → Shared → Prop} (ho : s.heap.get? a = some o) (hx : o.ExactSet) (hd : o.data = .set es ep t) (hf : t.fits es.size = true) (hfew : es.size < scanBound)
  (h1 : (!(w.params.followText "set-order") && (!t.plain && decide (es.size > 1))) = false → Q (.ref s.heap.objs.size) { s with heap := s.heap.push { cls := .type "set_iterator", data := .fields #[.int 0 0, .int 0 0, .ref a, .int es.size 0, .int ep 0] } })
  (h2 : ∀ (ps : List Nat) d', ps.Perm (List.range es.size) → Q (.ref (s.heap.objs.size + 1)) { s with heap := (s.heap.push { cls := .type "tuple", data := .seq (ps.map fun i : Nat => rawInt i).toArray }).push { cls := .type "set_iterator", data := .fields #[.ref s.heap.objs.size, .int 0 0, .ref a, .int es.size 0, .int ep 0] }, drawn := d' }) :
  wpAny (model prog w) A (pyIter (.ref a)) Q E s := by
 have hT : s.TypeIs (.ref a) "set" := ⟨o, ho, hx.1⟩
 refine wpAny_pyIter_slot hT F.slot_set_iter (wpAny_call_entry F.slot_set_iter hT entry_set_iter ?_ (F.args_set_iter_1 _))
 unfold Builtin.«frozenset.__iter__»
 refine wpAny_bind (wpAny_pure ?_)
 refine wpAny_bind ?_
 unfold Builtin.Frozenset.sizeOf
 refine wpAny_bind (wpAny_setEntries_of ho hd hf (wpAny_pure ?_))
 refine wpAny_bind (drawn_rule ho hd hf ?_)
 dsimp only
 refine wpAny_ite_split (fun hab => ?_) (fun hab => ?_)
 ·refine wpAny_bind (draw_rule _ _ _ _ (by simp) fun ps d' hp => ?_)
  have hlen : ps.length = es.size := by rw [hp.length_eq]; simp
  refine wpAny_bind ?_
  unfold newTuple
  have hz := fits_of_scanBound hfew
  refine wpAny_newObj_type ?_ (by show (List.map _ ps).toArray.size ≤ sizeLine; simp; omega)
  refine wpAny_bind ?_
  unfold setEpoch
  refine wpAny_bind (wpAny_setState_of (Heap.get?_push_of_some _ ho) hd hf (wpAny_pure ?_))
  refine wpAny_bind ?_
  unfold newFields
  refine wpAny_newObj_type (wpAny_pure ⟨_, rfl, "set_iterator", _, ⟨_, Heap.get?_push_size _ rfl, rfl⟩, slot_si_next.lookup, ?_⟩)
  rw [Heap.size_push]
  exact h2 ps d' hp
 ·refine wpAny_bind (wpAny_pure ?_)
  refine wpAny_bind ?_
  unfold setEpoch
  refine wpAny_bind (wpAny_setState_of ho hd hf (wpAny_pure ?_))
  refine wpAny_bind ?_
  unfold newFields
  refine wpAny_newObj_type (wpAny_pure ⟨_, rfl, "set_iterator", _, ⟨_, Heap.get?_push_size _ rfl, rfl⟩, slot_si_next.lookup, ?_⟩)
  exact h1 (by simpa using hab)
end
end L2
set_option Elab.async false
set_option linter.all false
set_option maxRecDepth 100000
set_option maxHeartbeats 4000000
namespace L2
open PySem PySem.Spec PyProof.Rows PySem.SeqAt
section
variable {prog : Program} {w : World} {A : Around} {E : Value → Shared → Prop} {s : Shared}
theorem sd_item {it a tp : Addr} {o ot : Obj} {es : Array (Int × Value)} {ep ct : Nat} {t : SetTable} {i k : Nat} {ps : List Nat} {v : Value} {hh : Int} {Q : Option Value → Shared → Prop} (hit : IsSI s.heap it (.ref tp) i a es.size ep) (ho : s.heap.get? a = some o) (hd : o.data = .set es ep t) (hf : t.fits es.size = true)
  (hot : s.heap.get? tp = some ot) (hdt : ot.data = .seq (ps.map fun i : Nat => rawInt i).toArray ct) (hk : ps[i]? = some k) (hv : es[k]? = some (hh, v))
  (hQ : ∀ h', IsSI h' it (.ref tp) (i + 1) a es.size ep → Heap.SameBut it s.heap h' → Q (some v) { s with heap := h' }) : wpAny (model prog w) A (pyNext (.ref it)) Q E s := by
 obtain ⟨oi, hoi, hci, hdi⟩ := id hit
 unfold pyNext
 refine wpAny_bind (wpAny_attempt (wpAny_callSpecial?_slot (name := Str.ofString "__next__") hit.typeIs slot_si_next (wpAny_call_entry slot_si_next hit.typeIs entry_si_next ?_ (args_si_next _))))
 unfold Builtin.«set_iterator.__next__»
 refine wpAny_bind (wpAny_pure ?_)
 refine wpAny_bind (wpAny_fieldsOf hoi hdi ?_)
 dsimp only
 refine wpAny_bind (wpAny_setEntries_of ho hd hf ?_)
 rw [if_neg (by simp)]
 refine wpAny_bind (wpAny_seqItems hot hdt ?_)
 simp only [Int.toNat_natCast]
 have e1 : (List.map (fun i : Nat => rawInt (i : Int)) ps).toArray[i]? = some (.int (k : Int) 0) := by
  rw [List.getElem?_toArray, List.getElem?_map, hk]; rfl
 rw [e1]
 dsimp only
 refine wpAny_bind ?_
 unfold setNextDrawn
 refine wpAny_bind (wpAny_setState_of ho hd hf ?_)
 dsimp only
 simp only [Int.toNat_natCast]
 rw [if_neg (by simp)]
 rw [hv]
 refine wpAny_pure ?_
 refine wpAny_bind (wpAny_setField hoi hdi (by simp) ?_)
 have hdi1 := Obj.data_mapFields hdi (fun xs => xs.setIfInBounds 1 (rawInt ((i : Int) + 1)))
 have hoi1 := Heap.get?_update_self (Obj.mapFields (fun xs => xs.setIfInBounds 1 (rawInt ((i : Int) + 1)))) hoi (Obj.isFreed_of_fields hdi1)
 refine wpAny_pure ⟨_, rfl, wpAny_pure (hQ _ ⟨_, hoi1, ?_, ?_⟩ (Heap.SameBut.update ..))⟩
 ·rw [Obj.cls_mapFields]; exact hci
 ·rw [hdi1]; simp [rawInt]
theorem sd_end {it a tp : Addr} {o ot : Obj} {es : Array (Int × Value)} {ep ct : Nat} {t : SetTable} {ps : List Nat} {Q : Option Value → Shared → Prop} (hh : A.handled = none) (hit : IsSI s.heap it (.ref tp) es.size a es.size ep) (ho : s.heap.get? a = some o) (hd : o.data = .set es ep t) (hf : t.fits es.size = true)
  (hot : s.heap.get? tp = some ot) (hdt : ot.data = .seq (ps.map fun i : Nat => rawInt i).toArray ct) (hp : ps.length = es.size)
  (hQ : ∀ h', Heap.ExtBut it s.heap h' → Q none { s with heap := h' }) : wpAny (model prog w) A (pyNext (.ref it)) Q E s := by
 obtain ⟨oi, hoi, hci, hdi⟩ := id hit
 unfold pyNext
 refine wpAny_bind (wpAny_attempt (wpAny_callSpecial?_slot (name := Str.ofString "__next__") hit.typeIs slot_si_next (wpAny_call_entry slot_si_next hit.typeIs entry_si_next ?_ (args_si_next _))))
 unfold Builtin.«set_iterator.__next__»
 refine wpAny_bind (wpAny_pure ?_)
 refine wpAny_bind (wpAny_fieldsOf hoi hdi ?_)
 dsimp only
 refine wpAny_bind (wpAny_setEntries_of ho hd hf ?_)
 rw [if_neg (by simp)]
 refine wpAny_bind (wpAny_seqItems hot hdt ?_)
 simp only [Int.toNat_natCast]
 have e1 : (List.map (fun i : Nat => rawInt (i : Int)) ps).toArray[es.size]? = none := by
  rw [List.getElem?_toArray, List.getElem?_eq_none (by simp; omega)]
 rw [e1]
 dsimp only
 refine wpAny_bind (wpAny_setField hoi hdi (by simp) ?_)
 have hdi1 := Obj.data_mapFields hdi (fun xs => xs.setIfInBounds 0 (rawInt 0))
 have hoi1 := Heap.get?_update_self (Obj.mapFields (fun xs => xs.setIfInBounds 0 (rawInt 0))) hoi (Obj.isFreed_of_fields hdi1)
 refine wpAny_bind (wpAny_setField hoi1 hdi1 (by simp) ?_)
 refine wpAny_bind ?_
 simp only [newExc, newTuple]
 refine wpAny_bind (wpAny_newObj_type ?_ (by size_fits))
 refine wpAny_bind (m := firstArgMember _ _) (wpAny_of_eq (a := Value.none) (by first | rfl | (simp only [firstArgMember]; rfl)) ?_)
 refine wpAny_newObj_type ?_ (by size_fits)
 simp only [raiseNew]
 refine wpAny_bind (wpAny_handled ?_)
 rw [show A.in1.handled = none from hh]
 refine wpAny_bind (wpAny_pure (wpAny_throw ?_))
 refine wpAny_bind (wpAny_isInstance (T := "StopIteration") (b := true) ⟨_, Heap.get?_push_size _ rfl, rfl⟩ isSubtype_stop ?_)
 exact wpAny_pure (hQ _ ((((Heap.SameBut.update ..).trans (Heap.SameBut.update ..)).extBut.push _).push _))
end
end L2
set_option Elab.async false
set_option linter.all false
set_option maxRecDepth 100000
set_option maxHeartbeats 4000000
namespace L2
open PySem PySem.Spec PyProof.Rows PySem.SeqAt
theorem slot_si_iter : Slot "set_iterator" "__iter__" "set_iterator.__iter__" :=
 .of (owner := "set_iterator") (n := "__iter__") (by rw [typeLookup_type, builtinLookup_eq_fast]; kernel_rfl) (by decide +kernel) (by decide +kernel) (by decide +kernel)
  (by first | exact .inl (by decide +kernel) | exact .inr (by decide +kernel)) (by rw [isSubtype_type]; kernel_rfl)
theorem entry_si_iter : entryFor table "set_iterator.__iter__" = some Builtin.«dict_keyiterator.__iter__» :=
 entryFor_alias (id' := "dict_keyiterator.__iter__") (by kernel_rfl) rfl (by decide +kernel) (by kernel_rfl)
theorem args_si_iter (a : Value) : argsOk "set_iterator.__iter__" ⟨[a], []⟩ := by
 unfold argsOk; rw [signature?_of (id := "set_iterator.__iter__") (n := ['_', '_', 'r', 'e', 't', 'i', '_', '_']) (o := ['r', 'o', 't', 'a', 'r', 'e', 't', 'i', '_', 't', 'e', 's']) (by kernel_rfl) owner_si]; kernel_rfl
section
variable {prog : Program} {w : World} {A : Around} {E : Value → Shared → Prop} {s : Shared}
theorem si_self {it a : Addr} {first : Value} {i n ep : Nat} {Q : Value → Shared → Prop} (hit : IsSI s.heap it first i a n ep) (h : Q (.ref it) s) : wpAny (model prog w) A (pyIter (.ref it)) Q E s :=
 wpAny_pyIter_slot hit.typeIs slot_si_iter (wpAny_call_entry slot_si_iter hit.typeIs entry_si_iter (wpAny_bind (wpAny_pure (wpAny_pure ⟨_, rfl, "set_iterator", _, hit.typeIs, slot_si_next.lookup, h⟩))) (args_si_iter _))
theorem IsSI.at' {h h' : Heap} {it a : Addr} {first : Value} {i n ep : Nat} (x : IsSI h it first i a n ep) (e : ∀ o, h.get? it = some o → h'.get? it = some o) : IsSI h' it first i a n ep := let ⟨o, ho, r⟩ := x; ⟨o, e _ ho, r⟩
theorem walkN (hh : A.handled = none) (I a : Addr) (hne : a ≠ I) {o : Obj} {es : Array (Int × Value)} {ep : Nat} {t : SetTable} (hd : o.data = .set es ep t) (hf : t.fits es.size = true) (hg : Good (ledOf w) t) (hn : w.params.followText "set-order" = true ∨ (!t.plain && decide (es.size > 1)) = false) :
  Walks prog w A I [I, a] [I] es.size (fun i v => (ordOf w a ep es)[i]? = some v) (fun i h => IsSI h I (.int (slotAt w t i) 0) i a es.size ep ∧ h.get? a = some o) where
 sub := fun b hb => by simp at hb; simp [hb]
 frame := fun _ _ _ st hk => ⟨st.1.at' fun o e => hk I (by simp) o e, hk a (by simp) o st.2⟩
 item := fun i s Q E hi st hQ => by
  have hl : (ordOf w a ep es).length = es.size := by rw [(ord_perm (w := w) a ep es).length_eq]; simp
  have hv : (ordOf w a ep es)[i]? = some (ordOf w a ep es)[i] := List.getElem?_eq_getElem (by omega)
  refine si_item st.1 st.2 hd hf hg hn hi hv fun h' hit' hs' => ?_
  exact hQ _ h' s.toks hv ⟨hit', hs'.extBut a o hne st.2⟩ (fun b o hb e => hs'.extBut b o (fun h => hb (by simp [h])) e)
 done := fun s Q E st hQ => si_end hh st.1 st.2 hd hf hg hn fun h' he' => hQ h' s.toks fun b o hb e => he' b o (fun h => hb (by simp [h])) e
 self := fun _ _ _ _ st hQ => si_self st.1 hQ
theorem walkD (hh : A.handled = none) (I a tp : Addr) (hne : a ≠ I) (hnt : tp ≠ I) {o ot : Obj} {es : Array (Int × Value)} {ep ct : Nat} {t : SetTable} {ps : List Nat} (hd : o.data = .set es ep t) (hf : t.fits es.size = true) (hdt : ot.data = .seq (ps.map fun i : Nat => rawInt i).toArray ct) (hp : ps.Perm (List.range es.size)) :
  Walks prog w A I [I, a, tp] [I] es.size (fun i v => (ps.map fun k => (es.getD k (0, .none)).2)[i]? = some v) (fun i h => IsSI h I (.ref tp) i a es.size ep ∧ h.get? a = some o ∧ h.get? tp = some ot) where
 sub := fun b hb => by simp at hb; simp [hb]
 frame := fun _ _ _ st hk => ⟨st.1.at' fun o e => hk I (by simp) o e, hk a (by simp) o st.2.1, hk tp (by simp) ot st.2.2⟩
 item := fun i s Q E hi st hQ => by
  have hl : ps.length = es.size := by rw [hp.length_eq]; simp
  have hk : ps[i]? = some (ps[i]'(by omega)) := List.getElem?_eq_getElem (by omega)
  have hlt : ps[i]'(by omega) < es.size := List.mem_range.mp (hp.mem_iff.mp (List.getElem_mem _))
  have hv : (ps.map fun k => (es.getD k (0, .none)).2)[i]? = some (es[ps[i]'(by omega)]'hlt).2 := by
   rw [List.getElem?_map, hk]
   simp [Array.getD, hlt]
  refine sd_item st.1 st.2.1 hd hf st.2.2 hdt hk (hh := (es[ps[i]'(by omega)]'hlt).1) (v := (es[ps[i]'(by omega)]'hlt).2) (Array.getElem?_eq_getElem hlt) fun h' hit' hs' => ?_
  exact hQ _ h' s.toks hv ⟨hit', hs'.extBut a o hne st.2.1, hs'.extBut tp ot hnt st.2.2⟩ (fun b o hb e => hs'.extBut b o (fun h => hb (by simp [h])) e)
 done := fun s Q E st hQ => sd_end hh st.1 st.2.1 hd hf st.2.2 hdt (by rw [hp.length_eq]; simp) fun h' he' => hQ h' s.toks fun b o hb e => he' b o (fun h => hb (by simp [h])) e
 self := fun _ _ _ _ st hQ => si_self st.1 hQ
end
end L2
set_option Elab.async false
set_option linter.all false
set_option maxRecDepth 100000
set_option maxHeartbeats 4000000
namespace L2
open PySem PySem.Spec PyProof.Rows PySem.SeqAt
section
variable {prog : Program} {w : World} {A : Around} {E : Value → Shared → Prop} {s : Shared}
theorem hint_set {a : Addr} {Q : Bool → Shared → Prop} (hT : s.TypeIs (.ref a) "set") (h : Q false s) : wpAny (model prog w) A (Builtin.List.listLengthHint (.ref a)) Q E s := by
 unfold Builtin.List.listLengthHint
 refine wpAny_bind (wpAny_specialOf hT F.slot_set_len.lookup ?_)
 generalize hid : ("set.__len__" : String) = id0
 wp_delta
 rw [show splitId id0 = some ("set", "__len__") from by subst hid; decide +kernel]
 subst hid
 refine wpAny_bind (wpAny_isInstance (T := "set") (b := true) hT (by rw [isSubtype_type]; kernel_rfl) ?_)
 refine wpAny_ite_split (fun hab => absurd hab (by decide)) (fun _ => ?_)
 refine wpAny_ite_split (fun _ => ?_) (fun hab => absurd (by decide +kernel) hab)
 refine wpAny_bind (wpAny_typeOf hT ?_)
 exact wpAny_pure h
theorem items_eq {l : List Value} {acc : Array Value} (h : ItemsOf (fun i v => l[i]? = some v) acc l.length) : acc.toList = l := by
 refine List.ext_getElem? fun i => ?_
 rw [Array.getElem?_toList]
 cases e : acc[i]? with
 | some v => exact (h.2 i v e).symm
 | none =>
  have : acc.size ≤ i := by simpa using e
  exact (List.getElem?_eq_none (by have := h.1; omega)).symm
theorem values_perm {es : Array (Int × Value)} {ps : List Nat} (hp : ps.Perm (List.range es.size)) : (ps.map fun k => (es.getD k (0, .none)).2).Perm (es.toList.map (·.2)) := by
 refine (hp.map _).trans ?_
 refine List.Perm.of_eq ?_
 refine List.ext_getElem (by simp) fun i h1 h2 => ?_
 have hi : i < es.size := by simpa using h1
 simp [Array.getD, hi]
theorem extend_set {R : Result → Shared → Prop} {a : Addr} {o : Obj} {es : Array (Int × Value)} {ep : Nat} {t : SetTable} (hh : A.handled = none) (ho : s.heap.get? a = some o) (hx : o.ExactSet) (hd : o.data = .set es ep t) (hf : t.fits es.size = true) (hfew : es.size < scanBound) (hg : Good (ledOf w) t)
  (S : Addr) (res : Value) (c₀ : Nat) (hS : s.heap.get? S = some { cls := .type "list", data := .seq #[] c₀ })
  (hR : ∀ h' d' tk acc' c', (∀ b o, b ≠ S → s.heap.get? b = some o → h'.get? b = some o) → h'.get? S = some { cls := .type "list", dict := none, data := .seq acc' c', slots := #[] } → acc'.toList.Perm (es.toList.map (·.2)) → R (.ok (.ret res)) { s with heap := h', drawn := d', toks := tk }) :
  wpAny (model prog w) A.in1 (Builtin.List.listExtendWith (.ref S) (.ref a) res)
   (fun fin s' => match fin with | .done f => R (.ok f) s' | .again c' => c'.quiet = true ∧ codeAny (model prog w) A c' R s') (fun e s' => R (.error e) s') s := by
 have hz := fits_of_scanBound hfew
 have halt : a < s.heap.objs.size := Heap.lt_size ho
 have hSlt : S < s.heap.objs.size := Heap.lt_size hS
 have hSa : S ≠ a := fun e => by
  rw [e, ho] at hS
  cases hS
  cases hd
 have hT : s.TypeIs (.ref a) "set" := ⟨o, ho, hx.1⟩
 have e1 : Builtin.List.listSameRef (.ref S) (.ref a) = false := by simp [Builtin.List.listSameRef, hSa]
 have key : ∀ (h2 : Heap) (d2 : Drawn) (c tk : Nat) (I : Addr) (fp : List Addr) (l : List Value) (St : Nat → Heap → Prop), l.length = es.size → l.Perm (es.toList.map (·.2)) → Walks prog w A.in1 I fp [I] es.size (fun i v => l[i]? = some v) St → S ∉ fp → s.heap.objs.size ≤ I →
   (∀ b o, b ≠ S → s.heap.get? b = some o → h2.get? b = some o) → h2.get? S = some { cls := .type "list", data := .seq #[] c } → St 0 h2 → codeAny (model prog w) A (.builtin "list.extend.loop" ⟨[.ref S, .ref I, res], []⟩) R { s with heap := h2, drawn := d2, toks := tk } := by
  intro h2 d2 c tk I fp l St hl hp W hSf hI hk hS2 hst
  refine codeAny_extend_loopS W.toS hz S hSf res es.size 0 _ #[] c rfl (Nat.zero_le _) hst hS2 (ItemsOf.nil _) fun s' acc' c' hm hS' hacc => ?_
  rw [Moved.eq_with hm]
  refine hR s'.heap d2 s'.toks acc' c' (fun b o hb e => hm.heap b o (fun hmem => ?_) (hk b o hb e)) hS' (by rw [items_eq (by rw [hl]; exact hacc)]; exact hp)
  rcases List.mem_cons.mp hmem with e' | hmem
  ·exact hb e'
  ·have := Heap.lt_size e
   rw [List.mem_singleton.mp hmem] at this
   exact absurd this (Nat.not_lt.mpr hI)
 unfold Builtin.List.listExtendWith
 refine wpAny_bind (wpAny_typeOf hT ?_)
 rw [if_neg (by rw [e1]; decide)]
 /- the list makes room, then the loop -/
 have touch : ∀ (h2 : Heap) (d2 : Drawn) (I : Addr) (fp : List Addr) (l : List Value) (St : Nat → Heap → Prop), l.length = es.size → l.Perm (es.toList.map (·.2)) → Walks prog w A.in1 I fp [I] es.size (fun i v => l[i]? = some v) St → S ∉ fp → s.heap.objs.size ≤ I →
   (∀ b o, s.heap.get? b = some o → h2.get? b = some o) → St 0 h2 →
   wpAny (model prog w) A.in1 (updateSeq S (·.push .none) >>= fun _ => updateSeq S (·.pop)) (fun _ s' => codeAny (model prog w) A (.builtin "list.extend.loop" ⟨[.ref S, .ref I, res], []⟩) R s') (fun e s' => R (.error e) s') { s with heap := h2, drawn := d2 } := by
  intro h2 d2 I fp l St hl hp W hSf hI hk hst
  have hS₁ := hk _ _ hS
  refine wpAny_bind (wpAny_updateSeq hS₁ rfl ?_)
  have hS₂ := Heap.get?_update_self (Obj.mapSeq (·.push Value.none)) hS₁ rfl
  refine wpAny_updateSeq (hz := by seq_fits) hS₂ rfl ?_
  have hS₃ := Heap.get?_update_self (Obj.mapSeq (·.pop)) hS₂ rfl
  have oth : ∀ b o, b ≠ S → h2.get? b = some o → ((h2.update S (Obj.mapSeq (·.push Value.none))).update S (Obj.mapSeq (·.pop))).get? b = some o := fun b o hb e =>
   (Heap.get?_update_other _ _ (Ne.symm hb)).trans ((Heap.get?_update_other _ _ (Ne.symm hb)).trans e)
  exact key _ d2 _ s.toks I fp l St hl hp W hSf hI (fun b o hb e => oth b o hb (hk b o e)) hS₃ (W.frame 0 _ _ hst fun b hb o e => oth b o (fun z => hSf (z ▸ hb)) e)
 refine wpAny_bind (si_iter ho hx hd hf hfew (fun hnd => ?_) fun ps d' hp => ?_)
 ·have hTi : Shared.TypeIs { s with heap := s.heap.push { cls := .type "set_iterator", data := .fields #[.int 0 0, .int 0 0, .ref a, .int es.size 0, .int ep 0] } } (.ref a) "set" := ⟨o, Heap.get?_push_of_some _ ho, hx.1⟩
  refine wpAny_bind (wpAny_holding (hint_set hTi ?_))
  have hn : w.params.followText "set-order" = true ∨ (!t.plain && decide (es.size > 1)) = false := by
   cases hb : w.params.followText "set-order" with
   | true => exact .inl rfl
   | false => rw [hb] at hnd; exact .inr (by simpa using hnd)
  have hst : IsSI (s.heap.push { cls := .type "set_iterator", data := .fields #[.int 0 0, .int 0 0, .ref a, .int es.size 0, .int ep 0] }) s.heap.objs.size (.int (slotAt w t 0) 0) 0 a es.size ep := by
   refine ⟨_, Heap.get?_push_size _ rfl, rfl, ?_⟩
   unfold slotAt
   split <;> simp
  refine wpAny_ite_split (fun _ => ?_) (fun hab => absurd (by decide +kernel) hab)
  refine wpAny_bind (wpAny_rule ?_)
  refine wpAny_bind (wpAny_mono (touch _ s.drawn _ _ _ _ (by rw [(ord_perm (w := w) a ep es).length_eq]; simp) (ord_perm a ep es) (walkN (A := A.in1) hh s.heap.objs.size a (Nat.ne_of_lt halt) hd hf hg hn) (fun hm => ?_) (Nat.le_refl _) (fun b o e => Heap.get?_push_of_some _ e) ⟨hst, Heap.get?_push_of_some _ ho⟩) (fun _ s' hc => wpAny_pure ⟨plainId_quiet F.plain_extend_loop _, hc⟩) (fun _ _ he => he))
  rcases List.mem_cons.mp hm with z | z
  ·exact absurd z (Nat.ne_of_lt hSlt)
  ·exact hSa (List.mem_singleton.mp z)
 ·have hTi : Shared.TypeIs { s with heap := (s.heap.push { cls := .type "tuple", data := .seq (ps.map fun i : Nat => rawInt i).toArray }).push { cls := .type "set_iterator", data := .fields #[.ref s.heap.objs.size, .int 0 0, .ref a, .int es.size 0, .int ep 0] }, drawn := d' } (.ref a) "set" := ⟨o, Heap.get?_push_of_some _ (Heap.get?_push_of_some _ ho), hx.1⟩
  refine wpAny_bind (wpAny_holding (hint_set hTi ?_))
  refine wpAny_ite_split (fun _ => ?_) (fun hab => absurd (by decide +kernel) hab)
  refine wpAny_bind (wpAny_rule ?_)
  have hst : IsSI ((s.heap.push { cls := .type "tuple", data := .seq (ps.map fun i : Nat => rawInt i).toArray }).push { cls := .type "set_iterator", data := .fields #[.ref s.heap.objs.size, .int 0 0, .ref a, .int es.size 0, .int ep 0] }) (s.heap.objs.size + 1) (.ref s.heap.objs.size) 0 a es.size ep := by
   have := Heap.get?_push_size (s.heap.push { cls := .type "tuple", data := .seq (ps.map fun i : Nat => rawInt i).toArray }) (rfl : Obj.isFreed { cls := .type "set_iterator", data := .fields #[.ref s.heap.objs.size, .int 0 0, .ref a, .int es.size 0, .int ep 0] } = false)
   rw [Heap.size_push] at this
   exact ⟨_, this, rfl, rfl⟩
  refine wpAny_bind (wpAny_mono (touch _ d' _ _ _ _ (by rw [List.length_map, hp.length_eq]; simp) (values_perm hp) (walkD (A := A.in1) hh (s.heap.objs.size + 1) a s.heap.objs.size (Nat.ne_of_lt (Nat.lt_succ_of_lt halt)) (Nat.ne_of_lt (Nat.lt_succ_self _)) hd hf rfl hp) (fun hm => ?_) (Nat.le_succ _) (fun b o e => Heap.get?_push_of_some _ (Heap.get?_push_of_some _ e)) ⟨hst, Heap.get?_push_of_some _ (Heap.get?_push_of_some _ ho), Heap.get?_push_of_some _ (Heap.get?_push_size _ rfl)⟩) (fun _ s' hc => wpAny_pure ⟨plainId_quiet F.plain_extend_loop _, hc⟩) (fun _ _ he => he))
  rcases List.mem_cons.mp hm with z | z
  ·exact absurd z (Nat.ne_of_lt (Nat.lt_succ_of_lt hSlt))
  ·rcases List.mem_cons.mp z with z | z
   ·exact hSa z
   ·exact absurd (List.mem_singleton.mp z) (Nat.ne_of_lt hSlt)
theorem collectSet {a : Addr} {o : Obj} {es : Array (Int × Value)} {ep : Nat} {t : SetTable} {Q : List Value → Shared → Prop} (hh : A.handled = none) (ho : s.heap.get? a = some o) (hx : o.ExactSet) (hd : o.data = .set es ep t) (hf : t.fits es.size = true) (hfew : es.size < scanBound) (hg : Good (ledOf w) t)
  (hQ : ∀ h' d' tk acc, (∀ b o, s.heap.get? b = some o → h'.get? b = some o) → s.heap.objs.size < h'.objs.size → acc.Perm (es.toList.map (·.2)) → Q acc { s with heap := h', drawn := d', toks := tk }) : wpAny (model prog w) A (collect (.ref a)) Q E s := by
 have ext : ∀ R : Result → Shared → Prop, (∀ h' d' tk acc' c', (∀ b o, s.heap.get? b = some o → h'.get? b = some o) → h'.get? s.heap.objs.size = some { cls := .type "list", dict := none, data := .seq acc' c', slots := #[] } → acc'.toList.Perm (es.toList.map (·.2)) → R (.ok (.ret (.ref s.heap.objs.size))) { s with heap := h', drawn := d', toks := tk }) →
   codeAny (model prog w) A (.builtin "proto.collect" ⟨[.ref a], []⟩) R s := fun R hR => by
  refine codeAny_builtin F.entry_proto_collect ?_
  rw [Around.under_plainId F.plain_proto_collect _]
  show wpAny _ A.in1 (newList [] >>= fun l => again (.builtin "list.__iadd__" ⟨[l, .ref a], []⟩)) _ _ s
  refine wpAny_bind (wpAny_newObj_type ?_)
  refine wpAny_pure ⟨plainId_quiet F.plain_list_iadd _, codeAny_builtin F.entry_list_iadd ?_⟩
  rw [Around.under_plainId F.plain_list_iadd _]
  show wpAny _ A.in1 (Builtin.List.listExtendWith (.ref s.heap.objs.size) (.ref a) (.ref s.heap.objs.size)) _ _ _
  refine extend_set (R := R) (s := { s with heap := s.heap.push { cls := .type "list", data := .seq ([] : List Value).toArray } }) hh (Heap.get?_push_of_some _ ho) hx hd hf hfew hg s.heap.objs.size _ 0 (Heap.get?_push_size _ rfl) fun h' d' tk acc' c' hk hS' hp => ?_
  exact hR h' d' tk acc' c' (fun b o e => hk b o (Nat.ne_of_lt (Heap.lt_size e)) (Heap.get?_push_of_some _ e)) hS' hp
 unfold collect
 refine wpAny_bind (wpAny_runValue (ext _ fun h' d' tk acc' c' hk hS' hp => ?_))
 show wpAny _ A (load s.heap.objs.size >>= _) _ _ _
 refine wpAny_bind (wpAny_load hS' ?_)
 exact wpAny_pure (hQ h' d' tk acc'.toList hk (Heap.lt_size hS') hp)
end
section
variable {X : Cx}
end
end L2
set_option Elab.async false
set_option linter.all false
set_option maxRecDepth 100000
set_option maxHeartbeats 4000000
namespace L2
open PySem PySem.Spec PyProof PyProof.Rows
section
variable {X : Cx}
end
end L2
set_option Elab.async false
set_option linter.all false
set_option maxRecDepth 100000
set_option maxHeartbeats 4000000
namespace L2
open PySem PySem.Spec PyProof PyProof.Rows
section
variable {X : Cx} {pins : List (Addr × Obj)} {σ : St} {H : Hp} {s : Shared} {d : Addr} {kvs : List (Str × V)}
end
section
variable {X : Cx}
end
end L2
set_option Elab.async false
set_option linter.all false
set_option maxRecDepth 100000
set_option maxHeartbeats 4000000
namespace L2
open PySem PySem.Spec PyProof PyProof.Rows
section
variable {prog : Program} {w : World} {A : Around} {E : Value → Shared → Prop} {s : Shared}
variable {z TI TO i1 i2 t1 t2 : Addr} {xs ys : Array Value} {k1 k2 : Nat} {a b : Value}
end
end L2
set_option Elab.async false
set_option linter.all false
set_option maxRecDepth 100000
set_option maxHeartbeats 4000000
namespace L2
open PySem PySem.Spec PyProof PyProof.Rows
section
variable {prog : Program} {w : World} {A : Around} {E : Value → Shared → Prop} {s : Shared} {z TI TO i1 i2 t1 t2 : Addr} {xs ys : Array Value} {k1 k2 : Nat} {a b : Value}
end
end L2
set_option Elab.async false
set_option linter.all false
set_option maxRecDepth 100000
set_option maxHeartbeats 4000000
namespace L2
open PySem PySem.Spec PyProof PyProof.Rows
end L2
set_option Elab.async false
set_option linter.all false
set_option maxRecDepth 100000
set_option maxHeartbeats 4000000
namespace L2
open PySem PySem.Spec PyProof PyProof.Rows
section
variable {prog : Program} {w : World} {A : Around} {E : Value → Shared → Prop} {s : Shared}
end
section
variable {X : Cx}
end
section
variable {K : PySem.W.Frag} {a b : Addr} {xs ys : List V} {g : TG} {te : TE} {nT : Nat} {σ : St} {D : Addr} {Q : VK} {H : Hp}
end
theorem at0 {α : Type} {x : α} {xs : List α} : atI (x :: xs) 0 = some x := atI_nat (j := 0) rfl
end L2
set_option Elab.async false
set_option linter.all false
set_option maxRecDepth 100000
set_option maxHeartbeats 4000000
namespace L2
open PySem PySem.Spec PyProof PyProof.Rows
section
variable {X : Cx}
end
end L2
set_option Elab.async false
set_option linter.all false
set_option maxRecDepth 100000
set_option maxHeartbeats 4000000
namespace L2
open PySem PySem.Spec PyProof PyProof.Rows
section
variable {K : PySem.W.Frag} {a : Addr} {xs : List V} {g : TG} {σ : St} {H : Hp}
end
end L2
set_option Elab.async false
set_option linter.all false
set_option maxRecDepth 100000
set_option maxHeartbeats 4000000
namespace L2
open PySem PySem.Spec PyProof PyProof.Rows
section
variable {X : Cx}
end
end L2
set_option Elab.async false
set_option linter.all false
set_option maxRecDepth 100000
set_option maxHeartbeats 4000000
namespace L2
open PySem PySem.Spec PyProof PyProof.Rows PySem.SeqAt
section
variable {X : Cx}
end
end L2
set_option Elab.async false
set_option linter.all false
set_option maxRecDepth 100000
namespace L2
open PySem PySem.Spec PyProof.Rows PySem.SeqAt
section
variable {P : Program} {w : World} {K : PySem.W.Frag} {mg : Str → Option Value} {base : Heap}
end
section
variable {X : Cx} {o e value : Expr} {es : List Expr} {f m : Str} {pos pos' apos p : Pos} {ta tv : TE} {t : TA} {C : Addr} {x : Str} {ps : List Str} {sp : Sp} {j k : Nat}
end
section
variable {C : Addr} {f m : Str} {sp : Sp} {ta tv : TE} {t : TA} {σ : St} {H : Hp} {Q : VK}
end
theorem lk_nil {f : Str} : List.lookup f ([] : List (Str × V)) = none := rfl
theorem putF_nil {f : Str} {v : V} : putF f v [] = [(f, v)] := rfl
end L2
set_option Elab.async false
set_option linter.all false
set_option maxRecDepth 100000
namespace L2
open PySem PySem.Spec PyProof.Rows PySem.SeqAt
section
variable {X : Cx}
def rSplit : V → List V → Hp → VK → Prop := fun x xs H Q => ∃ s y, x = .str s ∧ xs = [.str y] ∧ (y.length == 0) = false ∧ s.length ≤ 100000 ∧ ∀ l, H l = none → Q (.ref l) (upd H l (.lst ((Txt.split s y).map V.str)))
theorem rSplit_at {H : Hp} {Q : VK} (s y : Str) : rSplit (.str s) [.str y] H Q = ((y.length == 0) = false ∧ s.length ≤ 100000 ∧ ∀ l, H l = none → Q (.ref l) (upd H l (.lst ((Txt.split s y).map V.str)))) :=
 propext ⟨fun ⟨_, _, e1, e2, q⟩ => by cases e1; cases e2; exact q, fun q => ⟨s, y, rfl, rfl, q⟩⟩
theorem vals_str (l : List (Str × Tok)) : Vals ((l.map (·.1)).map V.str) (strValues l) := by
 induction l with
 | nil => exact .nil
 | cons a l ih => exact .cons ⟨a.2, rfl⟩ ih
theorem mt_split : MtR X "str.split" rSplit := by
 intro pins s σ H x xs v us Q I rx r h
 obtain ⟨z, y, rfl, rfl, hy, hz, q⟩ := h
 obtain ⟨t, rfl⟩ := rx
 obtain ⟨u, rfl, ru⟩ := vals1 r
 obtain ⟨u, rfl⟩ := ru
 have hs : sizeLine = 16777216 := sizeLine_eq
 have hn : (Txt.split z y).length ≤ z.length + 2 := split_le z y
 have lay : ∀ (l : List (Str × Tok)) (k : Tok), l.map (·.1) = Txt.split z y → EP X pins σ Q (.ref s.heap.objs.size) { s with heap := s.heap.push { cls := .type "list", data := .seq (strValues l).toArray }, toks := k } := by
  intro l k e
  refine ⟨.ref s.heap.objs.size, _, I.laid (fun _ _ q => Heap.get?_push_of_some _ q) (Nat.le_refl _) (show ObjOk X.prog X.w _ _ _ (.lst ((Txt.split z y).map V.str)) from ⟨by rw [List.length_map, hs]; omega, strValues l, _, e ▸ vals_str l, Heap.get?_push_size _ rfl⟩), rfl, q _ (I.hok.fresh (Nat.le_refl _))⟩
 cases h1 : (decide (z.length < y.length) || decide (Builtin.Str.strKind z < Builtin.Str.strKind y))
 ·cases hf : (Builtin.Str.occurrences z y 0 z.length (z.length + 1)).isEmpty
  ·have e : Txt.split z y = Builtin.Str.partsBetween z (Builtin.Str.occurrences z y 0 z.length (z.length + 1)) y.length := (if_neg (ne_true_of_eq_false h1)).trans (if_neg (ne_true_of_eq_false hf))
   refine call_meets F.slot_str_split (typeIs_str _ _ _) F.entry_str_split (F.args_str_split_2 _ _) (meets_str_split_sep z y t u h1 hy hf (by rw [hs]; omega) (by rw [← e, hs]; omega)) ?_
   show wants _ _ _ { s with toks := _, heap := s.heap.push { cls := .type "list", data := .seq (strsFrom s.toks (Builtin.Str.partsBetween z (Builtin.Str.occurrences z y 0 z.length (z.length + 1)) y.length)).toArray } }
   rw [strsFrom_eq]
   exact lay (numbered s.toks _) _ ((numbered_texts _ _).trans e.symm)
  ·exact call_meets F.slot_str_split (typeIs_str _ _ _) F.entry_str_split (F.args_str_split_2 _ _) (meets_str_split_not_found z y t u h1 hy hf)
    (lay [(z, t)] _ ((if_neg (ne_true_of_eq_false h1)).trans (if_pos hf)).symm)
 ·exact call_meets F.slot_str_split (typeIs_str _ _ _) F.entry_str_split (F.args_str_split_2 _ _) (meets_str_split_cannot_occur z y t u h1) (lay [(z, t)] _ (if_pos h1).symm)
def rIntT : List V → Hp → VK → Prop := fun xs H Q => ∃ x n, xs = [.str x] ∧ PySem.intText? x = some n ∧ x.length ≤ 640 ∧ Q (.int n) H
theorem call_intT : CallR X (.type "int") rIntT := by
 intro pins s σ H xs us Q I r h
 obtain ⟨x, n, rfl, hn, hl, q⟩ := h
 obtain ⟨u, rfl, ru⟩ := vals1 r
 obtain ⟨t, rfl⟩ := ru
 exact PySem.W.KIN.call_text hn hl ⟨.int n, H, I.tok _, ⟨_, rfl⟩, q⟩
end
theorem free_cut {c : Nat} : ∀ {p q t u : List Nat}, c ∉ p → c ∉ q → p ++ c :: t = q ++ c :: u → p = q ∧ t = u
 | [], [], _, _, _, _, e => ⟨rfl, (List.cons.inj e).2⟩
 | [], b :: q, _, _, _, hq, e => absurd ((List.cons.inj e).1 ▸ List.mem_cons_self) hq
 | a :: p, [], _, _, hp, _, e => absurd ((List.cons.inj e).1 ▸ List.mem_cons_self) hp
 | a :: p, b :: q, t, u, hp, hq, e => by
  obtain ⟨e1, e2⟩ := List.cons.inj e
  obtain ⟨e3, e4⟩ := free_cut (p := p) (q := q) (fun z => hp (List.mem_cons_of_mem _ z)) (fun z => hq (List.mem_cons_of_mem _ z)) e2
  exact ⟨by rw [e1, e3], e4⟩
theorem str_ext {x y : Str} (h : x.cps.toList = y.cps.toList) : x = y := by
 cases x; cases y
 exact congrArg _ (Array.toList_inj.mp h)
theorem cps_app (x y : Str) : (x ++ y).cps.toList = x.cps.toList ++ y.cps.toList := Array.toList_append
theorem join_two (c : Nat) (x y : Str) (r : List Str) : (Str.join ⟨#[c]⟩ (x :: y :: r)).cps.toList = x.cps.toList ++ c :: (Str.join ⟨#[c]⟩ (y :: r)).cps.toList := by
 rw [join_cons_cons, cps_app, cps_app]
 show (x.cps.toList ++ [c]) ++ _ = _
 rw [List.append_assoc]; rfl
theorem join_free {c : Nat} : ∀ {ps qs : List Str}, ps ≠ [] → qs ≠ [] → (∀ p ∈ ps, c ∉ p.cps.toList) → (∀ q ∈ qs, c ∉ q.cps.toList) → Str.join ⟨#[c]⟩ ps = Str.join ⟨#[c]⟩ qs → ps = qs
 | [], _, h, _, _, _, _ => absurd rfl h
 | _ :: _, [], _, h, _, _, _ => absurd rfl h
 | [p], [q], _, _, _, _, e => congrArg (fun z => [z]) (show p = q from e)
 | [p], q :: q' :: qs, _, _, hp, _, e => by
  have e' := congrArg (fun z : Str => z.cps.toList) e
  simp only [join_two] at e'
  have e2 : p.cps.toList = q.cps.toList ++ c :: (Str.join ⟨#[c]⟩ (q' :: qs)).cps.toList := e'
  exact absurd (e2 ▸ List.mem_append_right _ List.mem_cons_self) (hp p List.mem_cons_self)
 | p :: p' :: ps, [q], _, _, _, hq, e => by
  have e' := congrArg (fun z : Str => z.cps.toList) e
  simp only [join_two] at e'
  have e2 : q.cps.toList = p.cps.toList ++ c :: (Str.join ⟨#[c]⟩ (p' :: ps)).cps.toList := e'.symm
  exact absurd (e2 ▸ List.mem_append_right _ List.mem_cons_self) (hq q List.mem_cons_self)
 | p :: p' :: ps, q :: q' :: qs, _, _, hp, hq, e => by
  have e' := congrArg (fun z : Str => z.cps.toList) e
  simp only [join_two] at e'
  obtain ⟨e1, e2⟩ := free_cut (hp p List.mem_cons_self) (hq q List.mem_cons_self) e'
  have ih := join_free (ps := p' :: ps) (qs := q' :: qs) (by simp) (by simp) (fun z hz => hp z (List.mem_cons_of_mem _ hz)) (fun z hz => hq z (List.mem_cons_of_mem _ hz)) (str_ext e2)
  rw [str_ext e1, ih]
theorem split_join {ws : List Str} (h : ws ≠ []) (hf : ∀ x ∈ ws, 32 ∉ x.cps.toList) : Txt.split (Txt.join " " ws) " " = ws := by
 have e0 : (" " : Str) = ⟨#[32]⟩ := by decide +kernel
 have e1 : Str.join ⟨#[32]⟩ (Txt.split (Txt.join " " ws) " ") = Str.join ⟨#[32]⟩ ws := by
  have := PySem.StrLaws.join_split (Txt.join " " ws) " "
  rw [e0] at this ⊢
  rw [this]
  exact PySem.StrLaws.glued_eq_join _ ws
 refine join_free ?_ h ?_ hf e1
 ·intro z
  have := split_pos (Txt.join " " ws) " "
  rw [z] at this; exact absurd this (by decide)
 ·rw [e0]; exact PySem.StrLaws.split_free _ 32
end L2
set_option Elab.async false
set_option linter.all false
set_option maxRecDepth 100000
namespace L2
open PySem PySem.Spec PyProof.Rows
section
variable {X : Cx} {tg e : Expr}
end
end L2
set_option Elab.async false
set_option linter.all false
set_option maxRecDepth 100000
set_option maxHeartbeats 4000000
namespace L2
open PySem PySem.Spec PyProof.Rows PySem.SeqAt
def stepS (l : List Str) (x : Str) : List Str := if l.any (· == x) = true then l else l ++ [x]
def fmS (val : Nat → Str) (i : Nat) : List Str := ((List.range i).map val).foldl stepS []
theorem fmS_zero (val : Nat → Str) : fmS val 0 = [] := rfl
theorem fmS_succ (val : Nat → Str) (i : Nat) : fmS val (i + 1) = stepS (fmS val i) (val i) := by
 unfold fmS; rw [List.range_succ, List.map_append, List.foldl_append]; rfl
theorem fmS_len (val : Nat → Str) : ∀ i, (fmS val i).length ≤ i
 | 0 => by rw [fmS_zero]; exact Nat.le_refl _
 | i + 1 => by
  rw [fmS_succ]; unfold stepS
  have ih := fmS_len val i
  split
  ·omega
  ·rw [List.length_append, List.length_singleton]; omega
theorem stepS_any (l : List Str) (v k : Str) : (stepS l v).any (· == k) = (l.any (· == k) || decide (k = v)) := by
 unfold stepS
 by_cases h : l.any (· == v) = true
 ·rw [if_pos h]
  by_cases e : k = v
  ·subst e; rw [h]; simp
  ·simp [e]
 ·rw [if_neg h, List.any_append]
  by_cases e : k = v
  ·subst e; simp
  ·have hb : (v == k) = false := by simpa [beq_iff_eq] using (fun h' : v = k => e h'.symm)
   simp [hb, e]
theorem stepS_len (l : List Str) (v : Str) : (stepS l v).length = if l.any (· == v) then l.length else l.length + 1 := by
 unfold stepS; split <;> simp
theorem fmS_any (val : Nat → Str) : ∀ (i : Nat) (k : Str), (fmS val i).any (· == k) = ((List.range i).map val).any (· == k)
 | 0, k => rfl
 | i + 1, k => by
  rw [fmS_succ, stepS_any, fmS_any val i k, List.range_succ, List.map_append, List.any_append]
  congr 1
  by_cases e : k = val i
  ·simp [e]
  ·simp [e]; exact fun h => e h.symm
theorem strs_at : ∀ {vs : List Value} {ss : List Str}, StrsAre vs ss → ∀ (i : Nat) (v : Value), vs[i]? = some v → ∃ t, v = .str (ss.getD i "") t
 | _, _, .nil, i, v, h => by simp at h
 | _, _, .cons n t hr, 0, v, h => by simp at h; exact ⟨t, by rw [← h]; rfl⟩
 | _, _, .cons n t hr, i + 1, v, h => by
  simp only [List.getElem?_cons_succ] at h
  obtain ⟨t', e⟩ := strs_at hr i v h
  exact ⟨t', by rw [e]; rfl⟩
theorem strK_is (prog : Program) (w : World) (x : Str) (t : Tok) : (strKind prog w).is x (.str x t) = true := by
 show Value.isStrOf x (.str x t) = true
 simp [Value.isStrOf]
section
variable {prog : Program} {w : World} {A : Around} {R : Result → Shared → Prop} {I : Addr} {fp wr : List Addr} {Gm : Array GenState → Array GenState → Prop} {n : Nat} {P : Nat → Value → Prop} {St : Nat → Shared → Prop} {L : Bool}
theorem setLoopS (W : WalksS prog w A.in1 I fp wr Gm n P St) (S : Addr) (hSf : S ∉ fp) (val : Nat → Str) (hval : ∀ i v, P i v → ∃ t, v = .str (val i) t) (hb : n + 1 < scanBound) :
  ∀ (k i : Nat) (s : Shared), n - i = k → i ≤ n → St i s → SetG (strKind prog w) (Good L) s.heap S (fun k' => (fmS val i).any (· == k')) (fmS val i).length →
   (∀ s', Moved (S :: wr) Gm s s' → SetG (strKind prog w) (Good L) s'.heap S (fun k' => (fmS val n).any (· == k')) (fmS val n).length → R (.ok (.ret .none)) s') →
   codeAny (model prog w) A (.builtin "set.update.loop" ⟨[.ref S, .ref I], []⟩) R s := by
 have hSw : S ∉ wr := fun h => hSf (W.sub _ h)
 have hsub : ∀ b ∈ wr, b ∈ S :: wr := fun b hb => List.mem_cons_of_mem _ hb
 intro k
 induction k with
 | zero =>
  intro i s hk hi hst hS hR
  have hin : i = n := by omega
  subst hin
  refine codeAny_builtin F.entry_set_update_loop ?_
  rw [Around.under_plainId F.plain_set_update_loop _]
  show wpAny _ A.in1 (pyNext (.ref I) >>= _) _ _ s
  refine wpAny_bind (W.done s _ _ hst fun s' hm => ?_)
  show wpAny _ A.in1 (ret Value.none) _ _ s'
  exact wpAny_pure (hR s' (hm.mono hsub) (hS.at' (fun o e => hm.heap S _ hSw e) (fun _ => rfl) rfl))
 | succ k ih =>
  intro i s hk hi hst hS hR
  have hlt : i < n := by omega
  refine codeAny_builtin F.entry_set_update_loop ?_
  rw [Around.under_plainId F.plain_set_update_loop _]
  show wpAny _ A.in1 (pyNext (.ref I) >>= _) _ _ s
  refine wpAny_bind (W.item i s _ _ hlt hst fun v s' hP hst' hm => ?_)
  obtain ⟨t, rfl⟩ := hval i v hP
  have hS' := hS.at' (h' := s'.heap) (fun o e => hm.heap S _ hSw e) (fun _ => rfl) rfl
  show wpAny _ A.in1 (holding [Value.str (val i) t] (setAdd S (.str (val i) t)) >>= _) _ _ s'
  refine wpAny_bind (wpAny_holding ?_)
  unfold setAdd
  refine wpAny_holding ?_
  refine wpAny_bind ((strKind prog w).pyHash (k := val i) (strK_is _ _ _ _) ?_)
  have hroom : (fmS val i).length + 1 < scanBound := by have := fmS_len val i; omega
  refine addG (G := Good L) (knd := strKind prog w) (s := { s' with toks := s'.toks + 1 }) (fun t es h x g => good_layNew g es h x) (fun t es m g => good_relay g es m) (fun t g => good_plain g) (strK_is _ _ _ _) rfl hS' hroom fun h' hsb hS2 => ?_
  have hSi := hS2.at' (h' := h') (fun o e => e) (S' := fun k' => (fmS val (i + 1)).any (· == k')) (m' := (fmS val (i + 1)).length) (fun k' => by rw [fmS_succ, stepS_any]) (by rw [fmS_succ, stepS_len])
  refine wpAny_pure ⟨plainId_quiet F.plain_set_update_loop _, ih (i + 1) _ (by omega) hlt (W.frame _ s' _ _ hst' (Nat.le_succ _) fun b hb o e => ?_) hSi fun s'' hm'' hS'' => ?_⟩
  ·rw [hsb.2 b (fun h : b = S => hSf (by rw [← h]; exact hb))]; exact e
  ·refine hR s'' (Moved.trans W.gtrans ((hm.mono hsub).then_heap (Nat.le_succ _) fun b o hb e => ?_) hm'') hS''
   rw [hsb.2 b (fun h : b = S => hb (by rw [h]; exact List.mem_cons_self))]; exact e
end
section
variable {prog : Program} {w : World} {A : Around} {E : Value → Shared → Prop} {s : Shared}
theorem call_setT {l : Addr} {items : Array Value} {ns : List Str} {Q : Value → Shared → Prop} (hh : A.handled = none) (hl : s.heap.IsList l items) (hi : StrsAre items.toList ns) (hb : items.size + 1 < scanBound)
  (h : ∀ (h' : Heap) (tk : Nat), SetG (strKind prog w) (Good (ledOf w)) h' s.heap.objs.size (fun k' => (fmS (fun i => ns.getD i "") items.size).any (· == k')) (fmS (fun i => ns.getD i "") items.size).length →
   (∀ b o, b < s.heap.objs.size → s.heap.get? b = some o → h'.get? b = some o) → Q (.ref s.heap.objs.size) { s with heap := h', toks := tk }) :
  wpAny (model prog w) A (call (.type "set") [.ref l]) Q E s := by
 obtain ⟨c, tl, hmro⟩ := F.called_set.mro
 have hmade := F.called_set.made
 have hsub := F.called_set.sub
 refine wpAny_call (codeAny_of_tree ?_)
 show wpAny _ _ (callAny (.type "set") _) _ _ _
 refine wpAny_pure ⟨Code.quiet_builtin _ (by decide +kernel), codeAny_builtin F.entry_type_call ?_⟩
 rw [Around.under_plain (weight_type_call_type "set" [.ref l] []) rfl]
 have h1 := F.called_set.notType
 have h2 := F.called_set.canCreate
 have hct := F.typeCall_set_1 (.ref l)
 repeat (any_goals (first | assumption | wp_step))
 refine codeAny_mono (set_newG (.ref l) (E := E) (Q₁ := fun obj s₁ => obj = .ref s.heap.objs.size ∧ s₁ = { s with heap := s.heap.push { cls := .type "set", dict := none, data := .set #[] 0 (.fresh 0 0 (ledOf w)) } }) ⟨rfl, rfl⟩) fun r s₁ hr => ?_
 cases r with
 | error e => exact hr
 | ok fl =>
  cases fl with
  | ret obj =>
   obtain ⟨rfl, rfl⟩ := hr
   have hS : (s.heap.push { cls := .type "set", dict := none, data := .set #[] 0 (.fresh 0 0 (ledOf w)) }).get? s.heap.objs.size = some { cls := .type "set", dict := none, data := .set #[] 0 (.fresh 0 0 (ledOf w)) } := Heap.get?_push_size _ rfl
   have hT : Shared.TypeIs { s with heap := s.heap.push { cls := .type "set", dict := none, data := .set #[] 0 (.fresh 0 0 (ledOf w)) } } (.ref s.heap.objs.size) "set" := ⟨_, hS, rfl⟩
   have hli := F.called_set.init.lookup
   have hbi := F.called_set.init.bind (.ref s.heap.objs.size)
   repeat (any_goals (first | assumption | wp_step))
   refine codeAny_mono (codeAny_call_builtin (R := wants (fun r s₂ => r = .none ∧ ∃ h' tk, s₂ = { s with heap := h', toks := tk } ∧
     SetG (strKind prog w) (Good (ledOf w)) h' s.heap.objs.size (fun k' => (fmS (fun i => ns.getD i "") items.size).any (· == k')) (fmS (fun i => ns.getD i "") items.size).length ∧
     (∀ b o, b < s.heap.objs.size → s.heap.get? b = some o → h'.get? b = some o)) E) F.called_set.init.plain F.entry_set_init (check_set_init_1 hT ?_)) fun r₂ s₂ hr₂ => ?_
   ·obtain ⟨ol, hol, hcl, nl, hdl⟩ := hl
    obtain ⟨ocls, odict, odata, oslots⟩ := ol
    simp only at hcl hdl
    subst hcl; subst hdl
    have hol' : (s.heap.push { cls := .type "set", dict := none, data := .set #[] 0 (.fresh 0 0 (ledOf w)) }).get? l = some { cls := .type "list", dict := odict, data := .seq items nl, slots := oslots } := Heap.get?_push_of_some _ hol
    have hsls := F.sub_list_set
    have hslf := F.sub_list_frozenset
    have hne : (Value.type "list" == Value.type "dict") = false := by decide
    have hl1 : (s.heap.push { cls := .type "set", dict := none, data := .set #[] 0 (.fresh 0 0 (ledOf w)) }).IsList l items := ⟨_, hol', rfl, nl, rfl⟩
    unfold Builtin.«set.__init__» noKeywords Builtin.Frozenset.updateFrom
    generalize hPI : pyIter = PI
    wp_walk
    subst hPI
    refine wpAny_pyIter_list hl1 ?_
    refine wpAny_bind (wpAny_runValue ?_)
    have hlS : l < s.heap.objs.size := Heap.lt_size hol
    have hh3 : A.in1.in1.in1.handled = none := by simp [hh]
    have hneI : l ≠ (s.heap.push { cls := .type "set", dict := none, data := .set #[] 0 (.fresh 0 0 (ledOf w)) }).objs.size := by
     rw [Heap.size_push]; exact Nat.ne_of_lt (Nat.lt_succ_of_lt hlS)
    have hSf : s.heap.objs.size ∉ [(s.heap.push { cls := .type "set", dict := none, data := .set #[] 0 (.fresh 0 0 (ledOf w)) }).objs.size, l] := by
     rw [Heap.size_push]; simp only [List.mem_cons, List.mem_singleton, List.not_mem_nil, or_false, not_or]
     exact ⟨Nat.ne_of_lt (Nat.lt_succ_self _), Nat.ne_of_gt hlS⟩
    have hval : ∀ (i : Nat) (v : Value), items[i]? = some v → ∃ t, v = .str ((fun i => ns.getD i "") i) t := fun i v hv => strs_at hi i v (by rw [Array.getElem?_toList]; exact hv)
    refine setLoopS (L := ledOf w) ((Walks.list hh3 _ l hneI items).toS) s.heap.objs.size hSf (fun i => ns.getD i "") hval hb (items.size - 0) 0 _ (by omega) (Nat.zero_le _) ⟨⟨_, Heap.get?_push_size _ rfl, rfl, rfl⟩, (hl1.push _)⟩ ?hS0 ?hR
    case hS0 =>
     refine ⟨{ cls := .type "set", dict := none, data := .set #[] 0 (.fresh 0 0 (ledOf w)) }, #[], 0, .fresh 0 0 (ledOf w), Heap.get?_push_of_some _ hS, ?_⟩
     exact ⟨⟨rfl, rfl, rfl⟩, rfl, fun e he => by simp at he, fun k => by simp [fmS_zero], by decide, rfl, rfl, ⟨rfl, fun a b ha => absurd ha (Nat.not_lt_zero _)⟩, List.Pairwise.nil⟩
    case hR =>
     intro s' hm hS'
     obtain ⟨h', g', d', tk', os'⟩ := s'
     have eg : g' = s.gens := hm.gens
     have ed : d' = s.drawn := hm.drawn
     have eo : os' = s.os := hm.os
     subst eg; subst ed; subst eo
     show wpAny _ _ _ _ _ _
     refine wpAny_pure ?_
     show wpAny _ _ (ret Value.none) _ _ _
     refine wpAny_pure ⟨rfl, h', tk', rfl, hS', fun b o hb e => ?_⟩
     have hb1 : b ≠ s.heap.objs.size := Nat.ne_of_lt hb
     have hb2 : b ≠ (s.heap.push { cls := .type "set", dict := none, data := .set #[] 0 (.fresh 0 0 (ledOf w)) }).objs.size := by
      rw [Heap.size_push]; exact Nat.ne_of_lt (Nat.lt_succ_of_lt hb)
     exact hm.heap b o (by simp only [List.mem_cons, List.mem_singleton, List.not_mem_nil, or_false, not_or]; exact ⟨hb1, hb2⟩) (Heap.get?_push_of_some _ (Heap.get?_push_of_some _ e))
   ·cases r₂ with
    | error e => exact hr₂
    | ok fl₂ =>
     cases fl₂ with
     | ret r =>
      obtain ⟨rfl, h', tk, rfl, hS', hk'⟩ := hr₂
      repeat (any_goals (first | assumption | wp_step))
      exact h _ _ hS' hk'
     | _ => exact hr₂.elim
  | _ => exact hr.elim
end
def rSetT (K : PySem.W.Frag) (SO : Addr → List Str → HO) : List V → Hp → VK → Prop := fun xs H Q => ∃ p, ∃ ns : List Str, xs = [.ref p] ∧ SqL K H p (ns.map V.str) ∧ ns.length ≤ 60 ∧ ∀ (l : Addr) (ds : List Str), H l = none → ds.Nodup → (∀ x, x ∈ ds ↔ x ∈ ns) → ds.length ≤ ns.length → Q (.ref l) (upd H l (SO l ds))
def rSortSetT (SO : Addr → List Str → HO) : List V → Hp → VK → Prop := fun xs H Q => ∃ p, ∃ ds : List Str, xs = [.ref p] ∧ H p = some (SO p ds) ∧ ds.length ≤ 60 ∧ ∀ (l : Addr) (ts : List Str), H l = none → ts.Perm ds → sortedS ts = true → Q (.ref l) (upd H l (.lst (ts.map V.str)))
def keyT (e : Int × Value) : Str := match e.2 with
 | .str d _ => d
 | _ => ""
def GST (w : World) (h : Heap) (a : Addr) (ds : List Str) : Prop := ∃ o es ep t, h.get? a = some o ∧ o.ExactSet ∧ o.data = .set es ep t ∧ es.size < scanBound ∧ t.fits es.size = true ∧ Good (ledOf w) t ∧ (∀ e ∈ es.toList, ∃ tk, e.2 = .str (keyT e) tk) ∧ es.toList.map keyT = ds
def setOT (w : World) (a : Addr) (ds : List Str) : HO := .ext fun h => GST w h a ds
theorem gst_of {prog : Program} {w : World} {h : Heap} {a : Addr} {S : Str → Bool} {n : Nat} (x : SetG (strKind prog w) (Good (ledOf w)) h a S n) : ∃ ds, GST w h a ds ∧ ds.Nodup ∧ (∀ k, k ∈ ds ↔ S k = true) ∧ ds.length = n := by
 obtain ⟨o, es, ep, t, ho, T⟩ := x
 have hk : ∀ e ∈ es.toList, ∃ tk, e.2 = .str (keyT e) tk := fun e he => by
  obtain ⟨⟨k, hk, _⟩, _⟩ := T.el e he
  obtain ⟨tk, e2⟩ := Value.isStrOf_shape hk
  exact ⟨tk, by unfold keyT; rw [e2]⟩
 have his : ∀ e ∈ es.toList, ∀ k, (strKind prog w).is k e.2 = true ↔ k = keyT e := fun e he k => by
  obtain ⟨tk, e2⟩ := hk e he
  constructor
  ·intro z
   obtain ⟨tk', e3⟩ := Value.isStrOf_shape z
   rw [e3] at e2
   cases e2; rfl
  ·rintro rfl; rw [e2]; exact strK_is _ _ _ _
 refine ⟨es.toList.map keyT, ⟨o, es, ep, t, ho, T.ex, T.dat, T.few, T.fit, T.good, hk, rfl⟩, ?_, fun k => ?_, by rw [List.length_map, Array.length_toList]; exact T.num⟩
 ·refine List.pairwise_map.mpr (List.Pairwise.imp_of_mem (fun {x y} hx hy hab e => ?_) T.apart)
  have h1 := hab (keyT x) ((his x hx _).mpr rfl)
  rw [(his y hy _).mpr e] at h1; cases h1
 ·rw [T.mem, List.mem_map]
  constructor
  ·rintro ⟨e, he, rfl⟩; exact ⟨e, he, (his e he _).mpr rfl⟩
  ·rintro ⟨e, he, z⟩; exact ⟨e, he, ((his e he _).mp z).symm⟩
section
variable {X : Cx}
theorem call_setTT {m : Nat} (hr : Room m X.A) {K : PySem.W.Frag} (hK : X.K = K) : CallR X (.type "set") (rSetT K (setOT X.w)) := by
 subst hK
 intro pins s σ H xs us Q I r h
 obtain ⟨p, ns, rfl, hq, h60, q⟩ := h
 obtain ⟨u, rfl, ru⟩ := vals1 r
 cases ru
 obtain ⟨its, rv, pl, hz⟩ := I.list hq
 have hlen : its.length = ns.length := by rw [← rv.length, List.length_map]
 refine call_setT (ns := ns) hr.hd pl.isList (by simpa using vals_strs rv) (by simp only [List.size_toArray]; unfold scanBound; omega) fun h' tk hS hk => ?_
 obtain ⟨ds, hg, hnd, hmem, hdl⟩ := gst_of hS
 obtain ⟨o, es, ep, t, ho, hrest⟩ := id hg
 refine ⟨.ref s.heap.objs.size, _, I.laid (fun b o e => hk b o (Heap.lt_size e) e) (Nat.le_refl _) (show ObjOk X.prog X.w _ h' _ (setOT X.w s.heap.objs.size ds) from ⟨hg, ⟨o, ho⟩, fun h1 h2 g k => ?_⟩), rfl, q _ ds (I.hok.fresh (Nat.le_refl _)) hnd (fun x => ?_) ?_⟩
 ·obtain ⟨o, es, ep, t, ho, rest⟩ := g
  exact ⟨o, es, ep, t, k o ho, rest⟩
 ·rw [hmem, fmS_any]
  simp only [List.size_toArray, List.any_map, List.any_eq_true, List.mem_range]
  constructor
  ·rintro ⟨i, hi, e⟩
   have e' : ns.getD i "" = x := by simpa using e
   rw [← e', List.getD_eq_getElem?_getD, List.getElem?_eq_getElem (by omega)]
   exact List.getElem_mem _
  ·intro hx
   obtain ⟨i, hi, e⟩ := List.mem_iff_getElem.mp hx
   exact ⟨i, by omega, by simp [List.getD_eq_getElem?_getD, List.getElem?_eq_getElem hi, e]⟩
 ·rw [hdl]
  have := fmS_len (fun i => ns.getD i "") its.toArray.size
  simp only [List.size_toArray] at this ⊢
  omega
end
def keyVT (v : Value) : Str := match v with
 | .str d _ => d
 | _ => ""
theorem strs_of : ∀ (l : List Value), (∀ v ∈ l, ∃ tk, v = .str (keyVT v) tk) → StrsAre l (l.map keyVT)
 | [], _ => .nil
 | v :: l, h => by
  obtain ⟨tk, e⟩ := h v List.mem_cons_self
  have r := strs_of l fun u hu => h u (List.mem_cons_of_mem _ hu)
  rw [List.map_cons]
  generalize keyVT v = d at e ⊢
  subst e
  exact .cons d tk r
section
variable {prog : Program} {w : World} {A : Around} {E : Value → Shared → Prop} {s : Shared}
theorem sortedSetT {a : Addr} {o : Obj} {es : Array (Int × Value)} {ep : Nat} {t : SetTable} {Q : Value → Shared → Prop} (hh : A.handled = none) (ho : s.heap.get? a = some o) (hx : o.ExactSet) (hd : o.data = .set es ep t) (hf : t.fits es.size = true) (h64 : es.size < 64) (hg : Good (ledOf w) t)
  (hint : ∀ e ∈ es.toList, ∃ tk, e.2 = .str (keyT e) tk)
  (hQ : ∀ h' d' tk q out c ns', (∀ b o, s.heap.get? b = some o → h'.get? b = some o) → s.heap.objs.size ≤ q → h'.get? q = some (seqObj "list" out c) → StrsAre out.toList ns' → ns'.Perm (es.toList.map keyT) → sortedS ns' = true → Q (.ref q) { s with heap := h', drawn := d', toks := tk }) :
  wpAny (model prog w) A (call (.builtin "sorted") [.ref a]) Q E s := by
 refine Calls.call_function_entry kind_sorted plain_sorted entry_sorted (args_sorted1 _) ?_
 unfold Builtin.«sorted»
 refine wpAny_bind (m := checkCount "sorted" 1 1 _) (wpAny_pure ?_)
 refine wpAny_bind (collectSet hh ho hx hd hf (by unfold scanBound; omega) hg fun h' d' tk acc hk hlt hp => ?_)
 have hal : acc.length = es.size := by rw [hp.length_eq]; simp
 have hI : StrsAre acc (acc.map keyVT) := strs_of acc fun v hv => by
  obtain ⟨e, he, rfl⟩ := List.mem_map.mp (hp.mem_iff.mp hv)
  exact hint e he
 have hperm : (acc.map keyVT).Perm (es.toList.map keyT) := by
  have := hp.map keyVT
  rw [List.map_map] at this
  exact this
 refine wpAny_bind (wpAny_newList ?_ (by rw [hal, sizeLine_eq]; omega))
 have hoL : (h'.push (seqObj "list" acc.toArray 0)).get? h'.objs.size = some (seqObj "list" acc.toArray 0) := Heap.get?_push_size _ rfl
 show wpAny _ _ _ _ _ { s with heap := h'.push (seqObj "list" acc.toArray 0), drawn := d', toks := tk }
 refine wpAny_bind (wpAny_holding (wpAny_call_entry slot_list_sort ⟨_, hoL, rfl⟩ entry_list_sort (list_sort_treeK strKind_oneLt hoL hI.keysOf (fun v₁ v₂ rest e => keyKind_strs (by rw [← e]; exact hI)) (by omega) fun st' b1 b2 => ⟨_, rfl, ?_⟩) (args_list_sort _)))
 obtain ⟨ns', a1, a2, a3⟩ := sorted_out_str hI b1 b2
 generalize (arrOf st').map (·.2) = out at a1 ⊢
 obtain ⟨c, hc⟩ := sortedHeap_at (out := out) hoL
 refine wpAny_pure ⟨_, rfl, hQ _ d' tk h'.objs.size out c ns' (fun b o e => ?_) (Nat.le_of_lt hlt) hc a1 (a2.trans hperm) a3⟩
 have hb := Heap.lt_size (hk b o e)
 rw [sortedHeap_old (Nat.ne_of_lt hb) (by rw [Heap.size_push]; exact Nat.lt_succ_of_lt hb)]
 exact Heap.get?_push_of_some _ (hk b o e)
end
section
variable {X : Cx}
theorem call_sortSetT {m : Nat} (hr : Room m X.A) : CallR X (.builtin "sorted") (rSortSetT (setOT X.w)) := by
 intro pins s σ H xs us Q I r h
 obtain ⟨p, ds, rfl, e, h60, q⟩ := h
 obtain ⟨u, rfl, ru⟩ := vals1 r
 cases ru
 obtain ⟨o, es, ep, t, ho, hx, hd, hfew, hf, hg, hint, hds⟩ := (show ObjOk X.prog X.w H s.heap p (setOT X.w p ds) from I.hok p _ e).1
 have hz : es.size ≤ 60 := by rw [← hds, List.length_map, Array.length_toList] at h60; exact h60
 have hs : sizeLine = 16777216 := sizeLine_eq
 refine sortedSetT hr.hd ho hx hd hf (by omega) hg hint fun h' d' tk qa out c ns' hk hq hc a1 a2 a3 => ?_
 have hl : ns'.length ≤ 60 := by rw [a2.length_eq, List.length_map, Array.length_toList]; exact hz
 have I2 := I.laid (t' := tk) (a := qa) (o := .lst (ns'.map V.str)) hk hq (show ObjOk X.prog X.w _ h' _ (.lst (ns'.map V.str)) from ⟨by rw [List.length_map]; omega, out.toList, c, strs_vals a1, by simpa using hc⟩)
 refine ⟨.ref qa, _, ?_, rfl, q _ ns' (I.hok.fresh hq) (by rw [← hds]; exact a2) a3⟩
 exact ⟨I2.ok, I2.os, I2.bare, I2.base, I2.loc, I2.cell, I2.free, I2.freeC, I2.pin, I2.hok, I2.len⟩
theorem call_setTTW {m : Nat} (K : PySem.W.Frag) (w : World) (hr : Room m X.A) (hK : X.K = K := by rfl) (hw : X.w = w := by rfl) : CallR X (.type "set") (rSetT K (setOT w)) := hw ▸ call_setTT hr hK
theorem call_sortSetTW {m : Nat} (w : World) (hr : Room m X.A) (hw : X.w = w := by rfl) : CallR X (.builtin "sorted") (rSortSetT (setOT w)) := hw ▸ call_sortSetT hr
end
section
variable {X : Cx} {c a b : Expr} {tA tB1 tB2 : TT} {pos : Pos}
def tIfT (tc ta tb : TT) : TT := fun σ H Q => tc σ H fun d H1 => if d = true then ta σ H1 Q else tb σ H1 Q
theorem tIfT_at {σ : St} {H : Hp} {Q : Bool → Hp → Prop} (tc ta tb : TT) : tIfT tc ta tb σ H Q = tc σ H fun d H1 => if d = true then ta σ H1 Q else tb σ H1 Q := rfl
theorem pt_ifExp (hc : PT X c tA) (ha : PT X a tB1) (hb : PT X b tB2) : PT X (.IfExp c a b pos) (tIfT tA tB1 tB2) := by
 intro pins s σ H Q I h
 refine isTrue_IfExp (thn (hc pins s σ H _ I h) fun d s1 ⟨H1, I1, q1⟩ => ?_)
 cases d with
 | true => exact ha pins s1 σ H1 Q I1 q1
 | false => exact hb pins s1 σ H1 Q I1 q1
end
end L2
set_option Elab.async false
set_option linter.all false
set_option maxRecDepth 100000
set_option maxHeartbeats 4000000
namespace L2
open PySem PySem.Spec PyProof.Rows PySem.SeqAt PySem.Builtin PySem.Builtin.Str PySem.StrLaws
section
variable {X : Cx}
def rPartition : V → List V → Hp → VK → Prop := fun x xs H Q => ∃ s y, x = .str s ∧ xs = [.str y] ∧ (y.length == 0) = false ∧ s.length ≤ 100000 ∧ ∀ l, H l = none → Q (.ref l) (upd H l (.tup [.str (Txt.partition s y).1, .str (Txt.partition s y).2.1, .str (Txt.partition s y).2.2]))
theorem rPartition_at {H : Hp} {Q : VK} (s y : Str) : rPartition (.str s) [.str y] H Q = ((y.length == 0) = false ∧ s.length ≤ 100000 ∧ ∀ l, H l = none → Q (.ref l) (upd H l (.tup [.str (Txt.partition s y).1, .str (Txt.partition s y).2.1, .str (Txt.partition s y).2.2]))) :=
 propext ⟨fun ⟨_, _, e1, e2, q⟩ => by cases e1; cases e2; exact q, fun q => ⟨s, y, rfl, rfl, q⟩⟩
theorem mt_partition : MtR X "str.partition" rPartition := by
 intro pins s σ H x xs v us Q I rx r h
 obtain ⟨z, y, rfl, rfl, hy, hz, q⟩ := h
 obtain ⟨t, rfl⟩ := rx
 obtain ⟨u, rfl, ru⟩ := vals1 r
 obtain ⟨u, rfl⟩ := ru
 have hs : sizeLine = 16777216 := sizeLine_eq
 refine call_meets F.slot_str_partition (typeIs_str _ _ _) F.entry_str_partition (F.args_str_partition_2 _ _) (meets_str_partition z y t u hy (by rw [hs]; omega)) ?_
 have lay : ∀ (a b c : Str) (ta tb tc : Tok) (k : Nat), (a, b, c) = Txt.partition z y → EP X pins σ Q (.ref s.heap.objs.size) { s with toks := k, heap := s.heap.push { cls := .type "tuple", data := .seq [.str a ta, .str b tb, .str c tc].toArray } } := by
  intro a b c ta tb tc k e
  refine ⟨.ref s.heap.objs.size, _, I.laid (fun _ _ q => Heap.get?_push_of_some _ q) (Nat.le_refl _) (show ObjOk X.prog X.w _ _ _ (.tup [.str a, .str b, .str c]) from ⟨by rw [hs]; show 3 ≤ _; decide, [.str a ta, .str b tb, .str c tc], .cons ⟨ta, rfl⟩ (.cons ⟨tb, rfl⟩ (.cons ⟨tc, rfl⟩ .nil)), ⟨_, Heap.get?_push_size _ rfl, rfl, rfl, 0, rfl⟩⟩), rfl, ?_⟩
  have := q _ (I.hok.fresh (Nat.le_refl s.heap.objs.size))
  rw [← e] at this
  exact this
 have lay' := lay
 unfold Txt.partition at lay'
 revert lay'
 cases occurrences z y 0 z.length 1 with
 | nil => intro l; exact l _ _ _ _ _ _ _ rfl
 | cons i r => intro l; exact l _ _ _ _ _ _ _ rfl
def rEndsW : V → List V → Hp → VK → Prop := fun x xs H Q => ∃ s y, x = .str s ∧ xs = [.str y] ∧ Q (.bl (decide (0 + y.length ≤ s.length) && subAt s y (s.length - y.length))) H
theorem rEndsW_at {H : Hp} {Q : VK} (s y : Str) : rEndsW (.str s) [.str y] H Q = Q (.bl (decide (0 + y.length ≤ s.length) && subAt s y (s.length - y.length))) H :=
 propext ⟨fun ⟨_, _, e1, e2, q⟩ => by cases e1; cases e2; exact q, fun q => ⟨s, y, rfl, rfl, q⟩⟩
theorem mt_endswith : MtR X "str.endswith" rEndsW := by
 intro pins s σ H x xs v us Q I rx r h
 obtain ⟨z, y, rfl, rfl, q⟩ := h
 obtain ⟨t, rfl⟩ := rx
 obtain ⟨u, rfl, ru⟩ := vals1 r
 obtain ⟨u, rfl⟩ := ru
 exact call_gives F.slot_str_endswith (typeIs_str _ _ _) F.entry_str_endswith (F.args_str_endswith_2 _ _) (gives_str_endswith z y t u) ⟨.bl _, H, I, rfl, q⟩
end
theorem at_head {x y : Str} {c : Nat} {r : List Nat} (hy : y.cps.toList = c :: r) {i : Nat} (h : At x y x.length i) : x.cps.toList[i]? = some c := by
 have h2 := h.2
 rw [subAt_eq, hy] at h2
 have h3 := eq_of_beq h2
 have hl : y.length = r.length + 1 := by show y.cps.size = _; rw [← Array.length_toList, hy]; rfl
 rw [hl] at h3
 have h4 := congrArg (·[0]?) h3
 simpa using h4
theorem at_of {x y : Str} {p q : List Nat} (hx : x.cps.toList = p ++ (y.cps.toList ++ q)) : At x y x.length p.length := by
 have hl : x.length = p.length + (y.length + q.length) := by
  show x.cps.size = p.length + (y.cps.size + _)
  rw [← Array.length_toList, ← Array.length_toList, hx, List.length_append, List.length_append]
 refine ⟨by omega, ?_⟩
 rw [subAt_eq, hx, List.drop_left, show y.length = y.cps.toList.length from (Array.length_toList).symm ▸ rfl, List.take_left]
 simp
theorem sub_mid {x : Str} {p m q : List Nat} (hx : x.cps.toList = p ++ (m ++ q)) : (strSub x p.length (p.length + m.length)).cps.toList = m := by
 rw [strSub_toList, hx, List.drop_left, show p.length + m.length - p.length = m.length by omega, List.take_left]
theorem part_of {x a b y : Str} {c : Nat} {r : List Nat} (hy : y.cps.toList = c :: r) (hx : x.cps.toList = a.cps.toList ++ (y.cps.toList ++ b.cps.toList)) (hc : c ∉ a.cps.toList) : Txt.partition x y = (a, y, b) := by
 have hA := at_of (p := a.cps.toList) hx
 unfold Txt.partition
 rcases occ_head x y 1 (Nat.le_refl 1) with ⟨h0, hn⟩ | ⟨i, rr, h0, ha, hn⟩
 ·exact absurd hA (hn _)
 ·rw [h0]
  have hi : i = a.cps.toList.length := by
   rcases Nat.lt_trichotomy i a.cps.toList.length with z | z | z
   ·have := at_head hy ha
    rw [hx, List.getElem?_append_left z] at this
    exact absurd (List.mem_of_getElem? this) hc
   ·exact z
   ·exact absurd hA (hn _ z)
  subst hi
  have e1 : strSub x 0 a.cps.toList.length = a := str_ext (by
   have := sub_mid (x := x) (p := []) (m := a.cps.toList) (q := y.cps.toList ++ b.cps.toList) hx
   simpa using this)
  have hl : x.length = (a.cps.toList ++ y.cps.toList).length + b.cps.toList.length := by
   show x.cps.size = _
   rw [← Array.length_toList, hx, List.length_append, List.length_append, List.length_append]; omega
  have e2 : strSub x (a.cps.toList.length + y.length) x.length = b := str_ext (by
   have := sub_mid (x := x) (p := a.cps.toList ++ y.cps.toList) (m := b.cps.toList) (q := []) (by rw [hx, List.append_nil, List.append_assoc])
   rw [← hl, List.length_append] at this
   rw [show y.length = y.cps.toList.length from (Array.length_toList).symm ▸ rfl]
   exact this)
  show (strSub x 0 a.cps.toList.length, y, strSub x (a.cps.toList.length + y.length) x.length) = _
  rw [e1, e2]
theorem parts_of {x y : Str} {c : Nat} {r : List Nat} (hy : y.cps.toList = c :: r) : ∀ (ws : List Str) (p : List Nat) (cuts : List Nat) (f : Nat), ws ≠ [] → (∀ w ∈ ws, c ∉ w.cps.toList) → x.cps.toList = p ++ (Str.join y ws).cps.toList → ChainG x y x.length p.length cuts f → (∀ k, f ≤ k → ¬ At x y x.length k) → partsFrom x y.length p.length cuts = ws
  | [], _, _, _, h, _, _, _, _ => absurd rfl h
  | [w], p, cuts, f, _, hw, hx, hc, hf => by
    have hx' : x.cps.toList = p ++ w.cps.toList := hx
    have no : ∀ k, p.length ≤ k → ¬ At x y x.length k := fun k hk ha => by
      have := at_head hy ha
      rw [hx', List.getElem?_append_right hk] at this
      exact absurd (List.mem_of_getElem? this) (hw w List.mem_cons_self)
    cases cuts with
    | cons i rest => exact absurd hc.2.1 (no i hc.1)
    | nil =>
      show [strSub x p.length x.length] = [w]
      refine congrArg (fun z => [z]) (str_ext ?_)
      have hl : x.length = p.length + w.cps.toList.length := by show x.cps.size = _; rw [← Array.length_toList, hx', List.length_append]
      rw [hl]
      exact sub_mid (q := []) (by rw [List.append_nil]; exact hx')
  | w :: w2 :: ws, p, cuts, f, _, hw, hx, hc, hf => by
    have hx' : x.cps.toList = p ++ (w.cps.toList ++ (y.cps.toList ++ (Str.join y (w2 :: ws)).cps.toList)) := by
      rw [hx, join_cons_cons, cps_app, cps_app, List.append_assoc]
    have hA : At x y x.length (p.length + w.cps.toList.length) := by
      have := at_of (x := x) (y := y) (p := p ++ w.cps.toList) (q := (Str.join y (w2 :: ws)).cps.toList) (by rw [hx', List.append_assoc])
      rwa [List.length_append] at this
    have no : ∀ k, p.length ≤ k → k < p.length + w.cps.toList.length → ¬ At x y x.length k := fun k hk h2 ha => by
      have := at_head hy ha
      rw [hx', List.getElem?_append_right hk, List.getElem?_append_left (by omega)] at this
      exact absurd (List.mem_of_getElem? this) (hw w List.mem_cons_self)
    cases cuts with
    | nil => exact absurd hA (hf _ (by have : f = p.length := hc
                                       omega))
    | cons i rest =>
      obtain ⟨c1, c2, c3, c4⟩ := hc
      have hi : i = p.length + w.cps.toList.length := by
        rcases Nat.lt_trichotomy i (p.length + w.cps.toList.length) with z | z | z
        · exact absurd c2 (no i c1 z)
        · exact z
        · exact absurd hA (c3 _ (by omega) z)
      subst hi
      have ih := parts_of hy (w2 :: ws) (p ++ (w.cps.toList ++ y.cps.toList)) rest f (by simp) (fun z hz => hw z (List.mem_cons_of_mem _ hz)) (by rw [hx']; simp [List.append_assoc]) (by
        rw [List.length_append, List.length_append, ← Nat.add_assoc]
        have e : y.cps.toList.length = y.length := Array.length_toList
        rw [e]; exact c4) hf
      rw [List.length_append, List.length_append, ← Nat.add_assoc, show y.cps.toList.length = y.length from Array.length_toList] at ih
      show strSub x p.length (p.length + w.cps.toList.length) :: partsFrom x y.length (p.length + w.cps.toList.length + y.length) rest = _
      rw [ih, str_ext (sub_mid hx')]
theorem split_of {x y : Str} {c : Nat} {r : List Nat} (hy : y.cps.toList = c :: r) (hk : Builtin.Str.strKind y = 1) {ws : List Str} (h : ws ≠ []) (hw : ∀ w ∈ ws, c ∉ w.cps.toList) (hx : x = Str.join y ws) : Txt.split x y = ws := by
 have hl : 1 ≤ y.length := by show 1 ≤ y.cps.size; rw [← Array.length_toList, hy]; simp
 obtain ⟨f, hc, hf⟩ := occ_tight x y hl
 have hp := parts_of hy ws [] (occurrences x y 0 x.length (x.length + 1)) f h hw (by rw [hx]; rfl) hc hf
 have one : ∀ {e : Prop}, (occurrences x y 0 x.length (x.length + 1)) = [] → ws = [x] := fun {e} z => by
  rw [z] at hp
  rw [← hp]
  show [strSub x 0 x.length] = [x]
  rw [sub_whole]
 unfold Txt.split
 by_cases h1 : (decide (x.length < y.length) || decide (Builtin.Str.strKind x < Builtin.Str.strKind y)) = true
 ·rw [if_pos h1]
  have hnk : ¬ Builtin.Str.strKind x < Builtin.Str.strKind y := by
   rw [hk]; unfold Builtin.Str.strKind; split
   ·omega
   ·split <;> omega
  have hlt : x.length < y.length := by
   rw [Bool.or_eq_true, decide_eq_true_eq, decide_eq_true_eq] at h1
   exact h1.resolve_right hnk
  refine (one (e := True) ?_).symm
  cases z : occurrences x y 0 x.length (x.length + 1) with
  | nil => rfl
  | cons i rest =>
   rw [z] at hc
   have := hc.2.1.1
   omega
 ·rw [if_neg h1]
  cases z : occurrences x y 0 x.length (x.length + 1) with
  | nil => rw [if_pos (show ([] : List Nat).isEmpty = true from rfl)]; exact (one (e := True) z).symm
  | cons i rest =>
   rw [if_neg (by simp), ← z, partsBetween_eq]
   exact hp
end L2
set_option Elab.async false
set_option linter.all false
namespace L2
open PySem PySem.Spec PyProof.Rows PySem.SeqAt PySem.Builtin PySem.Builtin.Str PySem.StrLaws
end L2
set_option Elab.async false
set_option linter.all false
set_option maxRecDepth 100000
set_option maxHeartbeats 4000000
namespace L2
open PySem PySem.Spec PyProof.Rows
section
variable {X : Cx}
end
end L2
set_option Elab.async false
set_option linter.all false
set_option maxRecDepth 100000
namespace L2
open PySem PySem.Spec PyProof.Rows
abbrev OKey := List (Option Int)
section
variable {P : Program} {w : World} {H : Hp}
end
section
variable {X : Cx} {pins : List (Addr × Obj)} {σ : St} {H : Hp} {s : Shared} {a b : Addr} {k : OKey} {kvs : List (OKey × V)}
end
end L2
set_option Elab.async false
set_option linter.all false
set_option maxRecDepth 100000
namespace L2
open PySem PySem.Spec PyProof.Rows
def CX1 (P : Program) (w : World) : CXT := fun outer H s E e s' =>
 ∃ (H' : Hp) (hR : Heap) (a : Addr) (C a0 : Value) (fl : List Addr), e = .ref a ∧ s'.os = s.os ∧ AllBare s'.gens ∧
  Un (frs outer) [] H H' s.heap hR ∧ HOk P w H' hR ∧ (∀ b ∈ fl, H' b = none ∧ (b ∈ frs outer ∨ s.heap.get? b = none)) ∧ (∀ b ∈ frs outer, b ∈ fl) ∧
  Heap.FlyingW (PySem.W.hideAll hR fl) outer a C a0 s'.heap ∧ hR.UpToSlots s'.heap ∧ E C none H'
theorem hok_hide {P : Program} {w : World} {H : Hp} {h h' : Heap} {fl : List Addr} (x : HOk P w H h) (hf : ∀ b ∈ fl, H b = none) (k : (PySem.W.hideAll h fl).StaysIn h') : HOk P w H h' := fun a o e => by
 refine (x a o e).stay (fun b u hb q => k b u (PySem.W.hideAll_get _ q fun z => ?_)) (fun _ q => q) fun _ _ q => q
 have := hf b z
 rcases hb with rfl | hb
 ·rw [e] at this; cases this
 ·rw [hb] at this; cases this
theorem hok_fly {P : Program} {w : World} {H : Hp} {h : Heap} {fl : List Addr} {a : Addr} (x : HOk P w H h) (hf : ∀ b ∈ fl, H b = none) (n : (PySem.W.hideAll h fl).get? a = none) : H a = none := by
 cases q : H a with
 | none => rfl
 | some o =>
  exfalso
  have y : ObjOk P w H (PySem.W.hideAll h fl) a o := hok_hide x hf (fun b o z => z) a o q
  have : ∃ ob, (PySem.W.hideAll h fl).get? a = some ob := by
   cases o with
   | lst xs => obtain ⟨_, _, _, _, e⟩ := y; exact ⟨_, e⟩
   | tup xs => obtain ⟨_, _, _, ob, e, _⟩ := y; exact ⟨_, e⟩
   | dK kvs => obtain ⟨_, _, _, _, o, _, _, e, _⟩ := y; exact ⟨_, e⟩
   | dT kvs => obtain ⟨_, _, _, _, o, _, _, e, _⟩ := y; exact ⟨_, e⟩
   | set S n => obtain ⟨o, _, _, _, e, _⟩ := y; exact ⟨_, e⟩
   | ins C dx fs => obtain ⟨_, _, _, e, _⟩ := y; exact ⟨_, e⟩
   | own y' => obtain ⟨_, e⟩ := y; exact ⟨_, e⟩
   | xd fs => obtain ⟨_, ⟨_, _, _, e, _⟩, _⟩ := y; exact ⟨_, e⟩
   | rng lo hi => obtain ⟨t, u, v, e⟩ := y; exact ⟨_, e⟩
   | frz ob u => exact ⟨_, y.1⟩
   | tbl ps => exact ⟨_, y⟩
   | met f z => exact ⟨_, y⟩
   | ext φ => exact y.2.1
  obtain ⟨ob, e⟩ := this
  rw [n] at e; cases e
theorem un_fly {P : Program} {w : World} {fs : List Addr} {H H' : Hp} {h hR h' : Heap} {fl : List Addr} (u : Un fs [] H H' h hR) (hf : ∀ b ∈ fl, H' b = none ∧ (b ∈ fs ∨ h.get? b = none)) (hs : ∀ b ∈ fs, b ∈ fl)
  (nf : ∀ b ∈ fs, H b = none ∧ ∃ o, h.get? b = some o ∧ ∀ vs, o.data ≠ .fields vs) (k : (PySem.W.hideAll hR fl).StaysIn h') (sl : hR.UpToSlots h') : Un fs [] H H' h h' := by
 have nfl : ∀ b o, h.get? b = some o → b ∉ fs → b ∉ fl := fun b o q hb z => by
  rcases (hf b z).2 with y | y
  ·exact hb y
  ·rw [q] at y; cases y
 refine ⟨fun b o q n hb hx => k b o (PySem.W.hideAll_get _ (u.keep b o q n hb hx) (nfl b o q hb)), fun b o q n hb hx => ?_, u.free, fun b o q hx => ?_, u.tups, u.frzs, u.tbls⟩
 ·obtain ⟨s1, e1⟩ := u.slot b o q n hb hx
  obtain ⟨_, o', e', nd⟩ := nf b hb
  rw [q] at e'; cases e'
  obtain ⟨s2, e2⟩ := sl b _ e1 nd
  exact ⟨s2, e2⟩
 ·by_cases hb : b ∈ fs
  ·obtain ⟨n, o', e', nd⟩ := nf b hb
   rw [q] at e'; cases e'
   obtain ⟨s1, e1⟩ := u.slot b o q n hb hx
   obtain ⟨s2, e2⟩ := sl b _ e1 nd
   exact ⟨_, e2⟩
  ·obtain ⟨o', e⟩ := u.there b o q hx
   exact ⟨o', k b o' (PySem.W.hideAll_get _ e (nfl b o q hb))⟩
structure Lv (X : Cx) (E : XK) : Prop where
 st : X.stack = X.env :: X.outer
 fr : X.env.frame = some X.env.locals
 ex : X.ex = []
 calm : X.calm = true
 xe : ∀ e s', wpAny (model X.prog X.w) X.A (leaving X.env e) (fun _ s'' => CX1 X.prog X.w X.outer X.H₀ X.s₀ E e s'') (fun e' s'' => CX1 X.prog X.w X.outer X.H₀ X.s₀ E e' s'') s' → X.xe e s'
theorem lv_of {P : Program} {w : World} {K : PySem.W.Frag} {mg : Str → Option Value} {base : Heap} {N : List Str} {qual : Str} {scope : Scope} {f : Addr} {cd : Value} {A : Around} {outer : List Env} {s : Shared} {H : Hp} {E : XK} :
  Lv (cxOf (CX1 P w) P w K mg base N qual scope f cd A outer s H E) E := ⟨rfl, rfl, rfl, rfl, fun _ _ h => h⟩
section
variable {X : Cx} {E : XK} {x : Str} {C : Addr} {bmB : List Value} {B newId initId : String} {np cpos pos : Pos} {e : Expr} {es : List Expr} {t : TA}
def tRaise (C : Addr) (E : XK) (ta : TA) : TS := fun _ σ H => ta σ H fun vs H1 => vs.length ≤ sizeLine ∧ E (.ref C) none H1
theorem Lv.sub (L : Lv X E) {b : Addr} (h : b ∈ frs X.outer) : b ∈ frs X.stack := by
 rw [L.st]; unfold frs; rw [List.filterMap_cons, L.fr]; exact List.mem_cons_of_mem _ h
theorem ps_raise (L : Lv X E) (O : OwnCls x C bmB newId X.mg X.base) (FB : ExcBaseFacts B newId initId bmB) (ha : PA X (e :: es) t) (hg : Gl X x := by rfl) (hd : (x == ("__debug__" : Str)) = false := by decide)
  (he : starEach (e :: es) X.env = (false, eval e X.env) :: starEach es X.env := by rfl) (hpl : (backTo cpos (starEach es X.env)).any (·.1) = false := by rfl) :
  PS X (.Raise (some (.Call (.Name x np) (e :: es) [] cpos)) none pos) (tRaise C E t) := by
 intro pins s σ H D I h
 obtain ⟨tl, N, nm, q, bs, hdct, sn, sub, ab, col, dd, k0, k1, k2, k3, k5, mN, hC, hN, hni, T⟩ := O.obj
 refine wpAny_Raise_call_subT (C := C) (nm := nm) (q := q) (N := N) (bs := bs) (bm := tl) (hdct := hdct) (sn := sn) (sub := sub) (ab := ab) (col := col) (dd := dd) (k0 := k0) (k1 := k1) (k2 := k2) (k3 := k3) (k5 := k5)
  FB (mN := mN) (T.hasType FB.hasBase) (I.ok.hd L.calm) (by rw [he]; show (false || (backTo cpos (starEach es X.env)).any (·.1)) = false; rw [hpl]; rfl) hni (ld_glob I hg O.bound ⟨rfl, ?_⟩ hd)
 have h0 := ha cpos pins s σ H _ I h
 rw [he] at h0 ⊢
 refine Calls.evalArgs_plain (wpAny_mono h0 (fun us s₂ ⟨vs, H2, I2, r, z, q⟩ => ⟨rfl, (by rw [← r.length]; exact z), I2.bk _ _ hC, hN.keeps I2.bk, T.keeps I2.bk, fun h' a hm => L.xe _ _ ?_⟩) fun _ _ y => y)
 have hin : ∀ env ∈ (X.env :: X.outer), ∀ b, env.frame = some b → b ∈ frs X.stack := fun env hm b hb => by
  rw [L.st]; exact List.mem_filterMap.mpr ⟨env, hm, hb⟩
 have hfr := I2.stack
 rw [L.st] at hfr
 refine wpAny_leaves_madeW (base := PySem.W.hideAll s₂.heap (frs X.stack)) (by rw [I.ok.frames, L.st]) L.fr (fun b o q => PySem.W.of_hideAll _ q) (PySem.W.funFrames_hide hfr hin) hm fun h'' t0 x1 x2 x3 x4 => ?_
 refine ⟨H2, s₂.heap, a, .ref C, .ref t0, frs X.stack, rfl, I2.os, I2.bare, (by have := I2.base; rw [L.ex] at this; exact this), I2.hok, fun b hb => ⟨I2.stkFree b hb, ?_⟩, fun b hb => L.sub hb, x1, (Heap.UpToSlots.of_keeps hm.keeps).trans x4, q⟩
 rcases List.mem_cons.mp (I2.stkSub b hb) with rfl | hb
 ·exact .inr (Heap.get?_none_of_le I2.ok.above)
 ·exact .inl hb
theorem pass1 (L : Lv X E) {E' : XK} (hE : ∀ C a H, E' C a H → E C a H) : Passes (CX1 X.prog X.w) X E' := by
 intro pins σ H s e s' I h
 obtain ⟨H', hR, a, C, a0, fl, rfl, os, bare, un, hok, hf, hs, fly, sl, q⟩ := h
 refine L.xe _ _ ?_
 have J : Inv X pins σ H' { s' with heap := hR } := I.call' (ch := []) os un hok bare (fun b z => absurd z (by simp))
 rw [L.st] at fly
 refine wpAny_leaves_onW (by rw [I.ok.frames, L.st]) L.fr fly fun h'' x1 x2 => ?_
 refine ⟨H', hR, a, C, a0, fl, rfl, J.os, bare, (by have := J.base; rw [L.ex] at this; exact this), hok, fun b hb => ⟨(hf b hb).1, ?_⟩, fun b hb => hs b (L.sub hb), x1, sl.trans x2, hE _ _ _ q⟩
 rcases (hf b hb).2 with z | z
 ·rcases List.mem_cons.mp (I.stkSub b z) with rfl | z
  ·exact .inr (Heap.get?_none_of_le I.ok.above)
  ·exact .inl z
 ·refine .inr ?_
  cases y : X.s₀.heap.get? b with
  | none => rfl
  | some o =>
   obtain ⟨o', y'⟩ := I.base.there b o y (by rw [L.ex]; simp)
   rw [z] at y'; cases y'
end
structure CalX (P : Program) (w : World) (K : PySem.W.Frag) (mg : Str → Option Value) (base : Heap) (k : Nat) (x : Str) (ps : List Str) (sp : Sp) : Prop where
 ex : ∃ f fd, FnOk P w K mg base (CX1 P w) k f fd ps sp ∧ Binds K fd ps [] ∧ PySem.W.keepIn K (.ref f) = true ∧ mg x = some (.ref f)
section
variable {P : Program} {w : World} {K : PySem.W.Frag} {mg : Str → Option Value} {base : Heap}
theorem CalX.calm {k : Nat} {x : Str} {ps : List Str} {sp sp' : Sp} (c : CalX P w K mg base k x ps sp) (h : ∀ vs H Q E, sp' vs H Q E → sp vs H Q E0) : Cal P w K mg base k x ps sp' := by
 obtain ⟨f, fd, F, b, kp, m⟩ := c.ex
 refine ⟨f, fd, ⟨fun vs H Q E q => F.len vs H Q _ (h _ _ _ _ q), fun A outer s H args us vs Q E hr he hb hv hs => codeAny_mono (F.run A outer s H args us vs Q E0 hr he hb hv (h _ _ _ _ hs)) fun r s' h => ?_⟩, b, kp, m⟩
 cases r with
 | error e => obtain ⟨_, _, _, _, _, _, _, _, _, _, _, _, _, _, _, q⟩ := h; exact False.elim q
 | ok fl => cases fl <;> exact h
theorem DefAt.calX {x : Str} {st : Stmt} {N ps : List Str} {k : Nat} {sp : Sp} (D : DefAt K mg x st) (S : FnScope N ps (defScope st))
  (hb : ∀ (kV doc pm : Value) (an : Option Addr) (cdv ct : Value) (us : List Value), us.length = ps.length → bindArgs (PySem.W.fnOf x x (defArgs st) (defBody st) (defScope st) .none kV doc pm an cdv ct) ⟨us, []⟩ = pure (ps.zip us))
  (len : ∀ vs H Q E, sp vs H Q E → vs.length = ps.length)
  (hbody : ∀ (f : Addr) (cdv : Value) (A : Around) (outer : List Env) (s : Shared) (H : Hp) (vs : List V) (Q : VK) (E : XK), Room k (A.deeper (envOfC x (defScope st) s.heap.objs.size f cdv)) → sp vs H Q E →
   ∃ t, PSs (cxOf (CX1 P w) P w K mg base N x (defScope st) f cdv A outer s H E) (defBody st) t ∧ t { nx := fun _ H' => Q .non H', rt := Q } (start N vs) H) : CalX P w K mg base (k + 1) x ps sp := by
 obtain ⟨f, fd, F, m⟩ := D.ex
 have fb := F.binds hb
 have kp := F.kp
 obtain ⟨oc, od, kV, doc, pm, an, cdv, ct, osl, rfl, lk, hcd⟩ := F.ex
 exact ⟨f, _, fn_of lk hcd S len fun A outer s H vs Q E hr hsp => hbody f cdv A outer s H vs Q E hr hsp, fb, kp, m⟩
end
section
variable {X : Cx}
theorem pe_calX {E E' : XK} {j k : Nat} {x : Str} {ps : List Str} {sp : Sp} {p pos : Pos} {e : Expr} {es : List Expr} {t : TA} (L : Lv X E) (c : CalX X.prog X.w X.K X.mg X.base j x ps sp) (hE : ∀ C a H, E' C a H → E C a H) (hr : Room k X.A) (ha : PA X (e :: es) t) (hle : j ≤ k := by decide) (hg : Gl X x := by rfl)
  (hdb : (x == ("__debug__" : Str)) = false := by decide) (he : starEach (e :: es) X.env = (false, eval e X.env) :: starEach es X.env := by rfl) (hpl : (backTo pos (starEach es X.env)).any (·.1) = false := by rfl) :
  PE X (.Call (.Name x p) (e :: es) [] pos) (tCall sp [] E' t) := by
 obtain ⟨f, fd, F, b, kp, m⟩ := c.ex
 exact pe_call F (hr.mono hle) hg m kp b .nil (pass1 L hE) ha hdb he hpl
end
def XA (X : Cx) (Ee : XK) (pins : List (Addr × Obj)) (σ : St) : Value → Shared → Prop := fun e s' => ∃ H0 s0, Inv X pins σ H0 s0 ∧ CX1 X.prog X.w X.stack H0 s0 Ee e s'
def EAt (X : Cx) (Ee : XK) (e : Expr) (t : TE) : Prop :=
 ∀ (pins : List (Addr × Obj)) (s : Shared) (σ : St) (H : Hp) (Q : VK), Inv X pins σ H s → t σ H Q → wpAny (model X.prog X.w) X.A (eval e X.env) (EP X pins σ Q) (XA X Ee pins σ) s
def SAt (X : Cx) (Ee : XK) (st : Stmt) (t : TS) : Prop :=
 ∀ (pins : List (Addr × Obj)) (s : Shared) (σ : St) (H : Hp) (D : Ends), Inv X pins σ H s → t D σ H → wpAny (model X.prog X.w) X.A (exec st X.env) (SP X pins D) (XA X Ee pins σ) s
def SsAt (X : Cx) (Ee : XK) (st : List Stmt) (t : TS) : Prop :=
 ∀ (pins : List (Addr × Obj)) (s : Shared) (σ : St) (H : Hp) (D : Ends), Inv X pins σ H s → t D σ H → wpAny (model X.prog X.w) X.A (execs st X.env) (SP X pins D) (XA X Ee pins σ) s
section
variable {X : Cx} {Ee : XK}
theorem at_call {j k : Nat} {x : Str} {ps : List Str} {sp : Sp} {p pos : Pos} {e : Expr} {es : List Expr} {t : TA} (c : CalX X.prog X.w X.K X.mg X.base j x ps sp) (hr : Room k X.A) (ha : PA X.nox (e :: es) t) (hle : j ≤ k := by decide) (hg : Gl X x := by rfl)
  (hdb : (x == ("__debug__" : Str)) = false := by decide) (he : starEach (e :: es) X.env = (false, eval e X.env) :: starEach es X.env := by rfl) (hpl : (backTo pos (starEach es X.env)).any (·.1) = false := by rfl) :
  EAt X Ee (.Call (.Name x p) (e :: es) [] pos) (tCall sp [] Ee t) := by
 obtain ⟨f, fd, F, b, kp, m⟩ := c.ex
 intro pins s σ H Q I h
 refine wpAny_Call_Name_kw (ld_glob I hg m ?_ hdb)
 refine PySem.W.callWith_K (h₀ := X.base) I.ok.mod.kin kp (wpAny_mono (ha pos pins s σ H _ (I.wish _) h) (fun us s1 ⟨vs, H1, I1, r, q⟩ => ⟨I1.kIn, ?_⟩) fun _ _ z => False.elim z) he hpl
 have I1 := I1.unwish
 have q : sp vs H1 Q Ee := by have := q; simp only [List.append_nil] at this; exact this
 have hl : us.length = ps.length := by rw [← r.length]; exact F.len _ _ _ _ q
 have hb := b s1 us I1.kIn (by rw [List.append_nil]; exact hl)
 rw [List.append_nil] at hb
 refine wpAny_call (codeAny_mono (F.run X.A X.stack s1 H1 ⟨us, []⟩ us vs Q Ee (hr.mono hle) I1.env0 hb r q) fun r s' hq => ?_)
 cases r with
 | error e => exact ⟨H1, s1, I1, hq⟩
 | ok fl =>
  cases fl with
  | ret u => exact I1.after hq
  | next => exact False.elim hq
  | brk => exact False.elim hq
  | cont => exact False.elim hq
theorem at_expr {e : Expr} {te : TE} {pos : Pos} (he : EAt X Ee e te) (hs : swapsWith e none pos.line X.env = pure false := by rfl) : SAt X Ee (.Expr e pos) (tDrop te) := by
 intro pins s σ H D I h
 exact wpAny_Expr_any (thn (he pins s σ H _ I h) fun v s1 ⟨x, H1, I1, r1, q1⟩ => ⟨σ, H1, I1, q1⟩) I.quiet hs
theorem ats_one {st : Stmt} {t : TS} (h : SAt X Ee st t) : SsAt X Ee [st] t := by
 intro pins s σ H D I h'
 refine wpAny_execs_cons (thn (h pins s σ H D I h') fun f s1 q => ?_)
 cases f with
 | next => exact wpAny_execs_nil q
 | ret v => exact q
 | brk => exact q
 | cont => exact q
end
abbrev Cx.held (X : Cx) (a : Addr) : Cx := { X with A := X.A.mark (some (.ref a)), calm := false, xe := fun _ _ => False }
section
variable {X : Cx} {pins : List (Addr × Obj)} {σ : St} {H : Hp} {s : Shared}
theorem Inv.held (I : Inv X pins σ H s) (a : Addr) : Inv (X.held a) pins σ H s :=
 ⟨⟨I.ok.mod, I.ok.kind, I.ok.glob, I.ok.blt, I.ok.above, I.ok.inj, I.ok.has, I.ok.cab, fun z => Bool.noConfusion (show false = true from z), I.ok.frames, I.ok.stk, I.ok.exf, I.ok.bs, I.ok.bsz, I.ok.noex, I.ok.exfs, I.ok.funs, I.ok.frf⟩, I.os, I.bare, I.base, I.loc, I.cell, I.free, I.freeC, I.pin, I.hok, I.len⟩
theorem Inv.unheld {a : Addr} (I : Inv (X.held a) pins σ H s) (ok : X.Ok) : Inv X pins σ H s := ⟨ok, I.os, I.bare, I.base, I.loc, I.cell, I.free, I.freeC, I.pin, I.hok, I.len⟩
theorem Inv.track {a : Addr} {o : HO} (I : Inv X pins σ H s) (hn : H a = none) (h0 : ∀ b ob, X.s₀.heap.get? b = some ob → b ≠ a) (hl : X.env.locals ≠ a) (hc : ∀ x c, X.env.cells.lookup x = some c → c ≠ a)
  (hp : ∀ p ∈ X.pn ++ pins, p.1 ≠ a) (ok : ObjOk X.prog X.w (upd H a o) s.heap a o) (hx : X.ex = []) : Inv X pins σ (upd H a o) s := by
 refine ⟨I.ok, I.os, I.bare, ⟨I.base.keep, I.base.slot, fun b ob q n z => ?_, I.base.there, fun b xs q => ?_, fun b ob xs q => ?_, fun b ps q => ?_⟩, I.loc, I.cell, ?_, fun x c q => ?_, fun p hm => ?_, fun b ob q => ?_, I.len⟩
 ·rw [upd_ne (h0 b ob q)]; exact I.base.free b ob q n z
 ·have := I.base.tups b xs q; rw [upd_ne (ne_of_none this hn)]; exact this
 ·have := I.base.frzs b ob xs q; rw [upd_ne (ne_of_none this hn)]; exact this
 ·obtain ⟨m, e⟩ := I.base.tbls b ps q; exact ⟨m, by rw [upd_ne (ne_of_none e hn)]; exact e⟩
 ·rw [upd_ne hl]; exact I.free
 ·rw [upd_ne (hc x c q)]; exact I.freeC x c q
 ·obtain ⟨e1, e2, e3⟩ := I.pin p hm
  exact ⟨e1, by rw [upd_ne (hp p hm)]; exact e2, e3⟩
 ·by_cases e : b = a
  ·subst e; rw [show upd H b o b = some o from if_pos rfl] at q; cases q; exact ok
  ·rw [upd_ne e] at q
   exact (I.hok b ob q).stay (fun _ _ _ z => z) (fun c z => by rw [upd_ne (ne_of_none z hn)]; exact z) fun c xs z => by rw [upd_ne (ne_of_none z hn)]; exact z
theorem Inv.goes {i : Nat} {x : Str} {v : Option Value} {h' : Heap} {m : Str → Option Value} {t' : Nat} (I : Inv X pins σ H s) (hN : X.N.Nodup) (hi : X.N[i]? = some x) (hk : X.env.kindOf x = some .local)
  (hl : ∀ (i : Nat) (x : Str) (v : V), X.N[i]? = some x → σ[i]? = some (some v) → Vis X.env.scope x → ∃ u, RelV v u ∧ Look X.env s.heap m x u)
  (hn' : h'.Ns X.env.locals (fun y => if y = x then v else m y)) (hn : s.heap.Ns X.env.locals m) (hs : Heap.SameBut X.env.locals s.heap h') : Inv X pins (σ.set i none) H { s with heap := h', toks := t' } := by
 have cne := I.cne
 have neL : ∀ b o, X.s₀.heap.get? b = some o → b ≠ X.env.locals := fun b o e => Nat.ne_of_lt (Nat.lt_of_lt_of_le (Heap.lt_size e) I.ok.above)
 have hiσ : i < σ.length := by rw [I.len]; exact (List.getElem?_eq_some_iff.mp hi).1
 refine ⟨I.ok, I.os, I.bare, ⟨fun b o e n hb hx => ?_, fun b o e n hb hx => ?_, I.base.free, fun b o e hx => ?_, I.base.tups, I.base.frzs, I.base.tbls⟩, ⟨_, hn', fun j y v' e1 e2 e3 => ?_⟩, fun y c e => ?_, I.free, I.freeC, fun p hp => ?_, fun b ob e => ?_, by simpa using I.len⟩
 ·exact (hs.2 b (neL b o e)).trans (I.base.keep b o e n hb hx)
 ·obtain ⟨sl, e1⟩ := I.base.slot b o e n hb hx
  exact ⟨sl, (hs.2 b (neL b o e)).trans e1⟩
 ·obtain ⟨o', e1⟩ := I.base.there b o e hx
  exact ⟨o', (hs.2 b (neL b o e)).trans e1⟩
 ·by_cases hj : j = i
  ·subst hj
   rw [List.getElem?_set_self hiσ] at e2
   cases e2
  ·rw [List.getElem?_set_ne (Ne.symm hj)] at e2
   obtain ⟨u', r', q⟩ := hl j y v' e1 e2 e3
   refine ⟨u', r', ?_⟩
   rcases q with ⟨k, e⟩ | ⟨k, c, e, z⟩
   ·refine .inl ⟨k, ?_⟩
    have : y ≠ x := fun e => hj (nodup_ix hN e1 (e ▸ hi))
    simp [this, e]
   ·exact .inr ⟨k, c, e, z.sameBut hs (cne y c e)⟩
 ·obtain ⟨w', z⟩ := I.cell y c e
  exact ⟨w', z.sameBut hs (cne y c e)⟩
 ·obtain ⟨e, n, ne, nf, d⟩ := I.pin p hp
  exact ⟨(hs.2 p.1 ne).trans e, n, ne, nf, d⟩
 ·refine (I.hok b ob e).stay (fun c w' hc q => (hs.2 c ?_).trans q) (fun _ q => q) fun _ _ q => q
  rintro rfl
  have hfree := I.free
  rcases hc with rfl | hc
  ·rw [hfree] at e; cases e
  ·rw [hfree] at hc; cases hc
end
abbrev exO (a : Addr) (C : Value) : HO := .ext fun h => ∃ o, h.get? a = some o ∧ o.cls = C
section
variable {X : Cx} {x n : Str} {C : Addr} {bmB : List Value} {B newId initId : String} {np hp pos : Pos} {body suite : List Stmt} {b₀ : Stmt} {tb : XK → TS} {th : TS} {rest : List ExceptHandler}
end
end L2
set_option Elab.async false
set_option linter.all false
set_option maxRecDepth 100000
namespace L2
open PySem PySem.Spec PyProof.Rows
def tailQ (K : PySem.W.Frag) (bmB : List Value) : List Value → Bool
 | [] => bmB == []
 | v :: r => (v :: r) == bmB || match v with
  | .ref A => (match K.lookup A with
   | some ⟨_, _, .cls cd, _⟩ => PySem.W.nsOkIn K cd.ns && quietNames.all (fun n => PySem.W.nsIn K cd.ns n == some none) && tailQ K bmB r
   | _ => false)
  | _ => false
theorem tailQ_of {K : PySem.W.Frag} {h : Heap} {bmB : List Value} (X : K.In h) : ∀ {l : List Value}, tailQ K bmB l = true → OwnTailQ h bmB l
 | [], e => by rw [← beq_iff_eq.mp e]; exact .base
 | v :: r, e => by
  unfold tailQ at e
  rcases Bool.or_eq_true_iff.mp e with q | q
  ·rw [beq_iff_eq.mp q]; exact .base
  ·split at q
   ·split at q
    ·rename_i ho
     rw [Bool.and_eq_true, Bool.and_eq_true] at q
     exact .own (X _ _ ho) (.of_isNs (PySem.W.isNs_of_in X q.1.1)) (fun n hn => PySem.W.nsMap_none_of_in X q.1.1 (beq_iff_eq.mp (List.all_eq_true.mp q.1.2 n hn))) (tailQ_of X q.2)
    ·cases q
   ·cases q
def excQ (K : PySem.W.Frag) (C : Addr) (bmB : List Value) (newId : String) : Bool := match K.lookup C with
 | some ⟨.type "type", _, .cls cd, sl⟩ => (match cd.mro, sl.toList with
  | .ref C' :: bm, [_, _, _, _, some (.builtin n), _] => C' == C && n == newId && !cd.hasDel && tailQ K bmB bm && PySem.W.nsOkIn K cd.ns && quietNames.all fun n => PySem.W.nsIn K cd.ns n == some none
  | _, _ => false)
 | _ => false
theorem ownQ_of {K : PySem.W.Frag} {h : Heap} {mg : Str → Option Value} {x : Str} {C : Addr} {bmB : List Value} {newId : String} (X : K.In h) (m : mg x = some (.ref C)) (q : excQ K C bmB newId = true) : OwnClsQ x C bmB newId mg h := by
 refine ⟨m, ?_⟩
 unfold excQ at q
 split at q
 ·rename_i dd cd sl ho
  split at q
  ·rename_i C' bm k0 k1 k2 k3 n k5 hm hs
   simp only [Bool.and_eq_true, beq_iff_eq, Bool.not_eq_true'] at q
   obtain ⟨⟨⟨⟨⟨rfl, rfl⟩, hdel⟩, ht⟩, hok⟩, hni⟩ := q
   obtain ⟨nm, bs, mro, ns, qn, hd, sn, sub, ab, col, del⟩ := cd
   dsimp only at hm hdel hok hni
   subst hm hdel
   have hsl : sl = #[k0, k1, k2, k3, some (.builtin n), k5] := by
    obtain ⟨l⟩ := sl
    simp only at hs
    rw [hs]
   subst hsl
   exact ⟨bm, ns, nm, qn, bs, hd, sn, sub, ab, col, dd, k0, k1, k2, k3, k5, _, X _ _ ho, .of_isNs (PySem.W.isNs_of_in X hok), fun n hn => PySem.W.nsMap_none_of_in X hok (beq_iff_eq.mp (List.all_eq_true.mp hni n hn)), tailQ_of X ht⟩
  ·cases q
 ·cases q
section
variable {prog : Program} {w : World} {A : Around} {E : Value → Shared → Prop} {h : Heap} {g : Array GenState} {d : Drawn} {t : Nat} {os : OsState} {a : Addr} {o : Obj} {K : PySem.W.Frag}
 {x : Str} {C : Addr} {bmB : List Value} {B newId : String} {mg : Str → Option Value}
theorem class_get_exc {R : Result → Shared → Prop} (X : K.In h) (hx : h.get? a = some o) (hc : o.cls = .ref C) (hm : PySem.W.subIn K (.ref C) (.type "object") = some true) (hq : R (.ok (.ret (.ref C))) ⟨h, g, d, t, os⟩) :
  codeAny (model prog w) A (.call (.builtin "getset_descriptor.__get__") ⟨[.builtin "object.__class__", .ref a, .ref C], []⟩) R ⟨h, g, d, t, os⟩ := by
 have hT5 : (⟨h, g, d, t, os⟩ : Shared).TypeIs (.builtin "object.__class__") "getset_descriptor" := F.typeOf_object_class
 have f8 : PySem.W.Looks (model prog w) h (isSubtype (.ref C) (.type (".".intercalate ("object.__class__".cutAt '.').dropLast))) true := by
  rw [F.owner_object_class]; exact PySem.W.looks_subIn X hm
 refine codeAny_call_builtin F.slot_gs_get.plain F.entry_gs_get (F.slot_gs_get.check _ _ _ _ _ _ _ _ hT5 (F.args_gs_get _ _ _) ?_)
 repeat (any_goals (first | assumption | (with_reducible refine wpAny_loadPart_at hx ?_; rw [hc]) | with_reducible refine PySem.W.Looks.at f8 ?_ | wp_step))
 refine ⟨Code.quiet_builtin _ (by decide +kernel), codeAny_builtin F.entry_object_class ?_⟩
 repeat (any_goals (first | assumption | (with_reducible refine wpAny_loadPart_at hx ?_; rw [hc]) | wp_step))
theorem class_entry_exc {tk : Tok} {Q : Fin → Shared → Prop} (X : K.In h) (hx : h.get? a = some o) (hc : o.cls = .ref C) (hm : PySem.W.subIn K (.ref C) (.type "object") = some true) (hf : PySem.W.findIn K (.ref C) "__class__" = some (some (.builtin "object.__class__")))
  (hq : Q (.done (.ret (.ref C))) ⟨h, g, d, t, os⟩) :
  wpAny (model prog w) A (Builtin.«object.__getattribute__» ⟨[.ref a, .str "__class__" tk], []⟩) Q E ⟨h, g, d, t, os⟩ := by
 have hT5 : (⟨h, g, d, t, os⟩ : Shared).TypeIs (.builtin "object.__class__") "getset_descriptor" := F.typeOf_object_class
 have f4 : PySem.W.Looks (model prog w) h _ _ := PySem.W.looks_findIn X hf
 have f5 := F.typeOf_object_class
 have f6 := F.slot_gs_get.lookup
 have f7 := F.slot_gs_set.lookup
 repeat (any_goals (first | assumption | (with_reducible refine wpAny_loadPart_at hx ?_; rw [hc]) | with_reducible refine PySem.W.Looks.at f4 ?_ | wp_step))
 refine class_get_exc X hx hc hm ?_
 repeat (any_goals (first | assumption | wp_step))
theorem class_call_exc {tk : Tok} {R : Result → Shared → Prop} (X : K.In h) (O : OwnClsQ x C bmB newId mg h) (FB : ExcAttrBase B bmB) (hx : h.get? a = some o) (hc : o.cls = .ref C) (hm : PySem.W.subIn K (.ref C) (.type "object") = some true) (hf : PySem.W.findIn K (.ref C) "__class__" = some (some (.builtin "object.__class__")))
  (hq : R (.ok (.ret (.ref C))) ⟨h, g, d, t, os⟩) : codeAny (model prog w) A (.call (.builtin "BaseException.__getattribute__") ⟨[.ref a, .str "__class__" tk], []⟩) R ⟨h, g, d, t, os⟩ := by
 obtain ⟨bm, N, nm, q, bs, hdct, sn, sub, ab, col, dd, k0, k1, k2, k3, k5, mN, hC, hN, hmN, T⟩ := O.obj
 exact codeAny_call_builtin FB.ga.plain F.entry_bexc_ga (wpAny_check_ga_own FB hC T hx hc (class_entry_exc X hx hc hm hf hq))
theorem class_by_exc {tk : Tok} {fill expr : Bool} {Q : Value → Shared → Prop} (X : K.In h) (O : OwnClsQ x C bmB newId mg h) (FB : ExcAttrBase B bmB) (hx : h.get? a = some o) (hc : o.cls = .ref C) (hm : PySem.W.subIn K (.ref C) (.type "object") = some true) (hf : PySem.W.findIn K (.ref C) "__class__" = some (some (.builtin "object.__class__")))
  (hq : Q (.ref C) ⟨h, g, d, t, os⟩) : wpAny (model prog w) A (getAttrBy (.ref a) (.str "__class__" tk) fill expr) Q E ⟨h, g, d, t, os⟩ := by
 obtain ⟨bm, N, nm, q, bs, hdct, sn, sub, ab, col, dd, k0, k1, k2, k3, k5, mN, hC, hN, hmN, T⟩ := id O.obj
 have f3 := FB.ga.bind (.ref a)
 have hx0 : (expr && onTheHeap (Value.builtin "BaseException.__getattribute__")) = false := by cases expr <;> rfl
 have hx2 : (Value.builtin "BaseException.__getattribute__" == Value.builtin "object.__getattribute__") = false := by decide +kernel
 have hx1 : (onTheHeap (Value.ref C) && Value.builtin "BaseException.__getattribute__" == Value.builtin "object.__getattribute__") = false := by rw [hx2]; rfl
 have hm1 : ("__getattribute__" : Str) ∈ quietNames := .tail _ (.head _)
 have hm2 : ("__getattr__" : Str) ∈ quietNames := .tail _ (.tail _ (.head _))
 repeat (any_goals (first | assumption | (with_reducible refine wpAny_loadPart_at hx ?_; rw [hc]) | with_reducible refine wpAny_typeLookup_tailQ hm1 hC hN hmN T FB.mro FB.ga.lookup ?_ | with_reducible refine wpAny_typeLookup_tailQ hm2 hC hN hmN T FB.mro FB.noGetattr ?_ | wp_step))
 refine class_call_exc X O FB hx hc hm hf ?_
 repeat (any_goals (first | assumption | wp_step))
theorem class_attr_exc {Q : Option Value → Shared → Prop} (X : K.In h) (O : OwnClsQ x C bmB newId mg h) (FB : ExcAttrBase B bmB) (hx : h.get? a = some o) (hc : o.cls = .ref C) (hm : PySem.W.subIn K (.ref C) (.type "object") = some true) (hf : PySem.W.findIn K (.ref C) "__class__" = some (some (.builtin "object.__class__")))
  (hq : Q (some (.ref C)) ⟨h, g, d, t + 1, os⟩) : wpAny (model prog w) A (getAttr? (.ref a) "__class__") Q E ⟨h, g, d, t, os⟩ := by
 unfold getAttr? getAttrBy?
 repeat (any_goals (first | assumption | with_reducible apply class_by_exc X O FB hx hc hm hf | wp_step))
theorem kitx_exc {a : Addr} (FB : ExcAttrBase B bmB) (q : excQ K C bmB newId = true) (hm : PySem.W.subIn K (.ref C) (.type "object") = some true) (hf : PySem.W.findIn K (.ref C) "__class__" = some (some (.builtin "object.__class__"))) :
  PySem.W.KitX K (.ref a) (.ref C) (fun h => ∃ o, h.get? a = some o ∧ o.cls = .ref C) where
 ty := fun _ _ _ ⟨o, h1, h2⟩ => h2 ▸ (PySem.W.Looks.ld h1).andThen .now
 it := fun _ h X _ => by
  obtain ⟨bm, N, nm, q, bs, hdct, sn, sub, ab, col, dd, k0, k1, k2, k3, k5, mN, hC, _⟩ := (ownQ_of (x := "") (mg := fun _ => some (.ref C)) X rfl q).obj
  intro A' Q' E' s' k q
  unfold isType loadHead
  exact wpAny_bind (wpAny_loadPart (k _ _ hC) (wpAny_pure q))
 ne := fun h tp dd its n sl X htp => by
  obtain ⟨bm, N, nm, q, bs, hdct, sn, sub, ab, col, dd, k0, k1, k2, k3, k5, mN, hC, _⟩ := (ownQ_of (x := "") (mg := fun _ => some (.ref C)) X rfl q).obj
  refine Bool.eq_false_iff.mpr fun q => ?_
  have e : C = tp := Value.ref.inj (beq_iff_eq.mp q)
  subst e
  rw [hC] at htp
  have := congrArg Obj.data (Option.some.inj htp)
  cases this
 ca := fun {prog w A E Q s} X ⟨o, h1, h2⟩ k => by
  obtain ⟨h, g, d, t, os⟩ := s
  exact class_attr_exc X (ownQ_of (x := "") (mg := fun _ => some (.ref C)) X rfl q) FB h1 h2 hm hf k
end
section
variable {X : Cx}
structure ExcC (K : PySem.W.Frag) (C : Addr) : Prop where
 q : excQ K C [.type "ValueError", .type "Exception", .type "BaseException", .type "object"] "ValueError.__new__" = true
 sub : PySem.W.subIn K (.ref C) (.type "object") = some true
 cls : PySem.W.findIn K (.ref C) "__class__" = some (some (.builtin "object.__class__"))
def clsU : V → Option Value
 | .ref C => some (.ref C)
 | .ty T => some (.type T)
 | _ => none
def rIsX (K : PySem.W.Frag) : List V → Hp → VK → Prop := fun vs H Q => ∃ a C c u b, vs = [.ref a, c] ∧ H a = some (exO a (.ref C)) ∧ ExcC K C ∧ clsU c = some u ∧ PySem.W.kitOne K (.ref C) u = some b ∧ Q (.bl b) H
theorem call_isX (K : PySem.W.Frag) (hK : X.K = K := by rfl) : CallR X (.builtin "isinstance") (rIsX K) := by
 subst hK
 intro pins s σ H vs us Q I r h
 obtain ⟨a, C, c, u, b, rfl, ha, ec, hc, hk, q⟩ := h
 obtain ⟨u1, u2, rfl, r1, r2⟩ := vals2 r
 cases r1
 have hu : u2 = u := by
  cases c <;> simp only [clsU, Option.some.injEq, reduceCtorEq] at hc
  ·subst hc; exact r2
  ·subst hc; exact r2
 subst hu
 obtain ⟨p, _, _⟩ := (show ObjOk X.prog X.w H s.heap a (exO a (.ref C)) from I.hok a _ ha)
 exact PySem.W.kia_one (kitx_exc F.attrBase_ValueError ec.q ec.sub ec.cls) I.kIn p hk (fun z => nomatch z) fun tk => ⟨.bl b, H, I.tok tk, rfl, q⟩
theorem pe_gcls {x : Str} {C : Addr} {pos : Pos} (h : X.mg x = some (.ref C)) (hg : Gl X x := by rfl) (hd : (x == ("__debug__" : Str)) = false := by decide) : PE X (.Name x pos) (tC (.ref C)) := pe_glob hg h rfl hd
end
end L2
set_option Elab.async false
set_option linter.all false
set_option maxRecDepth 100000
namespace L2
open PySem PySem.Spec PyProof.Rows
section
variable {P : Program} {w : World} {K : PySem.W.Frag} {mg : Str → Option Value} {base : Heap}
end
section
variable {X : Cx}
end
structure ExcAt (K : PySem.W.Frag) (mg : Str → Option Value) (x : Str) (C : Addr) : Prop where
 c : ExcC K C
 m : mg x = some (.ref C)
section
variable {X : Cx} {E : XK} {x n : Str} {C : Addr} {np cpos hp pos : Pos} {e : Expr} {es body suite : List Stmt} {b₀ : Stmt} {t : TA} {tb : XK → TS} {th : TS} {rest : List ExceptHandler}
theorem ps_raiseA {e : Expr} {es : List Expr} (L : Lv X E) (o : ExcAt X.K X.mg x C) (ha : PA X (e :: es) t) (hg : Gl X x := by rfl) (hd : (x == ("__debug__" : Str)) = false := by decide)
  (he : starEach (e :: es) X.env = (false, eval e X.env) :: starEach es X.env := by rfl) (hpl : (backTo cpos (starEach es X.env)).any (·.1) = false := by rfl) :
  PS X (.Raise (some (.Call (.Name x np) (e :: es) [] cpos)) none pos) (tRaise C E t) := fun pins s σ H D I h =>
 ps_raise L (ownQ_of I.ok.mod.kin o.m o.c.q).own F.excBase_ValueError ha hg hd he hpl pins s σ H D I h
end
theorem isX_of {K : PySem.W.Frag} {a C : Addr} {c : V} {u : Value} {b : Bool} {H : Hp} {Q : VK} (ha : H a = some (exO a (.ref C))) (ec : ExcC K C) (hk : PySem.W.kitOne K (.ref C) u = some b) (q : Q (.bl b) H) (hc : clsU c = some u := by rfl) : rIsX K [.ref a, c] H Q :=
 ⟨a, C, c, u, b, rfl, ha, ec, hc, hk, q⟩
theorem tRaise_at {C : Addr} {E : XK} {ta : TA} {D : Ends} {σ : St} {H : Hp} : tRaise C E ta D σ H = ta σ H fun vs H1 => vs.length ≤ sizeLine ∧ E (.ref C) none H1 := rfl
section
variable {X : Cx} {x : Str} {C : Addr} {np hp pos : Pos} {body suite : List Stmt} {b₀ : Stmt} {tb : XK → TS} {th : TS} {rest : List ExceptHandler}
end
end L2
set_option Elab.async false
set_option linter.all false
set_option maxRecDepth 100000
set_option maxHeartbeats 4000000
namespace L2
open PySem PySem.Spec PyProof PyProof.Rows
section
variable {K : PySem.W.Frag} {a b : Addr} {xs ys : List V} {g : TG} {te : TE} {nT : Nat} {σ : St} {D : Addr} {Q : VK} {H : Hp}
end
section
variable {prog : Program} {w : World} {A : Around} {E : Value → Shared → Prop} {s : Shared}
end
end L2
set_option Elab.async false
set_option linter.all false
set_option maxRecDepth 100000
set_option maxHeartbeats 4000000
namespace L2
open PySem PySem.Spec PyProof PyProof.Rows
section
variable {X : Cx}
end
section
variable {X : Cx}
end
section
variable {d : Addr} {o : Obj} {kvs : List (Key × V)} {g : TG} {σ : St} {H : Hp}
end
end L2
namespace PySem.SeqAt
open AutoSeq1 (wpAny_loadPart')
open MeetsSeq MeetsSeq2 MeetsSeq3
end PySem.SeqAt
namespace L2
open PySem PySem.Spec PyProof PyProof.Rows
section
variable {X : Cx}
end
end L2
namespace L2
open PySem PySem.Spec PyProof PyProof.Rows
section
variable {X : Cx}
def rLenST (w : World) : List V → Hp → VK → Prop := fun xs H Q => ∃ p, ∃ ds : List Str, xs = [.ref p] ∧ H p = some (setOT w p ds) ∧ Q (.int ds.length) H
theorem call_lenST (w : World) (hw : X.w = w := by rfl) : CallR X (.builtin "len") (rLenST w) := by
 subst hw
 intro pins s σ H xs us Q I r h
 obtain ⟨p, ds, rfl, e, q⟩ := h
 obtain ⟨u, rfl, ru⟩ := vals1 r
 cases ru
 obtain ⟨o, es, ep, t, ho, hx, hd, hfew, hf, hg, hint, hds⟩ := (show ObjOk X.prog X.w H s.heap p (setOT X.w p ds) from I.hok p _ e).1
 have hl : es.size = ds.length := by rw [← hds, List.length_map, Array.length_toList]
 refine call_len_set ho hx hd hf ?_ ?_
 ·have : scanBound < 2 ^ 63 := by decide
  omega
 ·exact ⟨.int ds.length, H, I.tok _, ⟨_, by rw [hl]⟩, q⟩
end
end L2
set_option Elab.async false
set_option linter.all false
set_option maxRecDepth 100000
namespace L2
open PySem PySem.Spec PyProof.Rows PySem.SeqAt PySem.Builtin PySem.Builtin.Str PySem.StrLaws
end L2
set_option Elab.async false
set_option linter.all false
set_option maxRecDepth 100000
namespace L2
open PySem PySem.Spec PyProof.Rows PySem.SeqAt PySem.Builtin PySem.Builtin.Str PySem.StrLaws
end L2
set_option Elab.async false
set_option linter.all false
set_option maxRecDepth 100000
namespace L2
open PySem PySem.Spec PyProof.Rows PySem.SeqAt
def tTryE (C : Addr) (i : Nat) (tb : XK → TS) (th te : TS) : TS := fun D σ H =>
 tb (fun C' _ H' => C' = .ref C ∧ ∀ a, H' a = none → th { nx := fun σ' H2 => D.nx (σ'.set i none) H2, rt := D.rt, bk := fun σ' H2 => D.bk (σ'.set i none) H2, ct := fun σ' H2 => D.ct (σ'.set i none) H2 } (σ.set i (some (.ref a))) (upd H' a (exO a (.ref C)))) { D with nx := fun σ' H' => te D σ' H' } σ H
theorem tTryE_at {C : Addr} {i : Nat} {tb : XK → TS} {th te : TS} {D : Ends} {σ : St} {H : Hp} : tTryE C i tb th te D σ H = tb (fun C' _ H' => C' = .ref C ∧ ∀ a, H' a = none → th { nx := fun σ' H2 => D.nx (σ'.set i none) H2, rt := D.rt, bk := fun σ' H2 => D.bk (σ'.set i none) H2, ct := fun σ' H2 => D.ct (σ'.set i none) H2 } (σ.set i (some (.ref a))) (upd H' a (exO a (.ref C)))) { D with nx := fun σ' H' => te D σ' H' } σ H := rfl
section
variable {X : Cx} {x n : Str} {C : Addr} {bmB : List Value} {B newId initId : String} {np hp pos : Pos} {body suite orelse : List Stmt} {b₀ : Stmt} {tb : XK → TS} {th te : TS} {rest : List ExceptHandler}
theorem ps_tryE0 (i : Nat) (hst : X.stack = X.env :: X.outer) (hfr : X.env.frame = some X.env.locals) (hex : X.ex = []) (hN : X.N.Nodup) (O : OwnClsQ x C bmB newId X.mg X.base) (hbase : bmB.contains (.type "BaseException") = true)
  (hb : ∀ Ee, SsAt X Ee body (tb Ee)) (hs : ∀ a, PSs (X.held a) (b₀ :: suite) th) (hel : PSs X orelse te) (hi : X.N[i]? = some n := by rfl) (hk : X.env.kindOf n = some .local := by rfl) (hg : Gl X x := by rfl) (hd : (x == ("__debug__" : Str)) = false := by decide) :
  PS X (.Try body (.ExceptHandler (some (.Name x np)) (some n) (b₀ :: suite) hp :: rest) orelse [] pos) (tTryE C i tb th te) := by
 intro pins s σ H D I h
 refine wpAny_Try_except (wpAny_mono (hb _ pins s σ H { D with nx := fun σ' H' => te D σ' H' } I h) (fun f s1 q => ?_) fun e s1 q => ?_)
 ·cases f with
  | next => obtain ⟨σ', H', I', q⟩ := q; exact hel pins s1 σ' H' D I' q
  | ret v => exact q
  | brk => exact q
  | cont => exact q
 obtain ⟨H0, s0, I0, H', hR, a, C', a0, fl, rfl, os, bare, un, hok, hf, hsub, fly, sl, rfl, q⟩ := q
 have fly' := fly
 rw [hst] at fly'
 refine wpAny_looks_onW (by rw [I.ok.frames, hst]) hfr fly' fun h4 held sm4 => wpAny_landsW held fun h5 fly5 sm5 => ?_
 have sl5 := sl.trans (sm4.trans sm5)
 have nf : ∀ b ∈ frs X.stack, H0 b = none ∧ ∃ o, s0.heap.get? b = some o ∧ ∀ vs, o.data ≠ .fields vs := fun b hb => ⟨I0.stkFree b hb, (I0.stack.mem hb).2⟩
 have I5 : Inv X pins σ H' { s1 with heap := h5 } := I0.call' (ch := []) (s' := { s1 with heap := h5 }) os (un_fly (P := X.prog) (w := X.w) un hf hsub nf fly5.1 sl5) (hok_hide hok (fun b hb => (hf b hb).1) fly5.1) bare (fun b z => absurd z (by simp))
 refine handleBy_own_as (x := x) (C := C) (bmB := bmB) (newId := newId) (mg := X.mg) hbase (ld_glob (X := X.held a) (I5.held a) hg O.bound ⟨rfl, O.keeps I5.bk, ?_, ?_⟩ hd)
 ·obtain ⟨oe, vs, e1, e2, _⟩ := fly5.first; exact ⟨oe, e1, e2⟩
 refine lands_againW fly5 fun h6 fly6 sm6 => ?_
 have sl6 := sl5.trans sm6
 have I6 : Inv X pins σ H' { s1 with heap := h6 } := I0.call' (ch := []) (s' := { s1 with heap := h6 }) os (un_fly (P := X.prog) (w := X.w) un hf hsub nf fly6.1 sl6) (hok_hide hok (fun b hb => (hf b hb).1) fly6.1) bare (fun b z => absurd z (by simp))
 obtain ⟨oe, vs, e1, e2, e3, _⟩ := fly6.first
 have key : ∀ b o, s0.heap.get? b = some o → b ≠ a := by
  intro b o e z
  subst z
  by_cases hbl : b ∈ fl
  ·rcases (hf b hbl).2 with y | y
   ·obtain ⟨_, o', y1, y2⟩ := I0.stack.mem y
    have : b ∈ (X.env :: X.outer).filterMap (·.frame) := by rw [← hst]; exact y
    obtain ⟨_, o2, z1, z2⟩ := fly6.2.2.1.mem this
    rw [e1] at z1; cases z1
    exact z2 vs e3
   ·rw [e] at y; cases y
  ·obtain ⟨o', y⟩ := un.there b o e (by simp)
   have := PySem.W.hideAll_get fl y hbl
   rw [fly6.2.1] at this; cases this
 have hna : H' a = none := hok_fly hok (fun b hb => (hf b hb).1) fly6.2.1
 have I7 : Inv X pins σ (upd H' a (exO a (.ref C))) { s1 with heap := h6 } := by
  refine I6.track hna (fun b ob z => ?_) (fun z => ?_) (fun y c z => ?_) (fun p z => ?_) ?_ hex
  ·obtain ⟨o', y⟩ := I0.base.there b ob z (by rw [hex]; simp)
   exact key b o' y
  ·obtain ⟨m, ⟨o, _, _, ho, _⟩, _⟩ := I0.loc
   exact key _ o ho z
  ·obtain ⟨v, o, ho, _⟩ := I0.cell y c z
   exact key c o ho
  ·exact key _ _ (I0.pin p z).1
  ·exact ⟨⟨oe, e1, e2⟩, ⟨oe, e1⟩, fun h1 h2 ⟨o, y1, y2⟩ k => ⟨o, k o y1, y2⟩⟩
 refine store_ok I7 hN hi (.inl hk) (show RelV (.ref a) (.ref a) from rfl) (fun s7 I8 => ?_) (.inr hk)
 refine wpAny_mono (hs a pins s7 _ _ _ (I8.held a) (q a hna)) (fun f s8 z => ?_) fun _ _ z => False.elim z
 have go : ∀ {σ' H2}, Inv (X.held a) pins σ' H2 s8 → (∀ s9, Inv X pins (σ'.set i none) H2 s9 → SP X pins D f s9) →
   wpAny (model X.prog X.w) X.A (do bindName X.env n .none; unbindBehindTheSuite X.env n hp) (fun _ s₅ => SP X pins D f s₅) X.xe s8 := by
  intro σ' H2 J k
  have J := J.unheld I.ok
  obtain ⟨m, hn, hl⟩ := id J.loc
  exact wpAny_nameGoes_keeps hk hn (by rw [I.ok.kind]; rfl) fun h' v hn' hs' => k _ (J.goes hN hi hk hl hn' hn hs')
 cases f with
 | next => obtain ⟨σ', H2, J, z⟩ := z; exact go J fun s9 J9 => ⟨_, H2, J9, z⟩
 | ret v => obtain ⟨v', σ', H2, J, r, z⟩ := z; exact go J fun s9 J9 => ⟨v', _, H2, J9, r, z⟩
 | brk => obtain ⟨σ', H2, J, z⟩ := z; exact go J fun s9 J9 => ⟨_, H2, J9, z⟩
 | cont => obtain ⟨σ', H2, J, z⟩ := z; exact go J fun s9 J9 => ⟨_, H2, J9, z⟩
theorem ps_tryE (i : Nat) (o : ExcAt X.K X.mg x C) (hN : X.N.Nodup) (hb : ∀ Ee, SsAt X Ee body (tb Ee)) (hs : ∀ a, PSs (X.held a) (b₀ :: suite) th) (hel : PSs X orelse te) (hk : X.env.kindOf n = some .local) (hst : X.stack = X.env :: X.outer := by rfl) (hfr : X.env.frame = some X.env.locals := by rfl) (hex : X.ex = [] := by rfl)
  (hi : X.N[i]? = some n := by rfl) (hg : Gl X x := by rfl) (hd : (x == ("__debug__" : Str)) = false := by decide) :
  PS X (.Try body (.ExceptHandler (some (.Name x np)) (some n) (b₀ :: suite) hp :: rest) orelse [] pos) (tTryE C i tb th te) := fun pins s σ H D I h =>
 ps_tryE0 i hst hfr hex hN (ownQ_of I.ok.mod.kin o.m o.c.q) rfl hb hs hel hi hk hg hd pins s σ H D I h
end
def nonV : V → Bool
 | .non => true
 | _ => false
def nonU : Value → Bool
 | .none => true
 | _ => false
def rInN (K : PySem.W.Frag) : R2 := fun x y H Q => x = .non ∧ ∃ p xs, y = .ref p ∧ SqL K H p xs ∧ (∀ v ∈ xs, v = .non ∨ ∃ a ys, v = .ref a ∧ (SqL K H a ys ∨ SqT K H a ys)) ∧ Q (.bl (xs.any nonV)) H
theorem any_nonU {P : V → Prop} (hP : ∀ v, P v → v = .non ∨ ∃ a, v = .ref a) : ∀ {xs : List V} {us : List Value}, Vals xs us → (∀ v ∈ xs, P v) → us.any nonU = xs.any nonV
 | _, _, .nil, _ => rfl
 | y :: xs, u :: us, .cons r t, f => by
  rw [List.any_cons, List.any_cons, any_nonU hP t (fun v hv => f v (List.mem_cons_of_mem _ hv))]
  rcases hP y (f y List.mem_cons_self) with rfl | ⟨a, rfl⟩ <;> cases r <;> rfl
theorem mem_vals {P : V → Prop} : ∀ {xs : List V} {us : List Value}, Vals xs us → (∀ v ∈ xs, P v) → ∀ u ∈ us, ∃ v, P v ∧ RelV v u
 | _, _, .nil, _ => fun u hu => by cases hu
 | y :: xs, u :: us, .cons r t, f => fun u' hu => by
  rcases List.mem_cons.mp hu with rfl | hu
  ·exact ⟨y, f y List.mem_cons_self, r⟩
  ·exact mem_vals t (fun v hv => f v (List.mem_cons_of_mem _ hv)) u' hu
theorem op_inN (K : PySem.W.Frag) {X : Cx} {k : Nat} (hr : Room k X.A) (hK : X.K = K := by rfl) : OpR X (compareOp .In) (rInN K) := by
 subst hK
 intro pins s σ H x y v u Q I rx ry h
 obtain ⟨rfl, p, xs, rfl, hq, hx, q⟩ := h
 cases rx
 cases ry
 obtain ⟨its, r, pl, hz⟩ := I.list hq
 refine SeqAt.in_listAt nonU pl.isList (fun u hu => ?_) ⟨.bl _, H, I, rfl, ?_⟩
 ·obtain ⟨v, hv, rv⟩ := mem_vals r hx u (by simpa using hu)
  have hun := hr.un
  rcases hv with rfl | ⟨a, ys, rfl, hs⟩
  ·cases rv; exact EqAt.same _
  ·cases rv
   rcases hs with hs | hs
   ·obtain ⟨it2, r2, pl2, hz2⟩ := I.list hs
    exact EqAt.list_none pl2.isList (by show X.A.units + 1 < cLine; omega)
   ·obtain ⟨it2, r2, pl2, hz2⟩ := I.tuple hs
    exact EqAt.tuple_none pl2 (by show X.A.units + 1 < cLine; omega)
 ·rw [show its.toArray.any nonU = its.any nonU by simp, any_nonU (fun v hv => by rcases hv with h | ⟨a, _, h, _⟩; exact .inl h; exact .inr ⟨a, h⟩) r hx]
  exact q
end L2
set_option Elab.async false
set_option linter.all false
set_option maxRecDepth 100000
set_option maxHeartbeats 4000000
namespace L2
open PySem PySem.Spec PyProof.Rows
section
variable {M : Model} {A : Around} {E : Value → Shared → Prop} {s : Shared}
theorem leaving_any {base : Heap} {env : Env} {outer : List Env} {L e : Addr} {cls a0 v : Value} {Q : Unit → Shared → Prop}
  (hfr : A.frames = some (env :: outer)) (hl : s.heap.FunFrames base (env :: outer)) (hf : env.frame = some L) (ht : s.heap.TracedAtW base e cls a0 v) (hkb : base.StaysIn s.heap) (hen : base.get? e = none)
  (h : ∀ h', Heap.LeftW base (env :: outer) e cls a0 s.heap h' → Q () { s with heap := h' }) : wpAny M A (leaving env (.ref e)) Q E s := by
 by_cases hv : v = rawInt L
 ·subst hv
  unfold leaving
  refine wpAny_bind (wpAny_noteFrame_againW hf ht ?_)
  refine wpAny_setFlight_noneW hkb hl ht fun h' k1 k2 k3 k4 => h h' ⟨k1, k2, k3, fun b o hb hn => ⟨o.slots, k4 b o hb hn⟩⟩
 obtain ⟨oe, vs, T, oT, ts, he, ⟨hcls, h0⟩, hd, h1, hnT, hTe, hT, hdT, h3⟩ := ht
 subst hcls
 unfold leaving noteFrame
 simp only [hf]
 refine wpAny_bind (wpAny_bind (wpAny_field he hd h1 ?_))
 rw [if_pos (show (Value.ref T != Value.none) = true from by simp)]
 refine wpAny_bind (wpAny_field hT hdT h3 ?_)
 rw [if_neg (show ¬ ((v == rawInt L) = true) from fun z => hv (eq_of_beq z))]
 refine wpAny_bind (wpAny_setField hT hdT (Array.getElem?_eq_some_iff.mp h3).1 ?_)
 have other : ∀ b, b ≠ T → (s.heap.update T (Obj.mapFields (·.setIfInBounds 3 Value.none))).get? b = s.heap.get? b := fun b hb => Heap.get?_update_other _ _ (Ne.symm hb)
 have noRecord : ∀ b o, s.heap.get? b = some o → (∀ vs, o.data ≠ .fields vs) → b ≠ T := fun b o hb hnf q => by
  rw [q, hT] at hb; injection hb with hb; subst hb; exact hnf ts hdT
 refine wpAny_newEntryW hfr (hl.of_keeps fun b o hb hnf => ⟨o, (other b (noRecord b o hb hnf)).trans hb, rfl⟩) hf ((other e (Ne.symm hTe)).trans he)
  (fun b o hbo => (other b fun q => by rw [q, hnT] at hbo; cases hbo).trans (hkb b o hbo)) hen hd (Array.getElem?_eq_some_iff.mp h1).1 h0
  fun h' ⟨x1, x2, x3, x4⟩ => h h' ⟨x1, x2, x3, fun b o hb hnf => x4 b o ((other b (noRecord b o hb hnf)).trans hb) hnf⟩
theorem passOn_any {α : Type} {base : Heap} {l : List Env} {e : Addr} {cls a0 fl : Value} {what : String} {cenv : Env} {Q : α → Shared → Prop}
  (hkb : base.StaysIn s.heap) (hl : s.heap.FunFrames base l) (ht : s.heap.TracedAtW base e cls a0 fl)
  (h : ∀ h' v, base.StaysIn h' → h'.FunFrames base l → h'.TracedAtW base e cls a0 v → (∀ b o, s.heap.get? b = some o → (∀ vs, o.data ≠ .fields vs) → h'.get? b = some o) → E (.ref e) { s with heap := h' }) :
  wpAny M A (PySem.passOn what (.ref e) cenv : Sem α) Q E s := by
 obtain ⟨oe, vs, T, oT, ts, he, hcls, hd, h1, hnT, hTe, hT, hdT, h3⟩ := ht
 have hsz3 : 3 < ts.size := (Array.getElem?_eq_some_iff.mp h3).1
 have other : ∀ b, b ≠ T → (s.heap.update T (Obj.mapFields (·.setIfInBounds 3 (cenv.frame.elim Value.none fun f => rawInt f)))).get? b = s.heap.get? b :=
  fun b hb => Heap.get?_update_other _ _ (Ne.symm hb)
 have noRecord : ∀ b o, s.heap.get? b = some o → (∀ vs, o.data ≠ .fields vs) → b ≠ T := fun b o hb hnf q => by
  rw [q, hT] at hb; injection hb with hb; subst hb; exact hnf ts hdT
 unfold PySem.passOn
 refine wpAny_bind (wpAny_field he hd h1 ?_)
 rw [if_neg (show ¬ ((Value.ref T == Value.none) = true) from by simp)]
 unfold setFlight
 refine wpAny_bind (wpAny_bind (wpAny_field he hd h1 ?_))
 rw [if_pos (show (Value.ref T != Value.none) = true from by simp)]
 refine wpAny_setField hT hdT hsz3 ?_
 refine wpAny_throw (h _ (cenv.frame.elim Value.none fun f => rawInt f) (fun b o hbo => (other b fun q => by rw [q, hnT] at hbo; cases hbo).trans (hkb b o hbo))
  (hl.of_keeps fun b o hb hnf => ⟨o, (other b (noRecord b o hb hnf)).trans hb, rfl⟩) ?_ fun b o hb hnf => (other b (noRecord b o hb hnf)).trans hb)
 exact ⟨oe, vs, T, _, _, (other e (Ne.symm hTe)).trans he, hcls, hd, h1, hnT, hTe, Heap.get?_update_self _ hT (Obj.isFreed_of_fields (Obj.data_mapFields hdT _)), Obj.data_mapFields hdT _, by simp [hsz3]⟩
end
def XC (E : XK) (X : Cx) (C : Addr) (fp : List Addr) (s : Shared) (H : Hp) : Value → Shared → Prop := fun e s' =>
 ∃ (H' : Hp) (hR : Heap) (a : Addr) (Cl a0 : Value) (fl : List Addr), e = .ref a ∧ s'.os = s.os ∧ AllBare s'.gens ∧ Un (frs X.stack) fp H H' s.heap hR ∧ HOk X.prog X.w H' hR ∧ (∃ m, hR.Ns C m) ∧ H' C = none ∧ s.heap.objs.size ≤ C ∧
  (∀ b ∈ fl, H' b = none ∧ (b ∈ frs X.stack ∨ s.heap.get? b = none ∨ b ∈ fp)) ∧ (∀ b ∈ frs X.stack, b ∈ fl) ∧ Heap.FlyingW (PySem.W.hideAll hR fl) X.stack a Cl a0 s'.heap ∧ hR.UpToSlots s'.heap ∧ E Cl none H'
def cxCompX (E : XK) (X : Cx) (N0 T : List Str) (scope : Scope) (C : Addr) (fp : List Addr) (s : Shared) (H : Hp) : Cx := { cxComp X N0 T scope C fp s H with xe := XC E X C fp s H }
theorem codeAny_compLoop_goX {prog : Program} {w : World} {A : Around} {R : Result → Shared → Prop} {s : Shared} {elt target iter : Expr} {ifs : List Expr} {scope : Scope} {pos : Pos} {it acc : Value} {env : Env} (E1 : Value → Shared → Prop) (hE : ∀ x s1, E1 x s1 → notedBy (model prog w) A env (fun x s' => R (.error x) s') x s1) (I : Nat → Shared → Prop)
  (turn : ∀ n s, I n s → wpAny (model prog w) A (pyNext it) (fun r s₁ => match r with
   | none => R (.ok .next) s₁
   | some v => wpAny (model prog w) A (letOwnedTupleGo target it v) (fun _ s₀ => wpAny (model prog w) A (assign target env v) (fun _ s₂ =>
     wpAny (model prog w) A (forIn ifs true fun c r => if r = true then do let ok ← isTrue c env (eval c env); pure (ForInStep.yield ok) else pure (ForInStep.yield r)) (fun ok s₃ =>
      if ok = true then wpAny (model prog w) A (eval elt env) (fun x s₄ =>
       wpAny (model prog w) A (call (.builtin "list.append") [acc, x]) (fun _ s₅ => ∃ m, m < n ∧ I m s₅) E1 s₄) E1 s₃
      else ∃ m, m < n ∧ I m s₃) E1 s₂) E1 s₀) E1 s₁) E1 s)
  (n : Nat) (h : I n s) :
  codeAny (model prog w) A (.compLoop (.ListComp elt [⟨target, iter, ifs, 0⟩] scope pos) 0 it acc env) R s := by
 refine codeAny_loop rfl I (fun n s hI => ?_) n h
 show wpAny _ A ((compTurn (.ListComp elt [⟨target, iter, ifs, 0⟩] scope pos) 0 it acc env).onRaise (fun x => do noteFrame x env; theTreesLotGoes x)) _ _ s
 refine wpAny_noted ?_
 rw [compTurn_list]
 refine wpAny_bind (wpAny_standAt (wpAny_bind (wpAny_mono (turn n s hI) (fun r s₁ h₁ => ?_) fun _ _ h' => hE _ _ h')))
 cases r with
 | none => exact wpAny_pure h₁
 | some v =>
  refine wpAny_bind (wpAny_mono h₁ (fun _ s₀ h₀ => ?_) fun _ _ h' => hE _ _ h')
  refine wpAny_bind (wpAny_mono h₀ (fun _ s₂ h₂ => wpAny_bind (wpAny_mono h₂ (fun ok s₃ h₃ => ?_) fun _ _ h' => hE _ _ h')) fun _ _ h' => hE _ _ h')
  cases ok with
  | false => exact wpAny_pure ⟨rfl, h₃⟩
  | true =>
   exact wpAny_bind (wpAny_bind (wpAny_mono h₃ (fun x s₄ h₄ => wpAny_bind (wpAny_mono h₄ (fun _ s₅ h₅ => wpAny_pure (wpAny_pure ⟨rfl, h₅⟩)) fun _ _ h' => hE _ _ h')) fun _ _ h' => hE _ _ h'))
section
variable {X : Cx} {N0 T : List Str} {scope : Scope} {tg elt iter : Expr} {ifs : List Expr} {pos : Pos} {wi : TI} {g : TG} {tc : TT} {te : TE}
theorem comp_coreX (E1 : XK) {pins : List (Addr × Obj)} {σ : St} {H : Hp} {s : Shared} {E : Value → Shared → Prop} {it : Addr} {fp : List Addr} {tn : Nat → Heap → Prop} {J : It} {Q : VK} {RR : Value → Addr → Result → Shared → Prop}
  (S : CompScope X N0 T scope) (hc : X.calm = true)
  (hg : ∀ C fp s H, PG (cxCompX E1 X N0 T scope C fp s H) tg g) (hfr : GFr g X.N.length) (hi : ∀ C fp s H, PIfs (cxCompX E1 X N0 T scope C fp s H) ifs tc) (he : ∀ C fp s H, PE (cxCompX E1 X N0 T scope C fp s H) elt te)
  (I : Inv X pins σ H s) (Tn : Turn X.prog X.w X.K tg J fp it tn) (st : tn 0 s.heap) (hf : ∀ b ∈ fp, FpOk X pins H b)
  (h : ∀ D, H D = none → compW J g tc te T.length σ D Q (upd H D (.lst [])))
  (hRX : ∀ D C x s', XC E1 X C fp s H x s' → notedBy (model X.prog X.w) X.A (compEnvC scope (closOf X.env.cells scope.names []) C X.env) (fun x s'' => RR (.ref D) C (.error x) s'') x s')
  (hRR : ∀ D C s' H' m, s'.heap.Ns C m → H' C = none → C ≠ X.env.locals → (∀ x c, X.env.cells.lookup x = some c → c ≠ C) → (∀ p ∈ X.pn ++ pins, p.1 ≠ C) → X.s₀.heap.objs.size ≤ C → Inv X pins σ H' s' →
   (∀ h', Heap.SameBut C s'.heap h' → Inv X pins σ H' { s' with heap := h' }) → Q (.ref D) H' → RR (.ref D) C (.ok .next) s') :
  wpAny (model X.prog X.w) X.A (newList []) (fun acc s₃ => wpAny (model X.prog X.w) X.A (newFunctionEnv scope X.env.globals (closOf X.env.cells scope.names []) [] X.env.qual none .none (some X.env)) (fun cenv s₄ =>
   codeAny (model X.prog X.w) X.A (.compStart (.ListComp elt [⟨tg, iter, ifs, 0⟩] scope pos) 0 (.ref it) acc { cenv with scope := relabel scope X.env }) (RR acc cenv.locals) s₄) E s₃) E s := by
 refine wpAny_newObj_type (wpAny_newFunctionEnv S.nocell (by intro y hy; simp at hy) (fun h₁ hns₁ hsb₁ => ?_) S.kind)
 dsimp only at hns₁ hsb₁ ⊢
 generalize hH2 : s.heap.push { cls := .type "list", dict := none, data := .seq ([] : List Value).toArray } = P2 at hns₁ hsb₁ ⊢
 have hC : P2.objs.size = s.heap.objs.size + 1 := by rw [← hH2, Heap.size_push]
 -- the new list D, the block's names C
 obtain ⟨D, hD⟩ : ∃ D : Nat, D = s.heap.objs.size := ⟨_, rfl⟩
 obtain ⟨C, hCC⟩ : ∃ C : Nat, C = P2.objs.size := ⟨_, rfl⟩
 rw [← hCC] at hns₁ hsb₁ hC ⊢
 rw [← hD] at hC ⊢
 have hDC : D ≠ C := by omega
 have hDlt : D < C := by omega
 have neD : ∀ b o, s.heap.get? b = some o → b ≠ D := fun b o e => hD ▸ Nat.ne_of_lt (Heap.lt_size e)
 have neC : ∀ b o, s.heap.get? b = some o → b ≠ C := fun b o e => Nat.ne_of_lt (Nat.lt_trans (hD ▸ Heap.lt_size e) hDlt)
 have old : ∀ b o, s.heap.get? b = some o → h₁.get? b = some o := fun b o e => hsb₁.extBut b o (neC b o e) (Heap.get?_push_of_some _ (hH2 ▸ Heap.get?_push_of_some _ e))
 have hHD : H D = none := I.hok.fresh (by omega)
 have hHC : H C = none := I.hok.fresh (by omega)
 have dat : h₁.get? D = some { cls := .type "list", data := .seq ([] : List Value).toArray 0 } := by
  refine hsb₁.extBut _ _ hDC (Heap.get?_push_of_some _ ?_)
  rw [← hH2, hD]
  exact Heap.get?_push_size _ rfl
 -- the block's context stands
 have hcl : ∀ x c, (closOf X.env.cells scope.names []).lookup x = some c → X.env.cells.lookup x = some c := fun x c e =>
  closOf_some (fun y hy hk => I.ok.has y.1 (S.free y hy hk)) (fun y c z => by simp at z) e
 have okC : (cxCompX E1 X N0 T scope C fp s H).Ok := by
  refine ⟨I.ok.mod, ?_, I.ok.glob, I.ok.blt, ?_, fun x y c e1 e2 => I.ok.inj x y c (hcl x c e1) (hcl y c e2), fun x hx => ?_, fun x c z _ => (by cases z), I.ok.hd, I.ok.frames, .inl rfl, fun b hb => ⟨?_, fun x c e => (hf b hb).2.2.2.2.1 x c (hcl x c e)⟩,
   I.bs, ?_, fun b o e hb => ?_, fun b hb z => ?_, I.stack, I.stkFree⟩
  ·show (relabel scope X.env).kind = .function
   exact S.kind
  ·show s.heap.objs.size ≤ C
   omega
  ·have hx' : (relabel scope X.env).names.lookup x = some .cell ∨ (relabel scope X.env).names.lookup x = some .free := hx
   have m : (x, NameKind.free) ∈ scope.names := by
    rcases hx' with z | z
    ·exact relabel_free S.nocell z (.inl rfl)
    ·exact relabel_free S.nocell z (.inr rfl)
   exact closOf_has m
  ·show b ≠ C
   obtain ⟨o, e, _⟩ := Tn.obj 0 _ st b hb
   exact neC b o e
  ·exact Nat.le_trans I.ok.bsz I.sz
  ·obtain ⟨_, _, _, z, _⟩ := hf b hb
   rcases z with z | z
   ·exact I.ok.noex b o e z
   ·exact absurd (Nat.lt_of_lt_of_le (Nat.lt_of_lt_of_le (Heap.lt_size e) I.ok.bsz) z) (Nat.lt_irrefl _)
  ·obtain ⟨_, z1, z2, _⟩ := hf b hb
   rcases List.mem_cons.mp (I.stkSub b z) with q | q
   ·exact z1 q
   ·exact z2 q
 have I1 : Inv (cxCompX E1 X N0 T scope C fp s H) [] (σ ++ List.replicate T.length none) (upd H D (.lst [])) { s with heap := h₁, toks := s.toks + ([] : List (Str × Value)).length } := by
  refine ⟨okC, rfl, I.bare, Un.laid (h := s.heap) old (by omega) hHD, ⟨_, hns₁, fun i x v e1 e2 e3 => ?_⟩, fun x c e => ?_, ?_, fun x c e => ?_, fun p hp => (by simp [cxCompX, cxComp] at hp), I.hok.laid old (by omega) ?_, ?_⟩
  ·have e1' : (N0 ++ T)[i]? = some x := e1
   have hl := I.len
   have hl0 := S.len0
   have hi : i < σ.length := by
    rcases Nat.lt_or_ge i σ.length with z | z
    ·exact z
    ·rw [List.getElem?_append_right z] at e2
     rw [List.getElem?_replicate] at e2
     split at e2 <;> cases e2
   rw [List.getElem?_append_left hi] at e2
   rw [List.getElem?_append_left (by omega)] at e1'
   have hxN : x ∈ N0 := List.mem_of_getElem? e1'
   have e3' : (relabel scope X.env).names.lookup x = some .local ∨ (relabel scope X.env).names.lookup x = some .cell ∨ (relabel scope X.env).names.lookup x = some .free := e3
   have fr : (relabel scope X.env).names.lookup x = some .cell ∨ (relabel scope X.env).names.lookup x = some .free := by
    rcases e3' with z | z | z
    ·exfalso
     -- a local of the block is no tracked name
     have key : ∀ (names : List (Str × NameKind)), (names.map fun (n, k) => if (k == NameKind.free && X.env.scope.kind == .function && X.env.kindOf n == some .cell) then (n, NameKind.cell) else (n, k)).lookup x = some .local → (x, NameKind.local) ∈ names := by
      intro names
      induction names with
      | nil => intro z; simp at z
      | cons y r ih =>
       obtain ⟨n, k⟩ := y
       intro z
       rw [List.map_cons] at z
       dsimp only at z
       by_cases hfk : (k == NameKind.free && X.env.scope.kind == .function && X.env.kindOf n == some .cell) = true
       ·rw [if_pos hfk, List.lookup_cons] at z
        cases hx : (x == n) with
        | true => rw [hx] at z; cases z
        | false => rw [hx] at z; exact List.mem_cons_of_mem _ (ih z)
       ·rw [if_neg hfk, List.lookup_cons] at z
        cases hx : (x == n) with
        | true =>
         rw [hx] at z
         have ek : k = .local := Option.some.inj z
         have en : x = n := by simpa using hx
         rw [ek, en]; exact List.mem_cons_self
        | false => rw [hx] at z; exact List.mem_cons_of_mem _ (ih z)
     exact S.apart (x, .local) (key _ z) rfl hxN
    ·exact .inl z
    ·exact .inr z
   have m : (x, NameKind.free) ∈ scope.names := by
    rcases fr with z | z
    ·exact relabel_free S.nocell z (.inl rfl)
    ·exact relabel_free S.nocell z (.inr rfl)
   have kX := S.free _ m rfl
   obtain ⟨mm, hn, hl'⟩ := I.loc
   obtain ⟨u, r, lk⟩ := hl' i x v (S.same i x _ e1' m) e2 (.inr kX)
   refine ⟨u, r, .inr ⟨fr, ?_⟩⟩
   rcases lk with ⟨z, _⟩ | ⟨_, c, ec, cc⟩
   ·rcases kX with q | q
    ·rw [q] at z; cases z
    ·rw [q] at z; cases z
   ·obtain ⟨c', ec'⟩ := closOf_has (cells := X.env.cells) (acc := []) m
    have := hcl x c' ec'
    rw [ec] at this; cases this
    exact ⟨c, ec', cc.keeps old⟩
  ·obtain ⟨v, z⟩ := I.cell x c (hcl x c e)
   exact ⟨v, z.keeps old⟩
  ·show upd H D (.lst []) C = none
   rw [upd_ne (Ne.symm hDC)]; exact hHC
  ·have q := I.freeC x c (hcl x c e)
   obtain ⟨v, o, z, _⟩ := I.cell x c (hcl x c e)
   rw [upd_ne (neD c o z)]; exact q
  ·exact ⟨Nat.zero_le _, [], 0, .nil, dat⟩
  ·show (σ ++ List.replicate T.length none).length = (N0 ++ T).length
   rw [List.length_append, List.length_append, List.length_replicate, I.len, S.len0]
 have st1 : tn 0 h₁ := Tn.keep _ _ _ st fun b _ o e => old b o e
 have fp1 : ∀ {H' : Hp}, (∀ b ∈ fp, H' b = none) → ∀ b ∈ fp, FpOk (cxCompX E1 X N0 T scope C fp s H) [] H' b := fun hn b hb =>
  ⟨hn b hb, (okC.exf b hb).1, okC.exfs b hb, .inl hb, (okC.exf b hb).2, fun p hp => (by simp [cxCompX, cxComp] at hp)⟩
 have fp0 : ∀ b ∈ fp, upd H D (.lst []) b = none := fun b hb => by
  obtain ⟨o, e, _⟩ := Tn.obj 0 _ st b hb
  rw [upd_ne (neD b o e)]; exact (hf b hb).1
 obtain ⟨W, ⟨m0, w0⟩, turn⟩ := h D hHD
 have loop : ∀ s₃ : Shared, s₃ = { s with heap := h₁, toks := s.toks + ([] : List (Str × Value)).length } →
   codeAny (model X.prog X.w) X.A (.compLoop (.ListComp elt [⟨tg, iter, ifs, 0⟩] scope pos) 0 (.ref it) (.ref D) (compEnvC scope (closOf X.env.cells scope.names []) C X.env)) (RR (.ref D) C) s₃ := by
  rintro s₃ rfl
  refine codeAny_compLoop_goX (XC E1 X C fp s H) (fun x s1 h1 => hRX D C x s1 h1) (fun n s' => ∃ i H' ys, Inv (cxCompX E1 X N0 T scope C fp s H) [] (σ ++ List.replicate T.length none) H' s' ∧ tn i s'.heap ∧ (∀ b ∈ fp, H' b = none) ∧ W i n ys H') ?_ m0 ⟨0, _, [], I1, st1, fp0, w0⟩
  rintro n s3 ⟨i, H3, ys, I3, st3, fr3, w3⟩
  rcases turn i n ys H3 w3 with ⟨stop, qn⟩ | ⟨go, step⟩
  ·refine thn (Tn.done (cxCompX E1 X N0 T scope C fp s H) rfl rfl rfl hc i [] s3 _ H3 (XC E1 X C fp s H) I3 (fp1 fr3) st3 stop) fun r s4 ⟨hr, I4⟩ => ?_
   subst hr
   obtain ⟨m, hm, _⟩ := I4.loc
   have hch : ∀ b ∈ fp, (b ∈ X.ex ∨ X.s₀.heap.objs.size ≤ b) ∧ b ≠ X.env.locals ∧ (∀ x c, X.env.cells.lookup x = some c → c ≠ b) ∧ ∀ p ∈ X.pn ++ pins, p.1 ≠ b := fun b hb =>
    ⟨(hf b hb).2.2.2.1, (hf b hb).2.1, (hf b hb).2.2.2.2.1, (hf b hb).2.2.2.2.2⟩
   have u4 : Un (frs X.stack) fp H H3 s.heap s4.heap := I4.base
   refine hRR D C s4 H3 m hm I4.free (Ne.symm (Nat.ne_of_lt (Nat.lt_trans (hD ▸ I.lt) hDlt))) (fun x c e => ?_) (fun p hp => ?_) (Nat.le_trans (hD ▸ I.sz) (Nat.le_of_lt hDlt)) (I.call' (ch := fp) I4.os u4 I4.hok I4.bare hch) (fun h' hs' => ?_) qn
   ·obtain ⟨v, o, q, _⟩ := I.cell x c e
    exact neC c o q
   ·exact neC _ _ (I.pin p hp).1
   ·refine I.call' (ch := fp) (s' := { s4 with heap := h' }) I4.os ⟨fun b o q n' hb hx => (hs'.2 b (neC b o q)).trans (u4.keep b o q n' hb hx), fun b o q n' hb hx => ?_, u4.free, fun b o q hx => ?_, u4.tups, u4.frzs, u4.tbls⟩ (I4.hok.sameBut hs' I4.free) I4.bare hch
    ·obtain ⟨sl, e⟩ := u4.slot b o q n' hb hx
     exact ⟨sl, (hs'.2 b (neC b o q)).trans e⟩
    ·obtain ⟨o', e⟩ := u4.there b o q hx
     exact ⟨o', (hs'.2 b (neC b o q)).trans e⟩
  ·refine thn (Tn.item (cxCompX E1 X N0 T scope C fp s H) rfl rfl rfl hc i [] s3 _ H3 (XC E1 X C fp s H) I3 (fp1 fr3) st3 go) fun r s4 ⟨u, hr, h4⟩ => ?_
   subst hr
   refine thn h4 fun _ s5 ⟨x, H5, I5, r5, y5, st5, fr5⟩ => ?_
   have I5' := I5.pinned (fp1 fr5) (Tn.obj _ _ st5)
   refine thn (hg C fp s H _ s5 _ H5 x u _ I5' r5 (hfr _ _ _ _ (step x H5 y5))) fun _ s6 ⟨σ6, H6, I6, q6, l6, k6⟩ => ?_
   have back : ∀ {H7 : Hp} {s7 : Shared}, Inv (cxCompX E1 X N0 T scope C fp s H) ([] ++ pinsAt fp s5.heap) σ6 H7 s7 → (∀ {m' : Nat} {zs : List V}, m' < n → W (i + 1) m' zs H7 → ∃ m, m < n ∧ ∃ i H' ys, Inv (cxCompX E1 X N0 T scope C fp s H) [] (σ ++ List.replicate T.length none) H' s7 ∧ tn i s7.heap ∧ (∀ b ∈ fp, H' b = none) ∧ W i m ys H') := fun {H7 s7} I7 {m' zs} hm w7 => by
    refine ⟨m', hm, i + 1, H7, zs, I7.unpinned.weak (by rw [l6]) (fun j v e => ?_), Tn.keep _ _ _ st5 fun b hb o e => (I7.pin (b, o) (List.mem_append_right _ (List.mem_append_right _ (mem_pinsAt hb e)))).1, fun b hb => ?_, w7⟩
    ·have hj : j < σ.length := by
      rcases Nat.lt_or_ge j σ.length with z | z
      ·exact z
      ·rw [List.getElem?_append_right z, List.getElem?_replicate] at e
       split at e <;> cases e
     rw [k6 j (by rw [← I.len]; exact hj)]
     exact e
    ·obtain ⟨o, e, d⟩ := Tn.obj _ _ st5 b hb
     exact (I7.pin (b, o) (List.mem_append_right _ (List.mem_append_right _ (mem_pinsAt hb e)))).2.1
   refine thn (hi C fp s H _ s6 σ6 H6 _ I6 q6) fun b s7 ⟨H7, I7, q7⟩ => ?_
   cases b with
   | false =>
    obtain ⟨m', hm, w7⟩ := (show ∃ m', m' < n ∧ W (i + 1) m' ys H7 from by simpa using q7)
    exact back I7 hm w7
   | true =>
    rw [if_pos rfl] at q7
    refine thn (he C fp s H _ s7 σ6 H7 _ I7 q7) fun v s8 ⟨y, H8, I8, r8, hD8, hz, m', hm, w8⟩ => ?_
    refine thn (mt_append (X := cxCompX E1 X N0 T scope C fp s H) _ s8 σ6 H8 (.ref D) [y] (.ref D) [v] (fun _ H9 => H9 = upd H8 D (.lst (ys ++ [y]))) I8 rfl (.cons r8 .nil) ⟨D, ys, y, rfl, rfl, hD8, hz, rfl⟩) fun v9 s9 ⟨y9, H9, I9, _, e9⟩ => ?_
    subst e9
    exact back I9 hm w8
 exact codeAny_compStart_list (loop _ rfl) (Tn.self X.A 0 _ _ _ st1 (loop _ rfl))
theorem pass_comp {E1 E' : XK} (hE : ∀ C a H, E' C a H → E1 C a H) {C : Addr} {fp : List Addr} {s : Shared} {H : Hp} : Passes (CX1 X.prog X.w) (cxCompX E1 X N0 T scope C fp s H) E' := by
 intro pins σ1 H1 s1 e s' I h
 obtain ⟨H', hR, a, Cl, a0, fl, rfl, os, bare, un, hok, hf, hs, fly, sl, q⟩ := h
 have J : Inv (cxCompX E1 X N0 T scope C fp s H) pins σ1 H' { s' with heap := hR } := I.call' (ch := []) os un hok bare (fun b z => absurd z (by simp))
 obtain ⟨m, hm, _⟩ := J.loc
 refine ⟨H', hR, a, Cl, a0, fl, rfl, J.os, bare, J.base, hok, ⟨m, hm⟩, J.free, I.ok.above, fun b hb => ⟨(hf b hb).1, ?_⟩, hs, fly, sl, hE _ _ _ q⟩
 rcases (hf b hb).2 with z | z
 ·exact .inl z
 ·by_cases hbf : b ∈ fp
  ·exact .inr (.inr hbf)
  ·refine .inr (.inl ?_)
   cases y : s.heap.get? b with
   | none => rfl
   | some o =>
    obtain ⟨o', y'⟩ := I.base.there b o y hbf
    rw [z] at y'; cases y'
theorem pe_calC {E1 E' : XK} {C : Addr} {fp : List Addr} {s : Shared} {H : Hp} {j k : Nat} {x : Str} {ps : List Str} {sp : Sp} {p pos : Pos} {e : Expr} {es : List Expr} {t : TA} (c : CalX X.prog X.w X.K X.mg X.base j x ps sp) (hE : ∀ C a H, E' C a H → E1 C a H) (hr : Room k X.A) (ha : PA (cxCompX E1 X N0 T scope C fp s H) (e :: es) t) (hle : j ≤ k := by decide) (hg : Gl (cxCompX E1 X N0 T scope C fp s H) x := by rfl)
  (hdb : (x == ("__debug__" : Str)) = false := by decide) (he : starEach (e :: es) (cxCompX E1 X N0 T scope C fp s H).env = (false, eval e (cxCompX E1 X N0 T scope C fp s H).env) :: starEach es (cxCompX E1 X N0 T scope C fp s H).env := by rfl) (hpl : (backTo pos (starEach es (cxCompX E1 X N0 T scope C fp s H).env)).any (·.1) = false := by rfl) :
  PE (cxCompX E1 X N0 T scope C fp s H) (.Call (.Name x p) (e :: es) [] pos) (tCall sp [] E' t) := by
 obtain ⟨f, fd, F, b, kp, m⟩ := c.ex
 exact pe_call (X := cxCompX E1 X N0 T scope C fp s H) F (hr.mono hle) hg m kp b .nil (pass_comp hE) ha hdb he hpl
theorem xc_post {E1 : XK} (L : Lv X E1) {pins : List (Addr × Obj)} {σ : St} {H : Hp} {s : Shared} (I : Inv X pins σ H s) {fp : List Addr} (hfp : ∀ b ∈ fp, FpOk X pins H b) {C : Addr} {cl : List (Str × Addr)} {x : Value} {s' : Shared} {use : Option (Value → Sem Unit)} {Q : Value → Shared → Prop} {acc : Value}
  (h : XC E1 X C fp s H x s') : notedBy (model X.prog X.w) X.A (compEnvC scope cl C X.env) (fun x s'' => compPost (model X.prog X.w) X.A X.xe use Q acc C (.error x) s'') x s' := by
 obtain ⟨H', hR, a, Cl, a0, fl, rfl, os, bare, un, hok, ⟨m, hm⟩, hHC, hCs, hf, hs, fly, sl, q⟩ := h
 rw [L.st] at fly
 show wpAny _ X.A (noteFrame (.ref a) X.env) _ _ s'
 refine wpAny_looks_onW (by rw [I.ok.frames, L.st]) L.fr fly fun h4 held sm4 => ?_
 have hm4 : h4.Ns C m := (sl.trans sm4).ns hm
 have post : ∃ m, h4.Ns C m ∧ ∀ h', Heap.SameBut C h4 h' → ∀ cenv : Env, cenv.locals = C → wpAny (model X.prog X.w) X.A (PySem.passOn "comprehension.variables-let-go" (.ref a) cenv : Sem Value) (fun _ _ => False) X.xe { s' with heap := h' } := by
  refine ⟨m, hm4, fun h' hs' cenv _ => ?_⟩
  obtain ⟨f1, f2, f3, f4⟩ := held
  have less : ∀ b o, (PySem.W.hideAll (PySem.W.hideAll hR [C]) fl).get? b = some o → b ≠ C ∧ (PySem.W.hideAll hR fl).get? b = some o := fun b o e => by
   have e1 := PySem.W.of_hideAll fl e
   have e2 := PySem.W.of_hideAll [C] e1
   have n1 : b ≠ C := fun z => by rw [z, PySem.W.hideAll_none [C] (List.mem_singleton.mpr rfl)] at e1; cases e1
   have n2 : b ∉ fl := fun z => by rw [PySem.W.hideAll_none fl z] at e; cases e
   exact ⟨n1, PySem.W.hideAll_get fl e2 n2⟩
  have k1 : (PySem.W.hideAll (PySem.W.hideAll hR [C]) fl).StaysIn h' := fun b o e => (hs'.2 b (less b o e).1).trans (f1 b o (less b o e).2)
  have none' : ∀ b, (PySem.W.hideAll hR fl).get? b = none → (PySem.W.hideAll (PySem.W.hideAll hR [C]) fl).get? b = none := fun b e => by
   cases y : (PySem.W.hideAll (PySem.W.hideAll hR [C]) fl).get? b with
   | none => rfl
   | some o => rw [(less b o y).2] at e; cases e
  have nC : ∀ b o vs, h4.get? b = some o → o.data = .fields vs → b ≠ C := fun b o vs e1 e2 z => by
   subst z
   obtain ⟨o', es, ep, ho, hd, _⟩ := hm4
   rw [e1] at ho; cases ho
   rw [e2] at hd; cases hd
  have k3 : h'.FunFrames (PySem.W.hideAll (PySem.W.hideAll hR [C]) fl) (X.env :: X.outer) := by
   have frs' : ∀ env ∈ X.env :: X.outer, ∀ b, env.frame = some b → b ≠ C := fun env he b hb z => by
    have hb' : b ∈ frs X.stack := by rw [L.st]; exact List.mem_filterMap.mpr ⟨env, he, hb⟩
    obtain ⟨_, o, e, _⟩ := I.stack.mem hb'
    exact absurd (Heap.lt_size e) (z ▸ Nat.not_lt.mpr hCs)
   have go : ∀ l : List Env, (∀ env ∈ l, ∀ b, env.frame = some b → b ≠ C) → h4.FunFrames (PySem.W.hideAll hR fl) l → h'.FunFrames (PySem.W.hideAll (PySem.W.hideAll hR [C]) fl) l := by
    intro l
    induction l with
    | nil => intro _ _; trivial
    | cons env l ih =>
     rintro hn ⟨h1, ⟨L', o, h2, h3, h4', h5⟩, h6⟩
     exact ⟨h1, ⟨L', o, h2, none' L' h3, (hs'.2 L' (hn env List.mem_cons_self L' h2)).trans h4', h5⟩, ih (fun e he => hn e (List.mem_cons_of_mem _ he)) h6⟩
   exact go _ frs' f3
  have k4 : h'.TracedAtW (PySem.W.hideAll (PySem.W.hideAll hR [C]) fl) a Cl a0 (rawInt X.env.locals) := by
   obtain ⟨oe, vs, T', oT, ts, he, hcls, hd, h1, hnT, hTe, hT, hdT, h3⟩ := f4
   exact ⟨oe, vs, T', oT, ts, (hs'.2 a (nC a oe vs he hd)).trans he, hcls, hd, h1, none' T' hnT, hTe, (hs'.2 T' (nC T' oT ts hT hdT)).trans hT, hdT, h3⟩
  refine passOn_any (s := { s' with heap := h' }) k1 k3 k4 fun h5 v p1 p2 p3 p4 => ?_
  refine L.xe _ _ ?_
  refine leaving_any (s := { s' with heap := h5 }) (by rw [I.ok.frames, L.st]) p2 L.fr p3 p1 (none' a f2) fun h6 hL => ?_
  obtain ⟨x1, ⟨_, _, x2⟩, x3, x4⟩ := hL
  have hch : ∀ b ∈ fp, (b ∈ X.ex ∨ X.s₀.heap.objs.size ≤ b) ∧ b ≠ X.env.locals ∧ (∀ x c, X.env.cells.lookup x = some c → c ≠ b) ∧ ∀ p ∈ X.pn ++ pins, p.1 ≠ b := fun b hb =>
   ⟨(hfp b hb).2.2.2.1, (hfp b hb).2.1, (hfp b hb).2.2.2.2.1, (hfp b hb).2.2.2.2.2⟩
  have neC : ∀ b o, s.heap.get? b = some o → b ∉ [C] := fun b o e z => by
   rw [List.mem_singleton.mp z] at e
   exact absurd (Heap.lt_size e) (Nat.not_lt.mpr hCs)
  have un' : Un (frs X.stack) fp H H' s.heap (PySem.W.hideAll hR [C]) := by
   refine ⟨fun b o q n' hb hx => PySem.W.hideAll_get _ (un.keep b o q n' hb hx) (neC b o q), fun b o q n' hb hx => ?_, un.free, fun b o q hx => ?_, un.tups, un.frzs, un.tbls⟩
   ·obtain ⟨sl', e⟩ := un.slot b o q n' hb hx
    exact ⟨sl', PySem.W.hideAll_get _ e (neC b o q)⟩
   ·obtain ⟨o', e⟩ := un.there b o q hx
    exact ⟨o', PySem.W.hideAll_get _ e (neC b o q)⟩
  have hok' : HOk X.prog X.w H' (PySem.W.hideAll hR [C]) := hok_hide hok (fun b hb => by rw [List.mem_singleton.mp hb]; exact hHC) (fun b o e => e)
  have J : Inv X pins σ H' { s' with heap := PySem.W.hideAll hR [C] } := I.call' (ch := fp) (s' := { s' with heap := PySem.W.hideAll hR [C] }) os un' hok' bare hch
  refine ⟨H', PySem.W.hideAll hR [C], a, Cl, a0, fl, rfl, J.os, bare, (by have := J.base; rw [L.ex] at this; exact this), hok', fun b hb => ⟨(hf b hb).1, ?_⟩, fun b hb => hs b (L.sub hb), ⟨x1, none' a f2, x2, x3⟩, fun b o e hn => ?_, q⟩
  ·rcases (hf b hb).2 with z | z | z
   ·rcases List.mem_cons.mp (I.stkSub b z) with rfl | z
    ·exact .inr (Heap.get?_none_of_le I.ok.above)
    ·exact .inl z
   ·refine .inr ?_
    cases y : X.s₀.heap.get? b with
    | none => rfl
    | some o =>
     obtain ⟨o', y'⟩ := I.base.there b o y (by rw [L.ex]; simp)
     rw [z] at y'; cases y'
   ·rcases (hch b z).1 with y | y
    ·rw [L.ex] at y; cases y
    ·exact .inr (Heap.get?_none_of_le y)
  ·have n1 : b ≠ C := fun z => by rw [z, PySem.W.hideAll_none [C] (List.mem_singleton.mpr rfl)] at e; cases e
   obtain ⟨sl1, e1⟩ := (sl.trans sm4) b o (PySem.W.of_hideAll [C] e) hn
   have e2 : h'.get? b = some { o with slots := sl1 } := (hs'.2 b n1).trans e1
   have e3 := p4 b _ e2 hn
   have e4 := x4 b { o with slots := sl1 } e3 hn
   exact e4
 cases use <;> exact post
theorem ps_setcompX {E1 : XK} (L : Lv X E1) {i : Nat} {x : Str} {pos' spos : Pos} (S : CompScope X N0 T scope) (hc : X.calm = true) (hN : X.N.Nodup) (hi' : X.N[i]? = some x) (hx : X.env.scope.names.lookup x = some .local) (hI : PI X tg iter wi)
  (hg : ∀ C fp s H, PG (cxCompX E1 X N0 T scope C fp s H) tg g) (hfr : GFr g X.N.length) (hi : ∀ C fp s H, PIfs (cxCompX E1 X N0 T scope C fp s H) ifs tc) (he : ∀ C fp s H, PE (cxCompX E1 X N0 T scope C fp s H) elt te)
  (hsw : swapsWith (.ListComp elt [⟨tg, iter, ifs, 0⟩] scope pos) (some (.Name x pos')) spos.line X.env = pure true := by rfl)
  (hs : ∀ x, foldedSetIterable iter X.env x = pure x := by intro _; rfl) : PS X (.Assign [.Name x pos'] (.ListComp elt [⟨tg, iter, ifs, 0⟩] scope pos) spos) (tAsg (tComp wi g tc te T.length) (gName i)) := by
 intro pins s σ H D I h
 rw [exec_Assign_Name_used _ _ _ _ hsw]
 refine wpAny_bind (wpAny_standAt (wpAny_bind ?_))
 show wpAny _ X.A (do let _ ← comprehension (.ListComp elt [⟨tg, iter, ifs, 0⟩] scope pos) scope X.env _ (newList []) false (eval iter X.env) (some (assign (.Name x pos') X.env))) _ _ s
 refine wpAny_bind (wpAny_mono (wpAny_comprehension_free (use := some (assign (.Name x pos') X.env)) (Q := fun _ s' => SP X pins D .next s') rfl hs (closureFor_eq fun x hx hk => I.ok.has x.1 (S.free x hx hk)) S.kind S.names
  (thn (hI pins s σ H _ I h) fun v s1 h1 => thn h1 fun itv s2 h2 => ?_)) (fun _ s' hq => wpAny_pure (wpAny_pure hq)) fun _ _ e => e)
 obtain ⟨it, fp, tn, J, H2, e, I2, Tn, st2, f2, q2⟩ := h2
 subst e
 refine comp_coreX E1 (RR := fun acc C => compPost (model X.prog X.w) X.A X.xe (some (assign (.Name x pos') X.env)) (fun _ s' => SP X pins D .next s') acc C) S hc hg hfr hi he I2 Tn st2 f2 q2 (fun D C x s' h' => xc_post L I2 f2 h') ?_
 intro L9 C s' H' m hn hC hL hcells hpins hfresh I' hI' q
 show wpAny _ X.A (assign (.Name x pos') X.env (.ref L9)) _ _ _
 refine wpAny_assign_Name (store_ok2 (v := .ref L9) I' hN hi' (.inl hx) rfl (fun s'' I'' ⟨a, hsa, ha⟩ => ?_) (.inr hx))
 have hCa : C ≠ a := by
  rintro rfl
  rcases ha with z | z
  ·exact hL z
  ·exact hcells x C z rfl
 refine ⟨m, hn.sameBut hsa hCa, fun h' hs' => ?_⟩
 exact ⟨σ.set i (some (.ref L9)), H', I''.turned (t' := s''.toks) (fun b o hb e => (hs'.2 b hb).trans e) hC hL (.inr hfresh) hcells hpins, q⟩
end
section
variable {X : Cx} {N0 T : List Str} {scope : Scope} {C : Addr} {fp : List Addr} {s : Shared} {H : Hp} {E1 : XK} {x : Str}
theorem glCX (fsc : Scope) (h : (relabelS scope fsc).names.lookup x = some .globalImplicit) (e : X.env.scope = fsc := by rfl) : Gl (cxCompX E1 X N0 T scope C fp s H) x := glC (X := X) (N0 := N0) (T := T) (scope := scope) (C := C) (fp := fp) (s := s) (H := H) fsc h e
theorem visCX (fsc : Scope) (h : ((relabelS scope fsc).names.lookup x = some .local || (relabelS scope fsc).names.lookup x = some .cell || (relabelS scope fsc).names.lookup x = some .free) = true) (e : X.env.scope = fsc := by rfl) : Vis (cxCompX E1 X N0 T scope C fp s H).env.scope x := visC (X := X) (N0 := N0) (T := T) (scope := scope) (C := C) (fp := fp) (s := s) (H := H) fsc h e
theorem locCX (fsc : Scope) (h : (relabelS scope fsc).names.lookup x = some .local) (e : X.env.scope = fsc := by rfl) : Loc (cxCompX E1 X N0 T scope C fp s H).env.scope x := locC (X := X) (N0 := N0) (T := T) (scope := scope) (C := C) (fp := fp) (s := s) (H := H) fsc h e
theorem fnCX (fsc : Scope) (h : (relabelS scope fsc).names.lookup x = some .local) (e : X.env.scope = fsc := by rfl) : (cxCompX E1 X N0 T scope C fp s H).fn x = true ∨ (cxCompX E1 X N0 T scope C fp s H).env.scope.names.lookup x = some .local := fnC (X := X) (N0 := N0) (T := T) (scope := scope) (C := C) (fp := fp) (s := s) (H := H) fsc h e
end
end L2
set_option Elab.async false
set_option linter.all false
set_option maxRecDepth 100000
set_option maxHeartbeats 4000000
section
open PySem PySem.Spec PyProof.Rows L2
seal L2.PE L2.PT L2.PW L2.PA L2.PS L2.PSs L2.PG L2.PGs L2.PSet L2.PI L2.PIfs L2.OpR L2.UnR L2.CallR L2.IxR L2.MtR L2.SlR L2.PO L2.PPs
local macro_rules | `(tactic| walk_at "rd1") => `(tactic| try simp only [tSeq_at, tPairs_nil, tPairs_cons, tNext_at, tCont_at, tIfS_at, tRet_at, tDrop_at, tAsg_at, gName_at, gNil_at, gCons_at, gTup_at, tVar_at, tC_at, tOp_at, tUn_at, tTest_at, tB_at, tAnd_at, tOr_at, tNot_at, tAndV_at, tOrV_at, tNotV_at, tIf_at, tIfT_at, tCB_at, tCons_at, tNil_at, tTup_at, tLst_at, tCall_at, tBM_at, rSplit_at, rPartition_at, rEndsW_at, tChain_at, tSl_at, tPart_at, tNoPart_at, tComp_at, tYes_at, iZip_at, ex_refs2, rSlS_at, tFmt_at, tFstr_at, tjNil_at, tjCons_at, fmtV_str, fmtV_int, iList_at, iStr_at, iRng1_at, iRng2_at, tFor_at, compK_at, rI0_at, rI_at, rAddA_int, rAddA_str, rAddA_ref, rMulB_int, rMulB_str, rIsN_at, rNotN_at, rStrI_at, rInt1_bl, rMin2_at, rSlL_at, rU_at, rEqD_at, rNeD_at, rSortS_at, rLtA_int, rLtA_str, rInA_str, rInA_ref, rNotInA_str, rNotInA_ref, rLenA_str, rLenA_ref, rIxA_ref, rIxA_str, rAppend_at, rJoin_at, rIsT_at, rAll_at, rEqA_int, rEqA_str, rNeA_int, rNeA_str, tyV_str, tyV_lst, L2.start, List.map_cons, List.map_nil, List.length_cons, List.length_nil, List.replicate, List.cons_append, List.nil_append, List.append_nil, List.getElem?_cons_zero, List.getElem?_cons_succ, List.set_cons_zero, List.set_cons_succ, Nat.reduceAdd, Nat.reduceSub, Option.some.injEq, exists_eq_left', exists_eq_left, V.int.injEq, V.ref.injEq, V.str.injEq, V.bl.injEq, ex_one, ex_two, ex_cons, and_true, true_and, decide_eq_true_eq, Bool.not_true, Bool.not_false, if_true, Bool.false_eq_true, if_false, ite_true, ite_false])
local macro_rules | `(tactic| walk_at "nx") => `(tactic| ((first | rw [rest_at] | (dsimp only; rw [rest_at])); walk_at "rd1"))
local macro_rules | `(tactic| walk_at "lk") => `(tactic| repeat (first | exact lk_hit | exact lk_nil | rw [lk_miss (by decide +kernel)]))
local macro_rules | `(tactic| walk_at "pf") => `(tactic| repeat (first | rw [putF_hit] | rw [putF_nil] | rw [putF_miss (by decide +kernel)]))
namespace K86
open PySem L2
theorem bt_ValueError : bootBuiltins "ValueError" = some (.type "ValueError") := PyProof.Rows.Boot.«ValueError»
abbrev s_number_in : Stmt := top 6
theorem sc_number_in : FnScope ["text", "most"] ["text", "most"] (defScope s_number_in) := ⟨rfl, rfl, rfl, by decide +kernel, rfl, by decide +kernel, by decide +kernel⟩
theorem vz0 : Vis (defScope s_number_in) "text" := Or.inl (by decide +kernel)
theorem vz1 : Vis (defScope s_number_in) "most" := Or.inl (by decide +kernel)
theorem gz0 : (defScope s_number_in).names.lookup ("all" : Str) = some .globalImplicit := by decide +kernel
theorem gz1 : (defScope s_number_in).names.lookup ("int" : Str) = some .globalImplicit := by decide +kernel
theorem gz2 : (defScope s_number_in).names.lookup ("len" : Str) = some .globalImplicit := by decide +kernel
abbrev s_is_whole : Stmt := top 12
theorem sc_is_whole : FnScope ["thing"] ["thing"] (defScope s_is_whole) := ⟨rfl, rfl, rfl, by decide +kernel, rfl, by decide +kernel, by decide +kernel⟩
theorem vz2 : Vis (defScope s_is_whole) "thing" := Or.inl (by decide +kernel)
theorem gz3 : (defScope s_is_whole).names.lookup ("bool" : Str) = some .globalImplicit := by decide +kernel
theorem gz4 : (defScope s_is_whole).names.lookup ("int" : Str) = some .globalImplicit := by decide +kernel
theorem gz5 : (defScope s_is_whole).names.lookup ("isinstance" : Str) = some .globalImplicit := by decide +kernel
abbrev s_is_word : Stmt := top 13
theorem sc_is_word : FnScope ["thing"] ["thing"] (defScope s_is_word) := ⟨rfl, rfl, rfl, by decide +kernel, rfl, by decide +kernel, by decide +kernel⟩
theorem vz3 : Vis (defScope s_is_word) "thing" := Or.inl (by decide +kernel)
theorem gz6 : (defScope s_is_word).names.lookup ("MOST_LETTERS" : Str) = some .globalImplicit := by decide +kernel
theorem gz7 : (defScope s_is_word).names.lookup ("all" : Str) = some .globalImplicit := by decide +kernel
theorem gz8 : (defScope s_is_word).names.lookup ("isinstance" : Str) = some .globalImplicit := by decide +kernel
theorem gz9 : (defScope s_is_word).names.lookup ("len" : Str) = some .globalImplicit := by decide +kernel
theorem gza : (defScope s_is_word).names.lookup ("str" : Str) = some .globalImplicit := by decide +kernel
abbrev s_is_sided_word : Stmt := top 14
theorem sc_is_sided_word : FnScope ["thing"] ["thing"] (defScope s_is_sided_word) := ⟨rfl, rfl, rfl, by decide +kernel, rfl, by decide +kernel, by decide +kernel⟩
theorem vz4 : Vis (defScope s_is_sided_word) "thing" := Or.inl (by decide +kernel)
theorem gzb : (defScope s_is_sided_word).names.lookup ("is_word" : Str) = some .globalImplicit := by decide +kernel
theorem gzc : (defScope s_is_sided_word).names.lookup ("isinstance" : Str) = some .globalImplicit := by decide +kernel
theorem gzd : (defScope s_is_sided_word).names.lookup ("str" : Str) = some .globalImplicit := by decide +kernel
abbrev s_is_rising : Stmt := top 15
theorem sc_is_rising : FnScope ["texts"] ["texts"] (defScope s_is_rising) := ⟨rfl, rfl, rfl, by decide +kernel, rfl, by decide +kernel, by decide +kernel⟩
theorem vz5 : Vis (defScope s_is_rising) "texts" := Or.inr (Or.inl (by decide +kernel))
theorem gze : (defScope s_is_rising).names.lookup ("all" : Str) = some .globalImplicit := by decide +kernel
theorem gzf : (defScope s_is_rising).names.lookup ("len" : Str) = some .globalImplicit := by decide +kernel
theorem gzg : (defScope s_is_rising).names.lookup ("range" : Str) = some .globalImplicit := by decide +kernel
abbrev s_are_words : Stmt := top 16
theorem sc_are_words : FnScope ["thing", "sides", "word"] ["thing", "sides"] (defScope s_are_words) := ⟨rfl, rfl, rfl, by decide +kernel, rfl, by decide +kernel, by decide +kernel⟩
theorem vz6 : Vis (defScope s_are_words) "thing" := Or.inl (by decide +kernel)
theorem vz7 : Vis (defScope s_are_words) "sides" := Or.inl (by decide +kernel)
theorem vz8 : Vis (defScope s_are_words) "word" := Or.inl (by decide +kernel)
theorem lz0 : Loc (defScope s_are_words) "word" := Or.inl (by decide +kernel)
theorem gzh : (defScope s_are_words).names.lookup ("MOST_WORDS" : Str) = some .globalImplicit := by decide +kernel
theorem gzi : (defScope s_are_words).names.lookup ("is_rising" : Str) = some .globalImplicit := by decide +kernel
theorem gzj : (defScope s_are_words).names.lookup ("is_sided_word" : Str) = some .globalImplicit := by decide +kernel
theorem gzk : (defScope s_are_words).names.lookup ("is_word" : Str) = some .globalImplicit := by decide +kernel
theorem gzl : (defScope s_are_words).names.lookup ("isinstance" : Str) = some .globalImplicit := by decide +kernel
theorem gzm : (defScope s_are_words).names.lookup ("len" : Str) = some .globalImplicit := by decide +kernel
theorem gzn : (defScope s_are_words).names.lookup ("list" : Str) = some .globalImplicit := by decide +kernel
abbrev s_is_way : Stmt := top 17
theorem sc_is_way : FnScope ["thing", "count"] ["thing", "count"] (defScope s_is_way) := ⟨rfl, rfl, rfl, by decide +kernel, rfl, by decide +kernel, by decide +kernel⟩
theorem vz9 : Vis (defScope s_is_way) "thing" := Or.inl (by decide +kernel)
theorem vza : Vis (defScope s_is_way) "count" := Or.inl (by decide +kernel)
theorem gzo : (defScope s_is_way).names.lookup ("is_whole" : Str) = some .globalImplicit := by decide +kernel
abbrev s_is_room : Stmt := top 18
theorem sc_is_room : FnScope ["thing", "width", "count"] ["thing", "width", "count"] (defScope s_is_room) := ⟨rfl, rfl, rfl, by decide +kernel, rfl, by decide +kernel, by decide +kernel⟩
theorem vzb : Vis (defScope s_is_room) "thing" := Or.inl (by decide +kernel)
theorem vzc : Vis (defScope s_is_room) "width" := Or.inl (by decide +kernel)
theorem gzp : (defScope s_is_room).names.lookup ("all" : Str) = some .globalImplicit := by decide +kernel
theorem gzq : (defScope s_is_room).names.lookup ("isinstance" : Str) = some .globalImplicit := by decide +kernel
theorem gzr : (defScope s_is_room).names.lookup ("len" : Str) = some .globalImplicit := by decide +kernel
theorem gzs : (defScope s_is_room).names.lookup ("list" : Str) = some .globalImplicit := by decide +kernel
abbrev s_are_rooms : Stmt := top 19
theorem sc_are_rooms : FnScope ["thing", "width"] ["thing", "width"] (defScope s_are_rooms) := ⟨rfl, rfl, rfl, by decide +kernel, rfl, by decide +kernel, by decide +kernel⟩
theorem vzd : Vis (defScope s_are_rooms) "thing" := Or.inr (Or.inl (by decide +kernel))
theorem gzt : (defScope s_are_rooms).names.lookup ("MOST_ROOMS" : Str) = some .globalImplicit := by decide +kernel
theorem gzu : (defScope s_are_rooms).names.lookup ("all" : Str) = some .globalImplicit := by decide +kernel
theorem gzv : (defScope s_are_rooms).names.lookup ("isinstance" : Str) = some .globalImplicit := by decide +kernel
theorem gzw : (defScope s_are_rooms).names.lookup ("len" : Str) = some .globalImplicit := by decide +kernel
theorem gzx : (defScope s_are_rooms).names.lookup ("list" : Str) = some .globalImplicit := by decide +kernel
abbrev s_is_rule : Stmt := top 20
theorem sc_is_rule : FnScope ["thing", "sides"] ["thing"] (defScope s_is_rule) := ⟨rfl, rfl, rfl, by decide +kernel, rfl, by decide +kernel, by decide +kernel⟩
theorem vze : Vis (defScope s_is_rule) "thing" := Or.inl (by decide +kernel)
theorem vzf : Vis (defScope s_is_rule) "sides" := Or.inl (by decide +kernel)
theorem lz1 : Loc (defScope s_is_rule) "sides" := Or.inl (by decide +kernel)
theorem gzy : (defScope s_is_rule).names.lookup ("are_rooms" : Str) = some .globalImplicit := by decide +kernel
theorem gzz : (defScope s_is_rule).names.lookup ("are_words" : Str) = some .globalImplicit := by decide +kernel
theorem gz10 : (defScope s_is_rule).names.lookup ("is_whole" : Str) = some .globalImplicit := by decide +kernel
theorem gz11 : (defScope s_is_rule).names.lookup ("isinstance" : Str) = some .globalImplicit := by decide +kernel
theorem gz12 : (defScope s_is_rule).names.lookup ("len" : Str) = some .globalImplicit := by decide +kernel
theorem gz13 : (defScope s_is_rule).names.lookup ("tuple" : Str) = some .globalImplicit := by decide +kernel
abbrev s_lines_in : Stmt := top 22
theorem sc_lines_in : FnScope ["text"] ["text"] (defScope s_lines_in) := ⟨rfl, rfl, rfl, by decide +kernel, rfl, by decide +kernel, by decide +kernel⟩
theorem vzg : Vis (defScope s_lines_in) "text" := Or.inl (by decide +kernel)
abbrev s_show_way : Stmt := top 25
theorem sc_show_way : FnScope ["word", "way"] ["word", "way"] (defScope s_show_way) := ⟨rfl, rfl, rfl, by decide +kernel, rfl, by decide +kernel, by decide +kernel⟩
theorem vzh : Vis (defScope s_show_way) "word" := Or.inl (by decide +kernel)
theorem vzi : Vis (defScope s_show_way) "way" := Or.inl (by decide +kernel)
abbrev s_show_room : Stmt := top 26
theorem sc_show_room : FnScope ["words", "room"] ["words", "room"] (defScope s_show_room) := ⟨rfl, rfl, rfl, by decide +kernel, rfl, by decide +kernel, by decide +kernel⟩
theorem vzj : Vis (defScope s_show_room) "words" := Or.inl (by decide +kernel)
theorem vzk : Vis (defScope s_show_room) "room" := Or.inl (by decide +kernel)
theorem gz14 : (defScope s_show_room).names.lookup ("zip" : Str) = some .globalImplicit := by decide +kernel
abbrev s_show_rule : Stmt := top 27
theorem sc_show_rule : FnScope ["rule"] ["rule"] (defScope s_show_rule) := ⟨rfl, rfl, rfl, by decide +kernel, rfl, by decide +kernel, by decide +kernel⟩
theorem vzl : Vis (defScope s_show_rule) "rule" := Or.inr (Or.inl (by decide +kernel))
theorem gz15 : (defScope s_show_rule).names.lookup ("str" : Str) = some .globalImplicit := by decide +kernel
abbrev s_way_in : Stmt := top 28
theorem sc_way_in : FnScope ["text", "parts"] ["text"] (defScope s_way_in) := ⟨rfl, rfl, rfl, by decide +kernel, rfl, by decide +kernel, by decide +kernel⟩
theorem vzm : Vis (defScope s_way_in) "text" := Or.inl (by decide +kernel)
theorem vzn : Vis (defScope s_way_in) "parts" := Or.inl (by decide +kernel)
theorem lz2 : Loc (defScope s_way_in) "parts" := Or.inl (by decide +kernel)
theorem gz16 : (defScope s_way_in).names.lookup ("MOST_FIGURES" : Str) = some .globalImplicit := by decide +kernel
theorem gz17 : (defScope s_way_in).names.lookup ("number_in" : Str) = some .globalImplicit := by decide +kernel
abbrev s_ways_in : Stmt := top 29
theorem sc_ways_in : FnScope ["text"] ["text"] (defScope s_ways_in) := ⟨rfl, rfl, rfl, by decide +kernel, rfl, by decide +kernel, by decide +kernel⟩
theorem vzo : Vis (defScope s_ways_in) "text" := Or.inl (by decide +kernel)
abbrev s_numbers_of : Stmt := top 30
theorem sc_numbers_of : FnScope ["ways"] ["ways"] (defScope s_numbers_of) := ⟨rfl, rfl, rfl, by decide +kernel, rfl, by decide +kernel, by decide +kernel⟩
theorem vzp : Vis (defScope s_numbers_of) "ways" := Or.inl (by decide +kernel)
abbrev s_rule_in : Stmt := top 31
theorem sc_rule_in : FnScope ["text", "parts", "rooms", "words"] ["text"] (defScope s_rule_in) := ⟨rfl, rfl, rfl, by decide +kernel, rfl, by decide +kernel, by decide +kernel⟩
theorem vzq : Vis (defScope s_rule_in) "text" := Or.inl (by decide +kernel)
theorem vzr : Vis (defScope s_rule_in) "parts" := Or.inl (by decide +kernel)
theorem lz3 : Loc (defScope s_rule_in) "parts" := Or.inl (by decide +kernel)
theorem vzs : Vis (defScope s_rule_in) "rooms" := Or.inl (by decide +kernel)
theorem kz0 : (defScope s_rule_in).names.lookup ("rooms" : Str) = some .local := by decide +kernel
theorem vzt : Vis (defScope s_rule_in) "words" := Or.inl (by decide +kernel)
theorem kz1 : (defScope s_rule_in).names.lookup ("words" : Str) = some .local := by decide +kernel
theorem gz18 : (defScope s_rule_in).names.lookup ("MOST_FIGURES" : Str) = some .globalImplicit := by decide +kernel
theorem gz19 : (defScope s_rule_in).names.lookup ("number_in" : Str) = some .globalImplicit := by decide +kernel
abbrev s_read_rule : Stmt := top 32
theorem sc_read_rule : FnScope ["text", "rule"] ["text"] (defScope s_read_rule) := ⟨rfl, rfl, rfl, by decide +kernel, rfl, by decide +kernel, by decide +kernel⟩
theorem vzu : Vis (defScope s_read_rule) "text" := Or.inl (by decide +kernel)
theorem vzv : Vis (defScope s_read_rule) "rule" := Or.inl (by decide +kernel)
theorem lz4 : Loc (defScope s_read_rule) "rule" := Or.inl (by decide +kernel)
theorem gz1a : (defScope s_read_rule).names.lookup ("NoText" : Str) = some .globalImplicit := by decide +kernel
theorem gz1b : (defScope s_read_rule).names.lookup ("is_rule" : Str) = some .globalImplicit := by decide +kernel
theorem gz1c : (defScope s_read_rule).names.lookup ("isinstance" : Str) = some .globalImplicit := by decide +kernel
theorem gz1d : (defScope s_read_rule).names.lookup ("rule_in" : Str) = some .globalImplicit := by decide +kernel
theorem gz1e : (defScope s_read_rule).names.lookup ("show_rule" : Str) = some .globalImplicit := by decide +kernel
theorem gz1f : (defScope s_read_rule).names.lookup ("str" : Str) = some .globalImplicit := by decide +kernel
abbrev s_named_in : Stmt := top 35
theorem sc_named_in : FnScope ["line", "parts"] ["line"] (defScope s_named_in) := ⟨rfl, rfl, rfl, by decide +kernel, rfl, by decide +kernel, by decide +kernel⟩
theorem vzw : Vis (defScope s_named_in) "line" := Or.inl (by decide +kernel)
theorem vzx : Vis (defScope s_named_in) "parts" := Or.inl (by decide +kernel)
theorem lz5 : Loc (defScope s_named_in) "parts" := Or.inl (by decide +kernel)
theorem gz1g : (defScope s_named_in).names.lookup ("NoText" : Str) = some .globalImplicit := by decide +kernel
theorem gz1h : (defScope s_named_in).names.lookup ("is_word" : Str) = some .globalImplicit := by decide +kernel
theorem gz1i : (defScope s_named_in).names.lookup ("read_rule" : Str) = some .globalImplicit := by decide +kernel
abbrev s_read_rules : Stmt := top 36
theorem sc_read_rules : FnScope ["text", "lines", "rules"] ["text"] (defScope s_read_rules) := ⟨rfl, rfl, rfl, by decide +kernel, rfl, by decide +kernel, by decide +kernel⟩
theorem vzy : Vis (defScope s_read_rules) "text" := Or.inl (by decide +kernel)
theorem vzz : Vis (defScope s_read_rules) "lines" := Or.inl (by decide +kernel)
theorem lz6 : Loc (defScope s_read_rules) "lines" := Or.inl (by decide +kernel)
theorem vz10 : Vis (defScope s_read_rules) "rules" := Or.inl (by decide +kernel)
theorem kz2 : (defScope s_read_rules).names.lookup ("rules" : Str) = some .local := by decide +kernel
theorem gz1j : (defScope s_read_rules).names.lookup ("MOST_RULES" : Str) = some .globalImplicit := by decide +kernel
theorem gz1k : (defScope s_read_rules).names.lookup ("NoText" : Str) = some .globalImplicit := by decide +kernel
theorem gz1l : (defScope s_read_rules).names.lookup ("isinstance" : Str) = some .globalImplicit := by decide +kernel
theorem gz1m : (defScope s_read_rules).names.lookup ("len" : Str) = some .globalImplicit := by decide +kernel
theorem gz1n : (defScope s_read_rules).names.lookup ("lines_in" : Str) = some .globalImplicit := by decide +kernel
theorem gz1o : (defScope s_read_rules).names.lookup ("set" : Str) = some .globalImplicit := by decide +kernel
theorem gz1p : (defScope s_read_rules).names.lookup ("str" : Str) = some .globalImplicit := by decide +kernel
abbrev s_law_cell_at : Stmt := top 38
theorem sc_law_cell_at : FnScope ["_law_script", "_law_k"] ["_law_script", "_law_k"] (defScope s_law_cell_at) := ⟨rfl, rfl, rfl, by decide +kernel, rfl, by decide +kernel, by decide +kernel⟩
theorem vz11 : Vis (defScope s_law_cell_at) "_law_script" := Or.inl (by decide +kernel)
theorem vz12 : Vis (defScope s_law_cell_at) "_law_k" := Or.inl (by decide +kernel)
theorem gz1q : (defScope s_law_cell_at).names.lookup ("len" : Str) = some .globalImplicit := by decide +kernel
abbrev s_law_mixed : Stmt := top 39
theorem sc_law_mixed : FnScope ["_law_cell", "_law_k", "_law_number_here"] ["_law_cell", "_law_k"] (defScope s_law_mixed) := ⟨rfl, rfl, rfl, by decide +kernel, rfl, by decide +kernel, by decide +kernel⟩
theorem vz13 : Vis (defScope s_law_mixed) "_law_cell" := Or.inl (by decide +kernel)
theorem vz14 : Vis (defScope s_law_mixed) "_law_k" := Or.inl (by decide +kernel)
theorem vz15 : Vis (defScope s_law_mixed) "_law_number_here" := Or.inl (by decide +kernel)
theorem lz7 : Loc (defScope s_law_mixed) "_law_number_here" := Or.inl (by decide +kernel)
abbrev s_law_words : Stmt := top 40
theorem sc_law_words : FnScope ["_law_cell", "_law_many", "_law_letters", "_law_size", "_law_at", "_law_words_here", "_law_k", "_law_word_here", "_law_j"] ["_law_cell", "_law_many"] (defScope s_law_words) := ⟨rfl, rfl, rfl, by decide +kernel, rfl, by decide +kernel, by decide +kernel⟩
theorem vz16 : Vis (defScope s_law_words) "_law_cell" := Or.inl (by decide +kernel)
theorem vz17 : Vis (defScope s_law_words) "_law_many" := Or.inl (by decide +kernel)
theorem vz18 : Vis (defScope s_law_words) "_law_letters" := Or.inl (by decide +kernel)
theorem lz8 : Loc (defScope s_law_words) "_law_letters" := Or.inl (by decide +kernel)
theorem vz19 : Vis (defScope s_law_words) "_law_size" := Or.inl (by decide +kernel)
theorem lz9 : Loc (defScope s_law_words) "_law_size" := Or.inl (by decide +kernel)
theorem vz1a : Vis (defScope s_law_words) "_law_at" := Or.inl (by decide +kernel)
theorem lza : Loc (defScope s_law_words) "_law_at" := Or.inl (by decide +kernel)
theorem vz1b : Vis (defScope s_law_words) "_law_words_here" := Or.inl (by decide +kernel)
theorem lzb : Loc (defScope s_law_words) "_law_words_here" := Or.inl (by decide +kernel)
theorem vz1c : Vis (defScope s_law_words) "_law_k" := Or.inl (by decide +kernel)
theorem lzc : Loc (defScope s_law_words) "_law_k" := Or.inl (by decide +kernel)
theorem vz1d : Vis (defScope s_law_words) "_law_word_here" := Or.inl (by decide +kernel)
theorem lzd : Loc (defScope s_law_words) "_law_word_here" := Or.inl (by decide +kernel)
theorem vz1e : Vis (defScope s_law_words) "_law_j" := Or.inl (by decide +kernel)
theorem lze : Loc (defScope s_law_words) "_law_j" := Or.inl (by decide +kernel)
theorem gz1r : (defScope s_law_words).names.lookup ("_law_mixed" : Str) = some .globalImplicit := by decide +kernel
theorem gz1s : (defScope s_law_words).names.lookup ("int" : Str) = some .globalImplicit := by decide +kernel
theorem gz1t : (defScope s_law_words).names.lookup ("range" : Str) = some .globalImplicit := by decide +kernel
abbrev s_law_word : Stmt := top 41
theorem sc_law_word : FnScope ["_law_text", "_law_sign"] ["_law_text"] (defScope s_law_word) := ⟨rfl, rfl, rfl, by decide +kernel, rfl, by decide +kernel, by decide +kernel⟩
theorem vz1f : Vis (defScope s_law_word) "_law_text" := Or.inl (by decide +kernel)
theorem vz1g : Vis (defScope s_law_word) "_law_sign" := Or.inl (by decide +kernel)
theorem lzf : Loc (defScope s_law_word) "_law_sign" := Or.inl (by decide +kernel)
theorem gz1u : (defScope s_law_word).names.lookup ("len" : Str) = some .globalImplicit := by decide +kernel
abbrev s_law_number : Stmt := top 42
theorem sc_law_number : FnScope ["_law_text", "_law_most", "_law_sign"] ["_law_text", "_law_most"] (defScope s_law_number) := ⟨rfl, rfl, rfl, by decide +kernel, rfl, by decide +kernel, by decide +kernel⟩
theorem vz1h : Vis (defScope s_law_number) "_law_text" := Or.inl (by decide +kernel)
theorem vz1i : Vis (defScope s_law_number) "_law_most" := Or.inl (by decide +kernel)
theorem vz1j : Vis (defScope s_law_number) "_law_sign" := Or.inl (by decide +kernel)
theorem lzg : Loc (defScope s_law_number) "_law_sign" := Or.inl (by decide +kernel)
theorem gz1v : (defScope s_law_number).names.lookup ("int" : Str) = some .globalImplicit := by decide +kernel
theorem gz1w : (defScope s_law_number).names.lookup ("len" : Str) = some .globalImplicit := by decide +kernel
abbrev s_law_move : Stmt := top 43
theorem sc_law_move : FnScope ["_law_text", "_law_most", "_law_word_here", "_law_mark", "_law_number_here"] ["_law_text", "_law_most"] (defScope s_law_move) := ⟨rfl, rfl, rfl, by decide +kernel, rfl, by decide +kernel, by decide +kernel⟩
theorem vz1k : Vis (defScope s_law_move) "_law_text" := Or.inl (by decide +kernel)
theorem vz1l : Vis (defScope s_law_move) "_law_most" := Or.inl (by decide +kernel)
theorem vz1m : Vis (defScope s_law_move) "_law_word_here" := Or.inl (by decide +kernel)
theorem lzh : Loc (defScope s_law_move) "_law_word_here" := Or.inl (by decide +kernel)
theorem vz1n : Vis (defScope s_law_move) "_law_mark" := Or.inl (by decide +kernel)
theorem lzi : Loc (defScope s_law_move) "_law_mark" := Or.inl (by decide +kernel)
theorem vz1o : Vis (defScope s_law_move) "_law_number_here" := Or.inl (by decide +kernel)
theorem lzj : Loc (defScope s_law_move) "_law_number_here" := Or.inl (by decide +kernel)
theorem gz1x : (defScope s_law_move).names.lookup ("_law_number" : Str) = some .globalImplicit := by decide +kernel
theorem gz1y : (defScope s_law_move).names.lookup ("_law_word" : Str) = some .globalImplicit := by decide +kernel
abbrev s_law_room : Stmt := top 44
theorem sc_law_room : FnScope ["_law_text", "_law_most", "_law_moves"] ["_law_text", "_law_most"] (defScope s_law_room) := ⟨rfl, rfl, rfl, by decide +kernel, rfl, by decide +kernel, by decide +kernel⟩
theorem vz1p : Vis (defScope s_law_room) "_law_text" := Or.inl (by decide +kernel)
theorem vz1q : Vis (defScope s_law_room) "_law_moves" := Or.inl (by decide +kernel)
theorem kz3 : (defScope s_law_room).names.lookup ("_law_moves" : Str) = some .local := by decide +kernel
abbrev s_law_rule_of : Stmt := top 45
theorem sc_law_rule_of : FnScope ["_law_text", "_law_parts", "_law_rooms", "_law_words_here", "_law_room_here"] ["_law_text"] (defScope s_law_rule_of) := ⟨rfl, rfl, rfl, by decide +kernel, rfl, by decide +kernel, by decide +kernel⟩
theorem vz1r : Vis (defScope s_law_rule_of) "_law_text" := Or.inl (by decide +kernel)
theorem vz1s : Vis (defScope s_law_rule_of) "_law_parts" := Or.inr (Or.inl (by decide +kernel))
theorem lzk : Loc (defScope s_law_rule_of) "_law_parts" := Or.inr (by decide +kernel)
theorem vz1t : Vis (defScope s_law_rule_of) "_law_rooms" := Or.inl (by decide +kernel)
theorem kz4 : (defScope s_law_rule_of).names.lookup ("_law_rooms" : Str) = some .local := by decide +kernel
theorem vz1u : Vis (defScope s_law_rule_of) "_law_words_here" := Or.inl (by decide +kernel)
theorem kz5 : (defScope s_law_rule_of).names.lookup ("_law_words_here" : Str) = some .local := by decide +kernel
theorem vz1v : Vis (defScope s_law_rule_of) "_law_room_here" := Or.inl (by decide +kernel)
theorem lzl : Loc (defScope s_law_rule_of) "_law_room_here" := Or.inl (by decide +kernel)
theorem gz1z : (defScope s_law_rule_of).names.lookup ("len" : Str) = some .globalImplicit := by decide +kernel
theorem gz20 : (defScope s_law_rule_of).names.lookup ("set" : Str) = some .globalImplicit := by decide +kernel
theorem gz21 : (defScope s_law_rule_of).names.lookup ("sorted" : Str) = some .globalImplicit := by decide +kernel
abbrev s_law_list_of : Stmt := top 46
theorem sc_law_list_of : FnScope ["_law_text", "_law_found", "_law_line", "_law_name", "_law_blank", "_law_rest", "_law_rule"] ["_law_text"] (defScope s_law_list_of) := ⟨rfl, rfl, rfl, by decide +kernel, rfl, by decide +kernel, by decide +kernel⟩
theorem vz1w : Vis (defScope s_law_list_of) "_law_text" := Or.inl (by decide +kernel)
theorem vz1x : Vis (defScope s_law_list_of) "_law_found" := Or.inl (by decide +kernel)
theorem lzm : Loc (defScope s_law_list_of) "_law_found" := Or.inl (by decide +kernel)
theorem vz1y : Vis (defScope s_law_list_of) "_law_line" := Or.inl (by decide +kernel)
theorem lzn : Loc (defScope s_law_list_of) "_law_line" := Or.inl (by decide +kernel)
theorem vz1z : Vis (defScope s_law_list_of) "_law_name" := Or.inl (by decide +kernel)
theorem lzo : Loc (defScope s_law_list_of) "_law_name" := Or.inl (by decide +kernel)
theorem vz20 : Vis (defScope s_law_list_of) "_law_blank" := Or.inl (by decide +kernel)
theorem lzp : Loc (defScope s_law_list_of) "_law_blank" := Or.inl (by decide +kernel)
theorem vz21 : Vis (defScope s_law_list_of) "_law_rest" := Or.inl (by decide +kernel)
theorem lzq : Loc (defScope s_law_list_of) "_law_rest" := Or.inl (by decide +kernel)
theorem vz22 : Vis (defScope s_law_list_of) "_law_rule" := Or.inl (by decide +kernel)
theorem lzr : Loc (defScope s_law_list_of) "_law_rule" := Or.inl (by decide +kernel)
theorem gz22 : (defScope s_law_list_of).names.lookup ("_law_rule_of" : Str) = some .globalImplicit := by decide +kernel
theorem gz23 : (defScope s_law_list_of).names.lookup ("_law_word" : Str) = some .globalImplicit := by decide +kernel
theorem gz24 : (defScope s_law_list_of).names.lookup ("len" : Str) = some .globalImplicit := by decide +kernel
abbrev s_law_drawn_line : Stmt := top 47
theorem sc_law_drawn_line : FnScope ["_law_cell", "_law_name", "_law_words_here", "_law_many", "_law_parts", "_law_room_here", "_law_moves", "_law_k", "_law_number_here"] ["_law_cell", "_law_name", "_law_words_here"] (defScope s_law_drawn_line) := ⟨rfl, rfl, rfl, by decide +kernel, rfl, by decide +kernel, by decide +kernel⟩
theorem vz23 : Vis (defScope s_law_drawn_line) "_law_cell" := Or.inl (by decide +kernel)
theorem vz24 : Vis (defScope s_law_drawn_line) "_law_name" := Or.inl (by decide +kernel)
theorem vz25 : Vis (defScope s_law_drawn_line) "_law_words_here" := Or.inl (by decide +kernel)
theorem vz26 : Vis (defScope s_law_drawn_line) "_law_many" := Or.inl (by decide +kernel)
theorem lzs : Loc (defScope s_law_drawn_line) "_law_many" := Or.inl (by decide +kernel)
theorem vz27 : Vis (defScope s_law_drawn_line) "_law_parts" := Or.inl (by decide +kernel)
theorem lzt : Loc (defScope s_law_drawn_line) "_law_parts" := Or.inl (by decide +kernel)
theorem vz28 : Vis (defScope s_law_drawn_line) "_law_room_here" := Or.inl (by decide +kernel)
theorem lzu : Loc (defScope s_law_drawn_line) "_law_room_here" := Or.inl (by decide +kernel)
theorem vz29 : Vis (defScope s_law_drawn_line) "_law_moves" := Or.inl (by decide +kernel)
theorem lzv : Loc (defScope s_law_drawn_line) "_law_moves" := Or.inl (by decide +kernel)
theorem vz2a : Vis (defScope s_law_drawn_line) "_law_k" := Or.inl (by decide +kernel)
theorem lzw : Loc (defScope s_law_drawn_line) "_law_k" := Or.inl (by decide +kernel)
theorem vz2b : Vis (defScope s_law_drawn_line) "_law_number_here" := Or.inl (by decide +kernel)
theorem lzx : Loc (defScope s_law_drawn_line) "_law_number_here" := Or.inl (by decide +kernel)
theorem gz25 : (defScope s_law_drawn_line).names.lookup ("_law_mixed" : Str) = some .globalImplicit := by decide +kernel
theorem gz26 : (defScope s_law_drawn_line).names.lookup ("int" : Str) = some .globalImplicit := by decide +kernel
theorem gz27 : (defScope s_law_drawn_line).names.lookup ("range" : Str) = some .globalImplicit := by decide +kernel
theorem gz28 : (defScope s_law_drawn_line).names.lookup ("str" : Str) = some .globalImplicit := by decide +kernel
abbrev s_law_changed : Stmt := top 48
theorem sc_law_changed : FnScope ["_law_text", "_law_cell", "_law_names", "_law_signs", "_law_at", "_law_sign"] ["_law_text", "_law_cell", "_law_names"] (defScope s_law_changed) := ⟨rfl, rfl, rfl, by decide +kernel, rfl, by decide +kernel, by decide +kernel⟩
theorem vz2c : Vis (defScope s_law_changed) "_law_text" := Or.inl (by decide +kernel)
theorem vz2d : Vis (defScope s_law_changed) "_law_cell" := Or.inl (by decide +kernel)
theorem vz2e : Vis (defScope s_law_changed) "_law_names" := Or.inl (by decide +kernel)
theorem vz2f : Vis (defScope s_law_changed) "_law_signs" := Or.inl (by decide +kernel)
theorem lzy : Loc (defScope s_law_changed) "_law_signs" := Or.inl (by decide +kernel)
theorem vz2g : Vis (defScope s_law_changed) "_law_at" := Or.inl (by decide +kernel)
theorem lzz : Loc (defScope s_law_changed) "_law_at" := Or.inl (by decide +kernel)
theorem vz2h : Vis (defScope s_law_changed) "_law_sign" := Or.inl (by decide +kernel)
theorem lz10 : Loc (defScope s_law_changed) "_law_sign" := Or.inl (by decide +kernel)
theorem gz29 : (defScope s_law_changed).names.lookup ("_law_mixed" : Str) = some .globalImplicit := by decide +kernel
theorem gz2a : (defScope s_law_changed).names.lookup ("len" : Str) = some .globalImplicit := by decide +kernel
abbrev s_law_refused : Stmt := top 49
theorem sc_law_refused : FnScope ["_law_thing", "_law_other", "e"] ["_law_thing"] (defScope s_law_refused) := ⟨rfl, rfl, rfl, by decide +kernel, rfl, by decide +kernel, by decide +kernel⟩
theorem vz2i : Vis (defScope s_law_refused) "_law_thing" := Or.inl (by decide +kernel)
theorem vz2j : Vis (defScope s_law_refused) "_law_other" := Or.inl (by decide +kernel)
theorem lz11 : Loc (defScope s_law_refused) "_law_other" := Or.inl (by decide +kernel)
theorem vz2k : Vis (defScope s_law_refused) "e" := Or.inl (by decide +kernel)
theorem kz6 : (defScope s_law_refused).names.lookup ("e" : Str) = some .local := by decide +kernel
theorem gz2b : (defScope s_law_refused).names.lookup ("NoRule" : Str) = some .globalImplicit := by decide +kernel
theorem gz2c : (defScope s_law_refused).names.lookup ("NoText" : Str) = some .globalImplicit := by decide +kernel
theorem gz2d : (defScope s_law_refused).names.lookup ("UseError" : Str) = some .globalImplicit := by decide +kernel
theorem gz2e : (defScope s_law_refused).names.lookup ("ValueError" : Str) = some .globalImplicit := by decide +kernel
theorem gz2f : (defScope s_law_refused).names.lookup ("isinstance" : Str) = some .globalImplicit := by decide +kernel
theorem gz2g : (defScope s_law_refused).names.lookup ("read_rules" : Str) = some .globalImplicit := by decide +kernel
abbrev s_law : Stmt := top 50
theorem sc_law : FnScope ["_law_script", "_law_names", "_law_words_here", "_law_text", "_law_due", "_law_k", "_law_changed_here", "_law_told", "_law_thing"] ["_law_script"] (defScope s_law) := ⟨rfl, rfl, rfl, by decide +kernel, rfl, by decide +kernel, by decide +kernel⟩
theorem vz2l : Vis (defScope s_law) "_law_script" := Or.inl (by decide +kernel)
theorem vz2m : Vis (defScope s_law) "_law_names" := Or.inl (by decide +kernel)
theorem lz12 : Loc (defScope s_law) "_law_names" := Or.inl (by decide +kernel)
theorem lz13 : Loc (defScope s_law) "_law_words_here" := Or.inr (by decide +kernel)
theorem vz2n : Vis (defScope s_law) "_law_text" := Or.inl (by decide +kernel)
theorem lz14 : Loc (defScope s_law) "_law_text" := Or.inl (by decide +kernel)
theorem vz2o : Vis (defScope s_law) "_law_due" := Or.inl (by decide +kernel)
theorem lz15 : Loc (defScope s_law) "_law_due" := Or.inl (by decide +kernel)
theorem vz2p : Vis (defScope s_law) "_law_k" := Or.inl (by decide +kernel)
theorem lz16 : Loc (defScope s_law) "_law_k" := Or.inl (by decide +kernel)
theorem vz2q : Vis (defScope s_law) "_law_changed_here" := Or.inl (by decide +kernel)
theorem lz17 : Loc (defScope s_law) "_law_changed_here" := Or.inl (by decide +kernel)
theorem vz2r : Vis (defScope s_law) "_law_told" := Or.inl (by decide +kernel)
theorem lz18 : Loc (defScope s_law) "_law_told" := Or.inl (by decide +kernel)
theorem vz2s : Vis (defScope s_law) "_law_thing" := Or.inl (by decide +kernel)
theorem lz19 : Loc (defScope s_law) "_law_thing" := Or.inl (by decide +kernel)
theorem gz2h : (defScope s_law).names.lookup ("_law_cell_at" : Str) = some .globalImplicit := by decide +kernel
theorem gz2i : (defScope s_law).names.lookup ("_law_changed" : Str) = some .globalImplicit := by decide +kernel
theorem gz2j : (defScope s_law).names.lookup ("_law_list_of" : Str) = some .globalImplicit := by decide +kernel
theorem gz2k : (defScope s_law).names.lookup ("_law_refused" : Str) = some .globalImplicit := by decide +kernel
theorem gz2l : (defScope s_law).names.lookup ("_law_words" : Str) = some .globalImplicit := by decide +kernel
theorem gz2m : (defScope s_law).names.lookup ("len" : Str) = some .globalImplicit := by decide +kernel
theorem gz2n : (defScope s_law).names.lookup ("min" : Str) = some .globalImplicit := by decide +kernel
theorem gz2o : (defScope s_law).names.lookup ("range" : Str) = some .globalImplicit := by decide +kernel
theorem gz2p : (defScope s_law).names.lookup ("read_rules" : Str) = some .globalImplicit := by decide +kernel
theorem gz2q : (defScope s_law).names.lookup ("sorted" : Str) = some .globalImplicit := by decide +kernel
theorem gz2r : (defScope s_law).names.lookup ("zip" : Str) = some .globalImplicit := by decide +kernel
abbrev letters : Str := "abcdefghijklmnopqrstuvwxyz"
def spLaw (K : PySem.W.Frag) : Sp := fun vs H Q _ => ∃ (a : Addr) (ns : List Int), vs = [.ref a] ∧ SqL K H a (ns.map V.int) ∧ ns.length ≤ 63 ∧ ∀ H', Q (.bl true) H'
def spCell (K : PySem.W.Frag) : Sp := fun vs H Q _ => ∃ (a : Addr) (ns : List Int) (k : Int), vs = [.ref a, .int k] ∧ SqL K H a (ns.map V.int) ∧ 0 ≤ k ∧ Q (.int (ns.getD k.toNat 0)) H
def mixF (c k : Int) : Int := ((c % 2147483647 + 7919 * k * k + k) * 48271 % 2147483647) * ((c % 2147483647 + 7919 * k * k + k) * 48271 % 2147483647) % 1000003
def spMix : Sp := fun vs H Q _ => ∃ (c k : Int), vs = [.int c, .int k] ∧ 0 ≤ k ∧ k ≤ 100000 ∧ Q (.int (mixF c k)) H
def wayV : Option Nat → V
 | none => .non
 | some n => .int n
theorem len_app1 (x : Str) (c : Nat) : (x ++ (⟨#[c]⟩ : Str)).length = x.length + 1 := by rw [Str.length_append]; rfl
def letF (z : Int) : Nat := letters.cps.toList.getD (z % 26).toNat 0
theorem letter_at (z : Int) : letters.length ≤ sizeLine ∧ atI letters.cps.toList (z % 26) = some (letF z) := by
 have hz : (z % 26).toNat < letters.cps.toList.length := by
  show (z % 26).toNat < 26
  omega
 refine ⟨by decide, ?_⟩
 have q := atI_nat (List.getElem?_eq_getElem hz)
 rw [show (((z % 26).toNat : Nat) : Int) = z % 26 by omega] at q
 rw [q]
 unfold letF
 rw [List.getD_eq_getElem?_getD, List.getElem?_eq_getElem hz]; rfl
theorem letF_inj {y z : Int} (h : letF y = letF z) : y % 26 = z % 26 := by
 have key : ∀ i j : Fin 26, letters.cps.toList.getD i.val 0 = letters.cps.toList.getD j.val 0 → i = j := by decide +kernel
 have := key ⟨(y % 26).toNat, by omega⟩ ⟨(z % 26).toNat, by omega⟩ h
 have := congrArg Fin.val this
 simp only [] at this
 omega
section
variable {P : Program} {w : World} {K : PySem.W.Frag} {mg : Str → Option Value} {base : Heap}
theorem ok_cell (D : DefAt K mg "_law_cell_at" s_law_cell_at) (z_len : mg "len" = none) : Cal P w K mg base 1 "_law_cell_at" ["_law_script", "_law_k"] (spCell K) := by
 refine D.cal sc_law_cell_at (fun _ _ _ _ _ _ us hl => match us, hl with | [_, _], _ => rfl) (fun vs H Q E h => by obtain ⟨a, ns, k, rfl, _⟩ := h; rfl) (fun f cdv A outer s H vs Q E hr h => ?_)
 obtain ⟨a, ns, k, rfl, hS, h0, q⟩ := h
 refine ⟨_, (pss_cons (ps_if (pt_cmpR op_ltA (pv 1 (hv := vz12)) (pe_blt (call_lenK K) z_len bt_len (pa_cons (pv 0 (hv := vz11)) pa_nil) (hg := gz1q)) (nomark _)) (pss_one (ps_ret (pe_ix (ix_K K) (pv 0 (hv := vz11)) (pv 1 (hv := vz12)) (fun _ _ => rfl)))) pss_nil)
   (pss_one (ps_ret pe_int))), ?_⟩
 walk_at "rd1"
 refine ⟨_, .inl hS, ite2 (fun c => ?_) (fun c => ?_)⟩
 ·rw [List.length_map] at c
  refine ⟨_, .int (ns.getD k.toNat 0), .inl hS, at_map h0 ?_, q⟩
  rw [List.getD_eq_getElem?_getD, List.getElem?_eq_getElem (by omega)]; rfl
 ·rw [List.length_map] at c
  have e : ns.getD k.toNat 0 = 0 := by
   rw [List.getD_eq_getElem?_getD, List.getElem?_eq_none (by omega)]; rfl
  walk_at "nx"
  rw [e] at q; exact q
theorem ok_mix (D : DefAt K mg "_law_mixed" s_law_mixed) : Cal P w K mg base 1 "_law_mixed" ["_law_cell", "_law_k"] spMix := by
 refine D.cal sc_law_mixed (fun _ _ _ _ _ _ us hl => match us, hl with | [_, _], _ => rfl) (fun vs H Q E h => by obtain ⟨c, k, rfl, _⟩ := h; rfl) (fun f cdv A outer s H vs Q E hr h => ?_)
 obtain ⟨c, k, rfl, k0, k1, q⟩ := h
 refine ⟨_, (pss_cons (ps_let 2 sc_law_mixed.nd (pe_op op_mod (pe_op op_mulB (pe_op op_addA (pe_op op_addA (pe_op op_mod (pv 0 (hv := vz13)) pe_int) (pe_op op_mulB (pe_op op_mulB pe_int (pv 1 (hv := vz14))) (pv 1 (hv := vz14)))) (pv 1 (hv := vz14))) pe_int) pe_int) (hx := lz7))
   (pss_one (ps_ret (pe_op op_mod (pe_op op_mulB (pv 2 (hv := vz15)) (pv 2 (hv := vz15))) pe_int)))), ?_⟩
 walk_at "rd1"
 have hk : (0 : Int) ≤ 7919 * k ∧ 7919 * k ≤ 791900000 := by omega
 refine ⟨by decide, .inl ⟨by decide, by decide⟩, .inl ⟨by omega, by omega⟩, .inr ⟨by decide, by decide⟩, by decide, ?_⟩
 unfold mixF at q
 have b := Int.emod_nonneg ((c % 2147483647 + 7919 * k * k + k) * 48271) (show (2147483647 : Int) ≠ 0 by decide)
 have b' := Int.emod_lt_of_pos ((c % 2147483647 + 7919 * k * k + k) * 48271) (show (0 : Int) < 2147483647 by decide)
 walk_at "nx"
 exact ⟨.inl ⟨by omega, by omega⟩, by decide, q⟩
end
set_option genInjectivity false in
set_option genSizeOf false in
structure Rl where
 s : Int
 ws : List Str
 rs : List (List (Option Nat))
structure RlOk (r : Rl) : Prop where
 s : r.s = 1 ∨ r.s = 2
 nw : r.ws.length ≤ 16
 n0 : 1 ≤ r.rs.length
 n1 : r.rs.length ≤ 60
 row : ∀ x ∈ r.rs, x.length = r.ws.length ∧ ∀ k, some k ∈ x → k < r.rs.length
 lw : ∀ w ∈ r.ws, w.length ≤ 10
def RoomsAs (H : Hp) (p : Addr) (rs : List (List (Option Nat))) (as : List Addr) : Prop :=
 H p = some (.lst (as.map V.ref)) ∧ as.length = rs.length ∧ ∀ (i : Nat) a x, as[i]? = some a → rs[i]? = some x → H a = some (.lst (x.map wayV))
def RuleAt (H : Hp) (p : Addr) (r : Rl) : Prop := ∃ pw pr as, H p = some (.tup [.int r.s, .ref pw, .ref pr]) ∧ H pw = some (.lst (r.ws.map V.str)) ∧ RoomsAs H pr r.rs as
theorem RoomsAs.mono {H H' : Hp} {p : Addr} {rs : List (List (Option Nat))} {as : List Addr} (sm : Same H H') (h : RoomsAs H p rs as) : RoomsAs H' p rs as := by
 obtain ⟨h1, h2, h3⟩ := h
 exact ⟨sm _ _ h1, h2, fun i a x e1 e2 => sm _ _ (h3 i a x e1 e2)⟩
theorem RuleAt.mono {H H' : Hp} {p : Addr} {r : Rl} (sm : Same H H') (h : RuleAt H p r) : RuleAt H' p r := by
 obtain ⟨pw, pr, as, h1, h2, h3⟩ := h
 exact ⟨pw, pr, as, sm _ _ h1, sm _ _ h2, h3.mono sm⟩
theorem flat_strs (ss : List Str) : (ss.map V.str).all flatV = true := by
 rw [List.all_eq_true]; intro x hx; obtain ⟨s, _, rfl⟩ := List.mem_map.mp hx; rfl
theorem inV_str (y : Str) (ss : List Str) : inV (.str y) (ss.map V.str) = decide (y ∈ ss) := by
 rw [Bool.eq_iff_iff]
 unfold inV
 rw [List.any_eq_true, decide_eq_true_eq]
 constructor
 ·rintro ⟨x, hx, e⟩
  obtain ⟨s, hs, rfl⟩ := List.mem_map.mp hx
  have e' : (s == y) = true := e
  rw [← eq_of_beq e']; exact hs
 ·intro h
  exact ⟨.str y, List.mem_map.mpr ⟨y, h, rfl⟩, by show (y == y) = true; simp⟩
def cutS {α : Type} (xs : List α) (lo hi : Option Int) : List α := (xs.drop (HT.sIx xs.length 0 lo)).take (HT.sIx xs.length xs.length hi - HT.sIx xs.length 0 lo)
theorem cut_map {α : Type} (f : α → V) (xs : List α) (lo hi : Option Int) : cutV (xs.map f) lo hi = (cutS xs lo hi).map f := by
 unfold cutV cutS
 rw [List.length_map, List.map_take, List.map_drop]
theorem cutS_len {α : Type} (xs : List α) (lo hi : Option Int) : (cutS xs lo hi).length ≤ xs.length := by
 unfold cutS
 rw [List.length_take, List.length_drop]
 omega
theorem ways_flat (x : List (Option Nat)) : ∀ v ∈ x.map wayV, flatV v = true := by
 intro v hv
 obtain ⟨o, _, rfl⟩ := List.mem_map.mp hv
 cases o <;> rfl
theorem strs_flat (x : List Str) : ∀ v ∈ x.map V.str, flatV v = true := by
 intro v hv
 obtain ⟨o, _, rfl⟩ := List.mem_map.mp hv
 rfl
theorem rooms_eq {K : PySem.W.Frag} {H : Hp} {p q : Addr} {rs : List (List (Option Nat))} {as bs : List Addr} (h1 : RoomsAs H p rs as) (h2 : RoomsAs H q rs bs) : EqN K H 2 (.ref p) (.ref q) true := by
 obtain ⟨a1, a2, a3⟩ := h1
 obtain ⟨b1, b2, b3⟩ := h2
 refine EqN.seq (.inl ⟨SqL.of a1, SqL.of b1⟩) (by simp; omega) fun i x y e1 e2 => ?_
 rw [List.getElem?_map] at e1 e2
 cases qa : as[i]? with
 | none => rw [qa] at e1; cases e1
 | some a =>
  cases qb : bs[i]? with
  | none => rw [qb] at e2; cases e2
  | some b =>
   rw [qa] at e1; rw [qb] at e2
   cases e1; cases e2
   have hi : i < rs.length := by have := (List.getElem?_eq_some_iff.mp qa).1; omega
   exact EqN.seqFlat (.inl ⟨SqL.of (a3 i a _ qa (List.getElem?_eq_getElem hi)), SqL.of (b3 i b _ qb (List.getElem?_eq_getElem hi))⟩) (ways_flat _)
theorem rule_eq {K : PySem.W.Frag} {H : Hp} {p q : Addr} {r : Rl} (h1 : RuleAt H p r) (h2 : RuleAt H q r) : EqN K H 3 (.ref p) (.ref q) true := by
 obtain ⟨pw, pr, as, a1, a2, a3⟩ := h1
 obtain ⟨qw, qr, bs, b1, b2, b3⟩ := h2
 refine EqN.seq (.inr ⟨SqT.of a1, SqT.of b1⟩) rfl fun i x y e1 e2 => ?_
 match i, e1, e2 with
 | 0, e1, e2 => cases e1; cases e2; exact EqN.refl rfl
 | 1, e1, e2 => cases e1; cases e2; exact EqN.seqFlat (.inl ⟨SqL.of a2, SqL.of b2⟩) (strs_flat _)
 | 2, e1, e2 => cases e1; cases e2; exact rooms_eq a3 b3
 | i + 3, e1, e2 => simp at e1
def T (x : Str) : List Nat := x.cps.toList
theorem T_app (x y : Str) : T (x ++ y) = T x ++ T y := by
 show (x.cps ++ y.cps).toList = _
 simp [T]
theorem T_inj {x y : Str} (h : T x = T y) : x = y := by
 cases x; cases y
 unfold T at h
 simpa using h
theorem T_len (x : Str) : (T x).length = x.length := by simp [T, Str.length]
def glue (sep : List Nat) : List (List Nat) → List Nat
 | [] => []
 | p :: ps => p ++ ps.flatMap (sep ++ ·)
theorem glue_len (sep : List Nat) (b : Nat) : ∀ (ps : List (List Nat)), (∀ p ∈ ps, p.length ≤ b) → (glue sep ps).length ≤ ps.length * (b + sep.length) := by
 intro ps hb
 cases ps with
 | nil => simp [glue]
 | cons q ps =>
  have hq := hb q List.mem_cons_self
  have h2 : ∀ (ps : List (List Nat)), (∀ p ∈ ps, p.length ≤ b) → (ps.flatMap (sep ++ ·)).length ≤ ps.length * (b + sep.length) := by
   intro ps
   induction ps with
   | nil => intro _; simp
   | cons p ps ih =>
    intro h
    have h3 := ih fun x hx => h x (List.mem_cons_of_mem _ hx)
    have h4 := h p List.mem_cons_self
    rw [List.flatMap_cons, List.length_append, List.length_append, List.length_cons, Nat.succ_mul]
    omega
  have h5 := h2 ps fun x hx => hb x (List.mem_cons_of_mem _ hx)
  show (q ++ ps.flatMap (sep ++ ·)).length ≤ _
  rw [List.length_append, List.length_cons, Nat.succ_mul]
  omega
theorem fold_T (sep : Str) : ∀ (ps : List Str) (acc : Array Nat), (ps.foldl (fun acc p => acc ++ sep.cps ++ p.cps) acc).toList = acc.toList ++ (ps.map T).flatMap (T sep ++ ·)
 | [], acc => by simp
 | p :: ps, acc => by
  rw [List.foldl_cons, fold_T sep ps]
  simp [T]
theorem join_T (sep : Str) (ss : List Str) : T (Txt.join sep ss) = glue (T sep) (ss.map T) := by
 cases ss with
 | nil => rfl
 | cons p ps =>
  show (((p :: ps).drop 1).foldl (fun acc p => acc ++ sep.cps ++ p.cps) ((p :: ps).headD Str.empty).cps).toList = _
  rw [List.drop_one, List.tail_cons, fold_T]; rfl
theorem sum_len_le (b : Nat) : ∀ (ss : List Str), (∀ s ∈ ss, s.length ≤ b) → (ss.map (·.length)).sum ≤ ss.length * b
 | [], _ => by simp
 | s :: ss, h => by
  have h1 := sum_len_le b ss fun x hx => h x (List.mem_cons_of_mem _ hx)
  have h2 := h s List.mem_cons_self
  rw [List.map_cons, List.sum_cons, List.length_cons, Nat.succ_mul]
  omega
def wayT (w : List Nat) : Option Nat → List Nat
 | none => w ++ [33]
 | some k => w ++ [62] ++ T (toString (k : Int))
def partsT (ws : List Str) (x : List (Option Nat)) : List (List Nat) := List.zipWith (fun w o => wayT (T w) o) ws x
def roomT (ws : List Str) (x : List (Option Nat)) : List Nat := glue [32] (partsT ws x)
def ruleT (r : Rl) : List Nat := T (toString r.s) ++ [58, 32] ++ glue [59, 32] (r.rs.map (roomT r.ws))
theorem num_len : ∀ k : Nat, k < 60 → (T (toString (k : Int))).length ≤ 2 ∧ (k : Int).natAbs.log2 < 1920 := by decide +kernel
theorem wayT_len {w : Str} {o : Option Nat} (hw : w.length ≤ 10) (ho : ∀ k, o = some k → k < 60) : (wayT (T w) o).length ≤ 13 := by
 cases o with
 | none => show (T w ++ [33]).length ≤ 13; rw [List.length_append, T_len]; simp; omega
 | some k =>
  have := (num_len k (ho k rfl)).1
  show (T w ++ [62] ++ T (toString (k : Int))).length ≤ 13
  rw [List.length_append, List.length_append, T_len w]
  show w.length + 1 + _ ≤ 13
  omega
theorem partsT_len {ws : List Str} {x : List (Option Nat)} (h : x.length = ws.length) : (partsT ws x).length = ws.length := by
 unfold partsT; rw [List.length_zipWith]; omega
theorem partsT_at {ws : List Str} {x : List (Option Nat)} {j : Nat} {w : Str} {o : Option Nat} (h1 : ws[j]? = some w) (h2 : x[j]? = some o) : (partsT ws x)[j]? = some (wayT (T w) o) := by
 unfold partsT; rw [List.getElem?_zipWith, h1, h2]
theorem parts_mem {r : Rl} (ok : RlOk r) {x : List (Option Nat)} (hx : x ∈ r.rs) : ∀ p ∈ partsT r.ws x, p.length ≤ 13 := by
 intro p hp
 obtain ⟨j, hj, rfl⟩ := List.mem_iff_getElem.mp hp
 have hx' := ok.row x hx
 have hj' : j < r.ws.length := by rw [partsT_len hx'.1] at hj; exact hj
 have e := partsT_at (ws := r.ws) (x := x) (j := j) (List.getElem?_eq_getElem hj') (List.getElem?_eq_getElem (by omega))
 rw [List.getElem?_eq_getElem hj] at e
 rw [Option.some.inj e]
 refine wayT_len (ok.lw _ (List.getElem_mem hj')) fun k hk => ?_
 have h1 := hx'.2 k (hk ▸ List.getElem_mem _)
 have h2 := ok.n1
 omega
theorem roomT_len {r : Rl} (ok : RlOk r) {x : List (Option Nat)} (hx : x ∈ r.rs) : (roomT r.ws x).length ≤ 224 := by
 have h := glue_len [32] 13 _ (parts_mem ok hx)
 rw [partsT_len (ok.row x hx).1] at h
 have h2 := ok.nw
 have h3 : r.ws.length * (13 + [32].length) ≤ 16 * 14 := Nat.mul_le_mul h2 (by simp)
 unfold roomT; omega
def spShowWay : Sp := fun vs H Q _ => ∃ (w : Str) (o : Option Nat), vs = [.str w, wayV o] ∧ w.length ≤ 10 ∧ (∀ k, o = some k → k < 60) ∧ ∀ y : Str, T y = wayT (T w) o → Q (.str y) H
def spShowRoom : Sp := fun vs H Q _ => ∃ (p b : Addr) (r : Rl) (x : List (Option Nat)), vs = [.ref p, .ref b] ∧ H p = some (.lst (r.ws.map V.str)) ∧ H b = some (.lst (x.map wayV)) ∧ RlOk r ∧ x ∈ r.rs ∧ ∀ (H' : Hp) (y : Str), Same H H' → T y = roomT r.ws x → Q (.str y) H'
def spShowRule : Sp := fun vs H Q _ => ∃ (p : Addr) (r : Rl), vs = [.ref p] ∧ RuleAt H p r ∧ RlOk r ∧ ∀ (H' : Hp) (y : Str), Same H H' → T y = ruleT r → Q (.str y) H'
section
variable {P : Program} {w : World} {K : PySem.W.Frag} {mg : Str → Option Value} {base : Heap}
theorem ok_show_way (D : DefAt K mg "show_way" s_show_way) : Cal P w K mg base 1 "show_way" ["word", "way"] spShowWay := by
 refine D.cal sc_show_way (fun _ _ _ _ _ _ us hl => match us, hl with | [_, _], _ => rfl) (fun vs H Q E h => by obtain ⟨w, o, rfl, _⟩ := h; rfl) (fun f cdv A outer s H vs Q E hr h => ?_)
 obtain ⟨y, o, rfl, hy, ho, q⟩ := h
 refine ⟨_, (pss_cons (ps_if (pt_cmpR op_isNA (pv 1 (hv := vzi)) pe_non (nomark _)) (pss_one (ps_ret (pe_op op_addA (pv 0 (hv := vzh)) pe_str))) pss_nil)
   (pss_one (ps_ret (pe_fstr (pj_cons (pe_fmt (pv 0 (hv := vzh))) (pj_cons pe_str (pj_cons (pe_fmt (pv 1 (hv := vzi))) pj_nil))))))), ?_⟩
 have l1 : (Str.ofString "!").length = 1 := by decide +kernel
 have l2 : (Str.ofString ">").length = 1 := by decide +kernel
 cases o with
 | none =>
  walk_at "rd1"
  refine ite2 (fun c => ?_) (fun c => ?_)
  ·walk_at "rd1"
   refine ⟨by rw [l1]; exact smallL (by omega), q _ ?_⟩
   rw [T_app]; rfl
  ·exact absurd rfl c
 | some k =>
  have hk := ho k rfl
  obtain ⟨k1, k2⟩ := num_len k hk
  rw [T_len] at k1
  rw [show wayV (some k) = V.int (k : Int) from rfl]
  walk_at "rd1"
  refine ite2 (fun c => ?_) (fun c => ?_)
  ·cases c
  ·walk_at "nx"
   have le0 : (Str.empty : Str).length = 0 := rfl
   refine ⟨smallL (by omega), ?_, ?_, k2, ?_, ?_, q _ ?_⟩
   ·rw [Str.length_append, le0]; exact smallL (by omega)
   ·rw [Str.length_append, Str.length_append, le0, l2]; exact smallL (by omega)
   ·rw [Str.length_append, Str.length_append, Str.length_append, le0, l2]; exact smallL (by omega)
   ·rw [Str.length_append, Str.length_append, Str.length_append, le0, l2]; exact smallL (by omega)
   ·rw [T_app, T_app, T_app]; rfl
theorem ok_show_room (D : DefAt K mg "show_room" s_show_room) (z_zip : mg "zip" = none) (c_show_way : Cal P w K mg base 1 "show_way" ["word", "way"] spShowWay) : Cal P w K mg base 2 "show_room" ["words", "room"] spShowRoom := by
 refine D.cal sc_show_room (fun _ _ _ _ _ _ us hl => match us, hl with | [_, _], _ => rfl) (fun vs H Q E h => by obtain ⟨p, b, r, x, rfl, _⟩ := h; rfl) (fun f cdv A outer s H vs Q E hr h => ?_)
 obtain ⟨p, b, r, x, rfl, hp, hb, ok, hx, q⟩ := h
 obtain ⟨x1, x2⟩ := ok.row x hx
 have nw := ok.nw
 have n1 := ok.n1
 refine ⟨_, (pss_one (ps_ret (pe_bmK K PySem.F.plainAttrs_str PySem.F.slot_str_join PySem.F.type_str_join (mt_joinK K) pe_str (pa_cons (pe_comp (CompSc.to (fsc := (defScope s_show_room)) (N := ["words", "room"]) (N0 := ["words", "room"]) (T := ["word", "way"]) ⟨by decide +kernel, by decide +kernel, by decide +kernel, by decide +kernel, by decide +kernel, by decide +kernel, by decide +kernel⟩ rfl rfl) rfl (pi_zipK K gz14 z_zip (pa_cons (pv 0 (hv := vzj)) (pa_cons (pv 1 (hv := vzk)) pa_nil))) (fun _ _ _ _ => (pg_tupK K (n := 2) (pgs_cons (pg_let 2 (show (["words", "room", "word", "way"] : List Str).Nodup from by decide +kernel) (hx := (locC (defScope s_show_room) (by decide +kernel))) (hf := fnC (defScope s_show_room) (by decide +kernel))) (pgs_cons (pg_let 3 (show (["words", "room", "word", "way"] : List Str).Nodup from by decide +kernel) (hx := (locC (defScope s_show_room) (by decide +kernel))) (hf := fnC (defScope s_show_room) (by decide +kernel))) pgs_nil)))) (gfr_tup (gsfr_cons (gfr_name (show (["words", "room"] : List Str).length ≤ 2 from by decide)) gm_name (gsfr_cons (gfr_name (show (["words", "room"] : List Str).length ≤ 3 from by decide)) gm_name gsfr_nil gsm_nil) (gsm_cons gm_name gsm_nil))) (fun _ _ _ _ => pifs_nil) (fun _ _ _ _ => (pe_cal c_show_way hr (pa_cons (pv 2 (hv := (visC (defScope s_show_room) (by decide +kernel)))) (pa_cons (pv 3 (hv := (visC (defScope s_show_room) (by decide +kernel)))) pa_nil)) (hg := (glC (defScope s_show_room) (by decide +kernel)))))) pa_nil)))), ?_⟩
 walk_at "rd1"
 refine ⟨⟨_, SqL.of hp⟩, ⟨_, SqL.of hb⟩, fun L hL => ?_⟩
 refine compW_zip (xs := r.ws.map V.str) (ys := x.map wayV) (fun i ys H' => ∃ ss : List Str, Same H H' ∧ H' L = some (.lst ys) ∧ ys = ss.map V.str ∧ ss.length = i ∧ ss.map T = (partsT r.ws x).take i) (by simp [x1]) ⟨[], same_new hL _, upd_same, rfl, rfl, by simp⟩
  (fun i zs H' _ h => by obtain ⟨_, sm, _⟩ := h; exact ⟨SqL.of (sm _ _ hp), SqL.of (sm _ _ hb)⟩) ?_ ?_
 ·rintro i zs H' u v t hu hv hi ⟨ss, sm, hl, rfl, hn, hs⟩ ht
  rw [List.length_map] at hi
  rw [List.getElem?_map, List.getElem?_eq_getElem hi] at hu
  rw [List.getElem?_map, List.getElem?_eq_getElem (by omega)] at hv
  cases hu
  cases hv
  have smt := same_new ht (.tup [V.str r.ws[i], wayV x[i]])
  have nt : L ≠ t := ne_of_none hl ht
  walk_at "rd1"
  refine ⟨t, _, rfl, SqT.of upd_same, rfl, ?_⟩
  walk_at "rd1"
  refine ⟨_, _, rfl, ok.lw _ (List.getElem_mem hi), fun k hk => ?_, fun y hy => ?_⟩
  ·have := x2 k (hk ▸ List.getElem_mem _)
   omega
  ·refine cstep (by rw [List.length_map]; exact hi) (by rw [List.length_map]; exact hn) (by rw [List.length_map]; exact smallL (by omega)) (by rw [upd_ne nt]; exact hl) ⟨ss ++ [y], (sm.trans smt).upd hL _, upd_same, map_push _ _, len_push hn, ?_⟩
   rw [List.map_append, hs, List.take_add_one, partsT_at (List.getElem?_eq_getElem hi) (List.getElem?_eq_getElem (by omega)), ← hy]; rfl
 ·rintro zs H' ⟨ss, sm, hl, rfl, hn, hs⟩
  rw [List.length_map] at hn hs
  rw [List.take_of_length_le (by rw [partsT_len x1]; exact Nat.le_refl _)] at hs
  walk_at "rd1"
  have hlen : ∀ s ∈ ss, s.length ≤ 13 := fun s hs' => by
   have : T s ∈ partsT r.ws x := by rw [← hs]; exact List.mem_map.mpr ⟨s, hs', rfl⟩
   have := parts_mem ok hx _ this
   rwa [T_len] at this
  refine ⟨ss, SqL.of hl, ?_, q H' _ sm ?_⟩
  ·have h1 := sum_len_le 13 ss hlen
   have h2 : (Str.ofString " ").length = 1 := by decide +kernel
   rw [h2]; omega
  ·rw [join_T, hs]; rfl
theorem ok_show_rule (D : DefAt K mg "show_rule" s_show_rule) (z_str : mg "str" = none) (c_show_room : Cal P w K mg base 2 "show_room" ["words", "room"] spShowRoom) : Cal P w K mg base 3 "show_rule" ["rule"] spShowRule := by
 refine D.cal sc_show_rule (fun _ _ _ _ _ _ us hl => match us, hl with | [_], _ => rfl) (fun vs H Q E h => by obtain ⟨p, r, rfl, _⟩ := h; rfl) (fun f cdv A outer s H vs Q E hr h => ?_)
 obtain ⟨p, r, rfl, hR, ok, q⟩ := h
 obtain ⟨pw, pr, as, h1, h2, h3, h4, h5⟩ := hR
 have n1 := ok.n1
 refine ⟨_, (pss_one (ps_ret (pe_op op_addA (pe_op op_addA (pe_bty call_strI z_str bt_str (pa_cons (pe_ix (ix_K K) (pv 0 (hv := vzl)) pe_int (fun _ _ => rfl)) pa_nil) (hg := gz15)) pe_str) (pe_bmK K PySem.F.plainAttrs_str PySem.F.slot_str_join PySem.F.type_str_join (mt_joinK K) pe_str (pa_cons (pe_comp (CompSc.to (fsc := (defScope s_show_rule)) (N := ["rule"]) (N0 := ["rule"]) (T := ["room"]) ⟨by decide +kernel, by decide +kernel, by decide +kernel, by decide +kernel, by decide +kernel, by decide +kernel, by decide +kernel⟩ rfl rfl) rfl (pi_listK K (pe_ix (ix_K K) (pv 0 (hv := vzl)) pe_int (fun _ _ => rfl))) (fun _ _ _ _ => (pg_let 1 (show (["rule", "room"] : List Str).Nodup from by decide +kernel) (hx := (locC (defScope s_show_rule) (by decide +kernel))) (hf := fnC (defScope s_show_rule) (by decide +kernel)))) (gfr_name (show (["rule"] : List Str).length ≤ 1 from by decide)) (fun _ _ _ _ => pifs_nil) (fun _ _ _ _ => (pe_cal c_show_room hr (pa_cons (pe_ix (ix_K K) (pv 0 (hv := (visC (defScope s_show_rule) (by decide +kernel)))) pe_int (fun _ _ => rfl)) (pa_cons (pv 1 (hv := (visC (defScope s_show_rule) (by decide +kernel)))) pa_nil)) (hg := (glC (defScope s_show_rule) (by decide +kernel)))))) pa_nil))))), ?_⟩
 have hs1 : r.s.natAbs.log2 < 1920 ∧ (toString r.s : Str).length = 1 := by
  rcases ok.s with e | e <;> rw [e] <;> exact ⟨by decide, by decide +kernel⟩
 have l1 : (Str.ofString ": ").length = 2 := by decide +kernel
 walk_at "rd1"
 refine ⟨_, _, .inr (SqT.of h1), rfl, ?_⟩
 walk_at "rd1"
 refine ⟨hs1.1, by rw [hs1.2, l1]; exact smallL (by omega), ?_⟩
 refine ⟨_, _, .inr (SqT.of h1), rfl, ?_⟩
 walk_at "rd1"
 refine ⟨⟨_, SqL.of h3⟩, fun L hL => ?_⟩
 refine compW_list (xs := as.map V.ref) (fun i ys H' => ∃ ss : List Str, Same H H' ∧ H' L = some (.lst ys) ∧ ys = ss.map V.str ∧ ss.length = i ∧ ss.map T = (r.rs.map (roomT r.ws)).take i) ⟨[], same_new hL _, upd_same, rfl, rfl, by simp⟩
  (fun i zs H' _ h => by obtain ⟨_, sm, _⟩ := h; exact SqL.of (sm _ _ h3)) ?_ ?_
 ·rintro i zs H' u hu hi ⟨ss, sm, hl, rfl, hn, hs⟩
  rw [List.length_map] at hi
  rw [List.getElem?_map, List.getElem?_eq_getElem hi] at hu
  cases hu
  have hi' : i < r.rs.length := by omega
  have e5 := h5 i _ _ (List.getElem?_eq_getElem hi) (List.getElem?_eq_getElem hi')
  walk_at "rd1"
  refine ⟨_, _, .inr (SqT.of (sm _ _ h1)), rfl, ?_⟩
  refine ⟨pw, as[i], r, r.rs[i], rfl, sm _ _ h2, sm _ _ e5, ok, List.getElem_mem hi', fun H'' y sm' hy => ?_⟩
  refine cstep (by rw [List.length_map]; exact hi) (by rw [List.length_map]; exact hn) (by rw [List.length_map]; exact smallL (by omega)) (sm' _ _ hl) ⟨ss ++ [y], (sm.trans sm').upd hL _, upd_same, map_push _ _, len_push hn, ?_⟩
  rw [List.map_append, hs, List.take_add_one, List.getElem?_map, List.getElem?_eq_getElem hi', List.map_cons, hy]; rfl
 ·rintro zs H' ⟨ss, sm, hl, rfl, hn, hs⟩
  rw [List.length_map] at hn hs
  rw [List.take_of_length_le (by rw [List.length_map]; omega)] at hs
  walk_at "rd1"
  have hlen : ∀ s ∈ ss, s.length ≤ 224 := fun s hs' => by
   have : T s ∈ r.rs.map (roomT r.ws) := by rw [← hs]; exact List.mem_map.mpr ⟨s, hs', rfl⟩
   obtain ⟨x, hx, e⟩ := List.mem_map.mp this
   rw [← T_len, ← e]; exact roomT_len ok hx
  have h1 := sum_len_le 224 ss hlen
  have h2 : (Str.ofString "; ").length = 2 := by decide +kernel
  have hj : (Txt.join (Str.ofString "; ") ss).length ≤ 20000 := by
   rw [← T_len, join_T]
   have := glue_len (T (Str.ofString "; ")) 224 (ss.map T) (fun p hp => by obtain ⟨s, hs', rfl⟩ := List.mem_map.mp hp; rw [T_len]; exact hlen s hs')
   rw [List.length_map, T_len, h2] at this
   omega
  refine ⟨ss, SqL.of hl, by rw [h2]; omega, ?_⟩
  walk_at "rd1"
  refine ⟨by rw [Str.length_append, hs1.2, l1]; exact smallL (by omega), q H' _ sm ?_⟩
  rw [T_app, T_app, join_T, hs]; rfl
end
def wordS (y : Str) : Bool := decide (1 ≤ y.length ∧ y.length ≤ 8) && y.cps.toList.all fun c => decide (c ∈ letters.cps.toList)
def wordV : V → Bool
 | .str y => wordS y
 | _ => false
def spWord : Sp := fun vs H Q _ => ∃ (x : V) (T : String), vs = [x] ∧ tyName H x = some T ∧ (∀ y, x = .str y → y.length ≤ sizeLine) ∧ ∀ H', Same H H' → Q (.bl (wordV x)) H'
theorem ty_str {H : Hp} {x : V} {T : String} (h : tyName H x = some T) (e : isT T "str" = true) : ∃ y, x = .str y := by
 cases x with
 | str y => exact ⟨y, rfl⟩
 | ref a =>
  cases e' : H a with
  | none => simp [tyName, e'] at h
  | some o =>
   cases o with
   | frz ob u => cases u <;> simp [tyName, e'] at h <;> subst h <;> exact absurd e (by decide)
   | _ => simp [tyName, e'] at h <;> subst h <;> exact absurd e (by decide)
 | _ => first | (cases h; exact absurd e (by decide)) | cases h
theorem wordV_no {H : Hp} {x : V} {T : String} (h : tyName H x = some T) (e : ¬ isT T "str" = true) : wordV x = false := by
 cases x with
 | str y => cases h; exact absurd rfl e
 | _ => rfl
section
variable {P : Program} {w : World} {K : PySem.W.Frag} {mg : Str → Option Value} {base : Heap}
theorem ok_is_word (D : DefAt K mg "is_word" s_is_word) (z_isinstance : mg "isinstance" = none) (z_str : mg "str" = none) (z_len : mg "len" = none) (z_all : mg "all" = none)
  (g_MOST_LETTERS : ∃ t, mg "MOST_LETTERS" = some (.int 8 t)) (g_LETTERS : ∃ t, mg "LETTERS" = some (.str "abcdefghijklmnopqrstuvwxyz" t)) : Cal P w K mg base 1 "is_word" ["thing"] spWord := by
 refine D.cal sc_is_word (fun _ _ _ _ _ _ us hl => match us, hl with | [_], _ => rfl) (fun vs H Q E h => by obtain ⟨x, T, rfl, _⟩ := h; rfl) (fun f cdv A outer s H vs Q E hr h => ?_)
 obtain ⟨x, T, rfl, hT, hx, q⟩ := h
 refine ⟨_, (pss_cons (ps_if (PW.pt' (pw_or (pt_not (pt_val (pe_blt call_isT z_isinstance bt_isinstance (pa_cons (pv 0 (hv := vz3)) (pa_cons (pe_gty z_str bt_str (hg := gza)) pa_nil)) (hg := gz8)))) (pw_or1 (pt_not (pt_chain op_le op_le pe_int (pe_blt (call_lenK K) z_len bt_len (pa_cons (pv 0 (hv := vz3)) pa_nil) (hg := gz9)) (pe_gint g_MOST_LETTERS (hg := gz6))))))) (pss_one (ps_ret pe_bl)) pss_nil)
   (pss_one (ps_ret (pe_blt (call_allK K) z_all bt_all (pa_cons (pe_comp (CompSc.to (fsc := (defScope s_is_word)) (N := ["thing"]) (N0 := ["thing"]) (T := ["sign"]) ⟨by decide +kernel, by decide +kernel, by decide +kernel, by decide +kernel, by decide +kernel, by decide +kernel, by decide +kernel⟩ rfl rfl) rfl (pi_str (pv 0 (hv := vz3))) (fun _ _ _ _ => (pg_let 1 (show (["thing", "sign"] : List Str).Nodup from by decide +kernel) (hx := (locC (defScope s_is_word) (by decide +kernel))) (hf := fnC (defScope s_is_word) (by decide +kernel)))) (gfr_name (show (["thing"] : List Str).length ≤ 1 from by decide)) (fun _ _ _ _ => pifs_nil) (fun _ _ _ _ => (pe_cmpR (op_inK K) (pv 1 (hv := (visC (defScope s_is_word) (by decide +kernel)))) (pe_gstr g_LETTERS (hg := (glC (defScope s_is_word) (by decide +kernel)))) (by with_unfolding_all rfl)))) pa_nil) (hg := gz7))))), ?_⟩
 try simp only [rest_at, tSeq_at, tPairs_nil, tPairs_cons, tNext_at, tCont_at, tIfS_at, tRet_at, tDrop_at, tAsg_at, gName_at, gNil_at, gCons_at, gTup_at, tVar_at, tC_at, tOp_at, tUn_at, tTest_at, tB_at, tAnd_at, tOr_at, tNot_at, tAndV_at, tOrV_at, tNotV_at, tIf_at, tIfT_at, tCB_at, tCons_at, tNil_at, tTup_at, tLst_at, tCall_at, tBM_at, rSplit_at, rPartition_at, rEndsW_at, tChain_at, tSl_at, tPart_at, tNoPart_at, tComp_at, tYes_at, iZip_at, ex_refs2, rSlS_at, tFmt_at, tFstr_at, tjNil_at, tjCons_at, fmtV_str, fmtV_int, iList_at, iStr_at, iRng1_at, iRng2_at, tFor_at, compK_at, rI0_at, rI_at, rAddA_int, rAddA_str, rAddA_ref, rMulB_int, rMulB_str, rIsN_at, rNotN_at, rStrI_at, rInt1_bl, rMin2_at, rSlL_at, rU_at, rEqD_at, rNeD_at, rSortS_at, rLtA_int, rLtA_str, rInA_str, rInA_ref, rNotInA_str, rNotInA_ref, rLenA_str, rLenA_ref, rIxA_ref, rIxA_str, rAppend_at, rJoin_at, rIsT_at, rAll_at, rEqA_int, rEqA_str, rNeA_int, rNeA_str, tyV_str, tyV_lst, L2.start, List.map_cons, List.map_nil, List.length_cons, List.length_nil, List.replicate, List.cons_append, List.nil_append, List.append_nil, List.getElem?_cons_zero, List.getElem?_cons_succ, List.set_cons_zero, List.set_cons_succ, Nat.reduceAdd, Nat.reduceSub, Option.some.injEq, exists_eq_left', exists_eq_left, V.int.injEq, V.ref.injEq, V.str.injEq, V.bl.injEq, ex_one, ex_two, ex_cons, and_true, true_and, decide_eq_true_eq, Bool.not_true, Bool.not_false, if_true, Bool.false_eq_true, if_false, ite_true, ite_false]
 refine ⟨T, hT, by decide, ?_⟩
 refine ite2 (fun c => ?_) (fun c => ?_)
 ·rw [← wordV_no hT (by simpa using c)]
  exact q H (Same.refl H)
 ·obtain ⟨y, rfl⟩ := ty_str hT (by simpa using c)
  have hy := hx y rfl
  try simp only [rest_at, tSeq_at, tPairs_nil, tPairs_cons, tNext_at, tCont_at, tIfS_at, tRet_at, tDrop_at, tAsg_at, gName_at, gNil_at, gCons_at, gTup_at, tVar_at, tC_at, tOp_at, tUn_at, tTest_at, tB_at, tAnd_at, tOr_at, tNot_at, tAndV_at, tOrV_at, tNotV_at, tIf_at, tIfT_at, tCB_at, tCons_at, tNil_at, tTup_at, tLst_at, tCall_at, tBM_at, rSplit_at, rPartition_at, rEndsW_at, tChain_at, tSl_at, tPart_at, tNoPart_at, tComp_at, tYes_at, iZip_at, ex_refs2, rSlS_at, tFmt_at, tFstr_at, tjNil_at, tjCons_at, fmtV_str, fmtV_int, iList_at, iStr_at, iRng1_at, iRng2_at, tFor_at, compK_at, rI0_at, rI_at, rAddA_int, rAddA_str, rAddA_ref, rMulB_int, rMulB_str, rIsN_at, rNotN_at, rStrI_at, rInt1_bl, rMin2_at, rSlL_at, rU_at, rEqD_at, rNeD_at, rSortS_at, rLtA_int, rLtA_str, rInA_str, rInA_ref, rNotInA_str, rNotInA_ref, rLenA_str, rLenA_ref, rIxA_ref, rIxA_str, rAppend_at, rJoin_at, rIsT_at, rAll_at, rEqA_int, rEqA_str, rNeA_int, rNeA_str, tyV_str, tyV_lst, L2.start, List.map_cons, List.map_nil, List.length_cons, List.length_nil, List.replicate, List.cons_append, List.nil_append, List.append_nil, List.getElem?_cons_zero, List.getElem?_cons_succ, List.set_cons_zero, List.set_cons_succ, Nat.reduceAdd, Nat.reduceSub, Option.some.injEq, exists_eq_left', exists_eq_left, V.int.injEq, V.ref.injEq, V.str.injEq, V.bl.injEq, ex_one, ex_two, ex_cons, and_true, true_and, decide_eq_true_eq, Bool.not_true, Bool.not_false, if_true, Bool.false_eq_true, if_false, ite_true, ite_false]
  refine ⟨hy, ?_⟩
  refine ite2 (fun c1 => ?_) (fun c1 => ?_)
  ·refine ite2 (fun c2 => ?_) (fun c2 => ?_)
   ·have e : wordV (.str y) = false := by
     show (decide (1 ≤ y.length ∧ y.length ≤ 8) && _) = false
     rw [decide_eq_false (by simp at c2; omega)]; rfl
    rw [← e]; exact q H (Same.refl H)
   ·intro L hL
    have c1' : 1 ≤ y.length := by omega
    have c2' : y.length ≤ 8 := by simp at c2; omega
    refine compW_str (fun i ys H' => Same H H' ∧ H' L = some (.lst ys) ∧ ys = ((y.cps.toList.take i).map fun c => decide (c ∈ letters.cps.toList)).map V.bl) ⟨same_new hL _, upd_same, rfl⟩ ?_ ?_
    ·rintro i ys H' c hc hi ⟨sm, hD, rfl⟩
     try simp only [rest_at, tSeq_at, tPairs_nil, tPairs_cons, tNext_at, tCont_at, tIfS_at, tRet_at, tDrop_at, tAsg_at, gName_at, gNil_at, gCons_at, gTup_at, tVar_at, tC_at, tOp_at, tUn_at, tTest_at, tB_at, tAnd_at, tOr_at, tNot_at, tAndV_at, tOrV_at, tNotV_at, tIf_at, tIfT_at, tCB_at, tCons_at, tNil_at, tTup_at, tLst_at, tCall_at, tBM_at, rSplit_at, rPartition_at, rEndsW_at, tChain_at, tSl_at, tPart_at, tNoPart_at, tComp_at, tYes_at, iZip_at, ex_refs2, rSlS_at, tFmt_at, tFstr_at, tjNil_at, tjCons_at, fmtV_str, fmtV_int, iList_at, iStr_at, iRng1_at, iRng2_at, tFor_at, compK_at, rI0_at, rI_at, rAddA_int, rAddA_str, rAddA_ref, rMulB_int, rMulB_str, rIsN_at, rNotN_at, rStrI_at, rInt1_bl, rMin2_at, rSlL_at, rU_at, rEqD_at, rNeD_at, rSortS_at, rLtA_int, rLtA_str, rInA_str, rInA_ref, rNotInA_str, rNotInA_ref, rLenA_str, rLenA_ref, rIxA_ref, rIxA_str, rAppend_at, rJoin_at, rIsT_at, rAll_at, rEqA_int, rEqA_str, rNeA_int, rNeA_str, tyV_str, tyV_lst, L2.start, List.map_cons, List.map_nil, List.length_cons, List.length_nil, List.replicate, List.cons_append, List.nil_append, List.append_nil, List.getElem?_cons_zero, List.getElem?_cons_succ, List.set_cons_zero, List.set_cons_succ, Nat.reduceAdd, Nat.reduceSub, Option.some.injEq, exists_eq_left', exists_eq_left, V.int.injEq, V.ref.injEq, V.str.injEq, V.bl.injEq, ex_one, ex_two, ex_cons, and_true, true_and, decide_eq_true_eq, Bool.not_true, Bool.not_false, if_true, Bool.false_eq_true, if_false, ite_true, ite_false]
     have hc' : y.cps.toList[i]? = some c := by simpa using hc
     refine cstep hi ?_ hy hD ⟨fun b o e => ?_, upd_same, ?_⟩
     ·rw [List.length_map, List.length_map, List.length_take]
      have : y.cps.toList.length = y.length := by simp [Str.length]
      omega
     ·rw [upd_ne (ne_of_none e hL)]; exact sm b o e
     ·rw [StrLaws.found_one, List.take_add_one, hc', List.map_append, List.map_append]; rfl
    ·rintro ys H' ⟨sm, hD, rfl⟩
     try simp only [rest_at, tSeq_at, tPairs_nil, tPairs_cons, tNext_at, tCont_at, tIfS_at, tRet_at, tDrop_at, tAsg_at, gName_at, gNil_at, gCons_at, gTup_at, tVar_at, tC_at, tOp_at, tUn_at, tTest_at, tB_at, tAnd_at, tOr_at, tNot_at, tAndV_at, tOrV_at, tNotV_at, tIf_at, tIfT_at, tCB_at, tCons_at, tNil_at, tTup_at, tLst_at, tCall_at, tBM_at, rSplit_at, rPartition_at, rEndsW_at, tChain_at, tSl_at, tPart_at, tNoPart_at, tComp_at, tYes_at, iZip_at, ex_refs2, rSlS_at, tFmt_at, tFstr_at, tjNil_at, tjCons_at, fmtV_str, fmtV_int, iList_at, iStr_at, iRng1_at, iRng2_at, tFor_at, compK_at, rI0_at, rI_at, rAddA_int, rAddA_str, rAddA_ref, rMulB_int, rMulB_str, rIsN_at, rNotN_at, rStrI_at, rInt1_bl, rMin2_at, rSlL_at, rU_at, rEqD_at, rNeD_at, rSortS_at, rLtA_int, rLtA_str, rInA_str, rInA_ref, rNotInA_str, rNotInA_ref, rLenA_str, rLenA_ref, rIxA_ref, rIxA_str, rAppend_at, rJoin_at, rIsT_at, rAll_at, rEqA_int, rEqA_str, rNeA_int, rNeA_str, tyV_str, tyV_lst, L2.start, List.map_cons, List.map_nil, List.length_cons, List.length_nil, List.replicate, List.cons_append, List.nil_append, List.append_nil, List.getElem?_cons_zero, List.getElem?_cons_succ, List.set_cons_zero, List.set_cons_succ, Nat.reduceAdd, Nat.reduceSub, Option.some.injEq, exists_eq_left', exists_eq_left, V.int.injEq, V.ref.injEq, V.str.injEq, V.bl.injEq, ex_one, ex_two, ex_cons, and_true, true_and, decide_eq_true_eq, Bool.not_true, Bool.not_false, if_true, Bool.false_eq_true, if_false, ite_true, ite_false]
     refine ⟨_, SqL.of hD, ?_⟩
     have e : (((y.cps.toList.take y.length).map fun c => decide (c ∈ letters.cps.toList)).all id) = wordV (.str y) := by
      show _ = (decide (1 ≤ y.length ∧ y.length ≤ 8) && y.cps.toList.all fun c => decide (c ∈ letters.cps.toList))
      rw [decide_eq_true ⟨c1', c2'⟩, Bool.true_and, List.all_map, List.take_of_length_le (by simp [Str.length])]
      rfl
     rw [e]; exact q H' sm
  ·have e : wordV (.str y) = false := by
    show (decide (1 ≤ y.length ∧ y.length ≤ 8) && _) = false
    rw [decide_eq_false (by omega)]; rfl
   rw [← e]; exact q H (Same.refl H)
end
def risingB (ws : List Str) : Bool := (List.range (ws.length - 1)).all fun i => decide ((ws.getD i "").cps.toList < (ws.getD (i + 1) "").cps.toList)
def spWholeN : Sp := fun vs H Q _ => ∃ x : V, vs = [x] ∧ (x = .non ∧ Q (.bl false) H ∨ ∃ i : Int, x = .int i ∧ Q (.bl true) H)
def sidedS (y : Str) : Bool := inV (.str (Txt.slice y none (some 2))) [.str "1.", .str "2."] && wordS (Txt.slice y (some 2) none)
def spSided : Sp := fun vs H Q _ => ∃ y : Str, vs = [.str y] ∧ y.length ≤ 100000 ∧ ∀ (H' : Hp), Same H H' → Q (.bl (sidedS y)) H'
def spRising (K : PySem.W.Frag) : Sp := fun vs H Q _ => ∃ (p : Addr) (ws : List Str), vs = [.ref p] ∧ H p = some (.lst (ws.map V.str)) ∧ ws.length ≤ 100000 ∧ ∀ H', Same H H' → Q (.bl (risingB ws)) H'
section
variable {P : Program} {w : World} {K : PySem.W.Frag} {mg : Str → Option Value} {base : Heap}
theorem ok_wholeN (D : DefAt K mg "is_whole" s_is_whole) (z_isinstance : mg "isinstance" = none) (z_int : mg "int" = none) (z_bool : mg "bool" = none) : Cal P w K mg base 1 "is_whole" ["thing"] spWholeN := by
 refine D.cal (k := 0) sc_is_whole (fun _ _ _ _ _ _ us hl => match us, hl with | [_], _ => rfl) (fun vs H Q E h => by obtain ⟨x, rfl, _⟩ := h; rfl) (fun f cdv A outer s H vs Q E hr h => ?_)
 obtain ⟨x, rfl, hx⟩ := h
 refine ⟨_, (pss_one (ps_ret (pe_and (pe_blt call_isT z_isinstance bt_isinstance (pa_cons (pv 0 (hv := vz2)) (pa_cons (pe_gty z_int bt_int (hg := gz4)) pa_nil)) (hg := gz5)) (pe_one (pe_not (pe_blt call_isT z_isinstance bt_isinstance (pa_cons (pv 0 (hv := vz2)) (pa_cons (pe_gty z_bool bt_bool (hg := gz3)) pa_nil)) (hg := gz5))))))), ?_⟩
 walk_at "rd1"
 rcases hx with ⟨rfl, q⟩ | ⟨i, rfl, q⟩
 ·refine ⟨"NoneType", rfl, by decide, ite2 (fun c => absurd c (by decide)) (fun _ => q)⟩
 ·refine ⟨"int", rfl, by decide, ite2 (fun _ => ?_) (fun c => absurd (by decide) c)⟩
  exact ⟨"int", rfl, by decide, q⟩
theorem ok_sided (D : DefAt K mg "is_sided_word" s_is_sided_word) (z_isinstance : mg "isinstance" = none) (z_str : mg "str" = none) (c_is_word : Cal P w K mg base 1 "is_word" ["thing"] spWord) : Cal P w K mg base 2 "is_sided_word" ["thing"] spSided := by
 refine D.cal (k := 1) sc_is_sided_word (fun _ _ _ _ _ _ us hl => match us, hl with | [_], _ => rfl) (fun vs H Q E h => by obtain ⟨y, rfl, _⟩ := h; rfl) (fun f cdv A outer s H vs Q E hr h => ?_)
 obtain ⟨y, rfl, hy, q⟩ := h
 refine ⟨_, (pss_one (ps_ret (pe_and (pe_blt call_isT z_isinstance bt_isinstance (pa_cons (pv 0 (hv := vz4)) (pa_cons (pe_gty z_str bt_str (hg := gzd)) pa_nil)) (hg := gzc)) (pe_and (pe_cmpR (op_inK K) (pe_slice sl_str (pv 0 (hv := vz4)) po_none (po_some pe_int)) (pe_tup (pa_cons pe_str (pa_cons pe_str pa_nil))) (by with_unfolding_all rfl)) (pe_one (pe_cal c_is_word hr (pa_cons (pe_slice sl_str (pv 0 (hv := vz4)) (po_some pe_int) po_none) pa_nil) (hg := gzb))))))), ?_⟩
 walk_at "rd1"
 refine ⟨"str", rfl, by decide, ite2 (fun _ => ?_) (fun c => absurd (by decide) c)⟩
 refine ⟨smallL (by omega), by decide, fun p hp => ?_⟩
 have sm := same_new hp (.tup [V.str "1.", V.str "2."])
 have ep : upd H p (.tup [V.str "1.", V.str "2."]) p = some (.tup [V.str "1.", V.str "2."]) := upd_same
 generalize upd H p (.tup [V.str "1.", V.str "2."]) = H1 at sm ep ⊢
 refine ⟨_, .inr (SqT.of ep), rfl, rfl, ite2 (fun c => ?_) (fun c => ?_)⟩
 ·have hl := Txt.slice_le y (some 2) none
  refine ⟨smallL (by omega), _, "str", rfl, rfl, fun z e => by cases e; exact smallL (by omega), fun H' s' => ?_⟩
  have e : sidedS y = wordV (.str (Txt.slice y (some 2) none)) := by unfold sidedS; rw [c]; rfl
  rw [← e]
  exact q _ (sm.trans s')
 ·have e : sidedS y = false := by
   unfold sidedS
   rw [show inV (.str (Txt.slice y none (some 2))) [.str "1.", .str "2."] = false by simpa using c]; rfl
  rw [← e]
  exact q _ sm
theorem ok_rising (D : DefAt K mg "is_rising" s_is_rising) (z_len : mg "len" = none) (z_range : mg "range" = none) (z_all : mg "all" = none) : Cal P w K mg base 1 "is_rising" ["texts"] (spRising K) := by
 refine D.cal (k := 0) sc_is_rising (fun _ _ _ _ _ _ us hl => match us, hl with | [_], _ => rfl) (fun vs H Q E h => by obtain ⟨p, ws, rfl, _⟩ := h; rfl) (fun f cdv A outer s H vs Q E hr h => ?_)
 obtain ⟨p, ws, rfl, hp, hn, q⟩ := h
 refine ⟨_, (pss_one (ps_ret (pe_blt (call_allK K) z_all bt_all (pa_cons (pe_comp (CompSc.to (fsc := (defScope s_is_rising)) (N := ["texts"]) (N0 := ["texts"]) (T := ["at"]) ⟨by decide +kernel, by decide +kernel, by decide +kernel, by decide +kernel, by decide +kernel, by decide +kernel, by decide +kernel⟩ rfl rfl) rfl (pi_range2 gzg z_range (pa_cons pe_int (pa_cons (pe_blt (call_lenK K) z_len bt_len (pa_cons (pv 0 (hv := vz5)) pa_nil) (hg := gzf)) pa_nil))) (fun _ _ _ _ => (pg_let 1 (show (["texts", "at"] : List Str).Nodup from by decide +kernel) (hx := (locC (defScope s_is_rising) (by decide +kernel))) (hf := fnC (defScope s_is_rising) (by decide +kernel)))) (gfr_name (show (["texts"] : List Str).length ≤ 1 from by decide)) (fun _ _ _ _ => pifs_nil) (fun _ _ _ _ => (pe_cmpR op_ltA (pe_ix (ix_K K) (pv 0 (hv := (visC (defScope s_is_rising) (by decide +kernel)))) (pe_op op_sub (pv 1 (hv := (visC (defScope s_is_rising) (by decide +kernel)))) pe_int) (fun _ _ => rfl)) (pe_ix (ix_K K) (pv 0 (hv := (visC (defScope s_is_rising) (by decide +kernel)))) (pv 1 (hv := (visC (defScope s_is_rising) (by decide +kernel)))) (fun _ _ => rfl)) (nomark _)))) pa_nil) (hg := gze)))), ?_⟩
 walk_at "rd1"
 refine ⟨_, .inl (SqL.of hp), ?_⟩
 rw [List.length_map]
 refine ⟨⟨by decide, by decide, by omega, by omega⟩, fun L hL => ?_⟩
 rw [show ((ws.length : Int) - 1).toNat = ws.length - 1 by omega]
 refine compW_range (fun i ys H' => Same H H' ∧ H' L = some (.lst ys) ∧ ys = ((List.range i).map fun j => decide ((ws.getD j "").cps.toList < (ws.getD (j + 1) "").cps.toList)).map V.bl) ⟨same_new hL _, upd_same, rfl⟩ ?_ ?_
 ·rintro i ys H' hi ⟨sm, hD, rfl⟩
  have hg : ∀ j, j < ws.length → (ws.map V.str)[j]? = some (.str (ws.getD j "")) := fun j hj => by
   rw [List.getElem?_map, List.getElem?_eq_getElem hj, List.getD_eq_getElem?_getD, List.getElem?_eq_getElem hj]; rfl
  walk_at "rd1"
  refine ⟨_, _, .inl (SqL.of (sm _ _ hp)), (by rw [show (1 : Int) + (i : Int) - 1 = ((i : Nat) : Int) by omega]; exact atI_nat (hg i (by omega))), ?_⟩
  refine ⟨_, _, .inl (SqL.of (sm _ _ hp)), (by rw [show (1 : Int) + (i : Int) = ((i + 1 : Nat) : Int) by omega]; exact atI_nat (hg (i + 1) (by omega))), ?_⟩
  walk_at "rd1"
  refine cstep hi (by simp) (smallL (by omega)) hD ⟨sm.upd hL _, upd_same, ?_⟩
  rw [List.range_succ, List.map_append, List.map_append]; rfl
 ·rintro ys H' ⟨sm, hD, rfl⟩
  walk_at "rd1"
  refine ⟨_, SqL.of hD, ?_⟩
  have e : risingB ws = ((List.range (ws.length - 1)).map fun j => decide ((ws.getD j "").cps.toList < (ws.getD (j + 1) "").cps.toList)).all id := by
   unfold risingB; rw [List.all_map]; rfl
  rw [← e]
  exact q _ sm
def wordOf (s : Int) (y : Str) : Bool := if s = 1 then wordS y else sidedS y
def areB (s : Int) (ws : List Str) : Bool := decide (ws.length ≤ 16) && (ws.all (wordOf s) && risingB ws)
def spAre : Sp := fun vs H Q _ => ∃ (p : Addr) (ws : List Str) (s : Int), vs = [.ref p, .int s] ∧ H p = some (.lst (ws.map V.str)) ∧ ws.length ≤ 100000 ∧ (∀ y ∈ ws, y.length ≤ 100000) ∧ ∀ H', Same H H' → Q (.bl (areB s ws)) H'
theorem ok_are (D : DefAt K mg "are_words" s_are_words) (z_isinstance : mg "isinstance" = none) (z_list : mg "list" = none) (z_len : mg "len" = none) (g_MOST_WORDS : ∃ t, mg "MOST_WORDS" = some (.int 16 t)) (c_is_word : Cal P w K mg base 1 "is_word" ["thing"] spWord)
  (c_is_sided_word : Cal P w K mg base 2 "is_sided_word" ["thing"] spSided) (c_is_rising : Cal P w K mg base 1 "is_rising" ["texts"] (spRising K)) : Cal P w K mg base 3 "are_words" ["thing", "sides"] spAre := by
 refine D.cal (k := 2) sc_are_words (fun _ _ _ _ _ _ us hl => match us, hl with | [_, _], _ => rfl) (fun vs H Q E h => by obtain ⟨p, ws, s, rfl, _⟩ := h; rfl) (fun f cdv A outer sh H vs Q E hr h => ?_)
 obtain ⟨p, ws, s, rfl, hp, hn, hw, q⟩ := h
 refine ⟨_, (pss_cons (ps_if (PW.pt' (pw_or (pt_not (pt_val (pe_blt call_isT z_isinstance bt_isinstance (pa_cons (pv 0 (hv := vz6)) (pa_cons (pe_gty z_list bt_list (hg := gzn)) pa_nil)) (hg := gzl)))) (pw_or1 (pt_cmpR op_gt (pe_blt (call_lenK K) z_len bt_len (pa_cons (pv 0 (hv := vz6)) pa_nil) (hg := gzm)) (pe_gint g_MOST_WORDS (hg := gzh)) (nomark _))))) (pss_one (ps_ret pe_bl)) pss_nil)
   (pss_cons (ps_for PassesOwn.never rfl (pi_listK K (pv 0 (hv := vz6))) (pg_let 2 sc_are_words.nd (hx := lz0)) (pss_one (ps_if (pt_not (pt_ifExp (pt_cmpR op_eqA (pv 1 (hv := vz7)) pe_int (nomark _)) (pt_val (pe_cal c_is_word hr (pa_cons (pv 2 (hv := vz8)) pa_nil) (hg := gzk))) (pt_val (pe_cal c_is_sided_word hr (pa_cons (pv 2 (hv := vz8)) pa_nil) (hg := gzj))))) (pss_one (ps_ret pe_bl)) pss_nil)))
   (pss_one (ps_ret (pe_cal c_is_rising hr (pa_cons (pv 0 (hv := vz6)) pa_nil) (hg := gzi)))))), ?_⟩
 walk_at "rd1"
 refine ⟨"list", by simp [tyName, hp], by decide, ite2 (fun c => absurd c (by decide)) (fun _ => ?_)⟩
 refine ⟨_, .inl (SqL.of hp), ?_⟩
 rw [List.length_map]
 refine ite2 (fun c => ?_) (fun c => ?_)
 ·have e : areB s ws = false := by unfold areB; rw [decide_eq_false (by omega)]; rfl
  rw [← e]; exact q _ (Same.refl _)
 have h16 : ws.length ≤ 16 := by omega
 walk_at "nx"
 refine ⟨⟨_, SqL.of hp⟩, ?_⟩
 refine forW_list (xs := ws.map V.str) (fun i σ H' => ∃ o2 : Option V, σ = [some (.ref p), some (.int s), o2] ∧ Same H H' ∧ (ws.take i).all (wordOf s) = true) ⟨none, rfl, Same.refl _, rfl⟩ (fun i σ H' _ h => by obtain ⟨_, _, sm, _⟩ := h; exact SqL.of (sm _ _ hp)) ?_ ?_
 ·rintro i x σ H' hx ⟨o2, rfl, sm, hall⟩
  rw [List.getElem?_map] at hx
  cases qy : ws[i]? with
  | none => rw [qy] at hx; cases hx
  | some y =>
   rw [qy] at hx; cases hx
   have hym := List.mem_of_getElem? qy
   have hyl := hw y hym
   have nx : wordOf s y = true → (ws.take (i + 1)).all (wordOf s) = true := fun e => by rw [List.take_add_one, qy, List.all_append, hall]; simp [e]
   have no : wordOf s y = false → areB s ws = false := fun e => by
    have : ws.all (wordOf s) = false := by
     rw [List.all_eq_false]
     exact ⟨y, hym, by rw [e]; simp⟩
    unfold areB; rw [this]; simp
   walk_at "rd1"
   refine ite2 (fun c1 => ?_) (fun c1 => ?_)
   ·refine ⟨_, "str", rfl, rfl, fun z e => by cases e; exact smallL (by omega), fun H2 s2 => ?_⟩
    have ew : wordV (.str y) = wordOf s y := by unfold wordOf; rw [if_pos c1]; rfl
    rw [ew]
    walk_at "rd1"
    cases e : wordOf s y with
    | true => exact ite2 (fun c => absurd c (by simp)) (fun _ => ⟨_, rfl, sm.trans s2, nx e⟩)
    | false => refine ite2 (fun _ => ?_) (fun c => absurd rfl c); rw [← no e]; exact q _ (sm.trans s2)
   ·refine ⟨y, rfl, hyl, fun H2 s2 => ?_⟩
    have ew : sidedS y = wordOf s y := by unfold wordOf; rw [if_neg c1]
    rw [ew]
    walk_at "rd1"
    cases e : wordOf s y with
    | true => exact ite2 (fun c => absurd c (by simp)) (fun _ => ⟨_, rfl, sm.trans s2, nx e⟩)
    | false => refine ite2 (fun _ => ?_) (fun c => absurd rfl c); rw [← no e]; exact q _ (sm.trans s2)
 ·rintro σ H' ⟨o2, rfl, sm, hall⟩
  rw [List.length_map, List.take_length] at hall
  walk_at "nx"
  refine ⟨p, ws, rfl, sm _ _ hp, hn, fun H2 s2 => ?_⟩
  have e : areB s ws = risingB ws := by unfold areB; rw [hall, decide_eq_true h16]; rfl
  rw [← e]
  exact q _ (sm.trans s2)
def wayB (n : Nat) : Option Nat → Bool
 | none => true
 | some k => decide (k < n)
def spIsWay : Sp := fun vs H Q _ => ∃ (o : Option Nat) (n : Nat), vs = [wayV o, .int (n : Int)] ∧ Q (.bl (wayB n o)) H
theorem ok_isway (D : DefAt K mg "is_way" s_is_way) (c_is_whole : Cal P w K mg base 1 "is_whole" ["thing"] spWholeN) : Cal P w K mg base 2 "is_way" ["thing", "count"] spIsWay := by
 refine D.cal (k := 1) sc_is_way (fun _ _ _ _ _ _ us hl => match us, hl with | [_, _], _ => rfl) (fun vs H Q E h => by obtain ⟨o, n, rfl, _⟩ := h; rfl) (fun f cdv A outer sh H vs Q E hr h => ?_)
 obtain ⟨o, n, rfl, q⟩ := h
 refine ⟨_, (pss_one (ps_ret (pe_or (pe_cmpR op_isNA (pv 0 (hv := vz9)) pe_non (nomark _)) (pe_one (pe_and (pe_cal c_is_whole hr (pa_cons (pv 0 (hv := vz9)) pa_nil) (hg := gzo)) (pe_one (pe_chain op_le op_ltA pe_int (pv 0 (hv := vz9)) (pv 1 (hv := vza))))))))), ?_⟩
 walk_at "rd1"
 cases o with
 | none => exact ite2 (fun _ => q) (fun c => absurd rfl c)
 | some k =>
  refine ite2 (fun c => absurd c (by simp [wayV])) (fun _ => ?_)
  refine ⟨_, rfl, .inr ⟨(k : Int), rfl, _, rfl, ite2 (fun _ => ?_) (fun c => absurd rfl c)⟩⟩
  have e : wayV (some k) = .int (k : Int) := rfl
  rw [e]
  walk_at "rd1"
  refine ite2 (fun _ => ?_) (fun c => absurd (by omega) c)
  have e2 : wayB n (some k) = decide ((k : Int) < (n : Int)) := by
   show decide (k < n) = _
   by_cases h : k < n
   ·rw [decide_eq_true h, decide_eq_true (by omega)]
   ·rw [decide_eq_false h, decide_eq_false (by omega)]
  rw [← e2]; exact q
def roomB (width n : Nat) (x : List (Option Nat)) : Bool := decide (x.length = width) && x.all (wayB n)
def spIsRoom : Sp := fun vs H Q _ => ∃ (a : Addr) (x : List (Option Nat)) (m n : Nat), vs = [.ref a, .int (m : Int), .int (n : Int)] ∧ H a = some (.lst (x.map wayV)) ∧ x.length ≤ 100000 ∧ ∀ H', Same H H' → Q (.bl (roomB m n x)) H'
theorem ok_isroom (D : DefAt K mg "is_room" s_is_room) (z_isinstance : mg "isinstance" = none) (z_list : mg "list" = none) (z_len : mg "len" = none) (z_all : mg "all" = none) (c_is_way : Cal P w K mg base 2 "is_way" ["thing", "count"] spIsWay) : Cal P w K mg base 3 "is_room" ["thing", "width", "count"] spIsRoom := by
 refine D.cal (k := 2) sc_is_room (fun _ _ _ _ _ _ us hl => match us, hl with | [_, _, _], _ => rfl) (fun vs H Q E h => by obtain ⟨a, x, m, n, rfl, _⟩ := h; rfl) (fun f cdv A outer sh H vs Q E hr h => ?_)
 obtain ⟨a, x, m, n, rfl, ha, hn, q⟩ := h
 refine ⟨_, (pss_cons (ps_if (PW.pt' (pw_or (pt_not (pt_val (pe_blt call_isT z_isinstance bt_isinstance (pa_cons (pv 0 (hv := vzb)) (pa_cons (pe_gty z_list bt_list (hg := gzs)) pa_nil)) (hg := gzq)))) (pw_or1 (pt_cmpR op_neA (pe_blt (call_lenK K) z_len bt_len (pa_cons (pv 0 (hv := vzb)) pa_nil) (hg := gzr)) (pv 1 (hv := vzc)) (nomark _))))) (pss_one (ps_ret pe_bl)) pss_nil)
   (pss_one (ps_ret (pe_blt (call_allK K) z_all bt_all (pa_cons (pe_comp (CompSc.to (fsc := (defScope s_is_room)) (N := ["thing", "width", "count"]) (N0 := ["thing", "width", "count"]) (T := ["way"]) ⟨by decide +kernel, by decide +kernel, by decide +kernel, by decide +kernel, by decide +kernel, by decide +kernel, by decide +kernel⟩ rfl rfl) rfl (pi_listK K (pv 0 (hv := vzb))) (fun _ _ _ _ => (pg_let 3 (show (["thing", "width", "count", "way"] : List Str).Nodup from by decide +kernel) (hx := (locC (defScope s_is_room) (by decide +kernel))) (hf := fnC (defScope s_is_room) (by decide +kernel)))) (gfr_name (show (["thing", "width", "count"] : List Str).length ≤ 3 from by decide)) (fun _ _ _ _ => pifs_nil) (fun _ _ _ _ => (pe_cal c_is_way hr (pa_cons (pv 3 (hv := (visC (defScope s_is_room) (by decide +kernel)))) (pa_cons (pv 2 (hv := (visC (defScope s_is_room) (by decide +kernel)))) pa_nil)) (hg := (glC (defScope s_is_room) (by decide +kernel)))))) pa_nil) (hg := gzp))))), ?_⟩
 walk_at "rd1"
 refine ⟨"list", by simp [tyName, ha], by decide, ite2 (fun c => absurd c (by decide)) (fun _ => ?_)⟩
 refine ⟨_, .inl (SqL.of ha), ?_⟩
 rw [List.length_map]
 walk_at "rd1"
 refine ite2 (fun c => ?_) (fun c => ?_)
 ·have e : roomB m n x = false := by unfold roomB; rw [decide_eq_false (fun z => by simp [z] at c)]; rfl
  rw [← e]; exact q _ (Same.refl _)
 have hm : x.length = m := by have := c; simp at this; omega
 walk_at "nx"
 refine ⟨⟨_, SqL.of ha⟩, fun L hL => ?_⟩
 refine compW_list (xs := x.map wayV) (fun i ys H' => Same H H' ∧ H' L = some (.lst ys) ∧ ys = ((x.take i).map (wayB n)).map V.bl) ⟨same_new hL _, upd_same, rfl⟩ (fun i ys H' _ h => SqL.of (h.1 _ _ ha)) ?_ ?_
 ·rintro i ys H' v hv hi ⟨sm, hD, rfl⟩
  rw [List.length_map] at hi
  rw [List.getElem?_map, List.getElem?_eq_getElem hi] at hv
  cases hv
  walk_at "rd1"
  refine ⟨x[i], n, rfl, ?_⟩
  rw [List.length_map]
  refine cstep hi (by simp; omega) (smallL (by omega)) hD ⟨sm.upd hL _, upd_same, ?_⟩
  rw [List.take_add_one, List.getElem?_eq_getElem hi, List.map_append, List.map_append]; rfl
 ·rintro ys H' ⟨sm, hD, rfl⟩
  walk_at "rd1"
  refine ⟨_, SqL.of hD, ?_⟩
  have e : roomB m n x = ((x.take (x.map wayV).length).map (wayB n)).all id := by
   unfold roomB
   rw [List.length_map, List.take_length, List.all_map, decide_eq_true hm]; rfl
  rw [← e]
  exact q _ sm
def roomsB (width : Nat) (rs : List (List (Option Nat))) : Bool := decide (1 ≤ rs.length ∧ rs.length ≤ 60) && rs.all (roomB width rs.length)
def spAreRooms : Sp := fun vs H Q _ => ∃ (p : Addr) (rs : List (List (Option Nat))) (as : List Addr) (m : Nat), vs = [.ref p, .int (m : Int)] ∧ RoomsAs H p rs as ∧ rs.length ≤ 100000 ∧ (∀ x ∈ rs, x.length ≤ 100000) ∧ ∀ H', Same H H' → Q (.bl (roomsB m rs)) H'
theorem ok_arerooms (D : DefAt K mg "are_rooms" s_are_rooms) (z_isinstance : mg "isinstance" = none) (z_list : mg "list" = none) (z_len : mg "len" = none) (z_all : mg "all" = none) (g_MOST_ROOMS : ∃ t, mg "MOST_ROOMS" = some (.int 60 t)) (c_is_room : Cal P w K mg base 3 "is_room" ["thing", "width", "count"] spIsRoom) : Cal P w K mg base 4 "are_rooms" ["thing", "width"] spAreRooms := by
 refine D.cal (k := 3) sc_are_rooms (fun _ _ _ _ _ _ us hl => match us, hl with | [_, _], _ => rfl) (fun vs H Q E h => by obtain ⟨p, rs, as, m, rfl, _⟩ := h; rfl) (fun f cdv A outer sh H vs Q E hr h => ?_)
 obtain ⟨p, rs, as, m, rfl, hR, hn, hx, q⟩ := h
 obtain ⟨h1, h2, h3⟩ := id hR
 refine ⟨_, (pss_cons (ps_if (PW.pt' (pw_or (pt_not (pt_val (pe_blt call_isT z_isinstance bt_isinstance (pa_cons (pv 0 (hv := vzd)) (pa_cons (pe_gty z_list bt_list (hg := gzx)) pa_nil)) (hg := gzv)))) (pw_or1 (pt_not (pt_chain op_le op_le pe_int (pe_blt (call_lenK K) z_len bt_len (pa_cons (pv 0 (hv := vzd)) pa_nil) (hg := gzw)) (pe_gint g_MOST_ROOMS (hg := gzt))))))) (pss_one (ps_ret pe_bl)) pss_nil)
   (pss_one (ps_ret (pe_blt (call_allK K) z_all bt_all (pa_cons (pe_comp (CompSc.to (fsc := (defScope s_are_rooms)) (N := ["thing", "width"]) (N0 := ["thing", "width"]) (T := ["room"]) ⟨by decide +kernel, by decide +kernel, by decide +kernel, by decide +kernel, by decide +kernel, by decide +kernel, by decide +kernel⟩ rfl rfl) rfl (pi_listK K (pv 0 (hv := vzd))) (fun _ _ _ _ => (pg_let 2 (show (["thing", "width", "room"] : List Str).Nodup from by decide +kernel) (hx := (locC (defScope s_are_rooms) (by decide +kernel))) (hf := fnC (defScope s_are_rooms) (by decide +kernel)))) (gfr_name (show (["thing", "width"] : List Str).length ≤ 2 from by decide)) (fun _ _ _ _ => pifs_nil) (fun _ _ _ _ => (pe_cal c_is_room hr (pa_cons (pv 2 (hv := (visC (defScope s_are_rooms) (by decide +kernel)))) (pa_cons (pv 1 (hv := (visC (defScope s_are_rooms) (by decide +kernel)))) (pa_cons (pe_blt (call_lenK K) z_len bt_len (pa_cons (pv 0 (hv := (visC (defScope s_are_rooms) (by decide +kernel)))) pa_nil) (hg := (glC (defScope s_are_rooms) (by decide +kernel)))) pa_nil))) (hg := (glC (defScope s_are_rooms) (by decide +kernel)))))) pa_nil) (hg := gzu))))), ?_⟩
 walk_at "rd1"
 refine ⟨"list", by simp [tyName, h1], by decide, ite2 (fun c => absurd c (by decide)) (fun _ => ?_)⟩
 refine ⟨_, .inl (SqL.of h1), ?_⟩
 rw [List.length_map, h2]
 walk_at "rd1"
 have bad : ¬ (1 ≤ rs.length ∧ rs.length ≤ 60) → roomsB m rs = false := fun z => by unfold roomsB; rw [decide_eq_false z]; rfl
 refine ite2 (fun c1 => ?_) (fun c1 => ?_)
 ·refine ite2 (fun c2 => ?_) (fun c2 => ?_)
  ·rw [← bad (fun z => by simp at c2; omega)]; exact q _ (Same.refl _)
  have hb : 1 ≤ rs.length ∧ rs.length ≤ 60 := ⟨by omega, by simp at c2; omega⟩
  walk_at "nx"
  refine ⟨⟨_, SqL.of h1⟩, fun L hL => ?_⟩
  refine compW_list (xs := as.map V.ref) (fun i ys H' => Same H H' ∧ H' L = some (.lst ys) ∧ ys = ((rs.take i).map (roomB m rs.length)).map V.bl) ⟨same_new hL _, upd_same, rfl⟩ (fun i ys H' _ h => SqL.of (h.1 _ _ h1)) ?_ ?_
  ·rintro i ys H' v hv hi ⟨sm, hD, rfl⟩
   rw [List.length_map] at hi
   rw [List.getElem?_map, List.getElem?_eq_getElem hi] at hv
   cases hv
   have hir : i < rs.length := by omega
   have hxi := List.getElem?_eq_getElem hir
   have hai := h3 i as[i] rs[i] (List.getElem?_eq_getElem hi) hxi
   have hxl := hx rs[i] (List.getElem_mem hir)
   walk_at "rd1"
   refine ⟨_, .inl (SqL.of (sm _ _ h1)), ?_⟩
   rw [List.length_map, h2]
   refine ⟨as[i], rs[i], m, rs.length, rfl, sm _ _ hai, hxl, fun H2 s2 => ?_⟩
   have sm2 := sm.trans s2
   refine cstep (by omega) (by simp; omega) (smallL (by omega)) (s2 _ _ hD) ⟨sm2.upd hL _, upd_same, ?_⟩
   rw [List.take_add_one, hxi, List.map_append, List.map_append]; rfl
  ·rintro ys H' ⟨sm, hD, rfl⟩
   walk_at "rd1"
   refine ⟨_, SqL.of hD, ?_⟩
   have e : roomsB m rs = ((rs.take (as.map V.ref).length).map (roomB m rs.length)).all id := by
    unfold roomsB
    rw [List.length_map, h2, List.take_length, List.all_map, decide_eq_true hb]; rfl
   rw [← e]
   exact q _ sm
 ·rw [← bad (fun z => by omega)]; exact q _ (Same.refl _)
def ruleB (s : Option Nat) (ws : List Str) (rs : List (List (Option Nat))) : Bool := match s with
 | none => false
 | some s => decide (s = 1 ∨ s = 2) && (areB s ws && roomsB ws.length rs)
def spIsRule : Sp := fun vs H Q _ => ∃ (p pw pr : Addr) (s : Option Nat) (ws : List Str) (rs : List (List (Option Nat))) (as : List Addr), vs = [.ref p] ∧ H p = some (.tup [wayV s, .ref pw, .ref pr]) ∧ H pw = some (.lst (ws.map V.str)) ∧ RoomsAs H pr rs as ∧ ws.length ≤ 100000 ∧ (∀ y ∈ ws, y.length ≤ 100000) ∧ rs.length ≤ 100000 ∧ (∀ x ∈ rs, x.length ≤ 100000) ∧ ∀ H', Same H H' → Q (.bl (ruleB s ws rs)) H'
theorem ok_isrule (D : DefAt K mg "is_rule" s_is_rule) (z_isinstance : mg "isinstance" = none) (z_tuple : mg "tuple" = none) (z_len : mg "len" = none) (c_is_whole : Cal P w K mg base 1 "is_whole" ["thing"] spWholeN) (c_are_words : Cal P w K mg base 3 "are_words" ["thing", "sides"] spAre) (c_are_rooms : Cal P w K mg base 4 "are_rooms" ["thing", "width"] spAreRooms) : Cal P w K mg base 5 "is_rule" ["thing"] spIsRule := by
 refine D.cal (k := 4) sc_is_rule (fun _ _ _ _ _ _ us hl => match us, hl with | [_], _ => rfl) (fun vs H Q E h => by obtain ⟨p, pw, pr, s, ws, rs, as, rfl, _⟩ := h; rfl) (fun f cdv A outer sh H vs Q E hr h => ?_)
 obtain ⟨p, pw, pr, s, ws, rs, as, rfl, hp, hpw, hR, hwn, hwl, hrn, hrl, q⟩ := h
 refine ⟨_, (pss_cons (ps_if (PW.pt' (pw_or (pt_not (pt_val (pe_blt call_isT z_isinstance bt_isinstance (pa_cons (pv 0 (hv := vze)) (pa_cons (pe_gty z_tuple bt_tuple (hg := gz13)) pa_nil)) (hg := gz11)))) (pw_or1 (pt_cmpR op_neA (pe_blt (call_lenK K) z_len bt_len (pa_cons (pv 0 (hv := vze)) pa_nil) (hg := gz12)) pe_int (nomark _))))) (pss_one (ps_ret pe_bl)) pss_nil)
   (pss_cons (ps_let 1 sc_is_rule.nd (pe_ix (ix_K K) (pv 0 (hv := vze)) pe_int (fun _ _ => rfl)) (hx := lz1))
   (pss_cons (ps_if (PW.pt' (pw_or (pt_not (pt_val (pe_cal c_is_whole hr (pa_cons (pv 1 (hv := vzf)) pa_nil) (hg := gz10)))) (pw_or1 (pt_cmpR (op_notInK K) (pv 1 (hv := vzf)) (pe_tup (pa_cons pe_int (pa_cons pe_int pa_nil))) (by with_unfolding_all rfl))))) (pss_one (ps_ret pe_bl)) pss_nil)
   (pss_one (ps_ret (pe_and (pe_cal c_are_words hr (pa_cons (pe_ix (ix_K K) (pv 0 (hv := vze)) pe_int (fun _ _ => rfl)) (pa_cons (pv 1 (hv := vzf)) pa_nil)) (hg := gzz)) (pe_one (pe_cal c_are_rooms hr (pa_cons (pe_ix (ix_K K) (pv 0 (hv := vze)) pe_int (fun _ _ => rfl)) (pa_cons (pe_blt (call_lenK K) z_len bt_len (pa_cons (pe_ix (ix_K K) (pv 0 (hv := vze)) pe_int (fun _ _ => rfl)) pa_nil) (hg := gz12)) pa_nil)) (hg := gzy))))))))), ?_⟩
 walk_at "rd1"
 refine ⟨"tuple", by simp [tyName, hp], by decide, ite2 (fun c => absurd c (by decide)) (fun _ => ?_)⟩
 refine ⟨_, .inr (SqT.of hp), ?_⟩
 walk_at "rd1"
 refine ite2 (fun c => absurd c (by simp)) (fun _ => ?_)
 walk_at "nx"
 refine ⟨_, _, .inr (SqT.of hp), at0, ?_⟩
 walk_at "nx"
 cases s with
 | none =>
  refine ⟨_, rfl, .inl ⟨rfl, _, rfl, ite2 (fun _ => ?_) (fun c => absurd rfl c)⟩⟩
  exact q _ (Same.refl _)
 | some s =>
  refine ⟨_, rfl, .inr ⟨(s : Int), rfl, _, rfl, ite2 (fun c => absurd c (by decide)) (fun _ => ?_)⟩⟩
  refine ⟨by decide, fun t2 ht2 => ?_⟩
  have sm := same_new ht2 (.tup [V.int 1, V.int 2])
  have et : upd H t2 (.tup [V.int 1, V.int 2]) t2 = some (.tup [V.int 1, V.int 2]) := upd_same
  generalize upd H t2 (.tup [V.int 1, V.int 2]) = H1 at sm et ⊢
  have ew : wayV (some s) = .int (s : Int) := rfl
  rw [ew]
  walk_at "rd1"
  have hin : inV (V.int (s : Int)) [V.int 1, V.int 2] = decide (s = 1 ∨ s = 2) := by
   rw [Bool.eq_iff_iff, decide_eq_true_eq]
   simp [inV, eqV]
   omega
  refine ⟨_, .inr (SqT.of et), rfl, rfl, ?_⟩
  rw [hin]
  by_cases hs : s = 1 ∨ s = 2
  ·rw [decide_eq_true hs]
   refine ite2 (fun c => absurd c (by decide)) (fun _ => ?_)
   walk_at "nx"
   refine ⟨_, _, .inr (SqT.of (sm _ _ hp)), atI_nat (j := 1) rfl, pw, ws, (s : Int), rfl, sm _ _ hpw, hwn, hwl, fun H2 s2 => ?_⟩
   have sm2 := sm.trans s2
   have er : ruleB (some s) ws rs = (areB (s : Int) ws && roomsB ws.length rs) := by show (decide (s = 1 ∨ s = 2) && _) = _; rw [decide_eq_true hs]; rfl
   walk_at "rd1"
   cases ea : areB (s : Int) ws with
   | false =>
    refine ite2 (fun c => absurd c (by decide)) (fun _ => ?_)
    rw [ea] at er
    have er' : ruleB (some s) ws rs = false := er
    rw [← er']; exact q _ sm2
   | true =>
    refine ite2 (fun _ => ?_) (fun c => absurd rfl c)
    refine ⟨_, _, .inr (SqT.of (sm2 _ _ hp)), atI_nat (j := 2) rfl, _, _, .inr (SqT.of (sm2 _ _ hp)), atI_nat (j := 1) rfl, ?_⟩
    walk_at "rd1"
    refine ⟨_, .inl (SqL.of (sm2 _ _ hpw)), ?_⟩
    rw [List.length_map]
    refine ⟨pr, rs, as, ws.length, rfl, hR.mono sm2, hrn, hrl, fun H3 s3 => ?_⟩
    rw [ea] at er
    have er' : ruleB (some s) ws rs = roomsB ws.length rs := er
    rw [← er']; exact q _ (sm2.trans s3)
  ·rw [decide_eq_false hs]
   refine ite2 (fun _ => ?_) (fun c => absurd rfl c)
   have er : ruleB (some s) ws rs = false := by show (decide (s = 1 ∨ s = 2) && _) = _; rw [decide_eq_false hs]; rfl
   rw [← er]; exact q _ sm
end
theorem slice_T {x : Str} {lo hi : Option Int} {a b : Nat} (hab : a ≤ b) (hb : b ≤ x.length) (e : Builtin.Str.strSliceIndices lo hi 1 x.length = (List.range (b - a)).map (fun k => a + k)) : T (Txt.slice x lo hi) = ((T x).drop a).take (b - a) := by
 have hp := StrLaws.picks x.cps.toList (b - a) a (by simp [Str.length] at hb ⊢; omega)
 unfold Txt.slice
 rw [e]
 split
 ·rename_i h
  have hl : b - a = x.length := by simpa using h
  have ha : a = 0 := by omega
  subst ha
  show T x = ((T x).drop 0).take (b - 0)
  rw [List.drop_zero, Nat.sub_zero, List.take_of_length_le (by rw [T_len]; omega)]
 ·show ((List.range (b - a)).map (fun k => a + k)).filterMap (x.cps[·]?) = (x.cps.toList.drop a).take (b - a)
  simpa using hp
theorem slice_to {x : Str} {j : Nat} (h : j ≤ x.length) : T (Txt.slice x none (some (j : Int))) = (T x).take j := by
 have := slice_T (x := x) (lo := none) (hi := some (j : Int)) (Nat.zero_le j) h (by rw [StrLaws.sliceIdx_none_lo]; exact StrLaws.strSliceIndices_plain (a := 0) (Nat.zero_le j) h)
 simpa using this
theorem slice_from {x : Str} {j : Nat} (h : j ≤ x.length) : T (Txt.slice x (some (j : Int)) none) = (T x).drop j := by
 have := slice_T (x := x) (lo := some (j : Int)) (hi := none) h (Nat.le_refl _) (by rw [StrLaws.sliceIdx_none_hi]; exact StrLaws.strSliceIndices_plain h (Nat.le_refl _))
 rw [this, List.take_of_length_le (by rw [List.length_drop, T_len]; omega)]
theorem slice_last {x : Str} (h : 1 ≤ x.length) : T (Txt.slice x none (some (-1))) = (T x).take (x.length - 1) := by
 have e : Builtin.Str.strSliceIndices none (some (-1)) 1 x.length = Builtin.Str.strSliceIndices none (some ((x.length - 1 : Nat) : Int)) 1 x.length := by
  have h1 : ¬ (((x.length - 1 : Nat) : Int) < 0) := by omega
  simp only [Builtin.Str.strSliceIndices, h1, if_false, show ((-1 : Int) < 0) = True from by simp, if_true]
  rw [show (-1 : Int) + (x.length : Int) = ((x.length - 1 : Nat) : Int) by omega]
 have := slice_T (x := x) (lo := none) (hi := some (-1)) (Nat.zero_le (x.length - 1)) (by omega) (by rw [e, StrLaws.sliceIdx_none_lo]; exact StrLaws.strSliceIndices_plain (a := 0) (Nat.zero_le _) (by omega))
 simpa using this
theorem num_facts : ∀ k : Nat, k < 100 → 1 ≤ (T (toString (k : Int))).length ∧ (T (toString (k : Int))).length ≤ 2 ∧ (T (toString (k : Int))).all (fun c => decide (c ∈ (Str.ofString "0123456789").cps.toList)) = true := by decide +kernel
def Clean (y : Str) : Prop := ∀ c ∈ T y, c ≠ 32 ∧ c ≠ 33 ∧ c ≠ 58 ∧ c ≠ 59 ∧ c ≠ 62
structure RoomOk (ws : List Str) (x : List (Option Nat)) : Prop where
 len : x.length = ws.length
 few : ws.length ≤ 1000
 cl : ∀ u ∈ ws, Clean u ∧ u.length ≤ 1000
 wy : ∀ k, some k ∈ x → k < 100
def strT (p : List Nat) : Str := ⟨p.toArray⟩
theorem T_strT (p : List Nat) : T (strT p) = p := by simp [T, strT]
theorem num_clean {k : Nat} (hk : k < 100) : ∀ c ∈ T (toString (k : Int)), c ≠ 32 ∧ c ≠ 33 ∧ c ≠ 58 ∧ c ≠ 59 ∧ c ≠ 62 := fun c hc => by
 have h := List.all_eq_true.mp (num_facts k hk).2.2 c hc
 have h' : c ∈ (Str.ofString "0123456789").cps.toList := by simpa using h
 have e : (Str.ofString "0123456789").cps.toList = [48, 49, 50, 51, 52, 53, 54, 55, 56, 57] := by decide +kernel
 rw [e] at h'
 simp only [List.mem_cons, List.not_mem_nil, or_false] at h'
 omega
theorem way_free {u : Str} {o : Option Nat} (hu : Clean u) (ho : ∀ k, o = some k → k < 100) : ∀ c ∈ wayT (T u) o, c ≠ 32 ∧ c ≠ 58 ∧ c ≠ 59 := fun c hc => by
 cases o with
 | none =>
  rcases List.mem_append.mp hc with z | z
  ·have := hu c z; exact ⟨this.1, this.2.2.1, this.2.2.2.1⟩
  ·rw [List.mem_singleton.mp z]; decide
 | some k =>
  rcases List.mem_append.mp hc with z | z
  ·rcases List.mem_append.mp z with z | z
   ·have := hu c z; exact ⟨this.1, this.2.2.1, this.2.2.2.1⟩
   ·rw [List.mem_singleton.mp z]; decide
  ·have := num_clean (ho k rfl) c z; exact ⟨this.1, this.2.2.1, this.2.2.2.1⟩
theorem RoomOk.at {ws : List Str} {x : List (Option Nat)} (h : RoomOk ws x) {i : Nat} (hi : i < ws.length) : ∃ u o, ws[i]? = some u ∧ x[i]? = some o ∧ (partsT ws x)[i]? = some (wayT (T u) o) ∧ Clean u ∧ u.length ≤ 1000 ∧ ∀ k, o = some k → k < 100 := by
 have hx : i < x.length := by rw [h.len]; exact hi
 have e1 := List.getElem?_eq_getElem hi
 have e2 := List.getElem?_eq_getElem hx
 exact ⟨_, _, e1, e2, partsT_at e1 e2, (h.cl _ (List.getElem_mem hi)).1, (h.cl _ (List.getElem_mem hi)).2, fun k e => h.wy k (e ▸ List.getElem_mem hx)⟩
theorem RoomOk.part {ws : List Str} {x : List (Option Nat)} (h : RoomOk ws x) {p : List Nat} (hp : p ∈ partsT ws x) : ∃ u o, p = wayT (T u) o ∧ Clean u ∧ u.length ≤ 1000 ∧ ∀ k, o = some k → k < 100 := by
 obtain ⟨i, hi, rfl⟩ := List.mem_iff_getElem.mp hp
 obtain ⟨u, o, e1, e2, e3, e4⟩ := h.at (i := i) (by rw [partsT_len h.len] at hi; exact hi)
 rw [List.getElem?_eq_getElem hi] at e3
 exact ⟨u, o, Option.some.inj e3, e4⟩
theorem join_strT (sep : Str) (ps : List (List Nat)) : T (Txt.join sep (ps.map strT)) = glue (T sep) ps := by
 rw [join_T, List.map_map]
 congr 1
 rw [show T ∘ strT = id from funext T_strT, List.map_id]
theorem room_split {ws : List Str} {x : List (Option Nat)} (h : RoomOk ws x) (hne : ws ≠ []) {y : Str} (hy : T y = roomT ws x) : Txt.split y " " = (partsT ws x).map strT := by
 have hp : (partsT ws x).map strT ≠ [] := fun z => by
  have h1 := congrArg List.length z
  rw [List.length_map, partsT_len h.len] at h1
  exact hne (List.length_eq_zero_iff.mp h1)
 have ey : y = Txt.join " " ((partsT ws x).map strT) := T_inj (by
  rw [join_strT, show T (Str.ofString " ") = [32] by decide +kernel]; exact hy)
 rw [ey]
 refine split_join hp fun z hz => ?_
 obtain ⟨p, hp, rfl⟩ := List.mem_map.mp hz
 obtain ⟨u, o, rfl, h1, h2, h3⟩ := h.part hp
 intro hc
 have := way_free h1 h3 32 (by have e := T_strT (wayT (T u) o); rw [← e]; exact hc)
 exact this.1 rfl
structure RuleTx (r : Rl) : Prop where
 ok : RlOk r
 cl : ∀ u ∈ r.ws, Clean u
 wb : areB r.s r.ws = true
theorem room_ok {r : Rl} (ok : RlOk r) (cl : ∀ u ∈ r.ws, Clean u) {x : List (Option Nat)} (hx : x ∈ r.rs) : RoomOk r.ws x := by
 refine ⟨(ok.row x hx).1, by have := ok.nw; omega, fun u hu => ⟨cl u hu, by have := ok.lw u hu; omega⟩, fun k hk => ?_⟩
 have h1 := (ok.row x hx).2 k hk
 have h2 := ok.n1
 omega
theorem RuleTx.room {r : Rl} (h : RuleTx r) {x : List (Option Nat)} (hx : x ∈ r.rs) : RoomOk r.ws x := room_ok h.ok h.cl hx
theorem room_free {ws : List Str} {x : List (Option Nat)} (h : RoomOk ws x) : 59 ∉ roomT ws x := by
 have go : ∀ ps : List (List Nat), (∀ p ∈ ps, 59 ∉ p) → 59 ∉ glue [32] ps := by
  intro ps hp
  cases ps with
  | nil => simp [glue]
  | cons p ps =>
   show 59 ∉ p ++ ps.flatMap ([32] ++ ·)
   intro hc
   rcases List.mem_append.mp hc with z | z
   ·exact hp p List.mem_cons_self z
   ·obtain ⟨q, hq, hz⟩ := List.mem_flatMap.mp z
    rcases List.mem_append.mp hz with y | y
    ·exact absurd (List.mem_singleton.mp y) (by decide)
    ·exact hp q (List.mem_cons_of_mem _ hq) y
 refine go _ fun p hp hc => ?_
 obtain ⟨u, o, rfl, h1, h2, h3⟩ := h.part hp
 exact (way_free h1 h3 59 hc).2.2 rfl
theorem rooms_split {r : Rl} (ok : RlOk r) (cl : ∀ u ∈ r.ws, Clean u) {y : Str} (hy : T y = glue [59, 32] (r.rs.map (roomT r.ws))) : Txt.split y "; " = (r.rs.map (roomT r.ws)).map strT := by
 have es : (Str.ofString "; ").cps.toList = 59 :: [32] := by decide +kernel
 have hn0 := ok.n0
 refine split_of es (by decide +kernel) (fun z => ?_) (fun z hz => ?_) (T_inj ?_)
 ·have := congrArg List.length z
  rw [List.length_map, List.length_map] at this
  simp at this
  rw [this] at hn0
  exact absurd hn0 (by decide)
 ·obtain ⟨p, hp, rfl⟩ := List.mem_map.mp hz
  obtain ⟨x, hx, rfl⟩ := List.mem_map.mp hp
  have := room_free (room_ok ok cl hx)
  rw [← T_strT (roomT r.ws x)] at this
  exact this
 ·have e := join_strT (Str.ofString "; ") (r.rs.map (roomT r.ws))
  have e2 : Txt.join (Str.ofString "; ") ((r.rs.map (roomT r.ws)).map strT) = Str.join (Str.ofString "; ") ((r.rs.map (roomT r.ws)).map strT) := PySem.StrLaws.glued_eq_join _ _
  rw [e2, show T (Str.ofString "; ") = [59, 32] from es] at e
  rw [hy, e]
def FreshR (H H' : Hp) (p : Addr) (r : Rl) : Prop := ∃ pw pr as, H' p = some (.tup [.int r.s, .ref pw, .ref pr]) ∧ H' pw = some (.lst (r.ws.map V.str)) ∧ RoomsAs H' pr r.rs as ∧ H pw = none ∧ H pr = none ∧ pw ≠ pr ∧ (∀ a ∈ as, H a = none ∧ a ≠ pw ∧ a ≠ pr) ∧ as.Nodup
theorem FreshR.at {H H' : Hp} {p : Addr} {r : Rl} (h : FreshR H H' p r) : RuleAt H' p r := by
 obtain ⟨pw, pr, as, h1, h2, h3, _⟩ := h
 exact ⟨pw, pr, as, h1, h2, h3⟩
theorem FreshR.mono {H H' H'' : Hp} {p : Addr} {r : Rl} (h : FreshR H H' p r) (s : Same H' H'') : FreshR H H'' p r := by
 obtain ⟨pw, pr, as, h1, h2, h3, h4⟩ := h
 exact ⟨pw, pr, as, s _ _ h1, s _ _ h2, h3.mono s, h4⟩
theorem roomsB_of {r : Rl} (ok : RlOk r) : roomsB r.ws.length r.rs = true := by
 unfold roomsB
 rw [decide_eq_true ⟨ok.n0, ok.n1⟩, Bool.true_and, List.all_eq_true]
 intro x hx
 unfold roomB
 rw [decide_eq_true (ok.row x hx).1, Bool.true_and, List.all_eq_true]
 intro o ho
 cases o with
 | none => rfl
 | some k => exact decide_eq_true ((ok.row x hx).2 k ho)
theorem slice_to' {x : Str} (j : Nat) : T (Txt.slice x none (some (j : Int))) = (T x).take j := by
 by_cases h : j ≤ x.length
 ·exact slice_to h
 ·have e : Builtin.Str.strSliceIndices none (some (j : Int)) 1 x.length = Builtin.Str.strSliceIndices none (some (x.length : Int)) 1 x.length := by
   have h1 : ¬ ((j : Int) < 0) := by omega
   have h2 : ¬ ((x.length : Int) < 0) := by omega
   simp only [Builtin.Str.strSliceIndices, h1, h2, if_false, show ((1 : Int) > 0) = True from by simp, if_true]
   rw [show min (j : Int) (x.length : Int) = (x.length : Int) by omega, show min (x.length : Int) (x.length : Int) = (x.length : Int) by omega]
  have := slice_T (x := x) (lo := none) (hi := some (j : Int)) (Nat.zero_le x.length) (Nat.le_refl _) (by rw [e, StrLaws.sliceIdx_none_lo]; exact StrLaws.strSliceIndices_plain (a := 0) (Nat.zero_le _) (Nat.le_refl _))
  rw [this, List.drop_zero, Nat.sub_zero, List.take_of_length_le (by rw [T_len]; exact Nat.le_refl _), List.take_of_length_le (by rw [T_len]; omega)]
theorem let_clean {c : Nat} (h : c ∈ letters.cps.toList) : c ≠ 32 ∧ c ≠ 33 ∧ c ≠ 58 ∧ c ≠ 59 ∧ c ≠ 62 := by
 have e : letters.cps.toList = [97, 98, 99, 100, 101, 102, 103, 104, 105, 106, 107, 108, 109, 110, 111, 112, 113, 114, 115, 116, 117, 118, 119, 120, 121, 122] := by decide +kernel
 rw [e] at h
 simp only [List.mem_cons, List.not_mem_nil, or_false] at h
 omega
theorem rising_of : ∀ (ts : List Str), sortedS ts = true → ts.Nodup → risingB ts = true := by
 intro ts hs hn
 have go : ∀ (ts : List Str) (i : Nat), sortedS ts = true → i + 1 < ts.length → ltCps (ts.getD (i + 1) "").cps.toList (ts.getD i "").cps.toList = false := by
  intro ts
  induction ts with
  | nil => intro i _ h; simp at h
  | cons a ts ih =>
   intro i h hi
   cases ts with
   | nil => simp at hi
   | cons b ts =>
    have h' : (!ltCps b.cps.toList a.cps.toList && risingS b ts) = true := h
    rw [Bool.and_eq_true] at h'
    cases i with
    | zero => simpa using h'.1
    | succ i => exact ih i h'.2 (by simpa using hi)
 unfold risingB
 rw [List.all_eq_true]
 intro i hi
 have hi' : i + 1 < ts.length := by have := List.mem_range.mp hi; omega
 have h1 := go ts i hs hi'
 rw [ltCps_eq, decide_eq_false_iff_not] at h1
 refine decide_eq_true ?_
 have e1 : ts.getD i "" = ts[i] := by rw [List.getD_eq_getElem?_getD, List.getElem?_eq_getElem (by omega)]; rfl
 have e2 : ts.getD (i + 1) "" = ts[i + 1] := by rw [List.getD_eq_getElem?_getD, List.getElem?_eq_getElem hi']; rfl
 rw [e1, e2] at h1 ⊢
 have hne : ts[i] ≠ ts[i + 1] := fun z => by
  have := (List.pairwise_iff_getElem.mp hn) i (i + 1) (by omega) hi' (by omega)
  exact this z
 have hle : ts[i].cps.toList ≤ ts[i + 1].cps.toList := List.not_lt.mp h1
 rcases Std.le_iff_lt_or_eq.mp hle with z | z
 ·exact z
 ·exact absurd (str_ext z) hne
theorem cut_eq {c : Nat} : ∀ {p p' q q' : List Nat}, c ∉ p → c ∉ p' → p ++ c :: q = p' ++ c :: q' → p = p' ∧ q = q'
 | [], [], q, q', _, _, h => ⟨rfl, by simpa using h⟩
 | [], b :: p', q, q', _, h2, h => absurd (by simp at h; rw [h.1]; exact List.mem_cons_self) h2
 | a :: p, [], q, q', h1, _, h => absurd (by simp at h; rw [h.1]; exact List.mem_cons_self) h1
 | a :: p, b :: p', q, q', h1, h2, h => by
  simp at h h1 h2
  obtain ⟨e, h⟩ := h
  obtain ⟨i, j⟩ := cut_eq (c := c) (p := p) (p' := p') h1.2 h2.2 h
  exact ⟨by rw [e, i], j⟩
def valT (p : List Nat) : Nat := p.foldl (fun a c => a * 10 + (c - 48)) 0
theorem num_val : ∀ k : Nat, k < 100 → valT (T (toString (k : Int))) = k := by decide +kernel
theorem wayT_inj {u u' : Str} {o o' : Option Nat} (hu : Clean u) (hu' : Clean u') (ho : ∀ k, o = some k → k < 100) (ho' : ∀ k, o' = some k → k < 100) (h : wayT (T u) o = wayT (T u') o') : u = u' ∧ o = o' := by
 have n33 : ∀ {u : Str}, Clean u → ∀ k, k < 100 → 33 ∉ wayT (T u) (some k) := fun hu k hk hc => by
  rcases List.mem_append.mp hc with z | z
  ·rcases List.mem_append.mp z with z | z
   ·exact (hu _ z).2.1 rfl
   ·exact absurd (List.mem_singleton.mp z) (by decide)
  ·exact (num_clean hk _ z).2.1 rfl
 have y33 : ∀ u : Str, 33 ∈ wayT (T u) none := fun u => List.mem_append.mpr (.inr (List.mem_singleton.mpr rfl))
 cases o with
 | none =>
  cases o' with
  | none => exact ⟨T_inj (List.append_cancel_right h), rfl⟩
  | some k => exact absurd (h ▸ y33 u) (n33 hu' k (ho' k rfl))
 | some k =>
  cases o' with
  | none => exact absurd (h.symm ▸ y33 u') (n33 hu k (ho k rfl))
  | some k' =>
   have h' : T u ++ 62 :: T (toString (k : Int)) = T u' ++ 62 :: T (toString (k' : Int)) := by
    have := h
    simp only [wayT, List.append_assoc, List.singleton_append] at this
    exact this
   obtain ⟨e1, e2⟩ := cut_eq (fun z => (hu _ z).2.2.2.2 rfl) (fun z => (hu' _ z).2.2.2.2 rfl) h'
   have := congrArg valT e2
   rw [num_val k (ho k rfl), num_val k' (ho' k' rfl)] at this
   exact ⟨T_inj e1, by rw [this]⟩
theorem map_T {ps ps' : List (List Nat)} (h : ps.map strT = ps'.map strT) : ps = ps' := by
 have := congrArg (List.map T) h
 rw [List.map_map, List.map_map, show T ∘ strT = id from funext T_strT, List.map_id, List.map_id] at this
 exact this
theorem roomT_inj {ws ws' : List Str} {x x' : List (Option Nat)} (h : RoomOk ws x) (h' : RoomOk ws' x') (hne : ws ≠ []) (hne' : ws' ≠ []) (e : roomT ws x = roomT ws' x') : ws = ws' ∧ x = x' := by
 have e1 := room_split h hne (T_strT (roomT ws x))
 have e2 := room_split h' hne' (y := strT (roomT ws x)) (by rw [T_strT]; exact e)
 have e4 := map_T (e1.symm.trans e2)
 have el : ws.length = ws'.length := by have := congrArg List.length e4; rw [partsT_len h.len, partsT_len h'.len] at this; exact this
 have l1 := h.len
 have l2 := h'.len
 have at_ : ∀ i, i < ws.length → ws[i]? = ws'[i]? ∧ x[i]? = x'[i]? := fun i hi => by
  obtain ⟨u, o, a1, a2, a3, a4, a5, a6⟩ := h.at hi
  obtain ⟨u', o', b1, b2, b3, b4, b5, b6⟩ := h'.at (i := i) (by omega)
  rw [e4, b3] at a3
  obtain ⟨f1, f2⟩ := wayT_inj a4 b4 a6 b6 (Option.some.inj a3).symm
  rw [a1, a2, b1, b2, f1, f2]; exact ⟨rfl, rfl⟩
 constructor
 ·apply List.ext_getElem?
  intro i
  by_cases hi : i < ws.length
  ·exact (at_ i hi).1
  ·rw [List.getElem?_eq_none (by omega), List.getElem?_eq_none (by omega)]
 ·apply List.ext_getElem?
  intro i
  by_cases hi : i < ws.length
  ·exact (at_ i hi).2
  ·rw [List.getElem?_eq_none (by omega), List.getElem?_eq_none (by omega)]
theorem roomT_full {ws : List Str} {x : List (Option Nat)} (h : RoomOk ws x) (hne : ws ≠ []) : roomT ws x ≠ [] := fun z => by
 have hl : 0 < ws.length := List.length_pos_iff.mpr hne
 obtain ⟨u, o, a1, a2, a3, _⟩ := h.at hl
 unfold roomT at z
 cases hp : partsT ws x with
 | nil => rw [hp] at a3; cases a3
 | cons p ps =>
  rw [hp] at a3 z
  have e : p = wayT (T u) o := Option.some.inj a3
  have z' : p ++ ps.flatMap ([32] ++ ·) = [] := z
  have z1 := (List.append_eq_nil_iff.mp z').1
  rw [e] at z1
  cases o with
  | none => have z2 := (List.append_eq_nil_iff.mp z1).2; cases z2
  | some k => have z2 := (List.append_eq_nil_iff.mp (List.append_eq_nil_iff.mp z1).1).2; cases z2
theorem ruleT_inj {r r' : Rl} (ok : RlOk r) (cl : ∀ u ∈ r.ws, Clean u) (ok' : RlOk r') (cl' : ∀ u ∈ r'.ws, Clean u) (h : ruleT r = ruleT r') : r = r' := by
 have hs : r.s = r'.s ∧ glue [59, 32] (r.rs.map (roomT r.ws)) = glue [59, 32] (r'.rs.map (roomT r'.ws)) := by
  have t1 : T (toString (1 : Int)) = [49] := by decide +kernel
  have t2 : T (toString (2 : Int)) = [50] := by decide +kernel
  unfold ruleT at h
  rcases ok.s with e | e <;> rcases ok'.s with e' | e' <;> rw [e, e'] at h ⊢
  ·exact ⟨rfl, List.append_cancel_left h⟩
  ·rw [t1, t2] at h; simp at h
  ·rw [t1, t2] at h; simp at h
  ·exact ⟨rfl, List.append_cancel_left h⟩
 obtain ⟨es, eg⟩ := hs
 have e1 := rooms_split ok cl (T_strT (glue [59, 32] (r.rs.map (roomT r.ws))))
 have e2 := rooms_split ok' cl' (y := strT (glue [59, 32] (r.rs.map (roomT r.ws)))) (by rw [T_strT]; exact eg)
 have e3 := map_T (e1.symm.trans e2)
 have el : r.rs.length = r'.rs.length := by have := congrArg List.length e3; rw [List.length_map, List.length_map] at this; exact this
 have n0 := ok.n0
 have at_ : ∀ i (hi : i < r.rs.length) (hi' : i < r'.rs.length), roomT r.ws r.rs[i] = roomT r'.ws r'.rs[i] := fun i hi hi' => by
  have := congrArg (fun l => l[i]?) e3
  simp only [List.getElem?_map, List.getElem?_eq_getElem hi, List.getElem?_eq_getElem hi', Option.map_some] at this
  exact Option.some.inj this
 have emp : ∀ (x : List (Option Nat)), roomT [] x = [] := fun x => rfl
 have rok : ∀ i (hi : i < r.rs.length), RoomOk r.ws r.rs[i] := fun i hi => room_ok ok cl (List.getElem_mem hi)
 have rok' : ∀ i (hi : i < r'.rs.length), RoomOk r'.ws r'.rs[i] := fun i hi => room_ok ok' cl' (List.getElem_mem hi)
 have h0 : 0 < r.rs.length := by omega
 have h0' : 0 < r'.rs.length := by omega
 have a0 := at_ 0 h0 h0'
 have res : r.ws = r'.ws ∧ r.rs = r'.rs := by
  by_cases hw : r.ws = []
  ·have hw' : r'.ws = [] := by
    by_cases c : r'.ws = []
    ·exact c
    ·refine absurd ?_ (roomT_full (rok' 0 h0') c)
     rw [← a0, hw]; rfl
   refine ⟨by rw [hw, hw'], List.ext_getElem el fun i h1 h2 => ?_⟩
   have a := (rok i h1).len
   have b := (rok' i h2).len
   rw [hw] at a; rw [hw'] at b
   rw [List.length_eq_zero_iff.mp a, List.length_eq_zero_iff.mp b]
  ·have hw' : r'.ws ≠ [] := fun c => by
    refine absurd ?_ (roomT_full (rok 0 h0) hw)
    rw [a0, c]; rfl
   exact ⟨(roomT_inj (rok 0 h0) (rok' 0 h0') hw hw' a0).1, List.ext_getElem el fun i h1 h2 => (roomT_inj (rok i h1) (rok' i h2) hw hw' (at_ i h1 h2)).2⟩
 obtain ⟨ew, er⟩ := res
 cases r; cases r'
 cases es; cases ew; cases er; rfl
section
variable {P : Program} {w : World} {K : PySem.W.Frag} {mg : Str → Option Value} {base : Heap}
theorem letF_in (z : Int) : letF z ∈ letters.cps.toList := by
 unfold letF
 have hz : (z % 26).toNat < letters.cps.toList.length := by
  show (z % 26).toNat < 26
  omega
 rw [List.getD_eq_getElem?_getD, List.getElem?_eq_getElem hz]
 exact List.getElem_mem hz
def spWordsW : Sp := fun vs H Q _ => ∃ (c : Int) (n : Nat), vs = [.int c, .int n] ∧ n ≤ 26 ∧ ∀ (p : Addr) (H' : Hp) (ss : List Str), Same H H' → H p = none → H' p = some (.lst (ss.map V.str)) → ss.length = n → (∀ x ∈ ss, wordS x = true) → ss.Nodup → Q (.ref p) H'
theorem ok_words (D : DefAt K mg "_law_words" s_law_words) (z_range : mg "range" = none) (z_int : mg "int" = none) (c_law_mixed : Cal P w K mg base 1 "_law_mixed" ["_law_cell", "_law_k"] spMix) : Cal P w K mg base 2 "_law_words" ["_law_cell", "_law_many"] spWordsW := by
 refine D.cal sc_law_words (fun _ _ _ _ _ _ us hl => match us, hl with | [_, _], _ => rfl) (fun vs H Q E h => by obtain ⟨c, n, rfl, _⟩ := h; rfl) (fun f cdv A outer s H vs Q E hr h => ?_)
 obtain ⟨c, n, rfl, hn, q⟩ := h
 refine ⟨_, (pss_cons (ps_let 2 sc_law_words.nd pe_str (hx := lz8))
   (pss_cons (ps_let 3 sc_law_words.nd (pe_op op_addA pe_int (pe_op op_mod (pv 0 (hv := vz16)) pe_int)) (hx := lz9))
   (pss_cons (ps_let 4 sc_law_words.nd (pe_op op_mod (pe_op op_fdiv (pv 0 (hv := vz16)) pe_int) (pv 3 (hv := vz19))) (hx := lza))
   (pss_cons (ps_let 5 sc_law_words.nd (pe_lst pa_nil) (hx := lzb))
   (pss_cons (ps_for PassesOwn.never rfl (pi_range1 gz1t z_range (pa_cons (pv 1 (hv := vz17)) pa_nil)) (pg_let 6 sc_law_words.nd (hx := lzc)) (pss_cons (ps_let 7 sc_law_words.nd pe_str (hx := lzd))
   (pss_cons (ps_for PassesOwn.never rfl (pi_range1 gz1t z_range (pa_cons (pv 3 (hv := vz19)) pa_nil)) (pg_let 8 sc_law_words.nd (hx := lze)) (pss_one (ps_let 7 sc_law_words.nd (pe_op op_addA (pv 7 (hv := vz1d)) (pe_ix (ix_K K) (pv 2 (hv := vz18)) (pe_op op_mod (pe_op op_addA (pe_cal c_law_mixed hr (pa_cons (pv 0 (hv := vz16)) (pa_cons (pv 8 (hv := vz1e)) pa_nil)) (hg := gz1r)) (pe_op op_mulB (pe_op op_mulB pe_int (pv 6 (hv := vz1c))) (pe_bty call_intA z_int bt_int (pa_cons (pe_cmpR op_eqA (pv 8 (hv := vz1e)) (pv 4 (hv := vz1a)) (nomark _)) pa_nil) (hg := gz1s)))) pe_int) (fun _ _ => rfl))) (hx := lzd))))
   (pss_one (ps_expr (pe_bmK K PySem.F.plainAttrs_list PySem.F.slot_list_append PySem.F.type_list_append mt_appendA (pv 5 (hv := vz1b)) (pa_cons (pv 7 (hv := vz1d)) pa_nil)))))))
   (pss_one (ps_ret (pv 5 (hv := vz1b))))))))), ?_⟩
 walk_at "rd1"
 walk_at "nx"
 refine ⟨by decide, ?_⟩
 have hsz0 : ∃ z : Nat, 1 + c % 8 = (z : Int) ∧ 1 ≤ z ∧ z ≤ 8 := ⟨(1 + c % 8).toNat, by omega, by omega, by omega⟩
 obtain ⟨sz, esz, sz0, sz1⟩ := hsz0
 rw [esz]
 walk_at "nx"
 refine ⟨⟨by decide, by decide⟩, by omega, ?_⟩
 have hat0 : ∃ z : Nat, c / 8 % (sz : Int) = (z : Int) ∧ z < sz := ⟨(c / 8 % (sz : Int)).toNat, by have := Int.emod_nonneg (c / 8) (show (sz : Int) ≠ 0 by omega); omega, by have := Int.emod_lt_of_pos (c / 8) (show (0 : Int) < sz by omega); have := Int.emod_nonneg (c / 8) (show (sz : Int) ≠ 0 by omega); omega⟩
 obtain ⟨at', eat, hat⟩ := hat0
 rw [eat]
 walk_at "nx"
 refine ⟨by decide, fun p hp => ?_⟩
 generalize hH1 : upd H p _ = H1
 have sm1 := al_same hH1 hp
 have e1 := al_at hH1
 walk_at "nx"
 refine ⟨by omega, by omega, ?_⟩
 refine forW_range (fun i σ H' => ∃ (ss : List Str) (o6 o7 o8 : Option V), σ = [some (.int c), some (.int n), some (.str letters), some (.int sz), some (.int at'), some (.ref p), o6, o7, o8] ∧ Same H H' ∧ H' p = some (.lst (ss.map V.str)) ∧ ss.length = i ∧ (∀ x ∈ ss, wordS x = true) ∧ ∀ (k : Nat) x, ss[k]? = some x → x.cps.toList[at']? = some (letF (mixF c at' + 5 * k * 1)))
  ⟨[], none, none, none, rfl, sm1, e1, rfl, by simp, by simp⟩ ?_ ?_
 ·rintro i σ H' hi ⟨ss, o6, o7, o8, rfl, sm, hl, hsn, hsl, hsk⟩
  rw [Int.toNat_natCast] at hi
  walk_at "rd1"
  walk_at "nx"
  refine ⟨by omega, by omega, ?_⟩
  refine forW_range (fun j σ H2 => ∃ (x : Str) (o8 : Option V), σ = [some (.int c), some (.int n), some (.str letters), some (.int sz), some (.int at'), some (.ref p), some (.int (0 + (i : Int))), some (.str x), o8] ∧ H' = H2 ∧ x.length = j ∧ (∀ d ∈ x.cps.toList, d ∈ letters.cps.toList) ∧ (at' < j → x.cps.toList[at']? = some (letF (mixF c at' + 5 * i * 1))))
   ⟨_, _, rfl, rfl, rfl, (fun d hd => by cases hd), fun h => absurd h (by omega)⟩ ?_ ?_
  ·rintro j σ H2 hj ⟨x, o8, rfl, rfl, hx, hxl', hxa⟩
   rw [Int.toNat_natCast] at hj
   walk_at "rd1"
   refine ⟨c, 0 + (j : Int), rfl, by omega, by omega, ?_⟩
   walk_at "rd1"
   obtain ⟨l1, l2⟩ := letter_at (mixF c (0 + (j : Int)) + 5 * (0 + (i : Int)) * if 0 + (j : Int) = (at' : Int) then 1 else 0)
   refine ⟨.inl ⟨by decide, by decide⟩, .inl ⟨by omega, by omega⟩, by decide, _, l1, l2, ?_, x ++ ⟨#[letF (mixF c (0 + (j : Int)) + 5 * (0 + (i : Int)) * if 0 + (j : Int) = (at' : Int) then 1 else 0)]⟩, _, rfl, ?_, fun d hd => ?_, fun hlt => ?_⟩
   ·show x.length + 1 ≤ sizeLine
    exact smallL (by omega)
   ·rw [len_app1, hx]
   ·rw [cps_app] at hd
    rcases List.mem_append.mp hd with g | g
    ·exact hxl' d g
    ·have g' : d = letF (mixF c (0 + (j : Int)) + 5 * (0 + (i : Int)) * if 0 + (j : Int) = (at' : Int) then 1 else 0) := by simpa using g
     rw [g']; exact letF_in _
   ·have hxl : x.cps.toList.length = j := by rw [Array.length_toList]; exact hx
    rw [cps_app]
    rcases Nat.lt_or_ge at' j with g | g
    ·rw [List.getElem?_append_left (by omega)]; exact hxa g
    ·have e : at' = j := by omega
     subst e
     rw [List.getElem?_append_right (by omega), hxl, Nat.sub_self, if_pos (by omega), Int.zero_add, Int.zero_add]; rfl
  ·rintro σ H2 ⟨x, o8, rfl, rfl, hx, hxl', hxa⟩
   rw [Int.toNat_natCast] at hx hxa
   walk_at "nx"
   refine ⟨⟨_, SqL.of hl⟩, _, hl, by rw [List.length_map]; exact small' (by omega), ?_⟩
   refine ⟨ss ++ [x], _, _, _, rfl, sm.upd hp _, by rw [upd_same, List.map_append]; rfl, by simp [hsn], fun y hy => ?_, fun k y e => ?_⟩
   ·rcases List.mem_append.mp hy with z | z
    ·exact hsl y z
    ·rw [List.mem_singleton.mp z]
     unfold wordS
     rw [decide_eq_true ⟨by omega, by omega⟩, Bool.true_and, List.all_eq_true]
     exact fun d hd => decide_eq_true (hxl' d hd)
   ·rcases Nat.lt_or_ge k ss.length with z | z
    ·rw [List.getElem?_append_left z] at e; exact hsk k y e
    ·rw [List.getElem?_append_right z] at e
     have hk : k - ss.length = 0 := by
      have := (List.getElem?_eq_some_iff.mp e).1
      simp at this; omega
     rw [hk] at e
     have e' : x = y := by simpa using e
     subst e'
     rw [show k = i by omega]
     exact hxa hat
 ·rintro σ H' ⟨ss, o6, o7, o8, rfl, sm, hl, hsn, hsl, hsk⟩
  rw [Int.toNat_natCast] at hsn
  walk_at "nx"
  refine q p H' ss sm hp hl hsn hsl ?_
  rw [List.nodup_iff_pairwise_ne, List.pairwise_iff_getElem]
  intro a b ha hb hab e
  have h1 := hsk a _ (List.getElem?_eq_getElem ha)
  have h2 := hsk b _ (List.getElem?_eq_getElem hb)
  rw [e, h2] at h1
  have h3 := letF_inj (Option.some.inj h1)
  omega
end
theorem join_parts (sep : Str) : ∀ (ps : List Str), ps ≠ [] → (Str.join sep ps).length = (ps.map (·.length)).sum + (ps.length - 1) * sep.length
 | [], h => absurd rfl h
 | [x], _ => by show x.length = _; simp
 | x :: y :: r, _ => by
  have ih := join_parts sep (y :: r) (by simp)
  show (x ++ sep ++ Str.join sep (y :: r)).length = _
  rw [Str.length_append, Str.length_append, ih]
  simp only [List.map_cons, List.sum_cons, List.length_cons]
  rw [show r.length + 1 + 1 - 1 = (r.length + 1 - 1) + 1 by omega, Nat.succ_mul]
  omega
theorem split_ne (x y : Str) : Txt.split x y ≠ [] := by
 unfold Txt.split
 split
 ·simp
 ·split
  ·simp
  ·intro h
   have := congrArg List.length h
   revert this
   cases Builtin.Str.occurrences x y 0 x.length (x.length + 1) <;> simp [Builtin.Str.partsBetween]
theorem mem_sum {p : Nat} : ∀ {l : List Nat}, p ∈ l → p ≤ l.sum
 | a :: l, h => by
  rcases List.mem_cons.mp h with rfl | h
  ·simp
  ·have := mem_sum h; simp; omega
theorem split_len {x y : Str} (hy : 1 ≤ y.length) : (Txt.split x y).length ≤ x.length + 1 ∧ ∀ p ∈ Txt.split x y, p.length ≤ x.length := by
 have hj := PySem.StrLaws.join_split x y
 have hl := join_parts y _ (split_ne x y)
 rw [hj] at hl
 have h1 : (Txt.split x y).length - 1 ≤ ((Txt.split x y).length - 1) * y.length := Nat.le_mul_of_pos_right _ hy
 refine ⟨by omega, fun p hp => ?_⟩
 have := mem_sum (List.mem_map.mpr ⟨p, hp, rfl⟩ : p.length ∈ (Txt.split x y).map (·.length))
 omega
theorem sub_len (x : Str) (i j : Nat) : (Builtin.Str.strSub x i j).length ≤ x.length := by
 have h := congrArg List.length (PySem.StrLaws.strSub_toList x i j)
 rw [List.length_take, List.length_drop] at h
 have e1 : (Builtin.Str.strSub x i j).cps.toList.length = (Builtin.Str.strSub x i j).length := T_len _
 have e2 : x.cps.toList.length = x.length := T_len _
 omega
theorem part_len (x y : Str) : (Txt.partition x y).1.length ≤ x.length ∧ (Txt.partition x y).2.2.length ≤ x.length := by
 unfold Txt.partition
 split
 ·exact ⟨sub_len _ _ _, sub_len _ _ _⟩
 ·exact ⟨Nat.le_refl _, Nat.zero_le _⟩
theorem al_same {H H' : Hp} {p : Addr} {o : HO} (e : upd H p o = H') (h : H p = none) : Same H H' := e ▸ same_new h o
theorem al_at {H H' : Hp} {p : Addr} {o : HO} (e : upd H p o = H') : H' p = some o := by rw [← e]; exact upd_same
def figs (y : Str) : Bool := y.cps.toList.all fun c => decide (c ∈ (Str.ofString "0123456789").cps.toList)
theorem figs_int {y : Str} (h : figs y = true) (h1 : 1 ≤ y.length) (h2 : y.length ≤ 640) : PySem.intText? y = some ((valT (T y) : Nat) : Int) := by
 refine PySem.intText_digits (fun c hc => ?_) (fun z => ?_) (by omega)
 ·have h' : c ∈ (Str.ofString "0123456789").cps.toList := by simpa using List.all_eq_true.mp h c hc
  have e : (Str.ofString "0123456789").cps.toList = [48, 49, 50, 51, 52, 53, 54, 55, 56, 57] := by decide +kernel
  rw [e] at h'
  simp only [List.mem_cons, List.not_mem_nil, or_false] at h'
  omega
 ·have e2 : y.cps.toList.length = y.length := T_len _
  rw [z] at e2; simp at e2; omega
def numP (y : Str) : Option Nat := if 1 ≤ y.length ∧ y.length ≤ 2 ∧ figs y = true then some (valT (T y)) else none
def spNumG : Sp := fun vs H Q _ => ∃ (y : Str), vs = [.str y, .int 2] ∧ y.length ≤ 100000 ∧ ∀ H', Same H H' → Q (wayV (numP y)) H'
section
variable {P : Program} {w : World} {K : PySem.W.Frag} {mg : Str → Option Value} {base : Heap}
theorem ok_numin (D : DefAt K mg "number_in" s_number_in) (z_len : mg "len" = none) (z_all : mg "all" = none) (z_int : mg "int" = none) (g_FIGURES : ∃ t, mg "FIGURES" = some (.str "0123456789" t)) : Cal P w K mg base 1 "number_in" ["text", "most"] spNumG := by
 refine D.cal (k := 0) sc_number_in (fun _ _ _ _ _ _ us hl => match us, hl with | [_, _], _ => rfl) (fun vs H Q E h => by obtain ⟨y, rfl, _⟩ := h; rfl) (fun f cdv A outer sh H vs Q E hr h => ?_)
 obtain ⟨y, rfl, hy, q⟩ := h
 refine ⟨_, (pss_cons (ps_if (PW.pt' (pw_and (pt_chain op_le op_le pe_int (pe_blt (call_lenK K) z_len bt_len (pa_cons (pv 0 (hv := vz0)) pa_nil) (hg := gz2)) (pv 1 (hv := vz1))) (pw_and1 (pt_val (pe_blt (call_allK K) z_all bt_all (pa_cons (pe_comp (CompSc.to (fsc := (defScope s_number_in)) (N := ["text", "most"]) (N0 := ["text", "most"]) (T := ["sign"]) ⟨by decide +kernel, by decide +kernel, by decide +kernel, by decide +kernel, by decide +kernel, by decide +kernel, by decide +kernel⟩ rfl rfl) rfl (pi_str (pv 0 (hv := vz0))) (fun _ _ _ _ => (pg_let 2 (show (["text", "most", "sign"] : List Str).Nodup from by decide +kernel) (hx := (locC (defScope s_number_in) (by decide +kernel))) (hf := fnC (defScope s_number_in) (by decide +kernel)))) (gfr_name (show (["text", "most"] : List Str).length ≤ 2 from by decide)) (fun _ _ _ _ => pifs_nil) (fun _ _ _ _ => (pe_cmpR (op_inK K) (pv 2 (hv := (visC (defScope s_number_in) (by decide +kernel)))) (pe_gstr g_FIGURES (hg := (glC (defScope s_number_in) (by decide +kernel)))) (by with_unfolding_all rfl)))) pa_nil) (hg := gz0)))))) (pss_one (ps_ret (pe_bty call_intT z_int bt_int (pa_cons (pv 0 (hv := vz0)) pa_nil) (hg := gz1)))) pss_nil)
   (pss_one (ps_ret pe_non))), ?_⟩
 have no : ¬ (1 ≤ y.length ∧ y.length ≤ 2 ∧ figs y = true) → wayV (numP y) = .non := fun c => by unfold numP; rw [if_neg c]; rfl
 walk_at "rd1"
 refine ⟨smallL (by omega), ite2 (fun c1 => ?_) (fun c => ?_)⟩
 ·refine ite2 (fun c2 => ?_) (fun c => ?_)
  ·intro L hL
   refine compW_str (fun i ys H' => Same H H' ∧ H' L = some (.lst ys) ∧ ys = ((y.cps.toList.take i).map fun c => decide (c ∈ (Str.ofString "0123456789").cps.toList)).map V.bl) ⟨same_new hL _, upd_same, rfl⟩ ?_ ?_
   ·rintro i ys H' c hc hi ⟨sm, hD, rfl⟩
    walk_at "rd1"
    have hc' : y.cps.toList[i]? = some c := by simpa using hc
    refine cstep hi ?_ (smallL (by omega)) hD ⟨sm.upd hL _, upd_same, ?_⟩
    ·rw [List.length_map, List.length_map, List.length_take]
     have : y.cps.toList.length = y.length := by simp [Str.length]
     omega
    ·rw [StrLaws.found_one, List.take_add_one, hc', List.map_append, List.map_append]; rfl
   ·rintro ys H' ⟨sm, hD, rfl⟩
    walk_at "rd1"
    refine ⟨_, SqL.of hD, ?_⟩
    have e : (((y.cps.toList.take y.length).map fun c => decide (c ∈ (Str.ofString "0123456789").cps.toList)).all id) = figs y := by
     rw [List.all_map, List.take_of_length_le (by simp [Str.length])]; rfl
    rw [e]
    have l1 : 1 ≤ y.length := by omega
    have l2 : y.length ≤ 2 := by omega
    cases hf : figs y with
    | true =>
     refine ite2 (fun _ => ?_) (fun c => absurd rfl c)
     refine ⟨y, _, rfl, figs_int hf l1 (by omega), by omega, ?_⟩
     have e2 : wayV (numP y) = .int ((valT (T y) : Nat) : Int) := by unfold numP; rw [if_pos ⟨l1, l2, hf⟩]; rfl
     rw [← e2]; exact q _ sm
    | false =>
     refine ite2 (fun c => absurd c (by decide)) (fun _ => ?_)
     walk_at "rd1"
     rw [← no (fun z => by rw [hf] at z; exact absurd z.2.2 (by decide))]
     exact q _ sm
  ·walk_at "rd1"
   rw [← no (fun z => by omega)]
   exact q _ (Same.refl _)
 ·walk_at "rd1"
  rw [← no (fun z => by omega)]
  exact q _ (Same.refl _)
def bangB (y : Str) : Bool := decide (0 + 1 ≤ y.length) && Builtin.Str.subAt y (Str.ofString "!") (y.length - 1)
def wayP (y : Str) : Str × Option Nat := if bangB y = true then (Txt.slice y none (some (-1)), none) else ((Txt.partition y (Str.ofString ">")).1, numP (Txt.partition y (Str.ofString ">")).2.2)
theorem wayP_len (y : Str) : (wayP y).1.length ≤ y.length := by
 unfold wayP
 split
 ·exact Txt.slice_le _ _ _
 ·exact (part_len _ _).1
def spWayG : Sp := fun vs H Q _ => ∃ (y : Str), vs = [.str y] ∧ y.length ≤ 100000 ∧ ∀ (p : Addr) (H' : Hp), Same H H' → H p = none → H' p = some (.tup [.str (wayP y).1, wayV (wayP y).2]) → Q (.ref p) H'
theorem ok_wayin (D : DefAt K mg "way_in" s_way_in) (g_MOST_FIGURES : ∃ t, mg "MOST_FIGURES" = some (.int 2 t)) (c_number_in : Cal P w K mg base 1 "number_in" ["text", "most"] spNumG) : Cal P w K mg base 2 "way_in" ["text"] spWayG := by
 refine D.cal (k := 1) sc_way_in (fun _ _ _ _ _ _ us hl => match us, hl with | [_], _ => rfl) (fun vs H Q E h => by obtain ⟨y, rfl, _⟩ := h; rfl) (fun f cdv A outer sh H vs Q E hr h => ?_)
 obtain ⟨y, rfl, hy, q⟩ := h
 refine ⟨_, (pss_cons (ps_if (pt_val (pe_bmK K PySem.F.plainAttrs_str PySem.F.slot_str_endswith PySem.F.type_str_endswith mt_endswith (pv 0 (hv := vzm)) (pa_cons pe_str pa_nil))) (pss_one (ps_ret (pe_tup (pa_cons (pe_slice sl_str (pv 0 (hv := vzm)) po_none (po_some (pe_un un_neg pe_int))) (pa_cons pe_non pa_nil))))) pss_nil)
   (pss_cons (ps_let 1 sc_way_in.nd (pe_bmK K PySem.F.plainAttrs_str PySem.F.slot_str_partition PySem.F.type_str_partition mt_partition (pv 0 (hv := vzm)) (pa_cons pe_str pa_nil)) (hx := lz2))
   (pss_one (ps_ret (pe_tup (pa_cons (pe_ix (ix_K K) (pv 1 (hv := vzn)) pe_int (fun _ _ => rfl)) (pa_cons (pe_cal c_number_in hr (pa_cons (pe_ix (ix_K K) (pv 1 (hv := vzn)) pe_int (fun _ _ => rfl)) (pa_cons (pe_gint g_MOST_FIGURES (hg := gz16)) pa_nil)) (hg := gz17)) pa_nil))))))), ?_⟩
 have lx : (Str.ofString "!").length = 1 := by decide +kernel
 have lg : (Str.ofString ">").length = 1 := by decide +kernel
 walk_at "rd1"
 rw [lx]
 have e1 : (decide (0 + 1 ≤ y.length) && Builtin.Str.subAt y (Str.ofString "!") (y.length - 1)) = bangB y := rfl
 rw [e1]
 cases hb : bangB y with
 | true =>
  refine ite2 (fun _ => ?_) (fun c => absurd rfl c)
  refine ⟨smallL (by omega), by decide, fun p hp => ?_⟩
  refine q p _ (same_new hp _) hp ?_
  unfold wayP; rw [if_pos hb]; exact upd_same
 | false =>
  refine ite2 (fun c => absurd c (by decide)) (fun _ => ?_)
  walk_at "nx"
  refine ⟨by rw [lg]; rfl, by omega, fun p1 hp1 => ?_⟩
  generalize hH1 : upd H p1 _ = H1
  have s1 := al_same hH1 hp1
  have e2 := al_at hH1
  walk_at "nx"
  refine ⟨_, _, .inr (SqT.of e2), at0, _, _, .inr (SqT.of e2), atI_nat (j := 2) rfl, ?_⟩
  have := (part_len y (Str.ofString ">")).2
  refine ⟨_, rfl, by omega, fun H2 s2 => ⟨by decide, fun p hp => ?_⟩⟩
  have s12 := s1.trans s2
  refine q p _ (s12.trans (same_new hp _)) (s12.free hp) ?_
  unfold wayP; rw [if_neg (by rw [hb]; decide)]; exact upd_same
def waysP (y : Str) : List (Str × Option Nat) := if y = Str.ofString "" then [] else (Txt.split y (Str.ofString " ")).map wayP
theorem waysP_len (y : Str) : (waysP y).length ≤ y.length + 1 ∧ ∀ p ∈ waysP y, p.1.length ≤ y.length := by
 unfold waysP
 split
 ·exact ⟨Nat.zero_le _, fun p h => by simp at h⟩
 ·have h := split_len (x := y) (y := Str.ofString " ") (by decide +kernel)
  refine ⟨by rw [List.length_map]; exact h.1, fun p hp => ?_⟩
  obtain ⟨z, hz, rfl⟩ := List.mem_map.mp hp
  exact Nat.le_trans (wayP_len z) (h.2 z hz)
def PairsAt (H : Hp) (l : Addr) (ps : List (Str × Option Nat)) : Prop := ∃ as : List Addr, H l = some (.lst (as.map V.ref)) ∧ as.length = ps.length ∧ ∀ (i : Nat) a p, as[i]? = some a → ps[i]? = some p → H a = some (.tup [.str p.1, wayV p.2])
theorem PairsAt.mono {H H' : Hp} {l : Addr} {ps : List (Str × Option Nat)} (h : PairsAt H l ps) (s : Same H H') : PairsAt H' l ps := by
 obtain ⟨as, h1, h2, h3⟩ := h
 exact ⟨as, s _ _ h1, h2, fun i a p e1 e2 => s _ _ (h3 i a p e1 e2)⟩
def spWaysG : Sp := fun vs H Q _ => ∃ (y : Str), vs = [.str y] ∧ y.length ≤ 99998 ∧ ∀ (l : Addr) (H' : Hp), Same H H' → H l = none → PairsAt H' l (waysP y) → Q (.ref l) H'
theorem ok_waysin (D : DefAt K mg "ways_in" s_ways_in) (c_way_in : Cal P w K mg base 2 "way_in" ["text"] spWayG) : Cal P w K mg base 3 "ways_in" ["text"] spWaysG := by
 refine D.cal (k := 2) sc_ways_in (fun _ _ _ _ _ _ us hl => match us, hl with | [_], _ => rfl) (fun vs H Q E h => by obtain ⟨y, rfl, _⟩ := h; rfl) (fun f cdv A outer sh H vs Q E hr h => ?_)
 obtain ⟨y, rfl, hyl, q⟩ := h
 refine ⟨_, (pss_cons (ps_if (pt_cmpR op_eqA (pv 0 (hv := vzo)) pe_str (nomark _)) (pss_one (ps_ret (pe_lst pa_nil))) pss_nil)
   (pss_one (ps_ret (pe_comp (CompSc.to (fsc := (defScope s_ways_in)) (N := ["text"]) (N0 := ["text"]) (T := ["part"]) ⟨by decide +kernel, by decide +kernel, by decide +kernel, by decide +kernel, by decide +kernel, by decide +kernel, by decide +kernel⟩ rfl rfl) rfl (pi_listK K (pe_bmK K PySem.F.plainAttrs_str PySem.F.slot_str_split PySem.F.type_str_split mt_split (pv 0 (hv := vzo)) (pa_cons pe_str pa_nil))) (fun _ _ _ _ => (pg_let 1 (show (["text", "part"] : List Str).Nodup from by decide +kernel) (hx := (locC (defScope s_ways_in) (by decide +kernel))) (hf := fnC (defScope s_ways_in) (by decide +kernel)))) (gfr_name (show (["text"] : List Str).length ≤ 1 from by decide)) (fun _ _ _ _ => pifs_nil) (fun _ _ _ _ => (pe_cal c_way_in hr (pa_cons (pv 1 (hv := (visC (defScope s_ways_in) (by decide +kernel)))) pa_nil) (hg := (glC (defScope s_ways_in) (by decide +kernel))))))))), ?_⟩
 walk_at "rd1"
 refine ite2 (fun c => ?_) (fun c => ?_)
 ·refine ⟨by decide, fun l hl => ?_⟩
  refine q l _ (same_new hl _) hl ?_
  unfold waysP; rw [if_pos c]
  exact ⟨[], upd_same, rfl, fun i a p e => by simp at e⟩
 ·walk_at "nx"
  refine ⟨by decide, by omega, fun sp hsp1 => ?_⟩
  have hb := split_len (x := y) (y := Str.ofString " ") (by decide +kernel)
  have ew : waysP y = (Txt.split y (Str.ofString " ")).map wayP := by unfold waysP; rw [if_neg c]
  generalize Txt.split y (Str.ofString " ") = ts at hb ew ⊢
  generalize hH1 : upd H sp _ = H1
  have s1 := al_same hH1 hsp1
  have e1 := al_at hH1
  refine ⟨⟨_, SqL.of e1⟩, fun L hL => ?_⟩
  refine compW_list (xs := ts.map V.str) (fun i ys H' => ∃ as : List Addr, Same H1 H' ∧ H' L = some (.lst ys) ∧ ys = as.map V.ref ∧ as.length = i ∧ ∀ (j : Nat) a t, as[j]? = some a → ts[j]? = some t → H' a = some (.tup [.str (wayP t).1, wayV (wayP t).2])) ⟨[], same_new hL _, upd_same, rfl, rfl, fun j a u e => by simp at e⟩ (fun i ys H' _ h => by obtain ⟨_, sm, _⟩ := h; exact SqL.of (sm _ _ e1)) ?_ ?_
  ·rintro i ys H' v hv hi ⟨as, sm, hD, rfl, hal, has⟩
   rw [List.length_map] at hi
   have ht := List.getElem?_eq_getElem hi
   rw [List.getElem?_map, ht] at hv
   cases hv
   walk_at "rd1"
   refine ⟨_, rfl, by have := hb.2 _ (List.getElem_mem hi); omega, fun p H2 s2 hp2 e8 => ?_⟩
   have sm2 := sm.trans s2
   have nC : ∀ {b : Addr} {z : List V}, H2 b = some (.tup z) → b ≠ L := fun z => ne_of z (s2 _ _ hD) (fun z => nomatch z)
   refine cstep (by rw [List.length_map]; exact hi) (by rw [List.length_map]; exact hal) (smallL (by rw [List.length_map]; omega)) (s2 _ _ hD) ⟨as ++ [p], sm2.upd hL _, upd_same, by rw [List.map_append]; rfl, by rw [List.length_append, hal]; rfl, fun j a t f1 f2 => ?_⟩
   by_cases hj : j < as.length
   ·rw [List.getElem?_append_left hj] at f1
    have := s2 _ _ (has j a t f1 f2)
    rw [upd_ne (nC this)]; exact this
   ·have hj' : j = as.length := by
     have := (List.getElem?_eq_some_iff.mp f1).1
     rw [List.length_append] at this; simp at this; omega
    rw [hj', List.getElem?_append_right (Nat.le_refl _), Nat.sub_self] at f1
    cases f1
    rw [hj', hal, ht] at f2; cases f2
    rw [upd_ne (nC e8)]; exact e8
  ·rintro ys H' ⟨as, sm, hD, rfl, hal, has⟩
   rw [List.length_map] at hal
   walk_at "rd1"
   refine q L H' (s1.trans sm) (s1.free hL) ?_
   rw [ew]
   refine ⟨as, hD, by rw [List.length_map]; exact hal, fun i a p f1 f2 => ?_⟩
   rw [List.getElem?_map] at f2
   cases ht : ts[i]? with
   | none => rw [ht] at f2; cases f2
   | some t => rw [ht] at f2; cases f2; exact has i a t f1 ht
def spNumbers : Sp := fun vs H Q _ => ∃ (l : Addr) (ps : List (Str × Option Nat)), vs = [.ref l] ∧ PairsAt H l ps ∧ ps.length ≤ 100000 ∧ ∀ (a : Addr) (H' : Hp), Same H H' → H a = none → H' a = some (.lst ((ps.map (·.2)).map wayV)) → Q (.ref a) H'
theorem ok_numbers (D : DefAt K mg "numbers_of" s_numbers_of) : Cal P w K mg base 1 "numbers_of" ["ways"] spNumbers := by
 refine D.cal (k := 0) sc_numbers_of (fun _ _ _ _ _ _ us hl => match us, hl with | [_], _ => rfl) (fun vs H Q E h => by obtain ⟨l, ps, rfl, _⟩ := h; rfl) (fun f cdv A outer sh H vs Q E hr h => ?_)
 obtain ⟨l, ps, rfl, ⟨as, h1, h2, h3⟩, hwn, q⟩ := h
 refine ⟨_, (pss_one (ps_ret (pe_comp (CompSc.to (fsc := (defScope s_numbers_of)) (N := ["ways"]) (N0 := ["ways"]) (T := ["way"]) ⟨by decide +kernel, by decide +kernel, by decide +kernel, by decide +kernel, by decide +kernel, by decide +kernel, by decide +kernel⟩ rfl rfl) rfl (pi_listK K (pv 0 (hv := vzp))) (fun _ _ _ _ => (pg_let 1 (show (["ways", "way"] : List Str).Nodup from by decide +kernel) (hx := (locC (defScope s_numbers_of) (by decide +kernel))) (hf := fnC (defScope s_numbers_of) (by decide +kernel)))) (gfr_name (show (["ways"] : List Str).length ≤ 1 from by decide)) (fun _ _ _ _ => pifs_nil) (fun _ _ _ _ => (pe_ix (ix_K K) (pv 1 (hv := (visC (defScope s_numbers_of) (by decide +kernel)))) pe_int (fun _ _ => rfl)))))), ?_⟩
 walk_at "rd1"
 refine ⟨⟨_, SqL.of h1⟩, fun L hL => ?_⟩
 refine compW_list (xs := as.map V.ref) (fun i ys H' => Same H H' ∧ H' L = some (.lst ys) ∧ ys = ((ps.take i).map (·.2)).map wayV) ⟨same_new hL _, upd_same, rfl⟩ (fun i ys H' _ h => SqL.of (h.1 _ _ h1)) ?_ ?_
 ·rintro i ys H' v hv hi ⟨sm, hD, rfl⟩
  rw [List.length_map] at hi
  rw [List.getElem?_map, List.getElem?_eq_getElem hi] at hv
  cases hv
  have hix : i < ps.length := by omega
  have e3 := h3 i as[i] ps[i] (List.getElem?_eq_getElem hi) (List.getElem?_eq_getElem hix)
  walk_at "rd1"
  refine ⟨_, _, .inr (SqT.of (sm _ _ e3)), atI_nat (j := 1) rfl, ?_⟩
  refine cstep (by rw [List.length_map]; exact hi) (by simp; omega) (smallL (by rw [List.length_map]; omega)) hD ⟨sm.upd hL _, upd_same, ?_⟩
  rw [List.take_add_one, List.getElem?_eq_getElem hix, List.map_append, List.map_append]; rfl
 ·rintro ys H' ⟨sm, hD, rfl⟩
  walk_at "rd1"
  refine q L H' sm hL ?_
  rw [List.length_map, h2, List.take_length] at hD
  exact hD
end
def roomsP (y : Str) : List (List (Str × Option Nat)) := (Txt.split (Txt.partition y (Str.ofString ": ")).2.2 (Str.ofString "; ")).map waysP
def sP (y : Str) : Option Nat := numP (Txt.partition y (Str.ofString ": ")).1
def wsP (y : Str) : List Str := ((roomsP y).headD []).map (·.1)
def rsP (y : Str) : List (List (Option Nat)) := (roomsP y).map (List.map (·.2))
def FreshQ (H H' : Hp) (p : Addr) (s : Option Nat) (ws : List Str) (rs : List (List (Option Nat))) : Prop := ∃ pw pr as, H' p = some (.tup [wayV s, .ref pw, .ref pr]) ∧ H' pw = some (.lst (ws.map V.str)) ∧ RoomsAs H' pr rs as ∧ H pw = none ∧ H pr = none ∧ pw ≠ pr ∧ (∀ a ∈ as, H a = none ∧ a ≠ pw ∧ a ≠ pr) ∧ as.Nodup
def spRuleG : Sp := fun vs H Q _ => ∃ (y : Str), vs = [.str y] ∧ y.length ≤ 50000 ∧ ∀ (p : Addr) (H' : Hp), Same H H' → H p = none → FreshQ H H' p (sP y) (wsP y) (rsP y) → Q (.ref p) H'
theorem headD_at {α : Type} : ∀ {l : List (List α)} (h : 0 < l.length), l.headD [] = l[0]
 | [], h => by simp at h
 | a :: l, _ => rfl
theorem roomsP_len (y : Str) : (roomsP y).length ≤ y.length + 1 ∧ 1 ≤ (roomsP y).length ∧ ∀ x ∈ roomsP y, x.length ≤ y.length + 1 ∧ ∀ p ∈ x, p.1.length ≤ y.length := by
 have h1 := (part_len y (Str.ofString ": ")).2
 have h := split_len (x := (Txt.partition y (Str.ofString ": ")).2.2) (y := Str.ofString "; ") (by decide +kernel)
 have h0 := split_ne (Txt.partition y (Str.ofString ": ")).2.2 (Str.ofString "; ")
 unfold roomsP
 rw [List.length_map]
 refine ⟨by omega, List.length_pos_iff.mpr h0, fun x hx => ?_⟩
 obtain ⟨z, hz, rfl⟩ := List.mem_map.mp hx
 have h2 := h.2 z hz
 have h3 := waysP_len z
 exact ⟨by omega, fun p hp => by have := h3.2 p hp; omega⟩
section
variable {P : Program} {w : World} {K : PySem.W.Frag} {mg : Str → Option Value} {base : Heap}
theorem ok_rulein (D : DefAt K mg "rule_in" s_rule_in) (g_MOST_FIGURES : ∃ t, mg "MOST_FIGURES" = some (.int 2 t)) (c_number_in : Cal P w K mg base 1 "number_in" ["text", "most"] spNumG) (c_ways_in : Cal P w K mg base 3 "ways_in" ["text"] spWaysG) (c_numbers_of : Cal P w K mg base 1 "numbers_of" ["ways"] spNumbers) : Cal P w K mg base 4 "rule_in" ["text"] spRuleG := by
 refine D.cal (k := 3) sc_rule_in (fun _ _ _ _ _ _ us hl => match us, hl with | [_], _ => rfl) (fun vs H Q E h => by obtain ⟨y, rfl, _⟩ := h; rfl) (fun f cdv A outer sh H vs Q E hr h => ?_)
 obtain ⟨y, rfl, hyl, q⟩ := h
 refine ⟨_, (pss_cons (ps_let 1 sc_rule_in.nd (pe_bmK K PySem.F.plainAttrs_str PySem.F.slot_str_partition PySem.F.type_str_partition mt_partition (pv 0 (hv := vzq)) (pa_cons pe_str pa_nil)) (hx := lz3))
   (pss_cons (ps_setcomp (CompSc.to (fsc := (defScope s_rule_in)) (N := ["text", "parts", "rooms", "words"]) (N0 := ["text", "parts", "rooms", "words"]) (T := ["room"]) ⟨by decide +kernel, by decide +kernel, by decide +kernel, by decide +kernel, by decide +kernel, by decide +kernel, by decide +kernel⟩ rfl rfl) rfl sc_rule_in.nd (i := 2) rfl kz0 (pi_listK K (pe_bmK K PySem.F.plainAttrs_str PySem.F.slot_str_split PySem.F.type_str_split mt_split (pe_ix (ix_K K) (pv 1 (hv := vzr)) pe_int (fun _ _ => rfl)) (pa_cons pe_str pa_nil))) (fun _ _ _ _ => (pg_let 4 (show (["text", "parts", "rooms", "words", "room"] : List Str).Nodup from by decide +kernel) (hx := (locC (defScope s_rule_in) (by decide +kernel))) (hf := fnC (defScope s_rule_in) (by decide +kernel)))) (gfr_name (show (["text", "parts", "rooms", "words"] : List Str).length ≤ 4 from by decide)) (fun _ _ _ _ => pifs_nil) (fun _ _ _ _ => (pe_cal c_ways_in hr (pa_cons (pv 4 (hv := (visC (defScope s_rule_in) (by decide +kernel)))) pa_nil) (hg := (glC (defScope s_rule_in) (by decide +kernel))))))
   (pss_cons (ps_setcomp (CompSc.to (fsc := (defScope s_rule_in)) (N := ["text", "parts", "rooms", "words"]) (N0 := ["text", "parts", "rooms", "words"]) (T := ["way"]) ⟨by decide +kernel, by decide +kernel, by decide +kernel, by decide +kernel, by decide +kernel, by decide +kernel, by decide +kernel⟩ rfl rfl) rfl sc_rule_in.nd (i := 3) rfl kz1 (pi_listK K (pe_ix (ix_K K) (pv 2 (hv := vzs)) pe_int (fun _ _ => rfl))) (fun _ _ _ _ => (pg_let 4 (show (["text", "parts", "rooms", "words", "way"] : List Str).Nodup from by decide +kernel) (hx := (locC (defScope s_rule_in) (by decide +kernel))) (hf := fnC (defScope s_rule_in) (by decide +kernel)))) (gfr_name (show (["text", "parts", "rooms", "words"] : List Str).length ≤ 4 from by decide)) (fun _ _ _ _ => pifs_nil) (fun _ _ _ _ => (pe_ix (ix_K K) (pv 4 (hv := (visC (defScope s_rule_in) (by decide +kernel)))) pe_int (fun _ _ => rfl))))
   (pss_one (ps_ret (pe_tup (pa_cons (pe_cal c_number_in hr (pa_cons (pe_ix (ix_K K) (pv 1 (hv := vzr)) pe_int (fun _ _ => rfl)) (pa_cons (pe_gint g_MOST_FIGURES (hg := gz18)) pa_nil)) (hg := gz19)) (pa_cons (pv 3 (hv := vzt)) (pa_cons (pe_comp (CompSc.to (fsc := (defScope s_rule_in)) (N := ["text", "parts", "rooms", "words"]) (N0 := ["text", "parts", "rooms", "words"]) (T := ["room"]) ⟨by decide +kernel, by decide +kernel, by decide +kernel, by decide +kernel, by decide +kernel, by decide +kernel, by decide +kernel⟩ rfl rfl) rfl (pi_listK K (pv 2 (hv := vzs))) (fun _ _ _ _ => (pg_let 4 (show (["text", "parts", "rooms", "words", "room"] : List Str).Nodup from by decide +kernel) (hx := (locC (defScope s_rule_in) (by decide +kernel))) (hf := fnC (defScope s_rule_in) (by decide +kernel)))) (gfr_name (show (["text", "parts", "rooms", "words"] : List Str).length ≤ 4 from by decide)) (fun _ _ _ _ => pifs_nil) (fun _ _ _ _ => (pe_cal c_numbers_of hr (pa_cons (pv 4 (hv := (visC (defScope s_rule_in) (by decide +kernel)))) pa_nil) (hg := (glC (defScope s_rule_in) (by decide +kernel)))))) pa_nil))))))))), ?_⟩
 have hrl := roomsP_len y
 have hpl := part_len y (Str.ofString ": ")
 have hsl := split_len (x := (Txt.partition y (Str.ofString ": ")).2.2) (y := Str.ofString "; ") (by decide +kernel)
 have er : roomsP y = (Txt.split (Txt.partition y (Str.ofString ": ")).2.2 (Str.ofString "; ")).map waysP := rfl
 walk_at "rd1"
 refine ⟨by decide +kernel, by omega, fun p1 hp1 => ?_⟩
 generalize hH1 : upd H p1 _ = H1
 have s1 := al_same hH1 hp1
 have e1 := al_at hH1
 walk_at "nx"
 refine ⟨_, _, .inr (SqT.of e1), atI_nat (j := 2) rfl, ?_⟩
 walk_at "rd1"
 refine ⟨by decide +kernel, by omega, fun sp hsp1 => ?_⟩
 generalize Txt.split (Txt.partition y (Str.ofString ": ")).2.2 (Str.ofString "; ") = ts at hsl er ⊢
 generalize hH2 : upd H1 sp _ = H2
 have s2 := al_same hH2 hsp1
 have e2 := al_at hH2
 have hln : (ts.map V.str).length = ts.length := List.length_map _
 have hrn : (roomsP y).length = ts.length := by rw [er, List.length_map]
 refine ⟨⟨_, SqL.of e2⟩, fun L hL => ?_⟩
 refine compW_list (xs := ts.map V.str) (fun i ys H' => ∃ ls : List Addr, Same H2 H' ∧ H' L = some (.lst ys) ∧ ys = ls.map V.ref ∧ ls.length = i ∧ ∀ (j : Nat) l x, ls[j]? = some l → (roomsP y)[j]? = some x → PairsAt H' l x ∧ l ≠ L) ⟨[], same_new hL _, upd_same, rfl, rfl, fun j l x e => by simp at e⟩ (fun i ys H' _ h => by obtain ⟨_, sm, _⟩ := h; exact SqL.of (sm _ _ e2)) ?_ ?_
 ·rintro i ys H' v hv hi ⟨ls, sm, hD, rfl, hll, hls⟩
  rw [hln] at hi
  have ht := List.getElem?_eq_getElem hi
  rw [List.getElem?_map, ht] at hv
  cases hv
  have hrx : (roomsP y)[i]? = some (waysP ts[i]) := by rw [er, List.getElem?_map, ht]; rfl
  walk_at "rd1"
  refine ⟨_, rfl, by have := hsl.2 _ (List.getElem_mem hi); omega, fun p H3 s3 hp3 e8 => ?_⟩
  have sm2 := sm.trans s3
  have hup : ∀ {l : Addr} {x : List (Str × Option Nat)} {o : HO}, l ≠ L → PairsAt H3 l x → PairsAt (upd H3 L o) l x := fun {l x o} hl ⟨as, f1, f2, f3⟩ => ⟨as, by rw [upd_ne hl]; exact f1, f2, fun i a p g1 g2 => by
   have g := f3 i a p g1 g2
   rw [upd_ne (ne_of g (s3 _ _ hD) (fun z => nomatch z))]; exact g⟩
  have nb : p ≠ L := Ne.symm (ne_of_none hD hp3)
  refine cstep (by rw [hln]; exact hi) (by rw [List.length_map]; exact hll) (smallL (by rw [hln]; omega)) (s3 _ _ hD) ⟨ls ++ [p], sm2.upd hL _, upd_same, by rw [List.map_append]; rfl, by rw [List.length_append, hll]; rfl, fun j a t f1 f2 => ?_⟩
  by_cases hj : j < ls.length
  ·rw [List.getElem?_append_left hj] at f1
   obtain ⟨g1, g2⟩ := hls j a t f1 f2
   exact ⟨hup g2 (g1.mono s3), g2⟩
  ·have hj' : j = ls.length := by
    have := (List.getElem?_eq_some_iff.mp f1).1
    rw [List.length_append] at this; simp at this; omega
   rw [hj', List.getElem?_append_right (Nat.le_refl _), Nat.sub_self] at f1
   cases f1
   rw [hj', hll, hrx] at f2; cases f2
   exact ⟨hup nb e8, nb⟩
 ·rintro ys H' ⟨ls, sm, hD, rfl, hll, hls⟩
  rw [hln] at hll
  have h0r : 0 < (roomsP y).length := hrl.2.1
  have h0 : 0 < ls.length := by omega
  obtain ⟨g0, _⟩ := hls 0 ls[0] (roomsP y)[0] (List.getElem?_eq_getElem h0) (List.getElem?_eq_getElem h0r)
  obtain ⟨as0, a1, a2, a3⟩ := id g0
  have hhd : (roomsP y).headD [] = (roomsP y)[0] := headD_at h0r
  have hx0 := (hrl.2.2 _ (List.getElem_mem h0r)).1
  have hws : wsP y = ((roomsP y)[0]).map (·.1) := by unfold wsP; rw [hhd]
  have at00 : atI (ls.map V.ref) 0 = some (.ref ls[0]) := atI_nat (j := 0) (by rw [List.getElem?_map, List.getElem?_eq_getElem h0]; rfl)
  generalize (roomsP y)[0] = x0 at g0 a2 a3 hx0 hws
  walk_at "nx"
  refine ⟨_, _, .inl (SqL.of hD), at00, ?_⟩
  walk_at "rd1"
  refine ⟨⟨_, SqL.of a1⟩, fun M hM => ?_⟩
  refine compW_list (xs := as0.map V.ref) (fun i ys H3 => Same H' H3 ∧ H3 M = some (.lst ys) ∧ ys = ((x0.take i).map (·.1)).map V.str) ⟨same_new hM _, upd_same, rfl⟩ (fun i ys H3 _ h => SqL.of (h.1 _ _ a1)) ?_ ?_
  ·rintro i ys H3 v hv hi ⟨sm3, hM3, rfl⟩
   rw [List.length_map] at hi
   rw [List.getElem?_map, List.getElem?_eq_getElem hi] at hv
   cases hv
   have hiw : i < x0.length := by omega
   have e3 := a3 i as0[i] x0[i] (List.getElem?_eq_getElem hi) (List.getElem?_eq_getElem hiw)
   walk_at "rd1"
   refine ⟨_, _, .inr (SqT.of (sm3 _ _ e3)), at0, ?_⟩
   refine cstep (by rw [List.length_map]; exact hi) (by simp; omega) (smallL (by rw [List.length_map]; omega)) hM3 ⟨sm3.upd hM _, upd_same, ?_⟩
   rw [List.take_add_one, List.getElem?_eq_getElem hiw, List.map_append, List.map_append]; rfl
  ·rintro ys H3 ⟨sm3, hM3, rfl⟩
   rw [List.length_map, a2, List.take_length, ← hws] at hM3
   have sm13 : Same H1 H3 := (s2.trans sm).trans sm3
   have hD3 := sm3 _ _ hD
   walk_at "nx"
   refine ⟨_, _, .inr (SqT.of (sm13 _ _ e1)), at0, ?_⟩
   refine ⟨_, rfl, by omega, fun H4 s4 => ?_⟩
   refine ⟨⟨_, SqL.of (s4 _ _ hD3)⟩, fun N hN => ?_⟩
   have hlm : (ls.map V.ref).length = (roomsP y).length := by rw [List.length_map, hll, hrn]
   have hrp : (rsP y).length = (roomsP y).length := by unfold rsP; rw [List.length_map]
   refine compW_list (xs := ls.map V.ref) (fun i ys H5 => ∃ bs : List Addr, Same H4 H5 ∧ H5 N = some (.lst ys) ∧ ys = bs.map V.ref ∧ bs.length = i ∧ (∀ (j : Nat) b x, bs[j]? = some b → (rsP y)[j]? = some x → H5 b = some (.lst (x.map wayV)) ∧ b ≠ N) ∧ (∀ b ∈ bs, H4 b = none ∧ b ≠ N ∧ ∃ o, H5 b = some o) ∧ bs.Nodup) ⟨[], same_new hN _, upd_same, rfl, rfl, (fun j b x e => by simp at e), (fun b e => by simp at e), List.nodup_nil⟩ (fun i ys H5 _ h => by obtain ⟨_, sm, _⟩ := h; exact SqL.of (sm _ _ (s4 _ _ hD3))) ?_ ?_
   ·rintro i ys H5 v hv hi ⟨bs, sm5, hN5, rfl, hbl, hbs, hbf, hbd⟩
    rw [hlm] at hi
    have hil : i < ls.length := by omega
    rw [List.getElem?_map, List.getElem?_eq_getElem hil] at hv
    cases hv
    have hxi := List.getElem?_eq_getElem hi
    have hri : (rsP y)[i]? = some ((roomsP y)[i].map (·.2)) := by unfold rsP; rw [List.getElem?_map, hxi]; rfl
    obtain ⟨gi, _⟩ := hls i ls[i] (roomsP y)[i] (List.getElem?_eq_getElem hil) hxi
    have hxb := (hrl.2.2 _ (List.getElem_mem hi)).1
    walk_at "rd1"
    refine ⟨ls[i], (roomsP y)[i], rfl, ((gi.mono sm3).mono s4).mono sm5, by omega, fun b H6 s6 hb6 e6 => ?_⟩
    have hN6 := s6 _ _ hN5
    have nb : b ≠ N := Ne.symm (ne_of_none hN5 hb6)
    refine cstep (by rw [hlm]; exact hi) (by rw [List.length_map]; exact hbl) (smallL (by rw [hlm]; omega)) hN6 ⟨bs ++ [b], (sm5.trans s6).upd hN _, upd_same, by rw [List.map_append]; rfl, by rw [List.length_append, hbl]; rfl, fun j b' x f1 f2 => ?_, fun b' hb' => ?_, ?_⟩
    ·by_cases hj : j < bs.length
     ·rw [List.getElem?_append_left hj] at f1
      obtain ⟨g1, g2⟩ := hbs j b' x f1 f2
      exact ⟨by rw [upd_ne g2]; exact s6 _ _ g1, g2⟩
     ·have hj' : j = bs.length := by
       have := (List.getElem?_eq_some_iff.mp f1).1
       rw [List.length_append] at this; simp at this; omega
      rw [hj', List.getElem?_append_right (Nat.le_refl _), Nat.sub_self] at f1
      cases f1
      rw [hj', hbl, hri] at f2
      cases f2
      exact ⟨by rw [upd_ne nb]; exact e6, nb⟩
    ·rcases List.mem_append.mp hb' with z | z
     ·obtain ⟨z1, z2, o, z3⟩ := hbf b' z
      exact ⟨z1, z2, o, by rw [upd_ne z2]; exact s6 _ _ z3⟩
     ·rw [List.mem_singleton.mp z]
      exact ⟨sm5.free hb6, nb, _, by rw [upd_ne nb]; exact e6⟩
    ·rw [List.nodup_append]
     refine ⟨hbd, by simp, fun x hx c hc => ?_⟩
     rw [List.mem_singleton.mp hc]
     rintro rfl
     obtain ⟨_, _, o, z⟩ := hbf x hx
     rw [hb6] at z; cases z
   ·rintro ys H5 ⟨bs, sm5, hN5, rfl, hbl, hbs, hbf, hbd⟩
    rw [hlm] at hbl
    walk_at "rd1"
    refine ⟨by decide, fun p hp => ?_⟩
    have s7 := same_new hp (.tup [wayV (sP y), .ref M, .ref N])
    have sAll := ((s1.trans sm13).trans s4).trans sm5
    have sH4 : Same H H4 := (s1.trans sm13).trans s4
    have hM4 := s4 _ _ hM3
    exact q p _ (sAll.trans s7) (sAll.free hp) ⟨M, N, bs, upd_same, s7 _ _ (sm5 _ _ hM4), ⟨s7 _ _ hN5, by rw [hrp]; exact hbl, fun i b x f1 f2 => s7 _ _ (hbs i b x f1 f2).1⟩, ((s1.trans s2).trans sm).free hM, sH4.free hN, ne_of_none hM4 hN, fun b hb => ⟨sH4.free (hbf b hb).1, Ne.symm (ne_of_none hM4 (hbf b hb).1), (hbf b hb).2.1⟩, hbd⟩
end
theorem numP_of {k : Nat} (hk : k < 100) {y : Str} (hy : T y = T (toString (k : Int))) : numP y = some k := by
 obtain ⟨l1, l2, l3⟩ := num_facts k hk
 rw [← hy, T_len] at l1 l2
 rw [← hy] at l3
 unfold numP
 rw [if_pos ⟨l1, l2, l3⟩, hy, num_val k hk]
theorem wayP_of {y wd : Str} {o : Option Nat} (hy : T y = wayT (T wd) o) (hc : Clean wd) (ho : ∀ k, o = some k → k < 100) : wayP y = (wd, o) := by
 have ex : (Str.ofString "!").cps.toList = [33] := by decide +kernel
 have eg : (Str.ofString ">").cps.toList = [62] := by decide +kernel
 have lx : (Str.ofString "!").length = 1 := by decide +kernel
 cases o with
 | none =>
  have hy' : T y = T wd ++ [33] := hy
  have hyl : y.length = wd.length + 1 := by rw [← T_len, hy', List.length_append, T_len]; rfl
  have hA := at_of (x := y) (y := Str.ofString "!") (p := T wd) (q := []) (by rw [ex, List.append_nil]; exact hy')
  have e1 : bangB y = true := by
   unfold bangB
   rw [decide_eq_true (by omega), show y.length - 1 = (T wd).length by rw [T_len]; omega, hA.2]; rfl
  have es : Txt.slice y none (some (-1)) = wd := T_inj (by
   rw [slice_last (by omega), hy', hyl, Nat.add_sub_cancel, ← T_len, List.take_left])
  unfold wayP
  rw [if_pos e1, es]
 | some k =>
  have hk := ho k rfl
  obtain ⟨l1, l2, l3⟩ := num_facts k hk
  have hy' : T y = T wd ++ [62] ++ T (toString (k : Int)) := hy
  have hyl : y.length = wd.length + 1 + (T (toString (k : Int))).length := by rw [← T_len, hy', List.length_append, List.length_append, T_len wd]; rfl
  have e1 : bangB y = false := by
   unfold bangB
   rw [Bool.and_eq_false_iff]
   refine .inr (Bool.eq_false_iff.mpr fun hs => ?_)
   have h1 := at_head (x := y) (y := Str.ofString "!") ex (i := y.length - 1) ⟨by rw [lx]; omega, hs⟩
   have h2 : (T y)[y.length - 1]? = some 33 := h1
   rw [hy', List.getElem?_append_right (by rw [List.length_append, T_len]; show wd.length + 1 ≤ _; omega)] at h2
   have h3 := List.all_eq_true.mp l3 33 (List.mem_of_getElem? h2)
   exact absurd h3 (by decide +kernel)
  have hpart : Txt.partition y (Str.ofString ">") = (wd, Str.ofString ">", Str.ofString (toString (k : Int))) := part_of eg (by rw [eg]; show T y = T wd ++ ([62] ++ T _); rw [hy', List.append_assoc]) (fun z => (hc _ z).2.2.2.2 rfl)
  unfold wayP
  rw [if_neg (by rw [e1]; decide), hpart]
  show (wd, numP _) = _
  rw [numP_of hk rfl]
theorem roomT_none {x : List (Option Nat)} : roomT [] x = [] := by
 unfold roomT
 have : partsT [] x = [] := by unfold partsT; simp
 rw [this]; rfl
theorem zipmap {f : Str → Str × Option Nat} : ∀ {ws : List Str} {x : List (Option Nat)}, (∀ u o, (u, o) ∈ ws.zip x → f (strT (wayT (T u) o)) = (u, o)) → ((partsT ws x).map strT).map f = ws.zip x
 | [], x, _ => by unfold partsT; simp
 | u :: ws, [], _ => by unfold partsT; simp
 | u :: ws, o :: x, h => by
  have ih := zipmap (f := f) (ws := ws) (x := x) (fun u o hm => h u o (List.mem_cons_of_mem _ hm))
  show f (strT (wayT (T u) o)) :: ((partsT ws x).map strT).map f = (u, o) :: ws.zip x
  rw [ih, h u o List.mem_cons_self]
theorem waysP_of {ws : List Str} {x : List (Option Nat)} (h : RoomOk ws x) {y : Str} (hy : T y = roomT ws x) : waysP y = ws.zip x := by
 by_cases hne : ws = []
 ·subst hne
  have ey : y = Str.ofString "" := T_inj (by rw [hy, roomT_none]; rfl)
  unfold waysP; rw [if_pos ey]; rfl
 ·have c : y ≠ Str.ofString "" := fun z => roomT_full h hne (by rw [← hy, z]; rfl)
  unfold waysP
  rw [if_neg c]
  have e := room_split h hne hy
  show (Txt.split y " ").map wayP = _
  rw [e]
  refine zipmap (ws := ws) (x := x) fun u o hm => wayP_of (T_strT _) (h.cl u (List.of_mem_zip hm).1).1 fun k e => h.wy k (e ▸ (List.of_mem_zip hm).2)
theorem zip_fst {ws : List Str} {x : List (Option Nat)} (h : x.length = ws.length) : (ws.zip x).map (·.1) = ws := List.map_fst_zip (by omega)
theorem zip_snd {ws : List Str} {x : List (Option Nat)} (h : x.length = ws.length) : (ws.zip x).map (·.2) = x := List.map_snd_zip (by omega)
theorem part_rule {y : Str} {r : Rl} (hy : T y = ruleT r) (ok : RuleTx r) : ∃ sn : Nat, r.s = (sn : Int) ∧ (sn = 1 ∨ sn = 2) ∧ Txt.partition y (Str.ofString ": ") = (Str.ofString (toString (sn : Int)), Str.ofString ": ", strT (glue [59, 32] (r.rs.map (roomT r.ws)))) := by
 have ec : (Str.ofString ": ").cps.toList = 58 :: [32] := by decide +kernel
 obtain ⟨sn, hsn, hs1⟩ : ∃ sn : Nat, r.s = (sn : Int) ∧ (sn = 1 ∨ sn = 2) := by rcases ok.ok.s with e | e <;> rw [e]; exact ⟨1, rfl, .inl rfl⟩; exact ⟨2, rfl, .inr rfl⟩
 have hy' : T y = T (toString (sn : Int)) ++ ([58, 32] ++ glue [59, 32] (r.rs.map (roomT r.ws))) := by rw [hy]; unfold ruleT; rw [hsn, List.append_assoc]
 exact ⟨sn, hsn, hs1, part_of ec (by
  show T y = T _ ++ ((Str.ofString ": ").cps.toList ++ T (strT _))
  rw [T_strT, ec, hy']) (fun z => (num_clean (by omega) _ z).2.2.1 rfl)⟩
theorem ruleP_of {y : Str} {r : Rl} (hy : T y = ruleT r) (ok : RuleTx r) : (∃ sn : Nat, r.s = (sn : Int) ∧ sP y = some sn) ∧ wsP y = r.ws ∧ rsP y = r.rs := by
 obtain ⟨sn, hsn, hs, hp⟩ := part_rule hy ok
 have hsp := rooms_split ok.ok ok.cl (T_strT (glue [59, 32] (r.rs.map (roomT r.ws))))
 have hro : roomsP y = r.rs.map (r.ws.zip ·) := by
  unfold roomsP
  rw [hp]
  show (Txt.split (strT (glue [59, 32] (r.rs.map (roomT r.ws)))) "; ").map waysP = _
  rw [hsp, List.map_map, List.map_map]
  refine List.map_congr_left fun x hx => ?_
  exact waysP_of (ok.room hx) (T_strT _)
 refine ⟨⟨sn, hsn, by unfold sP; rw [hp]; exact numP_of (by omega) rfl⟩, ?_, ?_⟩
 ·have h0 := ok.ok.n0
  unfold wsP
  rw [hro]
  have hrow := ok.ok.row
  revert h0 hrow
  cases r.rs with
  | nil => intro h; simp at h
  | cons x l => intro _ hrow; exact zip_fst (hrow x List.mem_cons_self).1
 ·unfold rsP
  rw [hro, List.map_map]
  conv => rhs; rw [← List.map_id r.rs]
  refine List.map_congr_left fun x hx => ?_
  exact zip_snd (ok.ok.row x hx).1
theorem wordS_clean {u : Str} (h : wordS u = true) : u.length ≤ 8 ∧ ∀ c ∈ T u, c ∈ letters.cps.toList := by
 unfold wordS at h
 rw [Bool.and_eq_true, decide_eq_true_eq, List.all_eq_true] at h
 exact ⟨h.1.2, fun c hc => by simpa using h.2 c hc⟩
theorem word_clean {s : Int} {u : Str} (h : wordOf s u = true) : Clean u ∧ u.length ≤ 10 := by
 unfold wordOf at h
 split at h
 ·have := wordS_clean h
  exact ⟨fun c hc => let_clean (this.2 c hc), by omega⟩
 ·unfold sidedS at h
  rw [Bool.and_eq_true] at h
  obtain ⟨h1, h2⟩ := h
  have e := slice_to' (x := u) 2
  have h1' : Txt.slice u none (some 2) = Str.ofString "1." ∨ Txt.slice u none (some 2) = Str.ofString "2." := by
   have := inV_str (Txt.slice u none (some 2)) [Str.ofString "1.", Str.ofString "2."]
   have h3 := this.symm.trans h1
   simpa using h3
  have hd : ∃ d, (d = 49 ∨ d = 50) ∧ (T u).take 2 = [d, 46] := by
   rcases h1' with z | z
   ·exact ⟨49, .inl rfl, by rw [← e]; show T (Txt.slice u none (some 2)) = _; rw [z]; decide +kernel⟩
   ·exact ⟨50, .inr rfl, by rw [← e]; show T (Txt.slice u none (some 2)) = _; rw [z]; decide +kernel⟩
  obtain ⟨d, hd, e2⟩ := hd
  have hl : 2 ≤ u.length := by
   have := congrArg List.length e2
   rw [List.length_take, T_len] at this; simp at this; omega
  have w2 := wordS_clean h2
  have e3 : T (Txt.slice u (some 2) none) = (T u).drop 2 := slice_from (j := 2) hl
  have eu : T u = [d, 46] ++ T (Txt.slice u (some 2) none) := by rw [e3, ← e2, List.take_append_drop]
  refine ⟨fun c hc => ?_, ?_⟩
  ·rw [eu] at hc
   rcases List.mem_append.mp hc with z | z
   ·simp only [List.mem_cons, List.not_mem_nil, or_false] at z
    omega
   ·exact let_clean (w2.2 c z)
  ·have := congrArg List.length eu
   rw [List.length_append, T_len, T_len] at this
   simp at this
   omega
theorem ruleB_tx {s : Option Nat} {ws : List Str} {rs : List (List (Option Nat))} (h : ruleB s ws rs = true) : ∃ sn : Nat, s = some sn ∧ RuleTx ⟨(sn : Int), ws, rs⟩ := by
 cases s with
 | none => exact absurd h (by simp [ruleB])
 | some sn =>
  have h' : (decide (sn = 1 ∨ sn = 2) && (areB (sn : Int) ws && roomsB ws.length rs)) = true := h
  rw [Bool.and_eq_true, Bool.and_eq_true, decide_eq_true_eq] at h'
  obtain ⟨h1, h2, h3⟩ := h'
  have h2' := h2
  unfold areB at h2'
  rw [Bool.and_eq_true, Bool.and_eq_true, decide_eq_true_eq, List.all_eq_true] at h2'
  unfold roomsB at h3
  rw [Bool.and_eq_true, decide_eq_true_eq, List.all_eq_true] at h3
  refine ⟨sn, rfl, ⟨by show ((sn : Int) = 1 ∨ (sn : Int) = 2); omega, h2'.1, h3.1.1, h3.1.2, fun x hx => ?_, fun u hu => (word_clean (h2'.2.1 u hu)).2⟩, fun u hu => (word_clean (h2'.2.1 u hu)).1, h2⟩
  have h4 := h3.2 x hx
  unfold roomB at h4
  rw [Bool.and_eq_true, decide_eq_true_eq, List.all_eq_true] at h4
  exact ⟨h4.1, fun k hk => by have := h4.2 _ hk; simpa [wayB] using this⟩
def TxRule (y : Str) (r : Rl) : Prop := RuleTx r ∧ T y = ruleT r
theorem TxRule.uniq {y : Str} {r r' : Rl} (h : TxRule y r) (h' : TxRule y r') : r = r' := ruleT_inj h.1.ok h.1.cl h'.1.ok h'.1.cl (h.2.symm.trans h'.2)
def spReadX (C : Addr) : Sp := fun vs H Q E => ∃ x, vs = [x] ∧ ((∃ y : Str, x = .str y ∧ y.length ≤ 50000 ∧ (∀ r p H', TxRule y r → Same H H' → FreshR H H' p r → Q (.ref p) H') ∧ (∀ H', (¬ ∃ r, TxRule y r) → Same H H' → E (.ref C) none H')) ∨ ((∃ t, tyName H x = some t ∧ isT t "str" = false) ∧ E (.ref C) none H))
section
variable {P : Program} {w : World} {K : PySem.W.Frag} {mg : Str → Option Value} {base : Heap} {C_NoText : Addr}
theorem ok_readrule (D : DefAt K mg "read_rule" s_read_rule) (z_isinstance : mg "isinstance" = none) (z_str : mg "str" = none) (x_NoText : ExcAt K mg "NoText" C_NoText) (c_rule_in : Cal P w K mg base 4 "rule_in" ["text"] spRuleG) (c_is_rule : Cal P w K mg base 5 "is_rule" ["thing"] spIsRule) (c_show_rule : Cal P w K mg base 3 "show_rule" ["rule"] spShowRule) : CalX P w K mg base 6 "read_rule" ["text"] (spReadX C_NoText) := by
 refine D.calX (k := 5) sc_read_rule (fun _ _ _ _ _ _ us hl => match us, hl with | [_], _ => rfl) (fun vs H Q E h => by obtain ⟨x, rfl, _⟩ := h; rfl) (fun f cdv A outer sh H vs Q E hr h => ?_)
 obtain ⟨x, rfl, h⟩ := h
 refine ⟨_, (pss_cons (ps_if (pt_not (pt_val (pe_blt call_isT z_isinstance bt_isinstance (pa_cons (pv 0 (hv := vzu)) (pa_cons (pe_gty z_str bt_str (hg := gz1f)) pa_nil)) (hg := gz1c)))) (pss_one (ps_raiseA lv_of x_NoText (pa_cons pe_str pa_nil) (hg := gz1a))) pss_nil)
   (pss_cons (ps_let 1 sc_read_rule.nd (pe_cal c_rule_in hr (pa_cons (pv 0 (hv := vzu)) pa_nil) (hg := gz1d)) (hx := lz4))
   (pss_cons (ps_if (PW.pt' (pw_or (pt_not (pt_val (pe_cal c_is_rule hr (pa_cons (pv 1 (hv := vzv)) pa_nil) (hg := gz1b)))) (pw_or1 (pt_cmpR op_neA (pe_cal c_show_rule hr (pa_cons (pv 1 (hv := vzv)) pa_nil) (hg := gz1e)) (pv 0 (hv := vzu)) (nomark _))))) (pss_one (ps_raiseA lv_of x_NoText (pa_cons pe_str pa_nil) (hg := gz1a))) pss_nil)
   (pss_one (ps_ret (pv 1 (hv := vzv))))))), ?_⟩
 walk_at "rd1"
 rcases h with ⟨y, rfl, hyl, q, e⟩ | ⟨⟨t, h1, h2⟩, e⟩
 ·refine ⟨"str", rfl, by decide, ite2 (fun c => absurd c (by decide)) (fun _ => ?_)⟩
  walk_at "nx"
  refine ⟨y, rfl, hyl, fun p H1 s1 hp hF => ?_⟩
  have hF' := hF
  obtain ⟨pw, pr, as, h1, h2, h3, h4⟩ := hF'
  have hrl := roomsP_len y
  have hsz : (wsP y).length ≤ 100000 ∧ (∀ u ∈ wsP y, u.length ≤ 100000) ∧ (rsP y).length ≤ 100000 ∧ ∀ x ∈ rsP y, x.length ≤ 100000 := by
   have hx0 := hrl.2.2 _ (List.getElem_mem hrl.2.1)
   refine ⟨?_, fun u hu => ?_, ?_, fun x hx => ?_⟩
   ·unfold wsP; rw [headD_at hrl.2.1, List.length_map]; omega
   ·unfold wsP at hu; rw [headD_at hrl.2.1] at hu
    obtain ⟨z, hz, rfl⟩ := List.mem_map.mp hu
    have := hx0.2 z hz; omega
   ·unfold rsP; rw [List.length_map]; omega
   ·obtain ⟨z, hz, rfl⟩ := List.mem_map.mp hx
    have := (hrl.2.2 z hz).1
    rw [List.length_map]; omega
  walk_at "nx"
  refine ⟨p, pw, pr, sP y, wsP y, rsP y, as, rfl, h1, h2, h3, hsz.1, hsz.2.1, hsz.2.2.1, hsz.2.2.2, fun H2 s2 => ?_⟩
  walk_at "rd1"
  have hgood : ∀ r, TxRule y r → ruleB (sP y) (wsP y) (rsP y) = true := fun r hr => by
   obtain ⟨⟨sn, g1, g2⟩, g3, g4⟩ := ruleP_of hr.2 hr.1
   rw [g2, g3, g4]
   have hs1 : sn = 1 ∨ sn = 2 := by have := hr.1.ok.s; omega
   show (decide (sn = 1 ∨ sn = 2) && (areB (sn : Int) r.ws && roomsB r.ws.length r.rs)) = true
   rw [decide_eq_true hs1, ← g1, hr.1.wb, roomsB_of hr.1.ok]; rfl
  cases eb : ruleB (sP y) (wsP y) (rsP y) with
  | false =>
   refine ite2 (fun _ => ?_) (fun c => absurd rfl c)
   rw [tRaise_at]
   walk_at "rd1"
   exact ⟨by decide, e _ (fun ⟨r, hr⟩ => by rw [hgood r hr] at eb; exact absurd eb (by decide)) (s1.trans s2)⟩
  | true =>
   obtain ⟨sn, es, hok⟩ := ruleB_tx eb
   have hFR : FreshR H H1 p ⟨(sn : Int), wsP y, rsP y⟩ := ⟨pw, pr, as, by rw [h1, es]; rfl, h2, h3, h4⟩
   refine ⟨p, _, rfl, hFR.at.mono s2, hok.ok, fun H3 y' s3 hy' => ?_⟩
   walk_at "rd1"
   have s13 := (s1.trans s2).trans s3
   by_cases hyy : y' = y
   ·rw [decide_eq_true hyy]
    refine ite2 (fun c => absurd c (by decide)) (fun _ => ?_)
    walk_at "nx"
    exact q _ p H3 ⟨hok, hyy ▸ hy'⟩ s13 ((hFR.mono s2).mono s3)
   ·rw [decide_eq_false hyy]
    refine ite2 (fun _ => ?_) (fun c => absurd rfl c)
    rw [tRaise_at]
    walk_at "rd1"
    refine ⟨by decide, e _ (fun ⟨r, hr⟩ => hyy (T_inj (hy'.trans ?_))) s13⟩
    obtain ⟨⟨sn', g1, g2⟩, g3, g4⟩ := ruleP_of hr.2 hr.1
    rw [hr.2]
    have : sn' = sn := by rw [g2] at es; exact Option.some.inj es
    have er : (⟨(sn : Int), wsP y, rsP y⟩ : Rl) = r := by rw [g3, g4, ← this, ← g1]
    rw [er]
 ·refine ⟨t, h1, by decide, ?_⟩
  rw [h2]
  refine ite2 (fun _ => ?_) (fun c => absurd rfl c)
  rw [tRaise_at]
  walk_at "rd1"
  exact ⟨by decide, e⟩
end
def linesP (y : Str) : List Str := if y = Str.ofString "" then [] else Txt.split y (Str.ofString "\n")
theorem linesP_len (y : Str) : (linesP y).length ≤ y.length + 1 ∧ ∀ p ∈ linesP y, p.length ≤ y.length := by
 unfold linesP
 split
 ·exact ⟨Nat.zero_le _, fun p h => by simp at h⟩
 ·exact split_len (by decide +kernel)
def LineIs (y : Str) (n : Str × Rl) : Prop := (Txt.partition y (Str.ofString " ")).1 = n.1 ∧ wordS n.1 = true ∧ TxRule (Txt.partition y (Str.ofString " ")).2.2 n.2
theorem LineIs.uniq {y : Str} {n n' : Str × Rl} (h : LineIs y n) (h' : LineIs y n') : n = n' := by
 obtain ⟨a, b⟩ := n
 obtain ⟨a', b'⟩ := n'
 have e1 : a = a' := h.1.symm.trans h'.1
 have e2 : b = b' := h.2.2.uniq h'.2.2
 rw [e1, e2]
inductive LinesAre : List Str → List (Str × Rl) → Prop
 | nil : LinesAre [] []
 | cons {y n ys ns} : LineIs y n → LinesAre ys ns → LinesAre (y :: ys) (n :: ns)
theorem LinesAre.len {ys : List Str} {ns : List (Str × Rl)} (h : LinesAre ys ns) : ys.length = ns.length := by
 induction h with
 | nil => rfl
 | cons _ _ ih => simp [ih]
theorem LinesAre.at {ys : List Str} {ns : List (Str × Rl)} (h : LinesAre ys ns) : ∀ {i : Nat} {y : Str}, ys[i]? = some y → ∃ n, ns[i]? = some n ∧ LineIs y n := by
 induction h with
 | nil => intro i y e; simp at e
 | cons h1 _ ih =>
  intro i y e
  cases i with
  | zero => cases e; exact ⟨_, rfl, h1⟩
  | succ i => exact ih e
theorem LinesAre.snoc {ys : List Str} {ns : List (Str × Rl)} {y : Str} {n : Str × Rl} (h : LinesAre ys ns) (h1 : LineIs y n) : LinesAre (ys ++ [y]) (ns ++ [n]) := by
 induction h with
 | nil => exact .cons h1 .nil
 | cons h2 _ ih => exact .cons h2 ih
theorem LinesAre.uniq {ys : List Str} {ns ns' : List (Str × Rl)} (h : LinesAre ys ns) (h' : LinesAre ys ns') : ns = ns' := by
 induction h generalizing ns' with
 | nil => cases h'; rfl
 | cons h1 _ ih => cases h' with | cons h2 h3 => rw [h1.uniq h2, ih h3]
theorem LinesAre.mem {ys : List Str} {ns : List (Str × Rl)} (h : LinesAre ys ns) : ∀ y ∈ ys, ∃ n, LineIs y n := fun y hy => by
 obtain ⟨i, hi, rfl⟩ := List.mem_iff_getElem.mp hy
 obtain ⟨n, _, h⟩ := h.at (List.getElem?_eq_getElem hi)
 exact ⟨n, h⟩
def ListIs (y : Str) (ns : List (Str × Rl)) : Prop := (linesP y).length ≤ 8 ∧ LinesAre (linesP y) ns ∧ (ns.map (·.1)).Nodup
theorem ListIs.uniq {y : Str} {ns ns' : List (Str × Rl)} (h : ListIs y ns) (h' : ListIs y ns') : ns = ns' := h.2.1.uniq h'.2.1
def NamedAt (H : Hp) (p : Addr) (n : Str × Rl) : Prop := ∃ q, H p = some (.tup [.str n.1, .ref q]) ∧ RuleAt H q n.2
theorem NamedAt.mono {H H' : Hp} {p : Addr} {n : Str × Rl} (h : NamedAt H p n) (s : Same H H') : NamedAt H' p n := by
 obtain ⟨q, h1, h2⟩ := h
 exact ⟨q, s _ _ h1, h2.mono s⟩
def ListAs (H : Hp) (l : Addr) (ns : List (Str × Rl)) (ps : List Addr) : Prop := H l = some (.lst (ps.map V.ref)) ∧ ps.length = ns.length ∧ ∀ (i : Nat) p n, ps[i]? = some p → ns[i]? = some n → NamedAt H p n
def ListAt (H : Hp) (l : Addr) (ns : List (Str × Rl)) : Prop := ∃ ps, ListAs H l ns ps
theorem ListAt.mono {H H' : Hp} {l : Addr} {ns : List (Str × Rl)} (h : ListAt H l ns) (s : Same H H') : ListAt H' l ns := by
 obtain ⟨ps, h1, h2, h3⟩ := h
 exact ⟨ps, s _ _ h1, h2, fun i p n e1 e2 => (h3 i p n e1 e2).mono s⟩
theorem named_eq {K : PySem.W.Frag} {H : Hp} {p q : Addr} {n : Str × Rl} (h1 : NamedAt H p n) (h2 : NamedAt H q n) : EqN K H 4 (.ref p) (.ref q) true := by
 obtain ⟨a, a1, a2⟩ := h1
 obtain ⟨b, b1, b2⟩ := h2
 refine EqN.seq (.inr ⟨SqT.of a1, SqT.of b1⟩) rfl fun i x y e1 e2 => ?_
 match i, e1, e2 with
 | 0, e1, e2 => cases e1; cases e2; exact EqN.refl rfl
 | 1, e1, e2 => cases e1; cases e2; exact rule_eq a2 b2
 | i + 2, e1, e2 => simp at e1
theorem list_eq {K : PySem.W.Frag} {H : Hp} {p q : Addr} {ns : List (Str × Rl)} (h1 : ListAt H p ns) (h2 : ListAt H q ns) : EqN K H 5 (.ref p) (.ref q) true := by
 obtain ⟨as, a1, a2, a3⟩ := h1
 obtain ⟨bs, b1, b2, b3⟩ := h2
 refine EqN.seq (.inl ⟨SqL.of a1, SqL.of b1⟩) (by simp; omega) fun i x y e1 e2 => ?_
 rw [List.getElem?_map] at e1 e2
 cases qa : as[i]? with
 | none => rw [qa] at e1; cases e1
 | some a =>
  cases qb : bs[i]? with
  | none => rw [qb] at e2; cases e2
  | some b =>
   rw [qa] at e1; rw [qb] at e2
   cases e1; cases e2
   have hi : i < ns.length := by have := (List.getElem?_eq_some_iff.mp qa).1; omega
   exact named_eq (a3 i a _ qa (List.getElem?_eq_getElem hi)) (b3 i b _ qb (List.getElem?_eq_getElem hi))
def FreshN (H H' : Hp) (l p : Addr) (n : Str) (r : Rl) : Prop := ∃ q pw pr as, H' p = some (.tup [.str n, .ref q]) ∧ H' q = some (.tup [.int r.s, .ref pw, .ref pr]) ∧ H' pw = some (.lst (r.ws.map V.str)) ∧ RoomsAs H' pr r.rs as ∧ H pr = none ∧ pr ≠ l ∧ pw ≠ l ∧ ∀ a ∈ as, a ≠ l
theorem FreshN.mono {H H' H'' : Hp} {l p : Addr} {n : Str} {r : Rl} (s : Same H' H'') (h : FreshN H H' l p n r) : FreshN H H'' l p n r := by
 obtain ⟨q, pw, pr, as, h1, h2, h3, h4, h5⟩ := h
 exact ⟨q, pw, pr, as, s _ _ h1, s _ _ h2, s _ _ h3, h4.mono s, h5⟩
theorem FreshN.put {H H' : Hp} {l p : Addr} {n : Str} {r : Rl} {xs : List V} (h : FreshN H H' l p n r) (hl : H' l = some (.lst xs)) (o : HO) : FreshN H (upd H' l o) l p n r := by
 obtain ⟨q, pw, pr, as, h1, h2, h3, h4, h5, h6, h7, h8⟩ := h
 have n1 : p ≠ l := fun e => by rw [e, hl] at h1; cases h1
 have n2 : q ≠ l := fun e => by rw [e, hl] at h2; cases h2
 exact ⟨q, pw, pr, as, by rw [upd_ne n1]; exact h1, by rw [upd_ne n2]; exact h2, by rw [upd_ne h7]; exact h3, ⟨by rw [upd_ne h6]; exact h4.1, h4.2.1, fun i a x e1 e2 => by rw [upd_ne (h8 a (List.mem_of_getElem? e1))]; exact h4.2.2 i a x e1 e2⟩, h5, h6, h7, h8⟩
theorem FreshN.at {H H' : Hp} {l p : Addr} {n : Str × Rl} (h : FreshN H H' l p n.1 n.2) : NamedAt H' p n := by
 obtain ⟨q, pw, pr, as, h1, h2, h3, h4, h5⟩ := h
 exact ⟨q, h1, pw, pr, as, h2, h3, h4⟩
def spLines : Sp := fun vs H Q _ => ∃ (y : Str), vs = [.str y] ∧ y.length ≤ 50000 ∧ ∀ (H' : Hp) (l : Addr), Same H H' → H l = none → H' l = some (.lst ((linesP y).map V.str)) → Q (.ref l) H'
def spNamedX (C : Addr) : Sp := fun vs H Q E => ∃ (y : Str), vs = [.str y] ∧ y.length ≤ 50000 ∧ (∀ n p q H', LineIs y n → Same H H' → H p = none → H' p = some (.tup [.str n.1, .ref q]) → FreshR H H' q n.2 → Q (.ref p) H') ∧ (∀ H', (¬ ∃ n, LineIs y n) → Same H H' → E (.ref C) none H')
def spRulesX (C : Addr) : Sp := fun vs H Q E => ∃ x, vs = [x] ∧ ((∃ y : Str, x = .str y ∧ y.length ≤ 50000 ∧ (∀ ns l H', ListIs y ns → Same H H' → ListAt H' l ns → Q (.ref l) H') ∧ (∀ H', (¬ ∃ ns, ListIs y ns) → Same H H' → E (.ref C) none H')) ∨ ((∃ t, tyName H x = some t ∧ isT t "str" = false) ∧ E (.ref C) none H))
section
variable {P : Program} {w : World} {K : PySem.W.Frag} {mg : Str → Option Value} {base : Heap} {C_NoText : Addr}
theorem ok_lines (D : DefAt K mg "lines_in" s_lines_in) : Cal P w K mg base 1 "lines_in" ["text"] spLines := by
 refine D.cal (k := 0) sc_lines_in (fun _ _ _ _ _ _ us hl => match us, hl with | [_], _ => rfl) (fun vs H Q E h => by obtain ⟨y, rfl, _⟩ := h; rfl) (fun f cdv A outer sh H vs Q E hr h => ?_)
 obtain ⟨y, rfl, hyl, q⟩ := h
 refine ⟨_, (pss_one (ps_ret (pe_ifExp (pt_cmpR op_eqA (pv 0 (hv := vzg)) pe_str (nomark _)) (pe_lst pa_nil) (pe_bmK K PySem.F.plainAttrs_str PySem.F.slot_str_split PySem.F.type_str_split mt_split (pv 0 (hv := vzg)) (pa_cons pe_str pa_nil))))), ?_⟩
 walk_at "rd1"
 refine ite2 (fun c => ⟨by decide, fun l hl => q _ l (same_new hl _) hl ?_⟩) (fun c => ⟨by decide +kernel, by omega, fun l hl => q _ l (same_new hl _) hl ?_⟩)
 ·unfold linesP; rw [if_pos c]; exact upd_same
 ·unfold linesP; rw [if_neg c]; exact upd_same
theorem ok_named (D : DefAt K mg "named_in" s_named_in) (x_NoText : ExcAt K mg "NoText" C_NoText) (c_is_word : Cal P w K mg base 1 "is_word" ["thing"] spWord) (x_read_rule : CalX P w K mg base 6 "read_rule" ["text"] (spReadX C_NoText)) : CalX P w K mg base 7 "named_in" ["line"] (spNamedX C_NoText) := by
 refine D.calX (k := 6) sc_named_in (fun _ _ _ _ _ _ us hl => match us, hl with | [_], _ => rfl) (fun vs H Q E h => by obtain ⟨x, rfl, _⟩ := h; rfl) (fun f cdv A outer sh H vs Q E hr h => ?_)
 obtain ⟨y, rfl, hyl, q, no⟩ := h
 refine ⟨_, (pss_cons (ps_let 1 sc_named_in.nd (pe_bmK K PySem.F.plainAttrs_str PySem.F.slot_str_partition PySem.F.type_str_partition mt_partition (pv 0 (hv := vzw)) (pa_cons pe_str pa_nil)) (hx := lz5))
   (pss_cons (ps_if (pt_not (pt_val (pe_cal c_is_word hr (pa_cons (pe_ix (ix_K K) (pv 1 (hv := vzx)) pe_int (fun _ _ => rfl)) pa_nil) (hg := gz1h)))) (pss_one (ps_raiseA lv_of x_NoText (pa_cons pe_str pa_nil) (hg := gz1g))) pss_nil)
   (pss_one (ps_ret (pe_tup (pa_cons (pe_ix (ix_K K) (pv 1 (hv := vzx)) pe_int (fun _ _ => rfl)) (pa_cons (pe_calX lv_of x_read_rule (fun _ _ _ h => h) hr (pa_cons (pe_ix (ix_K K) (pv 1 (hv := vzx)) pe_int (fun _ _ => rfl)) pa_nil) (hg := gz1i)) pa_nil))))))), ?_⟩
 have hpl := part_len y (Str.ofString " ")
 have hLI : ∀ n, LineIs y n → wordS (Txt.partition y (Str.ofString " ")).1 = true := fun n hn => by rw [hn.1]; exact hn.2.1
 walk_at "rd1"
 refine ⟨by decide +kernel, by omega, fun l hl => ?_⟩
 generalize hH1 : upd H l _ = H1
 have s1 := al_same hH1 hl
 have e1 := al_at hH1
 walk_at "nx"
 refine ⟨_, _, .inr (SqT.of e1), at0, _, "str", rfl, rfl, fun z e => by cases e; exact smallL (by omega), fun H2 s2 => ?_⟩
 walk_at "rd1"
 cases hw : wordS (Txt.partition y (Str.ofString " ")).1 with
 | false =>
  have ew : wordV (.str (Txt.partition y (Str.ofString " ")).1) = false := hw
  rw [ew]
  refine ite2 (fun _ => ?_) (fun c => absurd rfl c)
  rw [tRaise_at]
  walk_at "rd1"
  exact ⟨by decide, no _ (fun ⟨n, hn⟩ => by rw [hLI n hn] at hw; cases hw) (s1.trans s2)⟩
 | true =>
  have ew : wordV (.str (Txt.partition y (Str.ofString " ")).1) = true := hw
  rw [ew]
  refine ite2 (fun c => absurd c (by decide)) (fun _ => ?_)
  walk_at "nx"
  refine ⟨_, _, .inr (SqT.of (s2 _ _ e1)), at0, _, _, .inr (SqT.of (s2 _ _ e1)), atI_nat (j := 2) rfl, ?_⟩
  have s12 := s1.trans s2
  refine ⟨_, rfl, .inl ⟨_, rfl, by omega, fun r p H3 hr s3 hF => ⟨by decide, fun t ht => ?_⟩, fun H3 hn s3 => no _ (fun ⟨n, h⟩ => hn ⟨n.2, h.2.2⟩) (s12.trans s3)⟩⟩
  have s4 := same_new ht (.tup [.str (Txt.partition y (Str.ofString " ")).1, .ref p])
  have s13 := s12.trans s3
  refine q ((Txt.partition y (Str.ofString " ")).1, r) t p _ ⟨rfl, hw, hr⟩ (s13.trans s4) (s13.free ht) upd_same ?_
  obtain ⟨pw, pr, as, g1, g2, g3, g4, g5, g6, g7, g8⟩ := hF.mono s4
  exact ⟨pw, pr, as, g1, g2, g3, s12.free g4, s12.free g5, g6, fun a ha => ⟨s12.free (g7 a ha).1, (g7 a ha).2⟩, g8⟩
theorem nodup_sub : ∀ {ds xs : List Str}, ds.Nodup → (∀ a ∈ ds, a ∈ xs) → ds.length ≤ xs.length
 | [], xs, _, _ => Nat.zero_le _
 | d :: ds, xs, h, hs => by
  rw [List.nodup_cons] at h
  have hd := hs d List.mem_cons_self
  have ih := nodup_sub (ds := ds) (xs := xs.erase d) h.2 (fun a ha => (List.mem_erase_of_ne (fun z : a = d => h.1 (z ▸ ha))).mpr (hs a (List.mem_cons_of_mem _ ha)))
  rw [List.length_erase_of_mem hd] at ih
  have : 0 < xs.length := List.length_pos_of_mem hd
  simp only [List.length_cons]
  omega
theorem dup_less : ∀ {xs : List Str}, ¬ xs.Nodup → ∃ xs' : List Str, xs'.length + 1 = xs.length ∧ ∀ a ∈ xs, a ∈ xs'
 | [], h => absurd List.nodup_nil h
 | x :: xs, h => by
  by_cases hx : x ∈ xs
  ·exact ⟨xs, rfl, fun a ha => by rcases List.mem_cons.mp ha with rfl | z; exact hx; exact z⟩
  ·obtain ⟨xs', h1, h2⟩ := dup_less (xs := xs) (fun z => h (List.nodup_cons.mpr ⟨hx, z⟩))
   exact ⟨x :: xs', by simp [h1], fun a ha => by
    rcases List.mem_cons.mp ha with rfl | z
    ·exact List.mem_cons_self
    ·exact List.mem_cons_of_mem _ (h2 a z)⟩
theorem nodup_len {xs ds : List Str} (hnd : ds.Nodup) (hmem : ∀ a, a ∈ ds ↔ a ∈ xs) : ds.length ≤ xs.length ∧ (ds.length = xs.length → xs.Nodup) := by
 refine ⟨nodup_sub hnd fun a ha => (hmem a).mp ha, fun h => ?_⟩
 by_cases hn : xs.Nodup
 ·exact hn
 ·obtain ⟨xs', h1, h2⟩ := dup_less hn
  have := nodup_sub hnd fun a ha => h2 a ((hmem a).mp ha)
  omega
theorem ok_rules (D : DefAt K mg "read_rules" s_read_rules) (z_isinstance : mg "isinstance" = none) (z_str : mg "str" = none) (z_len : mg "len" = none) (z_set : mg "set" = none) (g_MOST_RULES : ∃ t, mg "MOST_RULES" = some (.int 8 t)) (x_NoText : ExcAt K mg "NoText" C_NoText) (c_lines_in : Cal P w K mg base 1 "lines_in" ["text"] spLines) (x_named_in : CalX P w K mg base 7 "named_in" ["line"] (spNamedX C_NoText)) : CalX P w K mg base 8 "read_rules" ["text"] (spRulesX C_NoText) := by
 refine D.calX (k := 7) sc_read_rules (fun _ _ _ _ _ _ us hl => match us, hl with | [_], _ => rfl) (fun vs H Q E h => by obtain ⟨x, rfl, _⟩ := h; rfl) (fun f cdv A outer sh H vs Q E hr h => ?_)
 obtain ⟨x, rfl, h⟩ := h
 refine ⟨_, (pss_cons (ps_if (pt_not (pt_val (pe_blt call_isT z_isinstance bt_isinstance (pa_cons (pv 0 (hv := vzy)) (pa_cons (pe_gty z_str bt_str (hg := gz1p)) pa_nil)) (hg := gz1l)))) (pss_one (ps_raiseA lv_of x_NoText (pa_cons pe_str pa_nil) (hg := gz1k))) pss_nil)
   (pss_cons (ps_let 1 sc_read_rules.nd (pe_cal c_lines_in hr (pa_cons (pv 0 (hv := vzy)) pa_nil) (hg := gz1n)) (hx := lz6))
   (pss_cons (ps_if (pt_cmpR op_gt (pe_blt (call_lenK K) z_len bt_len (pa_cons (pv 1 (hv := vzz)) pa_nil) (hg := gz1m)) (pe_gint g_MOST_RULES (hg := gz1j)) (nomark _)) (pss_one (ps_raiseA lv_of x_NoText (pa_cons pe_str pa_nil) (hg := gz1k))) pss_nil)
   (pss_cons (ps_setcompX lv_of (CompSc.to (fsc := (defScope s_read_rules)) (N := ["text", "lines", "rules"]) (N0 := ["text", "lines", "rules"]) (T := ["line"]) ⟨by decide +kernel, by decide +kernel, by decide +kernel, by decide +kernel, by decide +kernel, by decide +kernel, by decide +kernel⟩ rfl rfl) rfl sc_read_rules.nd (i := 2) rfl kz2 (pi_listK K (pv 1 (hv := vzz))) (fun _ _ _ _ => (pg_let 3 (show (["text", "lines", "rules", "line"] : List Str).Nodup from by decide +kernel) (hx := (locCX (defScope s_read_rules) (by decide +kernel))) (hf := fnCX (defScope s_read_rules) (by decide +kernel)))) (gfr_name (show (["text", "lines", "rules"] : List Str).length ≤ 3 from by decide)) (fun _ _ _ _ => pifs_nil) (fun _ _ _ _ => (pe_calC x_named_in (fun _ _ _ h => h) hr (pa_cons (pv 3 (hv := (visCX (defScope s_read_rules) (by decide +kernel)))) pa_nil) (hg := (glCX (defScope s_read_rules) (by decide +kernel))))))
   (pss_cons (ps_if (pt_cmpR op_ltA (pe_blt (call_lenST w) z_len bt_len (pa_cons (pe_bty (call_setTTW K w hr) z_set bt_set (pa_cons (pe_comp (CompSc.to (fsc := (defScope s_read_rules)) (N := ["text", "lines", "rules"]) (N0 := ["text", "lines", "rules"]) (T := ["named"]) ⟨by decide +kernel, by decide +kernel, by decide +kernel, by decide +kernel, by decide +kernel, by decide +kernel, by decide +kernel⟩ rfl rfl) rfl (pi_listK K (pv 2 (hv := vz10))) (fun _ _ _ _ => (pg_let 3 (show (["text", "lines", "rules", "named"] : List Str).Nodup from by decide +kernel) (hx := (locC (defScope s_read_rules) (by decide +kernel))) (hf := fnC (defScope s_read_rules) (by decide +kernel)))) (gfr_name (show (["text", "lines", "rules"] : List Str).length ≤ 3 from by decide)) (fun _ _ _ _ => pifs_nil) (fun _ _ _ _ => (pe_ix (ix_K K) (pv 3 (hv := (visC (defScope s_read_rules) (by decide +kernel)))) pe_int (fun _ _ => rfl)))) pa_nil) (hg := gz1o)) pa_nil) (hg := gz1m)) (pe_blt (call_lenK K) z_len bt_len (pa_cons (pv 2 (hv := vz10)) pa_nil) (hg := gz1m)) (nomark _)) (pss_one (ps_raiseA lv_of x_NoText (pa_cons pe_str pa_nil) (hg := gz1k))) pss_nil)
   (pss_one (ps_ret (pv 2 (hv := vz10))))))))), ?_⟩
 walk_at "rd1"
 rcases h with ⟨y, rfl, hyl, q, no⟩ | ⟨⟨t, h1, h2⟩, e⟩
 rotate_left
 ·refine ⟨t, h1, by decide, ?_⟩
  rw [h2]
  refine ite2 (fun _ => ?_) (fun c => absurd rfl c)
  rw [tRaise_at]
  walk_at "rd1"
  exact ⟨by decide, e⟩
 refine ⟨"str", rfl, by decide, ite2 (fun c => absurd c (by decide)) (fun _ => ?_)⟩
 walk_at "nx"
 refine ⟨y, rfl, hyl, fun H1 ln s1 hln e1 => ?_⟩
 have hll := linesP_len y
 have hLI : ∀ ns, ListIs y ns → (linesP y).length ≤ 8 ∧ ∀ t ∈ linesP y, ∃ n, LineIs t n := fun ns h => ⟨h.1, h.2.1.mem⟩
 walk_at "nx"
 refine ⟨_, .inl (SqL.of e1), ?_⟩
 rw [List.length_map]
 walk_at "rd1"
 refine ite2 (fun c => ?_) (fun c => ?_)
 ·rw [tRaise_at]
  walk_at "rd1"
  exact ⟨by decide, no _ (fun ⟨ns, h⟩ => by have := h.1; omega) s1⟩
 have n8 : (linesP y).length ≤ 8 := by omega
 walk_at "nx"
 refine ⟨⟨_, SqL.of e1⟩, fun L hL => ?_⟩
 refine compW_list (xs := (linesP y).map V.str) (fun i ys H' => ∃ (ps : List Addr) (ns : List (Str × Rl)), Same H1 H' ∧ H' L = some (.lst ys) ∧ ys = ps.map V.ref ∧ ps.length = i ∧ ns.length = i ∧ LinesAre ((linesP y).take i) ns ∧ ∀ (j : Nat) p n, ps[j]? = some p → ns[j]? = some n → FreshN H1 H' L p n.1 n.2) ⟨[], [], same_new hL _, upd_same, rfl, rfl, rfl, .nil, fun j p n e => by simp at e⟩ (fun i ys H' _ h => by obtain ⟨_, _, sm, _⟩ := h; exact SqL.of (sm _ _ e1)) ?_ ?_
 ·rintro i ys H' v hv hi ⟨ps, ns, sm, hl, rfl, hpl, hnl, hla, hps⟩
  rw [List.length_map] at hi
  have hli := List.getElem?_eq_getElem hi
  have hlm := List.getElem_mem hi
  rw [List.getElem?_map, hli] at hv
  cases hv
  generalize (linesP y)[i] = t at hli hlm
  have htl := hll.2 t hlm
  walk_at "rd1"
  refine ⟨t, rfl, by omega, fun n p a H2 hn s2 hp hp2 hF => ?_, fun H2 hn s2 => no _ (fun ⟨ns, h⟩ => hn ((hLI ns h).2 t hlm)) ((s1.trans sm).trans s2)⟩
  obtain ⟨pw, pr, as, g1, g2, g3, g4, g5, g6, g7, g8⟩ := hF
  have new : FreshN H1 H2 L p n.1 n.2 := ⟨a, pw, pr, as, hp2, g1, g2, g3, sm.free g5, (ne_of_none hl g5).symm, (ne_of_none hl g4).symm, fun x hx => (ne_of_none hl (g7 x hx).1).symm⟩
  have hl2 := s2 _ _ hl
  refine cstep (by rw [List.length_map]; exact hi) (by rw [List.length_map]; exact hpl) (by rw [List.length_map]; exact smallL (by omega)) hl2 ⟨ps ++ [p], ns ++ [n], (sm.trans s2).upd hL _, upd_same, map_push _ _, by simp [hpl], by simp [hnl], ?_, fun j p' n' e1 e2 => ?_⟩
  ·rw [List.take_add_one, hli]; exact hla.snoc hn
  ·rcases Nat.lt_or_ge j ps.length with hj | hj
   ·rw [List.getElem?_append_left hj] at e1
    rw [List.getElem?_append_left (by omega)] at e2
    exact ((hps j p' n' e1 e2).mono s2).put hl2 _
   ·rw [List.getElem?_append_right hj] at e1
    rw [List.getElem?_append_right (by omega)] at e2
    have hj0 : j - ps.length = 0 := by
     have := (List.getElem?_eq_some_iff.mp e1).1
     simp at this; omega
    have hj1 : j - ns.length = 0 := by omega
    rw [hj0] at e1
    rw [hj1] at e2
    cases e1
    cases e2
    exact new.put hl2 _
 rintro ys H2 ⟨ps, ns, sm, hl, rfl, hpl, hnl, hla, hps⟩
 rw [List.length_map] at hpl hnl hla
 rw [List.take_length] at hla
 walk_at "nx"
 refine ⟨⟨_, SqL.of hl⟩, fun D hD => ?_⟩
 refine compW_list (xs := ps.map V.ref) (fun i ys H' => Same H2 H' ∧ H' D = some (.lst ys) ∧ ys = ((ns.map (·.1)).take i).map V.str) ⟨same_new hD _, upd_same, rfl⟩ (fun i ys H' _ h => SqL.of (h.1 _ _ hl)) ?_ ?_
 ·rintro i ys H' v hv hi ⟨s3, hd, rfl⟩
  rw [List.length_map] at hi
  rw [List.getElem?_map, List.getElem?_eq_getElem hi] at hv
  cases hv
  have hi' : i < ns.length := by omega
  obtain ⟨a, g1, _⟩ := (hps i _ _ (List.getElem?_eq_getElem hi) (List.getElem?_eq_getElem hi')).at
  walk_at "rd1"
  refine ⟨_, _, .inr (SqT.of (s3 _ _ g1)), rfl, ?_⟩
  exact cstep (by rw [List.length_map]; exact hi) (by rw [List.length_map, List.length_take, List.length_map]; omega) (by rw [List.length_map]; exact smallL (by omega)) hd ⟨s3.upd hD _, upd_same, by rw [List.take_add_one, List.getElem?_map, List.getElem?_eq_getElem hi', List.map_append]; rfl⟩
 rintro ys H3 ⟨s3, hd, rfl⟩
 rw [List.length_map, hpl, List.take_of_length_le (by rw [List.length_map]; omega)] at hd
 refine ⟨D, ns.map (·.1), rfl, SqL.of hd, by rw [List.length_map]; omega, fun st ds hst hnd hmem hle => ?_⟩
 have hdl := nodup_len hnd hmem
 rw [List.length_map] at hdl
 have s4 := same_new hst (setOT w st ds)
 refine ⟨st, ds, rfl, upd_same, _, .inl (SqL.of (s4 _ _ (s3 _ _ hl))), ?_⟩
 rw [List.length_map, hpl]
 have s24 := s3.trans s4
 walk_at "rd1"
 refine ite2 (fun c => ?_) (fun c => ?_)
 ·rw [tRaise_at]
  walk_at "rd1"
  refine ⟨by decide, no _ (fun ⟨ns', h⟩ => ?_) ((s1.trans sm).trans s24)⟩
  have e := h.2.1.uniq hla
  have nd := h.2.2
  rw [e] at nd
  have := ((List.perm_ext_iff_of_nodup hnd nd).mpr hmem).length_eq
  rw [List.length_map] at this
  omega
 ·walk_at "nx"
  refine q ns L _ ⟨n8, hla, hdl.2 (by omega)⟩ ((s1.trans sm).trans s24) ⟨ps, s24 _ _ hl, by omega, fun i p n e1 e2 => ((hps i p n e1 e2).at).mono s24⟩
end
theorem two {c1 c2 A B N X : Prop} [Decidable c1] [Decidable c2] (a : A) (b : B) (n : c1 → c2 → N) (x : ¬ c1 ∨ ¬ c2 → X) : A ∧ if c1 then B ∧ (if c2 then N else X) else X :=
 ⟨a, ite2 (fun h1 => ⟨b, ite2 (fun h2 => n h1 h2) (fun h2 => x (.inr h2))⟩) (fun h1 => x (.inl h1))⟩
section
variable {P : Program} {w : World} {K : PySem.W.Frag} {mg : Str → Option Value} {base : Heap}
def spWordL : Sp := fun vs H Q _ => ∃ y : Str, vs = [.str y] ∧ y.length ≤ 100000 ∧ Q (.bl (wordS y)) H
theorem ok_lword (D : DefAt K mg "_law_word" s_law_word) (z_len : mg "len" = none) : Cal P w K mg base 1 "_law_word" ["_law_text"] spWordL := by
 refine D.cal (k := 0) sc_law_word (fun _ _ _ _ _ _ us hl => match us, hl with | [_], _ => rfl) (fun vs H Q E h => by obtain ⟨y, rfl, _⟩ := h; rfl) (fun f cdv A outer sh H vs Q E hr h => ?_)
 obtain ⟨y, rfl, hy, q⟩ := h
 refine ⟨_, (pss_cons (ps_if (PW.pt' (pw_or (pt_cmpR op_ltA (pe_blt (call_lenK K) z_len bt_len (pa_cons (pv 0 (hv := vz1f)) pa_nil) (hg := gz1u)) pe_int (nomark _)) (pw_or1 (pt_cmpR op_gt (pe_blt (call_lenK K) z_len bt_len (pa_cons (pv 0 (hv := vz1f)) pa_nil) (hg := gz1u)) pe_int (nomark _))))) (pss_one (ps_ret pe_bl)) pss_nil)
   (pss_cons (ps_for PassesOwn.never rfl (pi_str (pv 0 (hv := vz1f))) (pg_let 1 sc_law_word.nd (hx := lzf)) (pss_one (ps_if (pt_cmpR (op_notInK K) (pv 1 (hv := vz1g)) pe_str (by with_unfolding_all rfl)) (pss_one (ps_ret pe_bl)) pss_nil)))
   (pss_one (ps_ret pe_bl)))), ?_⟩
 have no : ¬ (1 ≤ y.length ∧ y.length ≤ 8) → wordS y = false := fun c => by unfold wordS; rw [decide_eq_false c]; rfl
 walk_at "rd1"
 refine ⟨smallL (by omega), ite2 (fun c => ?_) (fun c1 => ⟨smallL (by omega), ite2 (fun c => ?_) (fun c2 => ?_)⟩)⟩
 ·rw [no (by omega)] at q; exact q
 ·rw [no (by omega)] at q; exact q
 walk_at "nx"
 refine forW_str (fun k σ H2 => ∃ o1 : Option V, σ = [some (.str y), o1] ∧ H2 = H ∧ (y.cps.toList.take k).all (fun c => decide (c ∈ letters.cps.toList)) = true) ⟨none, rfl, rfl, rfl⟩ ?_ ?_
 ·rintro k ch σ H2 hc ⟨o1, rfl, rfl, hall⟩
  have hc' : y.cps.toList[k]? = some ch := by simpa using hc
  walk_at "rd1"
  rw [StrLaws.found_one]
  by_cases hm : ch ∈ letters.cps.toList
  ·rw [decide_eq_true hm]
   refine ite2 (fun c => absurd c (by decide)) (fun _ => ?_)
   refine ⟨_, rfl, ?_⟩
   rw [List.take_add_one, hc', List.all_append, hall]
   simpa using hm
  ·rw [decide_eq_false hm]
   refine ite2 (fun _ => ?_) (fun c => absurd rfl c)
   have hf : wordS y = false := Bool.eq_false_iff.mpr fun z => hm ((wordS_clean z).2 ch (List.mem_of_getElem? hc'))
   rw [hf] at q; exact q
 ·rintro σ H2 ⟨o1, rfl, rfl, hall⟩
  rw [List.take_of_length_le (by simp [Str.length])] at hall
  have ht : wordS y = true := by unfold wordS; rw [decide_eq_true ⟨by omega, by omega⟩, hall]; rfl
  walk_at "nx"
  rw [ht] at q; exact q
theorem dig1 : ∀ c : Nat, c < 58 → 48 ≤ c → T (toString ((c - 48 : Nat) : Int)) = [c] := by decide +kernel
theorem dig2 : ∀ c : Nat, c < 58 → 49 ≤ c → ∀ d : Nat, d < 58 → 48 ≤ d → T (toString (((c - 48) * 10 + (d - 48) : Nat) : Int)) = [c, d] := by decide +kernel
theorem num_lead : ∀ k : Nat, k < 100 → (T (toString (k : Int))).length = 2 → (T (toString (k : Int)))[0]? ≠ some 48 := by decide +kernel
def NumIs (m : Nat) (y : Str) (k : Nat) : Prop := k < m ∧ k < 100 ∧ T y = T (toString (k : Int))
theorem figs_all {y : Str} (h : figs y = true) : ∀ c ∈ T y, 48 ≤ c ∧ c < 58 := fun c hc => by
 have h' : c ∈ (Str.ofString "0123456789").cps.toList := by simpa using List.all_eq_true.mp h c hc
 have e : (Str.ofString "0123456789").cps.toList = [48, 49, 50, 51, 52, 53, 54, 55, 56, 57] := by decide +kernel
 rw [e] at h'
 simp only [List.mem_cons, List.not_mem_nil, or_false] at h'
 omega
theorem num_tx {y : Str} (hf : figs y = true) (h1 : 1 ≤ y.length) (h2 : y.length ≤ 2) (h0 : ¬ ((T y)[0]? = some 48 ∧ 1 < y.length)) : valT (T y) < 100 ∧ T y = T (toString ((valT (T y) : Nat) : Int)) := by
 have ha := figs_all hf
 rw [← T_len] at h1 h2 h0
 generalize T y = p at ha h1 h2 h0 ⊢
 match p, h1, h2, h0, ha with
 | [c], _, _, _, ha =>
  have hc := ha c List.mem_cons_self
  have e := dig1 c hc.2 hc.1
  refine ⟨by show 0 * 10 + (c - 48) < 100; omega, ?_⟩
  have : valT [c] = c - 48 := by show 0 * 10 + (c - 48) = _; omega
  rw [this, e]
 | [c, d], _, _, h0, ha =>
  have hc := ha c List.mem_cons_self
  have hd := ha d (List.mem_cons_of_mem _ List.mem_cons_self)
  have hc49 : 49 ≤ c := by
   rcases Nat.lt_or_ge 48 c with z | z
   ·exact z
   ·exact absurd ⟨by simp; omega, by simp⟩ h0
  have e := dig2 c hc.2 hc49 d hd.2 hd.1
  have : valT [c, d] = (c - 48) * 10 + (d - 48) := by show (0 * 10 + (c - 48)) * 10 + (d - 48) = _; omega
  exact ⟨by rw [this]; omega, by rw [this, e]⟩
def spNumM : Sp := fun vs H Q _ => ∃ (y : Str) (m : Nat), vs = [.str y, .int (m : Int)] ∧ y.length ≤ 100000 ∧ (∀ k : Nat, NumIs m y k → Q (.int (k : Int)) H) ∧ ((¬ ∃ k, NumIs m y k) → Q (.int (-1)) H)
theorem ok_lnum (D : DefAt K mg "_law_number" s_law_number) (z_len : mg "len" = none) (z_int : mg "int" = none) : Cal P w K mg base 1 "_law_number" ["_law_text", "_law_most"] spNumM := by
 refine D.cal (k := 0) sc_law_number (fun _ _ _ _ _ _ us hl => match us, hl with | [_, _], _ => rfl) (fun vs H Q E h => by obtain ⟨y, m, rfl, _⟩ := h; rfl) (fun f cdv A outer sh H vs Q E hr h => ?_)
 obtain ⟨y, m, rfl, hy, q, no⟩ := h
 refine ⟨_, (pss_cons (ps_if (PW.pt' (pw_or (pt_cmpR op_eqA (pv 0 (hv := vz1h)) pe_str (nomark _)) (pw_or (pt_cmpR op_gt (pe_blt (call_lenK K) z_len bt_len (pa_cons (pv 0 (hv := vz1h)) pa_nil) (hg := gz1w)) pe_int (nomark _)) (pw_or1 (PW.pt' (pw_and (pt_cmpR op_eqA (pe_ix (ix_K K) (pv 0 (hv := vz1h)) pe_int (fun _ _ => rfl)) pe_str (nomark _)) (pw_and1 (pt_cmpR op_gt (pe_blt (call_lenK K) z_len bt_len (pa_cons (pv 0 (hv := vz1h)) pa_nil) (hg := gz1w)) pe_int (nomark _))))))))) (pss_one (ps_ret (pe_un un_neg pe_int))) pss_nil)
   (pss_cons (ps_for PassesOwn.never rfl (pi_str (pv 0 (hv := vz1h))) (pg_let 2 sc_law_number.nd (hx := lzg)) (pss_one (ps_if (pt_cmpR (op_notInK K) (pv 2 (hv := vz1j)) pe_str (by with_unfolding_all rfl)) (pss_one (ps_ret (pe_un un_neg pe_int))) pss_nil)))
   (pss_cons (ps_if (pt_cmpR op_ge (pe_bty call_intT z_int bt_int (pa_cons (pv 0 (hv := vz1h)) pa_nil) (hg := gz1v)) (pv 1 (hv := vz1i)) (nomark _)) (pss_one (ps_ret (pe_un un_neg pe_int))) pss_nil)
   (pss_one (ps_ret (pe_bty call_intT z_int bt_int (pa_cons (pv 0 (hv := vz1h)) pa_nil) (hg := gz1v))))))), ?_⟩
 have l0 : (Str.ofString "").length = 0 := by decide +kernel
 have hgood : ∀ k, NumIs m y k → 1 ≤ y.length ∧ y.length ≤ 2 ∧ figs y = true ∧ ¬ ((T y)[0]? = some 48 ∧ 1 < y.length) ∧ valT (T y) = k := fun k hk => by
  obtain ⟨g1, g2, g3⟩ := num_facts k hk.2.1
  have e := hk.2.2
  rw [← e, T_len] at g1 g2
  rw [← e] at g3
  refine ⟨g1, g2, g3, fun ⟨z1, z2⟩ => ?_, by rw [e, num_val k hk.2.1]⟩
  refine num_lead k hk.2.1 (by rw [← e, T_len]; omega) (by rw [← e]; exact z1)
 walk_at "rd1"
 refine ite2 (fun c => no fun ⟨k, hk⟩ => by have := (hgood k hk).1; rw [c, l0] at this; omega) (fun c => ?_)
 have h1 : 1 ≤ y.length := by
  rcases Nat.eq_zero_or_pos y.length with z | z
  ·exact absurd (T_inj (List.length_eq_zero_iff.mp (by rw [T_len]; exact z) |>.trans rfl)) c
  ·exact z
 refine ⟨smallL (by omega), ite2 (fun c2 => no fun ⟨k, hk⟩ => by have := (hgood k hk).2.1; omega) (fun c2 => ?_)⟩
 have hl : y.cps.toList.length = y.length := T_len _
 obtain ⟨c0, hc0⟩ : ∃ c0, y.cps.toList[0]? = some c0 := ⟨y.cps.toList[0], List.getElem?_eq_getElem (by omega)⟩
 have hT0 : (T y)[0]? = some c0 := hc0
 have ec : (⟨#[c0]⟩ : Str) = Str.ofString "0" ↔ c0 = 48 := by
  constructor
  ·intro h
   have := congrArg T h
   have e0 : T (Str.ofString "0") = [48] := by decide +kernel
   rw [e0] at this
   have : [c0] = [48] := this
   simpa using this
  ·rintro rfl; decide +kernel
 refine ⟨c0, smallL (by omega), atI_nat (j := 0) hc0, (two (A := True) trivial (smallL (by omega)) (fun e1 e2 => no fun ⟨k, hk⟩ => (hgood k hk).2.2.2.1 ⟨by rw [hT0, ec.mp e1], by omega⟩) (fun hcase => ?_)).2⟩
 have h0 : ¬ ((T y)[0]? = some 48 ∧ 1 < y.length) := fun ⟨z1, z2⟩ => by
  rcases hcase with z | z
  ·exact z (ec.mpr (by rw [hT0] at z1; exact Option.some.inj z1))
  ·exact z (by omega)
 walk_at "nx"
 refine forW_str (fun i σ H' => ∃ o1 : Option V, σ = [some (.str y), some (.int (m : Int)), o1] ∧ H' = H ∧ (y.cps.toList.take i).all (fun c => decide (c ∈ (Str.ofString "0123456789").cps.toList)) = true) ⟨none, rfl, rfl, rfl⟩ ?_ ?_
 ·rintro i c σ H' hc ⟨o1, rfl, rfl, hall⟩
  have hc' : y.cps.toList[i]? = some c := by simpa using hc
  walk_at "rd1"
  rw [StrLaws.found_one]
  by_cases hm : c ∈ (Str.ofString "0123456789").cps.toList
  ·rw [decide_eq_true hm]
   refine ite2 (fun c => absurd c (by decide)) (fun _ => ?_)
   refine ⟨_, rfl, ?_⟩
   rw [List.take_add_one, hc', List.all_append, hall]
   simpa using hm
  ·rw [decide_eq_false hm]
   refine ite2 (fun _ => ?_) (fun c => absurd rfl c)
   refine no fun ⟨k, hk⟩ => ?_
   have := List.all_eq_true.mp (hgood k hk).2.2.1 c (List.mem_of_getElem? hc')
   exact hm (by simpa using this)
 ·rintro σ H' ⟨o1, rfl, rfl, hall⟩
  rw [List.take_of_length_le (by simp [Str.length])] at hall
  obtain ⟨v1, v2⟩ := num_tx hall h1 (by omega) h0
  walk_at "nx"
  refine ⟨y, _, rfl, figs_int hall h1 (by omega), by omega, ?_⟩
  walk_at "rd1"
  refine ite2 (fun c3 => no fun ⟨k, hk⟩ => by have := (hgood k hk).2.2.2.2; have := hk.1; omega) (fun c3 => ?_)
  walk_at "nx"
  exact ⟨y, _, rfl, figs_int hall h1 (by omega), by omega, q _ ⟨by omega, v1, v2⟩⟩
theorem slice_lone {x : Str} (h : 1 ≤ x.length) : T (Txt.slice x (some (-1)) none) = (T x).drop (x.length - 1) := by
 have e : Builtin.Str.strSliceIndices (some (-1)) none 1 x.length = Builtin.Str.strSliceIndices (some ((x.length - 1 : Nat) : Int)) none 1 x.length := by
  have h1 : ¬ (((x.length - 1 : Nat) : Int) < 0) := by omega
  simp only [Builtin.Str.strSliceIndices, h1, if_false, show ((-1 : Int) < 0) = True from by simp, if_true]
  rw [show (-1 : Int) + (x.length : Int) = ((x.length - 1 : Nat) : Int) by omega]
 have := slice_T (x := x) (lo := some (-1)) (hi := none) (a := x.length - 1) (b := x.length) (by omega) (Nat.le_refl _) (by rw [e, StrLaws.sliceIdx_none_hi]; exact StrLaws.strSliceIndices_plain (by omega) (Nat.le_refl _))
 rw [this, List.take_of_length_le (by rw [List.length_drop, T_len]; omega)]
theorem part_tx {x y : Str} {c : Nat} (hy : y.cps.toList = [c]) (hm : (Txt.partition x y).2.1 ≠ Str.ofString "") : T x = T (Txt.partition x y).1 ++ [c] ++ T (Txt.partition x y).2.2 := by
 unfold Txt.partition at hm ⊢
 rcases PySem.StrLaws.occ_head x y 1 (Nat.le_refl 1) with ⟨h0, hn⟩ | ⟨i, rr, h0, ha, hn⟩
 ·rw [h0] at hm; exact absurd (show Str.empty = Str.ofString "" from by decide +kernel) hm
 ·rw [h0]
  have hl : y.length = 1 := by show y.cps.size = 1; rw [← Array.length_toList, hy]; rfl
  have hi : x.cps.toList[i]? = some c := at_head hy ha
  have hil : i < x.cps.toList.length := (List.getElem?_eq_some_iff.mp hi).1
  have hxl : x.cps.toList.length = x.length := T_len _
  show T x = (Builtin.Str.strSub x 0 i).cps.toList ++ [c] ++ (Builtin.Str.strSub x (i + y.length) x.length).cps.toList
  rw [PySem.StrLaws.strSub_toList, PySem.StrLaws.strSub_toList, hl, List.drop_zero, Nat.sub_zero, List.take_of_length_le (l := x.cps.toList.drop (i + 1)) (by rw [List.length_drop]; omega)]
  have e : x.cps.toList[i] = c := by rw [List.getElem?_eq_getElem hil] at hi; exact Option.some.inj hi
  rw [← e, List.append_assoc, List.singleton_append, ← List.drop_eq_getElem_cons hil, List.take_append_drop]
  rfl
def MoveIs (m : Nat) (y : Str) (p : Str × Option Nat) : Prop := wordS p.1 = true ∧ T y = wayT (T p.1) p.2 ∧ ∀ k, p.2 = some k → k < m ∧ k < 100
theorem wordS_cl {u : Str} (h : wordS u = true) : Clean u := fun c hc => let_clean ((wordS_clean h).2 c hc)
theorem MoveIs.uniq {m : Nat} {y : Str} {p p' : Str × Option Nat} (h : MoveIs m y p) (h' : MoveIs m y p') : p = p' := by
 have := wayT_inj (wordS_cl h.1) (wordS_cl h'.1) (fun k hk => (h.2.2 k hk).2) (fun k hk => (h'.2.2 k hk).2) (h.2.1.symm.trans h'.2.1)
 obtain ⟨a, b⟩ := p
 obtain ⟨a', b'⟩ := p'
 rw [show a = a' from this.1, show b = b' from this.2]
def spMove : Sp := fun vs H Q _ => ∃ (y : Str) (m : Nat), vs = [.str y, .int (m : Int)] ∧ y.length ≤ 100000 ∧ (∀ p t H', MoveIs m y p → Same H H' → H t = none → H' t = some (.tup [.str p.1, wayV p.2]) → Q (.ref t) H') ∧ (∀ H', (¬ ∃ p, MoveIs m y p) → Same H H' → Q .non H')
theorem ok_move (D : DefAt K mg "_law_move" s_law_move) (c_law_word : Cal P w K mg base 1 "_law_word" ["_law_text"] spWordL) (c_law_number : Cal P w K mg base 1 "_law_number" ["_law_text", "_law_most"] spNumM) : Cal P w K mg base 2 "_law_move" ["_law_text", "_law_most"] spMove := by
 refine D.cal (k := 1) sc_law_move (fun _ _ _ _ _ _ us hl => match us, hl with | [_, _], _ => rfl) (fun vs H Q E h => by obtain ⟨y, m, rfl, _⟩ := h; rfl) (fun f cdv A outer sh H vs Q E hr h => ?_)
 obtain ⟨y, m, rfl, hy, q, no⟩ := h
 refine ⟨_, (pss_cons (ps_if (PW.pt' (pw_and (pt_cmpR op_eqA (pe_slice sl_str (pv 0 (hv := vz1k)) (po_some (pe_un un_neg pe_int)) po_none) pe_str (nomark _)) (pw_and1 (pt_val (pe_cal c_law_word hr (pa_cons (pe_slice sl_str (pv 0 (hv := vz1k)) po_none (po_some (pe_un un_neg pe_int))) pa_nil) (hg := gz1y)))))) (pss_one (ps_ret (pe_tup (pa_cons (pe_slice sl_str (pv 0 (hv := vz1k)) po_none (po_some (pe_un un_neg pe_int))) (pa_cons pe_non pa_nil))))) pss_nil)
   (pss_cons (ps_asg (pe_bmK K PySem.F.plainAttrs_str PySem.F.slot_str_partition PySem.F.type_str_partition mt_partition (pv 0 (hv := vz1k)) (pa_cons pe_str pa_nil)) (pg_tupK K (n := 3) (pgs_cons (pg_let 2 sc_law_move.nd (hx := lzh)) (pgs_cons (pg_let 3 sc_law_move.nd (hx := lzi)) (pgs_cons (pg_let 4 sc_law_move.nd (hx := lzj)) pgs_nil)))))
   (pss_cons (ps_if (PW.pt' (pw_or (pt_cmpR op_eqA (pv 3 (hv := vz1n)) pe_str (nomark _)) (pw_or (pt_not (pt_val (pe_cal c_law_word hr (pa_cons (pv 2 (hv := vz1m)) pa_nil) (hg := gz1y)))) (pw_or1 (pt_cmpR op_ltA (pe_cal c_law_number hr (pa_cons (pv 4 (hv := vz1o)) (pa_cons (pv 1 (hv := vz1l)) pa_nil)) (hg := gz1x)) pe_int (nomark _)))))) (pss_one (ps_ret pe_non)) pss_nil)
   (pss_one (ps_ret (pe_tup (pa_cons (pv 2 (hv := vz1m)) (pa_cons (pe_cal c_law_number hr (pa_cons (pv 4 (hv := vz1o)) (pa_cons (pv 1 (hv := vz1l)) pa_nil)) (hg := gz1x)) pa_nil)))))))), ?_⟩
 have eg : (Str.ofString ">").cps.toList = [62] := by decide +kernel
 have hne : Str.ofString ">" ≠ Str.ofString "" := by decide +kernel
 have hpl := part_len y (Str.ofString ">")
 have hsl := Txt.slice_le y none (some (-1))
 have hgood : ∀ p, MoveIs m y p → (p.2 = none ∧ Txt.slice y (some (-1)) none = Str.ofString "!" ∧ Txt.slice y none (some (-1)) = p.1) ∨ ∃ k, p.2 = some k ∧ Txt.partition y (Str.ofString ">") = (p.1, Str.ofString ">", Str.ofString (toString (k : Int))) := fun p hp => by
  obtain ⟨u, o⟩ := p
  cases o with
  | none =>
   have hy' : T y = T u ++ [33] := hp.2.1
   have hyl : y.length = u.length + 1 := by rw [← T_len, hy', List.length_append, T_len]; rfl
   refine .inl ⟨rfl, T_inj ?_, T_inj ?_⟩
   ·rw [slice_lone (by omega), hy', hyl, Nat.add_sub_cancel, ← T_len, List.drop_left]; decide +kernel
   ·rw [slice_last (by omega), hy', hyl, Nat.add_sub_cancel, ← T_len, List.take_left]
  | some k =>
   have hy' : T y = T u ++ [62] ++ T (toString (k : Int)) := hp.2.1
   exact .inr ⟨k, rfl, part_of eg (by rw [eg]; show T y = T u ++ ([62] ++ T _); rw [hy', List.append_assoc]) (fun z => (wordS_cl hp.1 _ z).2.2.2.2 rfl)⟩
 walk_at "rd1"
 by_cases hb : Txt.slice y (some (-1)) none = Str.ofString "!" ∧ wordS (Txt.slice y none (some (-1))) = true
 ·have h1 : 1 ≤ y.length := by
   rcases Nat.eq_zero_or_pos y.length with z | z
   ·have hl := Txt.slice_le y (some (-1)) none
    rw [hb.1, z] at hl
    exact absurd hl (by decide +kernel)
   ·exact z
  refine ⟨smallL (by omega), ite2 (fun _ => ⟨smallL (by omega), _, rfl, by omega, _, rfl, ?_⟩) (fun c => absurd hb.1 c)⟩
  rw [hb.2]
  refine ite2 (fun _ => ⟨smallL (by omega), by decide, fun t ht => ?_⟩) (fun c => absurd rfl c)
  refine q (Txt.slice y none (some (-1)), none) t _ ⟨hb.2, ?_, fun k e => by cases e⟩ (same_new ht _) ht upd_same
  show T y = T _ ++ [33]
  have e2 := slice_lone h1
  rw [hb.1] at e2
  have e3 : T (Str.ofString "!") = [33] := by decide +kernel
  rw [← e3, e2, slice_last h1, List.take_append_drop]
 ·by_cases hb1 : Txt.slice y (some (-1)) none = Str.ofString "!"
  ·have hw0 : wordS (Txt.slice y none (some (-1))) = false := Bool.eq_false_iff.mpr fun z => hb ⟨hb1, z⟩
   refine ⟨smallL (by omega), ite2 (fun _ => ⟨smallL (by omega), _, rfl, by omega, _, rfl, ?_⟩) (fun c => absurd hb1 c)⟩
   rw [hw0]
   refine ite2 (fun c => absurd c (by decide)) (fun _ => ?_)
   walk_at "nx"
   refine ⟨by decide +kernel, by omega, fun tp htp => ?_⟩
   generalize hH1 : upd H tp _ = H1
   have s1 := al_same hH1 htp
   have e1 := al_at hH1
   refine ⟨_, _, rfl, SqT.of e1, rfl, _, _, rfl, _, _, rfl, _, _, rfl, rfl, ?_⟩
   walk_at "nx"
   by_cases hm : (Txt.partition y (Str.ofString ">")).2.1 = Str.ofString ""
   ·refine ite2 (fun _ => no _ (fun ⟨p, hp⟩ => ?_) s1) (fun c => absurd hm c)
    rcases hgood p hp with ⟨_, z2, z3⟩ | ⟨k, _, z2⟩
    ·exact hb ⟨z2, z3 ▸ hp.1⟩
    ·rw [z2] at hm; exact absurd hm hne
   refine ite2 (fun c => absurd c hm) (fun _ => ?_)
   refine ⟨_, rfl, by omega, _, rfl, ?_⟩
   cases hw : wordS (Txt.partition y (Str.ofString ">")).1 with
   | false =>
    refine ite2 (fun _ => no _ (fun ⟨p, hp⟩ => ?_) s1) (fun c => absurd rfl c)
    rcases hgood p hp with ⟨_, z2, z3⟩ | ⟨k, _, z2⟩
    ·exact hb ⟨z2, z3 ▸ hp.1⟩
    ·rw [z2, hp.1] at hw; cases hw
   | true =>
    refine ite2 (fun c => absurd c (by decide)) (fun _ => ?_)
    refine ⟨_, m, rfl, by omega, fun k hk => ?_, fun hn => ?_⟩
    ·walk_at "rd1"
     refine ite2 (fun c => absurd c (by omega)) (fun _ => ?_)
     walk_at "nx"
     refine ⟨_, m, rfl, by omega, fun k' hk' => ⟨by decide, fun t ht => ?_⟩, fun hn => absurd ⟨k, hk⟩ hn⟩
     refine q ((Txt.partition y (Str.ofString ">")).1, some k') t _ ⟨hw, ?_, fun k2 e => by cases e; exact ⟨hk'.1, hk'.2.1⟩⟩ (s1.trans (same_new ht _)) (s1.free ht) upd_same
     show T y = T (Txt.partition y (Str.ofString ">")).1 ++ [62] ++ T (toString (k' : Int))
     rw [← hk'.2.2]
     exact part_tx eg hm
    ·walk_at "rd1"
     refine ite2 (fun _ => no _ (fun ⟨p, hp⟩ => ?_) s1) (fun c => absurd (by decide) c)
     rcases hgood p hp with ⟨_, z2, z3⟩ | ⟨k, z1, z2⟩
     ·exact hb ⟨z2, z3 ▸ hp.1⟩
     ·refine hn ⟨k, (hp.2.2 k z1).1, (hp.2.2 k z1).2, ?_⟩
      rw [z2]
  ·refine ⟨smallL (by omega), ite2 (fun c => absurd c hb1) (fun _ => ?_)⟩
   walk_at "nx"
   refine ⟨by decide +kernel, by omega, fun tp htp => ?_⟩
   generalize hH1 : upd H tp _ = H1
   have s1 := al_same hH1 htp
   have e1 := al_at hH1
   refine ⟨_, _, rfl, SqT.of e1, rfl, _, _, rfl, _, _, rfl, _, _, rfl, rfl, ?_⟩
   walk_at "nx"
   by_cases hm : (Txt.partition y (Str.ofString ">")).2.1 = Str.ofString ""
   ·refine ite2 (fun _ => no _ (fun ⟨p, hp⟩ => ?_) s1) (fun c => absurd hm c)
    rcases hgood p hp with ⟨_, z2, z3⟩ | ⟨k, _, z2⟩
    ·exact hb ⟨z2, z3 ▸ hp.1⟩
    ·rw [z2] at hm; exact absurd hm hne
   refine ite2 (fun c => absurd c hm) (fun _ => ?_)
   refine ⟨_, rfl, by omega, _, rfl, ?_⟩
   cases hw : wordS (Txt.partition y (Str.ofString ">")).1 with
   | false =>
    refine ite2 (fun _ => no _ (fun ⟨p, hp⟩ => ?_) s1) (fun c => absurd rfl c)
    rcases hgood p hp with ⟨_, z2, z3⟩ | ⟨k, _, z2⟩
    ·exact hb ⟨z2, z3 ▸ hp.1⟩
    ·rw [z2, hp.1] at hw; cases hw
   | true =>
    refine ite2 (fun c => absurd c (by decide)) (fun _ => ?_)
    refine ⟨_, m, rfl, by omega, fun k hk => ?_, fun hn => ?_⟩
    ·walk_at "rd1"
     refine ite2 (fun c => absurd c (by omega)) (fun _ => ?_)
     walk_at "nx"
     refine ⟨_, m, rfl, by omega, fun k' hk' => ⟨by decide, fun t ht => ?_⟩, fun hn => absurd ⟨k, hk⟩ hn⟩
     refine q ((Txt.partition y (Str.ofString ">")).1, some k') t _ ⟨hw, ?_, fun k2 e => by cases e; exact ⟨hk'.1, hk'.2.1⟩⟩ (s1.trans (same_new ht _)) (s1.free ht) upd_same
     show T y = T (Txt.partition y (Str.ofString ">")).1 ++ [62] ++ T (toString (k' : Int))
     rw [← hk'.2.2]
     exact part_tx eg hm
    ·walk_at "rd1"
     refine ite2 (fun _ => no _ (fun ⟨p, hp⟩ => ?_) s1) (fun c => absurd (by decide) c)
     rcases hgood p hp with ⟨_, z2, z3⟩ | ⟨k, z1, z2⟩
     ·exact hb ⟨z2, z3 ▸ hp.1⟩
     ·refine hn ⟨k, (hp.2.2 k z1).1, (hp.2.2 k z1).2, ?_⟩
      rw [z2]
end
def RoomIs (m : Nat) (y : Str) (ps : List (Str × Option Nat)) : Prop := T y = roomT (ps.map (·.1)) (ps.map (·.2)) ∧ ∀ p ∈ ps, wordS p.1 = true ∧ ∀ k, p.2 = some k → k < m ∧ k < 100
theorem parts_of_map : ∀ ps : List (Str × Option Nat), partsT (ps.map (·.1)) (ps.map (·.2)) = ps.map fun p => wayT (T p.1) p.2
 | [] => rfl
 | p :: ps => by
  show wayT (T p.1) p.2 :: partsT (ps.map (·.1)) (ps.map (·.2)) = _
  rw [parts_of_map ps]; rfl
theorem RoomIs.ok {m : Nat} {y : Str} {ps : List (Str × Option Nat)} (h : RoomIs m y ps) (hn : ps.length ≤ 1000) : RoomOk (ps.map (·.1)) (ps.map (·.2)) := by
 refine ⟨by rw [List.length_map, List.length_map], by rw [List.length_map]; exact hn, fun u hu => ?_, fun k hk => ?_⟩
 ·obtain ⟨p, hp, rfl⟩ := List.mem_map.mp hu
  have := (h.2 p hp).1
  exact ⟨wordS_cl this, by have := (wordS_clean this).1; omega⟩
 ·obtain ⟨p, hp, e⟩ := List.mem_map.mp hk
  exact ((h.2 p hp).2 k e).2
theorem glue_nil_len : ∀ {ps : List (List Nat)}, ps.length ≤ (glue [32] ps).length + 1
 | [] => Nat.zero_le _
 | p :: ps => by
  have : ∀ qs : List (List Nat), qs.length ≤ (qs.flatMap ([32] ++ ·)).length := fun qs => by
   induction qs with
   | nil => simp
   | cons q qs ih => simp only [List.flatMap_cons, List.length_append, List.length_cons, List.length_nil]; omega
  have h := this ps
  show ps.length + 1 ≤ (p ++ ps.flatMap ([32] ++ ·)).length + 1
  rw [List.length_append]
  omega
theorem RoomIs.len {m : Nat} {y : Str} {ps : List (Str × Option Nat)} (h : RoomIs m y ps) : ps.length ≤ y.length + 1 := by
 have e := glue_nil_len (ps := partsT (ps.map (·.1)) (ps.map (·.2)))
 rw [parts_of_map, List.length_map] at e
 have e2 : (T y).length = _ := congrArg List.length h.1
 unfold roomT at e2
 rw [parts_of_map, T_len] at e2
 omega
theorem RoomIs.split {m : Nat} {y : Str} {ps : List (Str × Option Nat)} (h : RoomIs m y ps) (hy : y.length ≤ 900) : (ps = [] ↔ y = Str.ofString "") ∧ (ps ≠ [] → Txt.split y (Str.ofString " ") = ps.map fun p => strT (wayT (T p.1) p.2)) := by
 have hl := h.len
 have ok := h.ok (by omega)
 refine ⟨⟨fun e => ?_, fun e => ?_⟩, fun hne => ?_⟩
 ·refine T_inj (h.1.trans ?_)
  rw [e]; rfl
 ·by_cases hne : ps = []
  ·exact hne
  ·exfalso
   refine roomT_full ok (fun z => hne (List.map_eq_nil_iff.mp z)) ?_
   rw [← h.1, e]; rfl
 ·have e := room_split ok (fun z => hne (List.map_eq_nil_iff.mp z)) h.1
  rw [parts_of_map, List.map_map] at e
  exact e
theorem RoomIs.moves {m : Nat} {y : Str} {ps : List (Str × Option Nat)} (h : RoomIs m y ps) (hy : y.length ≤ 900) (hne : y ≠ Str.ofString "") : ∀ t ∈ Txt.split y (Str.ofString " "), ∃ p, MoveIs m t p := fun t ht => by
 obtain ⟨s1, s2⟩ := h.split hy
 rw [s2 (fun z => hne (s1.mp z))] at ht
 obtain ⟨p, hp, rfl⟩ := List.mem_map.mp ht
 exact ⟨p, (h.2 p hp).1, T_strT _, (h.2 p hp).2⟩
theorem room_by {m : Nat} {y : Str} (hne : y ≠ Str.ofString "") {ps : List (Str × Option Nat)} (hn : ps.length = (Txt.split y (Str.ofString " ")).length) (h : ∀ (i : Nat) t p, (Txt.split y (Str.ofString " "))[i]? = some t → ps[i]? = some p → MoveIs m t p) : RoomIs m y ps := by
 have e : Txt.split y (Str.ofString " ") = ps.map fun p => strT (wayT (T p.1) p.2) := by
  refine List.ext_getElem? fun i => ?_
  rw [List.getElem?_map]
  by_cases hi : i < ps.length
  ·rw [List.getElem?_eq_getElem hi, List.getElem?_eq_getElem (by omega)]
   have := h i _ _ (List.getElem?_eq_getElem (by omega)) (List.getElem?_eq_getElem hi)
   show some _ = some _
   congr 1
   exact T_inj (by rw [T_strT]; exact this.2.1)
  ·rw [List.getElem?_eq_none (by omega), List.getElem?_eq_none (by omega)]; rfl
 refine ⟨?_, fun p hp => ?_⟩
 ·have hj := PySem.StrLaws.join_split y (Str.ofString " ")
  have hj2 : Txt.join (Str.ofString " ") (Txt.split y (Str.ofString " ")) = y := (PySem.StrLaws.glued_eq_join _ _).trans hj
  rw [← hj2, join_T, e, List.map_map]
  unfold roomT
  rw [parts_of_map, show T (Str.ofString " ") = [32] by decide +kernel]
  congr 1
 ·obtain ⟨i, hi, rfl⟩ := List.mem_iff_getElem.mp hp
  have := h i _ _ (List.getElem?_eq_getElem (by omega)) (List.getElem?_eq_getElem hi)
  exact ⟨this.1, this.2.2⟩
theorem all_some {α : Type} : ∀ (os : List (Option α)), none ∉ os → ∃ xs : List α, os = xs.map some
 | [], _ => ⟨[], rfl⟩
 | none :: os, h => absurd List.mem_cons_self h
 | some x :: os, h => by
  obtain ⟨xs, e⟩ := all_some os (fun z => h (List.mem_cons_of_mem _ z))
  exact ⟨x :: xs, by rw [e]; rfl⟩
def spRoomL : Sp := fun vs H Q _ => ∃ (y : Str) (m : Nat), vs = [.str y, .int (m : Int)] ∧ y.length ≤ 900 ∧ (∀ ps l H', RoomIs m y ps → Same H H' → H l = none → PairsAt H' l ps → Q (.ref l) H') ∧ (∀ H', (¬ ∃ ps, RoomIs m y ps) → Same H H' → Q .non H')
section
variable {P : Program} {w : World} {K : PySem.W.Frag} {mg : Str → Option Value} {base : Heap}
theorem ok_room (D : DefAt K mg "_law_room" s_law_room) (c_law_move : Cal P w K mg base 2 "_law_move" ["_law_text", "_law_most"] spMove) : Cal P w K mg base 3 "_law_room" ["_law_text", "_law_most"] spRoomL := by
 refine D.cal (k := 2) sc_law_room (fun _ _ _ _ _ _ us hl => match us, hl with | [_, _], _ => rfl) (fun vs H Q E h => by obtain ⟨y, m, rfl, _⟩ := h; rfl) (fun f cdv A outer sh H vs Q E hr h => ?_)
 obtain ⟨y, m, rfl, hy, q, no⟩ := h
 refine ⟨_, (pss_cons (ps_if (pt_cmpR op_eqA (pv 0 (hv := vz1p)) pe_str (nomark _)) (pss_one (ps_ret (pe_lst pa_nil))) pss_nil)
   (pss_cons (ps_setcomp (CompSc.to (fsc := (defScope s_law_room)) (N := ["_law_text", "_law_most", "_law_moves"]) (N0 := ["_law_text", "_law_most", "_law_moves"]) (T := ["_law_part"]) ⟨by decide +kernel, by decide +kernel, by decide +kernel, by decide +kernel, by decide +kernel, by decide +kernel, by decide +kernel⟩ rfl rfl) rfl sc_law_room.nd (i := 2) rfl kz3 (pi_listK K (pe_bmK K PySem.F.plainAttrs_str PySem.F.slot_str_split PySem.F.type_str_split mt_split (pv 0 (hv := vz1p)) (pa_cons pe_str pa_nil))) (fun _ _ _ _ => (pg_let 3 (show (["_law_text", "_law_most", "_law_moves", "_law_part"] : List Str).Nodup from by decide +kernel) (hx := (locC (defScope s_law_room) (by decide +kernel))) (hf := fnC (defScope s_law_room) (by decide +kernel)))) (gfr_name (show (["_law_text", "_law_most", "_law_moves"] : List Str).length ≤ 3 from by decide)) (fun _ _ _ _ => pifs_nil) (fun _ _ _ _ => (pe_cal c_law_move hr (pa_cons (pv 3 (hv := (visC (defScope s_law_room) (by decide +kernel)))) (pa_cons (pv 1 (hv := (visC (defScope s_law_room) (by decide +kernel)))) pa_nil)) (hg := (glC (defScope s_law_room) (by decide +kernel))))))
   (pss_cons (ps_if (pt_cmpR (op_inN K hr) pe_non (pv 2 (hv := vz1q)) (by with_unfolding_all rfl)) (pss_one (ps_ret pe_non)) pss_nil)
   (pss_one (ps_ret (pv 2 (hv := vz1q))))))), ?_⟩
 walk_at "rd1"
 refine ite2 (fun c => ?_) (fun c => ?_)
 ·refine ⟨by decide, fun l hl => q [] l _ ⟨by rw [c]; rfl, fun p hp => by simp at hp⟩ (same_new hl _) hl ⟨[], upd_same, rfl, fun i a p e => by simp at e⟩⟩
 walk_at "nx"
 refine ⟨by decide +kernel, by omega, fun sp hsp => ?_⟩
 have hb := split_len (x := y) (y := Str.ofString " ") (by decide +kernel)
 have hrb := fun ps => room_by (m := m) c (ps := ps)
 have hrm := fun ps (h : RoomIs m y ps) => h.moves hy c
 generalize Txt.split y (Str.ofString " ") = ts at hb hrb hrm ⊢
 generalize hH1 : upd H sp _ = H1
 have s1 := al_same hH1 hsp
 have e1 := al_at hH1
 refine ⟨⟨_, SqL.of e1⟩, fun L hL => ?_⟩
 refine compW_list (xs := ts.map V.str) (fun i ys H' => ∃ (os : List (Option (Addr × (Str × Option Nat)))), Same H1 H' ∧ H' L = some (.lst ys) ∧ ys = os.map (fun o => match o with | none => V.non | some x => .ref x.1) ∧ os.length = i ∧ ∀ (j : Nat) t o, ts[j]? = some t → os[j]? = some o → match o with | none => ¬ ∃ p, MoveIs m t p | some x => MoveIs m t x.2 ∧ H' x.1 = some (.tup [.str x.2.1, wayV x.2.2])) ⟨[], same_new hL _, upd_same, rfl, rfl, fun j t o _ e => by simp at e⟩ (fun i ys H' _ h => by obtain ⟨_, sm, _⟩ := h; exact SqL.of (sm _ _ e1)) ?_ ?_
 ·rintro i ys H' v hv hi ⟨os, sm, hD, rfl, hol, hos⟩
  rw [List.length_map] at hi
  have ht := List.getElem?_eq_getElem hi
  have htm := hb.2 _ (List.getElem_mem hi)
  rw [List.getElem?_map, ht] at hv
  cases hv
  generalize ts[i] = t at ht htm
  have push : ∀ (o : Option (Addr × (Str × Option Nat))) (H2 : Hp), Same H' H2 → (match o with | none => ¬ ∃ p, MoveIs m t p | some x => MoveIs m t x.2 ∧ H2 x.1 = some (.tup [.str x.2.1, wayV x.2.2])) → ∃ (os' : List (Option (Addr × (Str × Option Nat)))), Same H1 (upd H2 L (.lst (os.map (fun o => match o with | none => V.non | some x => .ref x.1) ++ [match o with | none => V.non | some x => .ref x.1]))) ∧ (upd H2 L (.lst (os.map (fun o => match o with | none => V.non | some x => .ref x.1) ++ [match o with | none => V.non | some x => .ref x.1]))) L = some (.lst (os.map (fun o => match o with | none => V.non | some x => .ref x.1) ++ [match o with | none => V.non | some x => .ref x.1])) ∧ os.map (fun o => match o with | none => V.non | some x => .ref x.1) ++ [match o with | none => V.non | some x => .ref x.1] = os'.map (fun o => match o with | none => V.non | some x => .ref x.1) ∧ os'.length = i + 1 ∧ ∀ (j : Nat) t o', ts[j]? = some t → os'[j]? = some o' → match o' with | none => ¬ ∃ p, MoveIs m t p | some x => MoveIs m t x.2 ∧ (upd H2 L (.lst (os.map (fun o => match o with | none => V.non | some x => .ref x.1) ++ [match o with | none => V.non | some x => .ref x.1]))) x.1 = some (.tup [.str x.2.1, wayV x.2.2]) := by
   intro o H2 s2 ho
   have nC : ∀ {b : Addr} {z : List V}, H2 b = some (.tup z) → b ≠ L := fun z => ne_of z (s2 _ _ hD) (fun z => nomatch z)
   refine ⟨os ++ [o], (sm.trans s2).upd hL _, upd_same, by rw [List.map_append]; rfl, by rw [List.length_append, hol]; rfl, fun j t' o' f1 f2 => ?_⟩
   by_cases hj : j < os.length
   ·rw [List.getElem?_append_left hj] at f2
    have := hos j t' o' f1 f2
    cases o' with
    | none => exact this
    | some x => exact ⟨this.1, by have h2 := s2 _ _ this.2; rw [upd_ne (nC h2)]; exact h2⟩
   ·have hj' : j = os.length := by
     have := (List.getElem?_eq_some_iff.mp f2).1
     rw [List.length_append] at this; simp at this; omega
    rw [hj', List.getElem?_append_right (Nat.le_refl _), Nat.sub_self] at f2
    cases f2
    rw [hj', hol, ht] at f1
    cases f1
    cases o with
    | none => exact ho
    | some x => exact ⟨ho.1, by rw [upd_ne (nC ho.2)]; exact ho.2⟩
  walk_at "rd1"
  refine ⟨t, m, rfl, by omega, fun p a H2 hp s2 ha e => ?_, fun H2 hn s2 => ?_⟩
  ·exact cstep (by rw [List.length_map]; exact hi) (by rw [List.length_map]; exact hol) (smallL (by rw [List.length_map]; omega)) (s2 _ _ hD) (push (some (a, p)) H2 s2 ⟨hp, e⟩)
  ·exact cstep (by rw [List.length_map]; exact hi) (by rw [List.length_map]; exact hol) (smallL (by rw [List.length_map]; omega)) (s2 _ _ hD) (push none H2 s2 hn)
 ·rintro ys H2 ⟨os, sm, hD, rfl, hol, hos⟩
  rw [List.length_map] at hol
  walk_at "nx"
  refine ⟨rfl, L, _, rfl, SqL.of hD, fun v hv => ?_, ?_⟩
  ·obtain ⟨o, ho, rfl⟩ := List.mem_map.mp hv
   cases o with
   | none => exact .inl rfl
   | some x =>
    obtain ⟨j, hj, e⟩ := List.mem_iff_getElem.mp ho
    have := hos j _ _ (List.getElem?_eq_getElem (by omega)) (List.getElem?_eq_getElem hj)
    rw [e] at this
    exact .inr ⟨x.1, _, rfl, .inr (SqT.of this.2)⟩
  refine ⟨_, rfl, ?_⟩
  by_cases hno : none ∈ os
  ·have ha : (os.map (fun o => match o with | none => V.non | some x => V.ref x.1)).any nonV = true := List.any_eq_true.mpr ⟨.non, List.mem_map.mpr ⟨none, hno, rfl⟩, rfl⟩
   refine ite2 (fun _ => no _ (fun ⟨ps, h⟩ => ?_) (s1.trans sm)) (fun c => absurd ha c)
   obtain ⟨j, hj, e⟩ := List.mem_iff_getElem.mp hno
   have h2 := hos j _ _ (List.getElem?_eq_getElem (by omega)) (List.getElem?_eq_getElem hj)
   rw [e] at h2
   exact h2 (hrm ps h _ (List.getElem_mem _))
  ·obtain ⟨xs, rfl⟩ := all_some os hno
   have ha : ((xs.map some).map (fun o => match o with | none => V.non | some x => V.ref x.1)).any nonV = false := by
    rw [List.any_eq_false]
    intro v hv
    rw [List.map_map] at hv
    obtain ⟨x, _, rfl⟩ := List.mem_map.mp hv
    simp [nonV]
   rw [List.length_map] at hol
   refine ite2 (fun c => absurd (c.symm.trans ha) (by decide)) (fun _ => ?_)
   walk_at "nx"
   have hxs : ∀ (j : Nat) x, xs[j]? = some x → (xs.map some)[j]? = some (some x) := fun j x e => by rw [List.getElem?_map, e]; rfl
   refine q (xs.map (·.2)) L H2 (hrb _ (by rw [List.length_map]; exact hol) fun j t p f1 f2 => ?_) (s1.trans sm) (s1.free hL) ⟨xs.map (·.1), by rw [hD, List.map_map, List.map_map]; rfl, by rw [List.length_map, List.length_map], fun j a p f1 f2 => ?_⟩
   ·rw [List.getElem?_map] at f2
    cases hx : xs[j]? with
    | none => rw [hx] at f2; cases f2
    | some x =>
     rw [hx] at f2; cases f2
     exact (hos j t _ f1 (hxs j x hx)).1
   ·rw [List.getElem?_map] at f1 f2
    cases hx : xs[j]? with
    | none => rw [hx] at f2; cases f2
    | some x =>
     rw [hx] at f1 f2; cases f1; cases f2
     have hj : j < ts.length := by have := (List.getElem?_eq_some_iff.mp hx).1; omega
     exact (hos j _ _ (List.getElem?_eq_getElem hj) (hxs j x hx)).2
end
theorem RoomIs.uniq {m : Nat} {y : Str} {ps ps' : List (Str × Option Nat)} (h : RoomIs m y ps) (h' : RoomIs m y ps') (hy : y.length ≤ 900) : ps = ps' := by
 obtain ⟨a1, a2⟩ := h.split hy
 obtain ⟨b1, b2⟩ := h'.split hy
 by_cases hne : y = Str.ofString ""
 ·rw [a1.mpr hne, b1.mpr hne]
 ·have e := (a2 (fun z => hne (a1.mp z))).symm.trans (b2 (fun z => hne (b1.mp z)))
  have hl : ps.length = ps'.length := by have := congrArg List.length e; simpa using this
  refine List.ext_getElem? fun i => ?_
  by_cases hi : i < ps.length
  ·rw [List.getElem?_eq_getElem hi, List.getElem?_eq_getElem (by omega)]
   have e2 := congrArg (·[i]?) e
   simp only [List.getElem?_map, List.getElem?_eq_getElem hi, List.getElem?_eq_getElem (show i < ps'.length by omega), Option.map_some] at e2
   have e3 := congrArg T (Option.some.inj e2)
   rw [T_strT, T_strT] at e3
   have m1 := h.2 _ (List.getElem_mem hi)
   have m2 := h'.2 _ (List.getElem_mem (show i < ps'.length by omega))
   have := MoveIs.uniq (m := m) (y := strT (wayT (T ps[i].1) ps[i].2)) (p := ps[i]) (p' := ps'[i]) ⟨m1.1, T_strT _, m1.2⟩ ⟨m2.1, by rw [T_strT]; exact e3, m2.2⟩
   rw [this]
  ·rw [List.getElem?_eq_none (by omega), List.getElem?_eq_none (by omega)]
theorem rise_cons {x y : Str} {r : List Str} (h : risingB (x :: y :: r) = true) : x.cps.toList < y.cps.toList ∧ risingB (y :: r) = true := by
 unfold risingB at h ⊢
 rw [List.all_eq_true] at h
 refine ⟨by simpa using h 0 (List.mem_range.mpr (by simp)), ?_⟩
 rw [List.all_eq_true]
 intro i hi
 have hi' := List.mem_range.mp hi
 have := h (i + 1) (List.mem_range.mpr (by simp only [List.length_cons] at hi' ⊢; omega))
 simpa using this
theorem rise_pw : ∀ (xs : List Str), risingB xs = true → xs.Pairwise (fun a b => a.cps.toList < b.cps.toList)
 | [], _ => .nil
 | [x], _ => by simp
 | x :: y :: r, h => by
  obtain ⟨h1, h2⟩ := rise_cons h
  have ih := rise_pw (y :: r) h2
  refine List.pairwise_cons.mpr ⟨fun z hz => ?_, ih⟩
  rcases List.mem_cons.mp hz with rfl | hz
  ·exact h1
  ·exact List.lt_trans h1 ((List.pairwise_cons.mp ih).1 z hz)
theorem rise_nd {xs : List Str} (h : risingB xs = true) : xs.Nodup := (rise_pw xs h).imp fun {a b} hab z => by rw [z] at hab; exact List.lt_irrefl _ hab
theorem rise_uniq {xs ys : List Str} (hp : xs.Perm ys) (h1 : risingB xs = true) (h2 : risingB ys = true) : xs = ys :=
 hp.eq_of_pairwise (fun a b _ _ z1 z2 => absurd (List.lt_trans z1 z2) (List.lt_irrefl _)) (rise_pw xs h1) (rise_pw ys h2)
theorem rule_parts {y : Str} {r : Rl} (h : TxRule y r) (hs : r.s = 1) : Txt.slice y none (some 3) = Str.ofString "1: " ∧ Txt.split (Txt.slice y (some 3) none) (Str.ofString "; ") = (r.rs.map (roomT r.ws)).map strT ∧ ∀ x ∈ r.rs, RoomIs r.rs.length (strT (roomT r.ws x)) (r.ws.zip x) := by
 obtain ⟨ok, hy⟩ := h
 have t1 : T (toString (1 : Int)) = [49] := by decide +kernel
 have hT : T y = [49, 58, 32] ++ glue [59, 32] (r.rs.map (roomT r.ws)) := by rw [hy]; unfold ruleT; rw [hs, t1]; rfl
 have h3 : 3 ≤ y.length := by rw [← T_len, hT, List.length_append]; simp
 have es : T (Txt.slice y (some 3) none) = glue [59, 32] (r.rs.map (roomT r.ws)) := by
  have := slice_from (x := y) (j := 3) h3
  rw [hT] at this
  exact this
 refine ⟨T_inj ?_, rooms_split ok.ok ok.cl es, fun x hx => ?_⟩
 ·have := slice_to' (x := y) 3
  rw [hT] at this
  exact this.trans (by show [49, 58, 32] = _; decide +kernel)
 ·have hrow := ok.ok.row x hx
  have hab := ok.wb
  unfold areB at hab
  rw [Bool.and_eq_true, Bool.and_eq_true, List.all_eq_true] at hab
  refine ⟨by rw [T_strT, zip_fst hrow.1, zip_snd hrow.1], fun p hp => ?_⟩
  obtain ⟨u, o⟩ := p
  have hm := List.of_mem_zip hp
  refine ⟨?_, fun k e => ?_⟩
  ·have := hab.2.1 u hm.1
   rw [hs] at this
   exact this
  ·have e' : o = some k := e
   have h1 := hrow.2 k (e' ▸ hm.2)
   have := ok.ok.n1
   exact ⟨h1, by omega⟩
theorem rule_by {y : Str} {ws : List Str} {pss : List (List (Str × Option Nat))} (h3 : Txt.slice y none (some 3) = Str.ofString "1: ") (hn : pss.length = (Txt.split (Txt.slice y (some 3) none) (Str.ofString "; ")).length) (hn60 : pss.length ≤ 60)
  (h : ∀ (i : Nat) t ps, (Txt.split (Txt.slice y (some 3) none) (Str.ofString "; "))[i]? = some t → pss[i]? = some ps → RoomIs pss.length t ps) (hw : ∀ ps ∈ pss, ps.map (·.1) = ws) (h16 : ws.length ≤ 16) (hr : risingB ws = true) : TxRule y ⟨1, ws, pss.map (List.map (·.2))⟩ := by
 have hne := split_ne (Txt.slice y (some 3) none) (Str.ofString "; ")
 have h0 : 1 ≤ pss.length := by rw [hn]; exact List.length_pos_iff.mpr hne
 have hT3 : (T y).take 3 = [49, 58, 32] := by
  rw [← slice_to' (x := y) 3]
  show T (Txt.slice y none (some 3)) = _
  rw [h3]; decide +kernel
 have hy3 : 3 ≤ y.length := by have := congrArg List.length hT3; rw [List.length_take, T_len] at this; simp at this; omega
 have e : Txt.split (Txt.slice y (some 3) none) (Str.ofString "; ") = pss.map fun ps => strT (roomT ws (ps.map (·.2))) := by
  refine List.ext_getElem? fun i => ?_
  rw [List.getElem?_map]
  by_cases hi : i < pss.length
  ·rw [List.getElem?_eq_getElem hi, List.getElem?_eq_getElem (by omega)]
   have := h i _ _ (List.getElem?_eq_getElem (by omega)) (List.getElem?_eq_getElem hi)
   show some _ = some _
   congr 1
   refine T_inj ?_
   rw [T_strT, this.1, hw _ (List.getElem_mem hi)]
  ·rw [List.getElem?_eq_none (by omega), List.getElem?_eq_none (by omega)]; rfl
 have hwd : ∀ u ∈ ws, wordS u = true := fun u hu => by
  have h00 : 0 < pss.length := h0
  have e0 := hw _ (List.getElem_mem h00)
  rw [← e0] at hu
  obtain ⟨p, hp, rfl⟩ := List.mem_map.mp hu
  have := h 0 _ _ (List.getElem?_eq_getElem (by omega)) (List.getElem?_eq_getElem h00)
  exact (this.2 p hp).1
 have hrow : ∀ ps ∈ pss, (ps.map (·.2)).length = ws.length ∧ ∀ k, some k ∈ ps.map (·.2) → k < pss.length := fun ps hps => by
  refine ⟨by rw [← hw ps hps, List.length_map, List.length_map], fun k hk => ?_⟩
  obtain ⟨i, hi, e1⟩ := List.mem_iff_getElem.mp hps
  obtain ⟨p, hp, e2⟩ := List.mem_map.mp hk
  have := h i _ _ (List.getElem?_eq_getElem (by omega)) (List.getElem?_eq_getElem hi)
  rw [e1] at this
  exact ((this.2 p hp).2 k e2).1
 refine ⟨⟨⟨.inl rfl, h16, by show 1 ≤ (pss.map _).length; rw [List.length_map]; exact h0, by show (pss.map _).length ≤ 60; rw [List.length_map]; exact hn60, fun x hx => ?_, fun u hu => by have := (wordS_clean (hwd u hu)).1; omega⟩, fun u hu => wordS_cl (hwd u hu), ?_⟩, ?_⟩
 ·obtain ⟨ps, hps, rfl⟩ := List.mem_map.mp hx
  have := hrow ps hps
  exact ⟨this.1, fun k hk => by show k < (pss.map _).length; rw [List.length_map]; exact this.2 k hk⟩
 ·unfold areB
  rw [decide_eq_true h16, hr, Bool.true_and, Bool.and_true, List.all_eq_true]
  exact fun u hu => hwd u hu
 ·have hj := PySem.StrLaws.join_split (Txt.slice y (some 3) none) (Str.ofString "; ")
  have hj2 : Txt.join (Str.ofString "; ") (Txt.split (Txt.slice y (some 3) none) (Str.ofString "; ")) = Txt.slice y (some 3) none := (PySem.StrLaws.glued_eq_join _ _).trans hj
  have es : T (Txt.slice y (some 3) none) = (T y).drop 3 := slice_from (j := 3) hy3
  have e4 : T (Txt.slice y (some 3) none) = glue [59, 32] (pss.map fun ps => roomT ws (ps.map (·.2))) := by
   rw [← hj2, join_T, e, List.map_map, show T (Str.ofString "; ") = [59, 32] by decide +kernel]
   congr 1
  rw [← List.take_append_drop 3 (T y), hT3, ← es, e4]
  unfold ruleT
  rw [List.map_map]
  have t1 : T (toString (1 : Int)) = [49] := by decide +kernel
  show _ = T (toString (1 : Int)) ++ [58, 32] ++ _
  rw [t1]; rfl
def FreshO (H H' : Hp) (p : Addr) (r : Rl) : Prop := ∃ pw pr as, H' p = some (.tup [.int r.s, .ref pw, .ref pr]) ∧ H' pw = some (.lst (r.ws.map V.str)) ∧ RoomsAs H' pr r.rs as ∧ H pw = none ∧ H pr = none ∧ ∀ a ∈ as, H a = none
def spRuleOf : Sp := fun vs H Q _ => ∃ (y : Str), vs = [.str y] ∧ y.length ≤ 900 ∧ (∀ r p H', TxRule y r → r.s = 1 → Same H H' → FreshO H H' p r → Q (.ref p) H') ∧ (∀ H', (¬ ∃ r, TxRule y r ∧ r.s = 1) → Same H H' → Q .non H')
section
variable {P : Program} {w : World} {K : PySem.W.Frag} {mg : Str → Option Value} {base : Heap}
theorem ok_ruleof (D : DefAt K mg "_law_rule_of" s_law_rule_of) (z_len : mg "len" = none) (z_set : mg "set" = none) (z_sorted : mg "sorted" = none) (c_law_room : Cal P w K mg base 3 "_law_room" ["_law_text", "_law_most"] spRoomL) : Cal P w K mg base 4 "_law_rule_of" ["_law_text"] spRuleOf := by
 refine D.cal (k := 3) sc_law_rule_of (fun _ _ _ _ _ _ us hl => match us, hl with | [_], _ => rfl) (fun vs H Q E h => by obtain ⟨y, rfl, _⟩ := h; rfl) (fun f cdv A outer sh H vs Q E hr h => ?_)
 obtain ⟨y, rfl, hy, q, no⟩ := h
 refine ⟨_, (pss_cons (ps_if (pt_cmpR op_neA (pe_slice sl_str (pv 0 (hv := vz1r)) po_none (po_some pe_int)) pe_str (nomark _)) (pss_one (ps_ret pe_non)) pss_nil)
   (pss_cons (ps_let 1 sc_law_rule_of.nd (pe_bmK K PySem.F.plainAttrs_str PySem.F.slot_str_split PySem.F.type_str_split mt_split (pe_slice sl_str (pv 0 (hv := vz1r)) (po_some pe_int) po_none) (pa_cons pe_str pa_nil)) (hx := lzk))
   (pss_cons (ps_setcomp (CompSc.to (fsc := (defScope s_law_rule_of)) (N := ["_law_text", "_law_parts", "_law_rooms", "_law_words_here", "_law_room_here"]) (N0 := ["_law_text", "_law_parts", "_law_rooms", "_law_words_here", "_law_room_here"]) (T := ["_law_part"]) ⟨by decide +kernel, by decide +kernel, by decide +kernel, by decide +kernel, by decide +kernel, by decide +kernel, by decide +kernel⟩ rfl rfl) rfl sc_law_rule_of.nd (i := 2) rfl kz4 (pi_listK K (pv 1 (hv := vz1s))) (fun _ _ _ _ => (pg_let 5 (show (["_law_text", "_law_parts", "_law_rooms", "_law_words_here", "_law_room_here", "_law_part"] : List Str).Nodup from by decide +kernel) (hx := (locC (defScope s_law_rule_of) (by decide +kernel))) (hf := fnC (defScope s_law_rule_of) (by decide +kernel)))) (gfr_name (show (["_law_text", "_law_parts", "_law_rooms", "_law_words_here", "_law_room_here"] : List Str).length ≤ 5 from by decide)) (fun _ _ _ _ => pifs_nil) (fun _ _ _ _ => (pe_cal c_law_room hr (pa_cons (pv 5 (hv := (visC (defScope s_law_rule_of) (by decide +kernel)))) (pa_cons (pe_blt (call_lenK K) z_len bt_len (pa_cons (pv 1 (hv := (visC (defScope s_law_rule_of) (by decide +kernel)))) pa_nil) (hg := (glC (defScope s_law_rule_of) (by decide +kernel)))) pa_nil)) (hg := (glC (defScope s_law_rule_of) (by decide +kernel))))))
   (pss_cons (ps_if (PW.pt' (pw_or (pt_cmpR (op_inN K hr) pe_non (pv 2 (hv := vz1t)) (by with_unfolding_all rfl)) (pw_or1 (pt_cmpR op_gt (pe_blt (call_lenK K) z_len bt_len (pa_cons (pv 2 (hv := vz1t)) pa_nil) (hg := gz1z)) pe_int (nomark _))))) (pss_one (ps_ret pe_non)) pss_nil)
   (pss_cons (ps_setcomp (CompSc.to (fsc := (defScope s_law_rule_of)) (N := ["_law_text", "_law_parts", "_law_rooms", "_law_words_here", "_law_room_here"]) (N0 := ["_law_text", "_law_parts", "_law_rooms", "_law_words_here", "_law_room_here"]) (T := ["_law_word_here", "_law_there"]) ⟨by decide +kernel, by decide +kernel, by decide +kernel, by decide +kernel, by decide +kernel, by decide +kernel, by decide +kernel⟩ rfl rfl) rfl sc_law_rule_of.nd (i := 3) rfl kz5 (pi_listK K (pe_ix (ix_K K) (pv 2 (hv := vz1t)) pe_int (fun _ _ => rfl))) (fun _ _ _ _ => (pg_tupK K (n := 2) (pgs_cons (pg_let 5 (show (["_law_text", "_law_parts", "_law_rooms", "_law_words_here", "_law_room_here", "_law_word_here", "_law_there"] : List Str).Nodup from by decide +kernel) (hx := (locC (defScope s_law_rule_of) (by decide +kernel))) (hf := fnC (defScope s_law_rule_of) (by decide +kernel))) (pgs_cons (pg_let 6 (show (["_law_text", "_law_parts", "_law_rooms", "_law_words_here", "_law_room_here", "_law_word_here", "_law_there"] : List Str).Nodup from by decide +kernel) (hx := (locC (defScope s_law_rule_of) (by decide +kernel))) (hf := fnC (defScope s_law_rule_of) (by decide +kernel))) pgs_nil)))) (gfr_tup (gsfr_cons (gfr_name (show (["_law_text", "_law_parts", "_law_rooms", "_law_words_here", "_law_room_here"] : List Str).length ≤ 5 from by decide)) gm_name (gsfr_cons (gfr_name (show (["_law_text", "_law_parts", "_law_rooms", "_law_words_here", "_law_room_here"] : List Str).length ≤ 6 from by decide)) gm_name gsfr_nil gsm_nil) (gsm_cons gm_name gsm_nil))) (fun _ _ _ _ => pifs_nil) (fun _ _ _ _ => (pv 5 (hv := (visC (defScope s_law_rule_of) (by decide +kernel))))))
   (pss_cons (ps_for PassesOwn.never rfl (pi_listK K (pv 2 (hv := vz1t))) (pg_let 4 sc_law_rule_of.nd (hx := lzl)) (pss_one (ps_if (pt_cmpR (op_neKD K hr) (pe_comp (CompSc.to (fsc := (defScope s_law_rule_of)) (N := ["_law_text", "_law_parts", "_law_rooms", "_law_words_here", "_law_room_here"]) (N0 := ["_law_text", "_law_parts", "_law_rooms", "_law_words_here", "_law_room_here"]) (T := ["_law_word_here", "_law_there"]) ⟨by decide +kernel, by decide +kernel, by decide +kernel, by decide +kernel, by decide +kernel, by decide +kernel, by decide +kernel⟩ rfl rfl) rfl (pi_listK K (pv 4 (hv := vz1v))) (fun _ _ _ _ => (pg_tupK K (n := 2) (pgs_cons (pg_let 5 (show (["_law_text", "_law_parts", "_law_rooms", "_law_words_here", "_law_room_here", "_law_word_here", "_law_there"] : List Str).Nodup from by decide +kernel) (hx := (locC (defScope s_law_rule_of) (by decide +kernel))) (hf := fnC (defScope s_law_rule_of) (by decide +kernel))) (pgs_cons (pg_let 6 (show (["_law_text", "_law_parts", "_law_rooms", "_law_words_here", "_law_room_here", "_law_word_here", "_law_there"] : List Str).Nodup from by decide +kernel) (hx := (locC (defScope s_law_rule_of) (by decide +kernel))) (hf := fnC (defScope s_law_rule_of) (by decide +kernel))) pgs_nil)))) (gfr_tup (gsfr_cons (gfr_name (show (["_law_text", "_law_parts", "_law_rooms", "_law_words_here", "_law_room_here"] : List Str).length ≤ 5 from by decide)) gm_name (gsfr_cons (gfr_name (show (["_law_text", "_law_parts", "_law_rooms", "_law_words_here", "_law_room_here"] : List Str).length ≤ 6 from by decide)) gm_name gsfr_nil gsm_nil) (gsm_cons gm_name gsm_nil))) (fun _ _ _ _ => pifs_nil) (fun _ _ _ _ => (pv 5 (hv := (visC (defScope s_law_rule_of) (by decide +kernel)))))) (pv 3 (hv := vz1u)) (nomark _)) (pss_one (ps_ret pe_non)) pss_nil)))
   (pss_cons (ps_if (PW.pt' (pw_or (pt_cmpR op_gt (pe_blt (call_lenK K) z_len bt_len (pa_cons (pv 3 (hv := vz1u)) pa_nil) (hg := gz1z)) pe_int (nomark _)) (pw_or1 (pt_cmpR (op_neKD K hr) (pe_blt (call_sortSetTW w hr) z_sorted bt_sorted (pa_cons (pe_bty (call_setTTW K w hr) z_set bt_set (pa_cons (pv 3 (hv := vz1u)) pa_nil) (hg := gz20)) pa_nil) (hg := gz21)) (pv 3 (hv := vz1u)) (nomark _))))) (pss_one (ps_ret pe_non)) pss_nil)
   (pss_one (ps_ret (pe_tup (pa_cons pe_int (pa_cons (pv 3 (hv := vz1u)) (pa_cons (pe_comp (CompSc.to (fsc := (defScope s_law_rule_of)) (N := ["_law_text", "_law_parts", "_law_rooms", "_law_words_here", "_law_room_here"]) (N0 := ["_law_text", "_law_parts", "_law_rooms", "_law_words_here", "_law_room_here'"]) (T := ["_law_room_here"]) ⟨by decide +kernel, by decide +kernel, by decide +kernel, by decide +kernel, by decide +kernel, by decide +kernel, by decide +kernel⟩ rfl rfl) rfl (pi_listK K (pv 2 (hv := vz1t))) (fun _ _ _ _ => (pg_let 5 (show (["_law_text", "_law_parts", "_law_rooms", "_law_words_here", "_law_room_here'", "_law_room_here"] : List Str).Nodup from by decide +kernel) (hx := (locC (defScope s_law_rule_of) (by decide +kernel))) (hf := fnC (defScope s_law_rule_of) (by decide +kernel)))) (gfr_name (show (["_law_text", "_law_parts", "_law_rooms", "_law_words_here", "_law_room_here"] : List Str).length ≤ 5 from by decide)) (fun _ _ _ _ => pifs_nil) (fun _ _ _ _ => (pe_comp (CompSc.to (fsc := (relabelS _ (defScope s_law_rule_of))) (N := ["_law_text", "_law_parts", "_law_rooms", "_law_words_here", "_law_room_here'", "_law_room_here"]) (N0 := ["_law_text", "_law_parts", "_law_rooms", "_law_words_here", "_law_room_here'", "_law_room_here"]) (T := ["_law_word_here", "_law_there"]) ⟨by decide +kernel, by decide +kernel, by decide +kernel, by decide +kernel, by decide +kernel, by decide +kernel, by decide +kernel⟩ rfl rfl) rfl (pi_listK K (pv 5 (hv := (visC (defScope s_law_rule_of) (by decide +kernel))))) (fun _ _ _ _ => (pg_tupK K (n := 2) (pgs_cons (pg_let 6 (show (["_law_text", "_law_parts", "_law_rooms", "_law_words_here", "_law_room_here'", "_law_room_here", "_law_word_here", "_law_there"] : List Str).Nodup from by decide +kernel) (hx := (locC (relabelS _ (defScope s_law_rule_of)) (e := rfl) (by decide +kernel))) (hf := fnC (relabelS _ (defScope s_law_rule_of)) (e := rfl) (by decide +kernel))) (pgs_cons (pg_let 7 (show (["_law_text", "_law_parts", "_law_rooms", "_law_words_here", "_law_room_here'", "_law_room_here", "_law_word_here", "_law_there"] : List Str).Nodup from by decide +kernel) (hx := (locC (relabelS _ (defScope s_law_rule_of)) (e := rfl) (by decide +kernel))) (hf := fnC (relabelS _ (defScope s_law_rule_of)) (e := rfl) (by decide +kernel))) pgs_nil)))) (gfr_tup (gsfr_cons (gfr_name (show (["_law_text", "_law_parts", "_law_rooms", "_law_words_here", "_law_room_here'", "_law_room_here"] : List Str).length ≤ 6 from by decide)) gm_name (gsfr_cons (gfr_name (show (["_law_text", "_law_parts", "_law_rooms", "_law_words_here", "_law_room_here'", "_law_room_here"] : List Str).length ≤ 7 from by decide)) gm_name gsfr_nil gsm_nil) (gsm_cons gm_name gsm_nil))) (fun _ _ _ _ => pifs_nil) (fun _ _ _ _ => (pv 7 (hv := (visC (relabelS _ (defScope s_law_rule_of)) (e := rfl) (by decide +kernel)))))))) pa_nil))))))))))))), ?_⟩
 have hgood : ∀ r, TxRule y r ∧ r.s = 1 → _ := fun r h => rule_parts h.1 h.2
 have hsl := Txt.slice_le y (some 3) none
 have hb := split_len (x := Txt.slice y (some 3) none) (y := Str.ofString "; ") (by decide +kernel)
 have h0 := List.length_pos_iff.mpr (split_ne (Txt.slice y (some 3) none) (Str.ofString "; "))
 have hby := fun ws pss => rule_by (y := y) (ws := ws) (pss := pss)
 walk_at "rd1"
 refine ⟨smallL (by omega), ?_⟩
 by_cases h3 : Txt.slice y none (some 3) = Str.ofString "1: "
 rotate_left
 ·rw [decide_eq_false h3]
  exact ite2 (fun _ => no _ (fun ⟨r, h⟩ => h3 (hgood r h).1) (Same.refl _)) (fun c => absurd rfl c)
 rw [decide_eq_true h3]
 refine ite2 (fun c => absurd c (by decide)) (fun _ => ?_)
 walk_at "nx"
 refine ⟨smallL (by omega), by decide +kernel, by omega, fun sp hsp => ?_⟩
 generalize Txt.split (Txt.slice y (some 3) none) (Str.ofString "; ") = ts at hb h0 hby hgood ⊢
 generalize hH1 : upd H sp _ = H1
 have s1 := al_same hH1 hsp
 have e1 := al_at hH1
 have hgr : ∀ r, TxRule y r ∧ r.s = 1 → r.rs.length = ts.length ∧ ∀ (i : Nat) t, ts[i]? = some t → ∃ x, r.rs[i]? = some x ∧ RoomIs ts.length t (r.ws.zip x) := fun r h => by
  obtain ⟨_, g2, g3⟩ := hgood r h
  have gl : r.rs.length = ts.length := by rw [g2, List.length_map, List.length_map]
  refine ⟨gl, fun i t ht => ?_⟩
  rw [g2, List.getElem?_map, List.getElem?_map] at ht
  cases hx : r.rs[i]? with
  | none => rw [hx] at ht; cases ht
  | some x =>
   rw [hx] at ht; cases ht
   exact ⟨x, rfl, gl ▸ g3 x (List.mem_of_getElem? hx)⟩
 walk_at "nx"
 refine ⟨⟨_, SqL.of e1⟩, fun L hL => ?_⟩
 refine compW_list (xs := ts.map V.str) (fun i ys H' => ∃ (os : List (Option (Addr × List (Str × Option Nat)))), Same H1 H' ∧ H' L = some (.lst ys) ∧ ys = os.map (fun o => match o with | none => V.non | some x => .ref x.1) ∧ os.length = i ∧ ∀ (j : Nat) t o, ts[j]? = some t → os[j]? = some o → match o with | none => ¬ ∃ ps, RoomIs ts.length t ps | some x => RoomIs ts.length t x.2 ∧ PairsAt H' x.1 x.2 ∧ x.1 ≠ L) ⟨[], same_new hL _, upd_same, rfl, rfl, fun j t o _ e => by simp at e⟩ (fun i ys H' _ h => by obtain ⟨_, sm, _⟩ := h; exact SqL.of (sm _ _ e1)) ?_ ?_
 ·rintro i ys H' v hv hi ⟨os, sm, hD, rfl, hol, hos⟩
  rw [List.length_map] at hi
  have ht := List.getElem?_eq_getElem hi
  have htm := hb.2 _ (List.getElem_mem hi)
  rw [List.getElem?_map, ht] at hv
  cases hv
  generalize ts[i] = t at ht htm
  have hup : ∀ {H2 : Hp} {l : Addr} {x : List (Str × Option Nat)} {o : HO}, Same H' H2 → l ≠ L → PairsAt H2 l x → PairsAt (upd H2 L o) l x := fun {H2 l x o} s2 hl ⟨as, f1, f2, f3⟩ => ⟨as, by rw [upd_ne hl]; exact f1, f2, fun i a p g1 g2 => by
   have g := f3 i a p g1 g2
   rw [upd_ne (ne_of g (s2 _ _ hD) (fun z => nomatch z))]; exact g⟩
  have push : ∀ (o : Option (Addr × List (Str × Option Nat))) (H2 : Hp), Same H' H2 → (match o with | none => ¬ ∃ ps, RoomIs ts.length t ps | some x => RoomIs ts.length t x.2 ∧ PairsAt H2 x.1 x.2 ∧ x.1 ≠ L) → CStep (ts.map V.str).length i (fun i ys H' => ∃ (os : List (Option (Addr × List (Str × Option Nat)))), Same H1 H' ∧ H' L = some (.lst ys) ∧ ys = os.map (fun o => match o with | none => V.non | some x => .ref x.1) ∧ os.length = i ∧ ∀ (j : Nat) t o, ts[j]? = some t → os[j]? = some o → match o with | none => ¬ ∃ ps, RoomIs ts.length t ps | some x => RoomIs ts.length t x.2 ∧ PairsAt H' x.1 x.2 ∧ x.1 ≠ L) L (os.map (fun o => match o with | none => V.non | some x => .ref x.1)) (match o with | none => V.non | some x => .ref x.1) H2 := by
   intro o H2 s2 ho
   refine cstep (by rw [List.length_map]; exact hi) (by rw [List.length_map]; exact hol) (smallL (by rw [List.length_map]; omega)) (s2 _ _ hD) ⟨os ++ [o], (sm.trans s2).upd hL _, upd_same, by rw [List.map_append]; rfl, by rw [List.length_append, hol]; rfl, fun j t' o' f1 f2 => ?_⟩
   by_cases hj : j < os.length
   ·rw [List.getElem?_append_left hj] at f2
    have := hos j t' o' f1 f2
    cases o' with
    | none => exact this
    | some x => exact ⟨this.1, hup s2 this.2.2 (this.2.1.mono s2), this.2.2⟩
   ·have hj' : j = os.length := by
     have := (List.getElem?_eq_some_iff.mp f2).1
     rw [List.length_append] at this; simp at this; omega
    rw [hj', List.getElem?_append_right (Nat.le_refl _), Nat.sub_self] at f2
    cases f2
    rw [hj', hol, ht] at f1
    cases f1
    cases o with
    | none => exact ho
    | some x => exact ⟨ho.1, hup s2 ho.2.2 ho.2.1, ho.2.2⟩
  walk_at "rd1"
  refine ⟨_, .inl (SqL.of (sm _ _ e1)), ?_⟩
  rw [List.length_map]
  refine ⟨t, ts.length, rfl, by omega, fun ps a H2 hp s2 ha e => ?_, fun H2 hn s2 => ?_⟩
  ·have := push (some (a, ps)) H2 s2 ⟨hp, e, Ne.symm (ne_of_none hD ha)⟩
   rw [List.length_map] at this
   exact this
  ·have := push none H2 s2 hn
   rw [List.length_map] at this
   exact this
 rintro ys H2 ⟨os, sm, hD, rfl, hol, hos⟩
 rw [List.length_map] at hol
 have s12 := s1.trans sm
 walk_at "nx"
 refine ⟨rfl, L, _, rfl, SqL.of hD, fun v hv => ?_, ?_⟩
 ·obtain ⟨o, ho, rfl⟩ := List.mem_map.mp hv
  cases o with
  | none => exact .inl rfl
  | some x =>
   obtain ⟨j, hj, e⟩ := List.mem_iff_getElem.mp ho
   have := hos j _ _ (List.getElem?_eq_getElem (by omega)) (List.getElem?_eq_getElem hj)
   rw [e] at this
   obtain ⟨as, a1, _⟩ := this.2.1
   exact .inr ⟨x.1, _, rfl, .inl (SqL.of a1)⟩
 refine ⟨_, rfl, ?_⟩
 by_cases hno : none ∈ os
 ·have ha : (os.map (fun o => match o with | none => V.non | some x => V.ref x.1)).any nonV = true := List.any_eq_true.mpr ⟨.non, List.mem_map.mpr ⟨none, hno, rfl⟩, rfl⟩
  refine ite2 (fun _ => no _ (fun ⟨r, h⟩ => ?_) s12) (fun c => absurd ha c)
  obtain ⟨j, hj, e⟩ := List.mem_iff_getElem.mp hno
  have h2 := hos j _ _ (List.getElem?_eq_getElem (by omega)) (List.getElem?_eq_getElem hj)
  rw [e] at h2
  obtain ⟨x, _, hx⟩ := (hgr r h).2 j _ (List.getElem?_eq_getElem (by omega))
  exact h2 ⟨_, hx⟩
 obtain ⟨xs, rfl⟩ := all_some os hno
 have ha : ((xs.map some).map (fun o => match o with | none => V.non | some x => V.ref x.1)).any nonV = false := by
  rw [List.any_eq_false]
  intro v hv
  rw [List.map_map] at hv
  obtain ⟨x, _, rfl⟩ := List.mem_map.mp hv
  simp [nonV]
 rw [List.length_map] at hol
 have hD' : H2 L = some (.lst ((xs.map (·.1)).map V.ref)) := by rw [hD, List.map_map, List.map_map]; rfl
 have hx : ∀ (j : Nat) t x, ts[j]? = some t → xs[j]? = some x → RoomIs ts.length t x.2 ∧ PairsAt H2 x.1 x.2 := fun j t x e1 e2 => by
  have := hos j t (some x) e1 (by rw [List.getElem?_map, e2]; rfl)
  exact ⟨this.1, this.2.1⟩
 clear hos hno
 refine ite2 (fun c => absurd (c.symm.trans ha) (by decide)) (fun _ => ?_)
 refine ⟨_, .inl (SqL.of hD'), ?_⟩
 rw [List.length_map, List.length_map, hol]
 refine ite2 (fun c => no _ (fun ⟨r, h⟩ => ?_) s12) (fun c => ?_)
 ·have := h.1.1.ok.n1
  have := (hgr r h).1
  omega
 have hn60 : ts.length ≤ 60 := by omega
 have hx0l : 0 < xs.length := by omega
 obtain ⟨r0, p0⟩ := hx 0 _ xs[0] (List.getElem?_eq_getElem (by omega)) (List.getElem?_eq_getElem hx0l)
 have at00 : atI ((xs.map (·.1)).map V.ref) 0 = some (.ref xs[0].1) := atI_nat (j := 0) (by rw [List.getElem?_map, List.getElem?_map, List.getElem?_eq_getElem hx0l]; rfl)
 have hr0 : ∀ r, TxRule y r ∧ r.s = 1 → ∀ (j : Nat) x, xs[j]? = some x → x.2.map (·.1) = r.ws := fun r h j x hj => by
  have hjl : j < ts.length := by have := (List.getElem?_eq_some_iff.mp hj).1; omega
  obtain ⟨x', e', hR⟩ := (hgr r h).2 j _ (List.getElem?_eq_getElem hjl)
  have h1 := (hx j _ x (List.getElem?_eq_getElem hjl) hj).1
  rw [h1.uniq hR (by have := hb.2 _ (List.getElem_mem hjl); omega), zip_fst (h.1.1.ok.row x' (List.mem_of_getElem? e')).1]
 have hx00 := hr0
 generalize hws : xs[0].2.map (·.1) = ws
 have hr00 : ∀ r, TxRule y r ∧ r.s = 1 → r.ws = ws := fun r h => by rw [← hws]; exact (hr0 r h 0 _ (List.getElem?_eq_getElem hx0l)).symm
 have hl0 : xs[0].2.length ≤ 1000 := by have := r0.len; have := hb.2 _ (List.getElem_mem (show 0 < ts.length by omega)); omega
 generalize xs[0] = x0 at r0 p0 at00 hws hl0
 obtain ⟨as0, a1, a2, a3⟩ := p0
 walk_at "nx"
 refine ⟨_, _, .inl (SqL.of hD'), at00, ?_⟩
 walk_at "rd1"
 refine ⟨⟨_, SqL.of a1⟩, fun M hM => ?_⟩
 refine compW_list (xs := as0.map V.ref) (fun i ys H3 => Same H2 H3 ∧ H3 M = some (.lst ys) ∧ ys = ((x0.2.take i).map (·.1)).map V.str) ⟨same_new hM _, upd_same, rfl⟩ (fun i ys H3 _ h => SqL.of (h.1 _ _ a1)) ?_ ?_
 ·rintro i ys H3 v hv hi ⟨sm3, hM3, rfl⟩
  rw [List.length_map] at hi
  rw [List.getElem?_map, List.getElem?_eq_getElem hi] at hv
  cases hv
  have hiw : i < x0.2.length := by omega
  have e3 := a3 i as0[i] x0.2[i] (List.getElem?_eq_getElem hi) (List.getElem?_eq_getElem hiw)
  walk_at "rd1"
  refine ⟨_, _, rfl, SqT.of (sm3 _ _ e3), rfl, _, _, rfl, _, _, rfl, rfl, ?_⟩
  walk_at "rd1"
  refine cstep (by rw [List.length_map]; exact hi) (by simp; omega) (smallL (by rw [List.length_map]; omega)) hM3 ⟨sm3.upd hM _, upd_same, ?_⟩
  rw [List.take_add_one, List.getElem?_eq_getElem hiw, List.map_append, List.map_append]; rfl
 rintro ys H3 ⟨sm3, hM3, rfl⟩
 rw [List.length_map, a2, List.take_length, hws] at hM3
 walk_at "nx"
 refine ⟨⟨_, SqL.of (sm3 _ _ hD')⟩, ?_⟩
 refine forW_list (xs := (xs.map (·.1)).map V.ref) (fun i σ H' => ∃ o4 : Option V, σ = [some (.str y), some (.ref sp), some (.ref L), some (.ref M), o4] ∧ Same H3 H' ∧ ∀ (j : Nat) x, j < i → xs[j]? = some x → x.2.map (·.1) = ws) ⟨none, rfl, Same.refl _, fun j x h => absurd h (by omega)⟩ (fun i σ H' _ h => by obtain ⟨_, _, s, _⟩ := h; exact SqL.of (s _ _ (sm3 _ _ hD'))) ?_ ?_
 ·rintro i v σ H4 hv ⟨o4, rfl, sm4, hj⟩
  have hi : i < xs.length := by have := (List.getElem?_eq_some_iff.mp hv).1; rw [List.length_map, List.length_map] at this; exact this
  have hxi := List.getElem?_eq_getElem hi
  rw [List.getElem?_map, List.getElem?_map, hxi] at hv
  cases hv
  obtain ⟨ri, pi⟩ := hx i _ xs[i] (List.getElem?_eq_getElem (by omega)) hxi
  have hli : xs[i].2.length ≤ 1000 := by have := ri.len; have := hb.2 _ (List.getElem_mem (show i < ts.length by omega)); omega
  generalize xs[i] = xi at hxi ri pi hli
  obtain ⟨bs, b1, b2, b3⟩ := (pi.mono sm3).mono sm4
  walk_at "rd1"
  refine ⟨⟨_, SqL.of b1⟩, fun N hN => ?_⟩
  refine compW_list (xs := bs.map V.ref) (fun i ys H5 => Same H4 H5 ∧ H5 N = some (.lst ys) ∧ ys = ((xi.2.take i).map (·.1)).map V.str) ⟨same_new hN _, upd_same, rfl⟩ (fun i ys H5 _ h => SqL.of (h.1 _ _ b1)) ?_ ?_
  ·rintro j ys H5 v hv hj' ⟨sm5, hN5, rfl⟩
   rw [List.length_map] at hj'
   rw [List.getElem?_map, List.getElem?_eq_getElem hj'] at hv
   cases hv
   have hjw : j < xi.2.length := by omega
   have e3 := b3 j bs[j] xi.2[j] (List.getElem?_eq_getElem hj') (List.getElem?_eq_getElem hjw)
   walk_at "rd1"
   refine ⟨_, _, rfl, SqT.of (sm5 _ _ e3), rfl, _, _, rfl, _, _, rfl, rfl, ?_⟩
   walk_at "rd1"
   refine cstep (by rw [List.length_map]; exact hj') (by simp; omega) (smallL (by rw [List.length_map]; omega)) hN5 ⟨sm5.upd hN _, upd_same, ?_⟩
   rw [List.take_add_one, List.getElem?_eq_getElem hjw, List.map_append, List.map_append]; rfl
  rintro ys H5 ⟨sm5, hN5, rfl⟩
  rw [List.length_map, b2, List.take_length] at hN5
  walk_at "rd1"
  refine ⟨0, _, by decide, EqN.strs (SqL.of hN5) (SqL.of (sm5 _ _ (sm4 _ _ hM3))), ?_⟩
  by_cases he : xi.2.map (·.1) = ws
  ·rw [decide_eq_true he]
   refine ite2 (fun c => absurd c (by decide)) (fun _ => ⟨_, rfl, sm4.trans sm5, fun j x hji hx' => ?_⟩)
   by_cases hji' : j = i
   ·rw [hji', hxi] at hx'; cases hx'; exact he
   ·exact hj j x (by omega) hx'
  ·rw [decide_eq_false he]
   refine ite2 (fun _ => no _ (fun ⟨r, h⟩ => he ((hr0 r h i xi hxi).trans (hr00 r h))) (((s12.trans sm3).trans sm4).trans sm5)) (fun c => absurd rfl c)
 rintro σ H4 ⟨o4, rfl, sm4, hall⟩
 rw [List.length_map, List.length_map] at hall
 have hallw : ∀ ps ∈ xs.map (·.2), ps.map (·.1) = ws := fun ps hps => by
  obtain ⟨x, hxm, rfl⟩ := List.mem_map.mp hps
  obtain ⟨j, hj, rfl⟩ := List.mem_iff_getElem.mp hxm
  exact hall j _ hj (List.getElem?_eq_getElem hj)
 have hM4 := sm4 _ _ hM3
 have s14 := (s12.trans sm3).trans sm4
 have hwl : ws.length ≤ 1000 := by rw [← hws, List.length_map]; exact hl0
 walk_at "nx"
 refine ⟨_, .inl (SqL.of hM4), ?_⟩
 rw [List.length_map]
 refine ite2 (fun c => no _ (fun ⟨r, h⟩ => ?_) s14) (fun c => ?_)
 ·have := h.1.1.ok.nw
  rw [hr00 r h] at this
  omega
 have h16 : ws.length ≤ 16 := by omega
 refine ⟨M, ws, rfl, SqL.of hM4, by omega, fun st ds hst hnd hmem hle => ?_⟩
 have s5 := same_new hst (setOT w st ds)
 refine ⟨st, ds, rfl, upd_same, by omega, fun l2 us hl2 hpm hso => ?_⟩
 have hus : us.Nodup := hpm.nodup_iff.mpr hnd
 have hrs : risingB us = true := rising_of us hso hus
 have s6 := same_new hl2 (.lst (us.map V.str))
 have e6 : upd (upd H4 st (setOT w st ds)) l2 (.lst (us.map V.str)) l2 = some (.lst (us.map V.str)) := upd_same
 generalize upd (upd H4 st (setOT w st ds)) l2 (.lst (us.map V.str)) = H6 at s6 e6 ⊢
 have s56 := s5.trans s6
 walk_at "rd1"
 refine ⟨0, _, by decide, EqN.strs (SqL.of e6) (SqL.of (s56 _ _ hM4)), ?_⟩
 by_cases he : us = ws
 rotate_left
 ·rw [decide_eq_false he]
  refine ite2 (fun _ => no _ (fun ⟨r, h⟩ => he ?_) (s14.trans s56)) (fun c => absurd rfl c)
  have hab := h.1.1.wb
  unfold areB at hab
  rw [Bool.and_eq_true, Bool.and_eq_true, hr00 r h] at hab
  have hpw : us.Perm ws := hpm.trans ((List.perm_ext_iff_of_nodup hnd (rise_nd hab.2.2)).mpr hmem)
  exact rise_uniq hpw hrs hab.2.2
 rw [decide_eq_true he]
 refine ite2 (fun c => absurd c (by decide)) (fun _ => ?_)
 have hTx := hby ws (xs.map (·.2)) h3 (by rw [List.length_map]; exact hol) (by rw [List.length_map]; omega) (fun i t ps f1 f2 => by
  rw [List.getElem?_map] at f2
  cases hxi : xs[i]? with
  | none => rw [hxi] at f2; cases f2
  | some x =>
   rw [hxi] at f2; cases f2
   rw [List.length_map, hol]
   exact (hx i t x f1 hxi).1) hallw h16 (he ▸ hrs)
 have hx6 : ∀ (j : Nat) x, xs[j]? = some x → PairsAt H6 x.1 x.2 ∧ x.2.length ≤ 1000 := fun j x hj => by
  have hjl : j < ts.length := by have := (List.getElem?_eq_some_iff.mp hj).1; omega
  have := hx j _ x (List.getElem?_eq_getElem hjl) hj
  refine ⟨((this.2.mono sm3).mono sm4).mono s56, ?_⟩
  have h1 := this.1.len
  have h2 := hb.2 _ (List.getElem_mem hjl)
  omega
 have hL6 := s56 _ _ (sm4 _ _ (sm3 _ _ hD'))
 have hM6 := s56 _ _ hM4
 have s16 := s14.trans s56
 walk_at "nx"
 refine ⟨⟨_, SqL.of hL6⟩, fun R hR => ?_⟩
 refine compW_list (xs := (xs.map (·.1)).map V.ref) (fun i ys H' => ∃ bs : List Addr, Same H6 H' ∧ H' R = some (.lst ys) ∧ ys = bs.map V.ref ∧ bs.length = i ∧ ∀ (j : Nat) b x, bs[j]? = some b → xs[j]? = some x → H' b = some (.lst ((x.2.map (·.2)).map wayV)) ∧ b ≠ R ∧ H6 b = none) ⟨[], same_new hR _, upd_same, rfl, rfl, fun j b x e => by simp at e⟩ (fun i ys H' _ h => by obtain ⟨_, s, _⟩ := h; exact SqL.of (s _ _ hL6)) ?_ ?_
 ·rintro i ys H7 v hv hi ⟨bs, sm7, hR7, rfl, hbl, hbs⟩
  rw [List.length_map, List.length_map] at hi
  have hxi := List.getElem?_eq_getElem hi
  rw [List.getElem?_map, List.getElem?_map, hxi] at hv
  cases hv
  obtain ⟨pi, hli⟩ := hx6 i xs[i] hxi
  generalize xs[i] = xi at hxi pi hli
  obtain ⟨cs, c1, c2, c3⟩ := pi.mono sm7
  walk_at "rd1"
  refine ⟨⟨_, SqL.of c1⟩, fun N hN => ?_⟩
  refine compW_list (xs := cs.map V.ref) (fun i ys H5 => Same H7 H5 ∧ H5 N = some (.lst ys) ∧ ys = ((xi.2.take i).map (·.2)).map wayV) ⟨same_new hN _, upd_same, rfl⟩ (fun i ys H5 _ h => SqL.of (h.1 _ _ c1)) ?_ ?_
  ·rintro j ys H5 v hv hj' ⟨sm5, hN5, rfl⟩
   rw [List.length_map] at hj'
   rw [List.getElem?_map, List.getElem?_eq_getElem hj'] at hv
   cases hv
   have hjw : j < xi.2.length := by omega
   have e3 := c3 j cs[j] xi.2[j] (List.getElem?_eq_getElem hj') (List.getElem?_eq_getElem hjw)
   walk_at "rd1"
   refine ⟨_, _, rfl, SqT.of (sm5 _ _ e3), rfl, _, _, rfl, _, _, rfl, rfl, ?_⟩
   walk_at "rd1"
   refine cstep (by rw [List.length_map]; exact hj') (by simp; omega) (smallL (by rw [List.length_map]; omega)) hN5 ⟨sm5.upd hN _, upd_same, ?_⟩
   rw [List.take_add_one, List.getElem?_eq_getElem hjw, List.map_append, List.map_append]; rfl
  rintro ys H5 ⟨sm5, hN5, rfl⟩
  rw [List.length_map, c2, List.take_length] at hN5
  have nR : N ≠ R := Ne.symm (ne_of_none hR7 hN)
  walk_at "rd1"
  refine cstep (by rw [List.length_map, List.length_map]; exact hi) (by rw [List.length_map]; exact hbl) (smallL (by rw [List.length_map, List.length_map]; omega)) (sm5 _ _ hR7) ⟨bs ++ [N], (sm7.trans sm5).upd hR _, upd_same, by rw [List.map_append]; rfl, by rw [List.length_append, hbl]; rfl, fun j b x f1 f2 => ?_⟩
  by_cases hj : j < bs.length
  ·rw [List.getElem?_append_left hj] at f1
   obtain ⟨g1, g2, g3⟩ := hbs j b x f1 f2
   exact ⟨by rw [upd_ne g2]; exact sm5 _ _ g1, g2, g3⟩
  ·have hj' : j = bs.length := by
    have := (List.getElem?_eq_some_iff.mp f1).1
    rw [List.length_append] at this; simp at this; omega
   rw [hj', List.getElem?_append_right (Nat.le_refl _), Nat.sub_self] at f1
   cases f1
   rw [hj', hbl, hxi] at f2
   cases f2
   exact ⟨by rw [upd_ne nR]; exact hN5, nR, sm7.free hN⟩
 rintro ys H7 ⟨bs, sm7, hR7, rfl, hbl, hbs⟩
 rw [List.length_map, List.length_map] at hbl
 walk_at "rd1"
 refine ⟨by decide, fun p hp => ?_⟩
 have s8 := same_new hp (.tup [.int 1, .ref M, .ref R])
 have fin : ∀ {r : Rl} {H' : Hp}, TxRule y ⟨1, r.ws, r.rs⟩ → Same H H' → H' p = some (.tup [.int 1, .ref M, .ref R]) → H' M = some (.lst (r.ws.map V.str)) → RoomsAs H' R r.rs bs → H M = none → H R = none → (∀ a ∈ bs, H a = none) → Q (.ref p) H' := fun {r H'} h1 h2 h3 h4 h5 h6 h7 h8 => q ⟨1, r.ws, r.rs⟩ p H' h1 rfl h2 ⟨M, R, bs, h3, h4, h5, h6, h7, h8⟩
 refine fin (r := ⟨1, ws, (xs.map (·.2)).map (List.map (·.2))⟩) hTx ((s16.trans sm7).trans s8) upd_same (s8 _ _ (sm7 _ _ hM6)) ⟨s8 _ _ hR7, by show bs.length = ((xs.map (·.2)).map _).length; rw [List.length_map, List.length_map]; exact hbl, fun i b x f1 f2 => ?_⟩ (s12.free hM) (s16.free hR) (fun b hb' => ?_)
 rotate_left
 ·obtain ⟨j, hj, rfl⟩ := List.mem_iff_getElem.mp hb'
  exact s16.free (hbs j _ _ (List.getElem?_eq_getElem hj) (List.getElem?_eq_getElem (by omega))).2.2
 have f2' : (((xs.map (·.2)).map (List.map (·.2)))[i]? : Option (List (Option Nat))) = some x := f2
 rw [List.getElem?_map, List.getElem?_map] at f2'
 cases hxi : xs[i]? with
 | none => rw [hxi] at f2'; cases f2'
 | some xi =>
  rw [hxi] at f2'
  cases f2'
  exact s8 _ _ (hbs i b xi f1 hxi).1
end
def spListOf : Sp := fun vs H Q _ => ∃ (y : Str), vs = [.str y] ∧ y.length ≤ 900 ∧ (∀ ns l H', ListIs y ns → (∀ n ∈ ns, n.2.s = 1) → Same H H' → ListAt H' l ns → Q (.ref l) H') ∧ (∀ H', (¬ ∃ ns, ListIs y ns ∧ ∀ n ∈ ns, n.2.s = 1) → Same H H' → Q .non H')
theorem rule_rest {y : Str} {r : Rl} (h : TxRule y r) : y ≠ Str.ofString "" := fun z => by
 have := h.2
 rw [z] at this
 unfold ruleT at this
 have h2 := congrArg List.length this
 rw [List.length_append, List.length_append] at h2
 have : (T (Str.ofString "")).length = 0 := by decide +kernel
 simp only [List.length_cons, List.length_nil] at h2
 omega
theorem part_blank {x y : Str} (h : (Txt.partition x y).2.1 = Str.ofString "") (hy : y ≠ Str.ofString "") : (Txt.partition x y).2.2 = Str.ofString "" := by
 unfold Txt.partition at h ⊢
 split at h
 ·exact absurd h hy
 ·show Str.empty = Str.ofString ""
  decide +kernel
theorem LinesAre.take {ys : List Str} {ns : List (Str × Rl)} (h : LinesAre ys ns) : ∀ i : Nat, LinesAre (ys.take i) (ns.take i) := by
 induction h with
 | nil => intro i; simp; exact .nil
 | cons h1 _ ih =>
  intro i
  cases i with
  | zero => exact .nil
  | succ i => exact .cons h1 (ih i)
theorem dup_name {ys : List Str} {ns ns' : List (Str × Rl)} {i : Nat} {t : Str} {n : Str × Rl} (h : LinesAre (ys.take i) ns) (ht : ys[i]? = some t) (hn : LineIs t n) (hm : n.1 ∈ ns.map (·.1)) (h' : LinesAre ys ns') : ¬ (ns'.map (·.1)).Nodup := fun nd => by
 have e := h.uniq (h'.take i)
 obtain ⟨n', e1, h1⟩ := h'.at ht
 have e2 := h1.uniq hn
 subst e2
 rw [e, List.map_take] at hm
 obtain ⟨j, hj, e3⟩ := List.mem_iff_getElem.mp hm
 rw [List.length_take] at hj
 rw [List.getElem_take] at e3
 have hi : i < ns'.length := (List.getElem?_eq_some_iff.mp e1).1
 have hi' : i < (ns'.map (·.1)).length := by rw [List.length_map]; exact hi
 have e4 : (ns'.map (·.1))[i] = n'.1 := by
  rw [List.getElem_map]
  rw [List.getElem?_eq_getElem hi] at e1
  rw [Option.some.inj e1]
 exact (List.pairwise_iff_getElem.mp nd) j i (by omega) hi' (by omega) (e3.trans e4.symm)
section
variable {P : Program} {w : World} {K : PySem.W.Frag} {mg : Str → Option Value} {base : Heap}
theorem ok_listof (D : DefAt K mg "_law_list_of" s_law_list_of) (z_len : mg "len" = none) (c_law_rule_of : Cal P w K mg base 4 "_law_rule_of" ["_law_text"] spRuleOf) (c_law_word : Cal P w K mg base 1 "_law_word" ["_law_text"] spWordL) : Cal P w K mg base 5 "_law_list_of" ["_law_text"] spListOf := by
 refine D.cal (k := 4) sc_law_list_of (fun _ _ _ _ _ _ us hl => match us, hl with | [_], _ => rfl) (fun vs H Q E h => by obtain ⟨y, rfl, _⟩ := h; rfl) (fun f cdv A outer sh H vs Q E hr h => ?_)
 obtain ⟨y, rfl, hy, q, no⟩ := h
 refine ⟨_, (pss_cons (ps_if (pt_cmpR op_eqA (pv 0 (hv := vz1w)) pe_str (nomark _)) (pss_one (ps_ret (pe_lst pa_nil))) pss_nil)
   (pss_cons (ps_let 1 sc_law_list_of.nd (pe_lst pa_nil) (hx := lzm))
   (pss_cons (ps_for PassesOwn.never rfl (pi_listK K (pe_bmK K PySem.F.plainAttrs_str PySem.F.slot_str_split PySem.F.type_str_split mt_split (pv 0 (hv := vz1w)) (pa_cons pe_str pa_nil))) (pg_let 2 sc_law_list_of.nd (hx := lzn)) (pss_cons (ps_asg (pe_bmK K PySem.F.plainAttrs_str PySem.F.slot_str_partition PySem.F.type_str_partition mt_partition (pv 2 (hv := vz1y)) (pa_cons pe_str pa_nil)) (pg_tupK K (n := 3) (pgs_cons (pg_let 3 sc_law_list_of.nd (hx := lzo)) (pgs_cons (pg_let 4 sc_law_list_of.nd (hx := lzp)) (pgs_cons (pg_let 5 sc_law_list_of.nd (hx := lzq)) pgs_nil)))))
   (pss_cons (ps_let 6 sc_law_list_of.nd (pe_cal c_law_rule_of hr (pa_cons (pv 5 (hv := vz21)) pa_nil) (hg := gz22)) (hx := lzr))
   (pss_cons (ps_if (PW.pt' (pw_or (pt_not (pt_val (pe_cal c_law_word hr (pa_cons (pv 3 (hv := vz1z)) pa_nil) (hg := gz23)))) (pw_or (pt_cmpR op_eqA (pv 4 (hv := vz20)) pe_str (nomark _)) (pw_or (pt_cmpR op_isNA (pv 6 (hv := vz22)) pe_non (nomark _)) (pw_or1 (pt_cmpR (op_inK K) (pv 3 (hv := vz1z)) (pe_comp (CompSc.to (fsc := (defScope s_law_list_of)) (N := ["_law_text", "_law_found", "_law_line", "_law_name", "_law_blank", "_law_rest", "_law_rule"]) (N0 := ["_law_text", "_law_found", "_law_line", "_law_name", "_law_blank", "_law_rest", "_law_rule"]) (T := ["_law_known", "_law_one"]) ⟨by decide +kernel, by decide +kernel, by decide +kernel, by decide +kernel, by decide +kernel, by decide +kernel, by decide +kernel⟩ rfl rfl) rfl (pi_listK K (pv 1 (hv := vz1x))) (fun _ _ _ _ => (pg_tupK K (n := 2) (pgs_cons (pg_let 7 (show (["_law_text", "_law_found", "_law_line", "_law_name", "_law_blank", "_law_rest", "_law_rule", "_law_known", "_law_one"] : List Str).Nodup from by decide +kernel) (hx := (locC (defScope s_law_list_of) (by decide +kernel))) (hf := fnC (defScope s_law_list_of) (by decide +kernel))) (pgs_cons (pg_let 8 (show (["_law_text", "_law_found", "_law_line", "_law_name", "_law_blank", "_law_rest", "_law_rule", "_law_known", "_law_one"] : List Str).Nodup from by decide +kernel) (hx := (locC (defScope s_law_list_of) (by decide +kernel))) (hf := fnC (defScope s_law_list_of) (by decide +kernel))) pgs_nil)))) (gfr_tup (gsfr_cons (gfr_name (show (["_law_text", "_law_found", "_law_line", "_law_name", "_law_blank", "_law_rest", "_law_rule"] : List Str).length ≤ 7 from by decide)) gm_name (gsfr_cons (gfr_name (show (["_law_text", "_law_found", "_law_line", "_law_name", "_law_blank", "_law_rest", "_law_rule"] : List Str).length ≤ 8 from by decide)) gm_name gsfr_nil gsm_nil) (gsm_cons gm_name gsm_nil))) (fun _ _ _ _ => pifs_nil) (fun _ _ _ _ => (pv 7 (hv := (visC (defScope s_law_list_of) (by decide +kernel)))))) (by with_unfolding_all rfl))))))) (pss_one (ps_ret pe_non)) pss_nil)
   (pss_one (ps_expr (pe_bmK K PySem.F.plainAttrs_list PySem.F.slot_list_append PySem.F.type_list_append mt_appendA (pv 1 (hv := vz1x)) (pa_cons (pe_tup (pa_cons (pv 3 (hv := vz1z)) (pa_cons (pv 6 (hv := vz22)) pa_nil))) pa_nil))))))))
   (pss_cons (ps_if (pt_cmpR op_gt (pe_blt (call_lenK K) z_len bt_len (pa_cons (pv 1 (hv := vz1x)) pa_nil) (hg := gz24)) pe_int (nomark _)) (pss_one (ps_ret pe_non)) pss_nil)
   (pss_one (ps_ret (pv 1 (hv := vz1x)))))))), ?_⟩
 have eg : (Str.ofString " ") ≠ Str.ofString "" := by decide +kernel
 walk_at "rd1"
 refine ite2 (fun c => ?_) (fun c => ?_)
 ·refine ⟨by decide, fun l hl => q [] l _ ?_ (fun n hn => by simp at hn) (same_new hl _) ⟨[], upd_same, rfl, fun i p n e => by simp at e⟩⟩
  have : linesP y = [] := by unfold linesP; rw [if_pos c]
  exact ⟨by rw [this]; exact Nat.zero_le _, by rw [this]; exact .nil, List.nodup_nil⟩
 have elp : linesP y = Txt.split y (Str.ofString "\n") := by unfold linesP; rw [if_neg c]
 walk_at "nx"
 refine ⟨by decide, fun F hF => ?_⟩
 generalize hH1 : upd H F _ = H1
 have s1 := al_same hH1 hF
 have e1 := al_at hH1
 walk_at "nx"
 refine ⟨by decide +kernel, by omega, fun sp hsp => ?_⟩
 have hb := split_len (x := y) (y := Str.ofString "\n") (by decide +kernel)
 rw [← elp] at hb ⊢
 have nsF : sp ≠ F := Ne.symm (ne_of_none e1 hsp)
 generalize hH2 : upd H1 sp _ = H2
 have s2 := al_same hH2 hsp
 have e2 := al_at hH2
 have hgood : ∀ ns, ListIs y ns ∧ (∀ n ∈ ns, n.2.s = 1) → ∀ (i : Nat) t, (linesP y)[i]? = some t → ∃ n, ns[i]? = some n ∧ LineIs t n ∧ n.2.s = 1 := fun ns h i t ht => by
  obtain ⟨n, h1, h2⟩ := h.1.2.1.at ht
  exact ⟨n, h1, h2, h.2 n (List.mem_of_getElem? h1)⟩
 refine ⟨⟨_, SqL.of e2⟩, ?_⟩
 refine forW_list (xs := (linesP y).map V.str) (fun i σ H' => ∃ (o2 o3 o4 o5 o6 : Option V) (ps : List Addr) (ns : List (Str × Rl)), σ = [some (.str y), some (.ref F), o2, o3, o4, o5, o6] ∧ Same H H' ∧ H' sp = some (.lst ((linesP y).map V.str)) ∧ H' F = some (.lst (ps.map V.ref)) ∧ ps.length = i ∧ ns.length = i ∧ LinesAre ((linesP y).take i) ns ∧ (∀ n ∈ ns, n.2.s = 1) ∧ (ns.map (·.1)).Nodup ∧ ∀ (j : Nat) p n, ps[j]? = some p → ns[j]? = some n → FreshN H H' F p n.1 n.2) ⟨none, none, none, none, none, [], [], rfl, s1.trans s2, e2, s2 _ _ e1, rfl, rfl, .nil, fun n hn => by simp at hn, List.nodup_nil, fun j p n e => by simp at e⟩ (fun i σ H' _ h => by obtain ⟨_, _, _, _, _, _, _, _, _, h, _⟩ := h; exact SqL.of h) ?_ ?_
 ·rintro i v σ Hi hv ⟨o2, o3, o4, o5, o6, ps, ns, rfl, smi, hspi, hFi, hpl, hnl, hla, hs1, hnd, hps⟩
  have hi : i < (linesP y).length := by have := (List.getElem?_eq_some_iff.mp hv).1; rw [List.length_map] at this; exact this
  have hli := List.getElem?_eq_getElem hi
  have htl := hb.2 _ (List.getElem_mem hi)
  rw [List.getElem?_map, hli] at hv
  cases hv
  generalize (linesP y)[i] = t at hli htl
  have hpt := part_len t (Str.ofString " ")
  have bad : (¬ ∃ n, LineIs t n ∧ n.2.s = 1) → ¬ ∃ ns, ListIs y ns ∧ ∀ n ∈ ns, n.2.s = 1 := fun h ⟨ns', h'⟩ => by
   obtain ⟨n, _, h2⟩ := hgood ns' h' i t hli
   exact h ⟨n, h2⟩
  walk_at "rd1"
  refine ⟨by decide +kernel, by omega, fun tp htp => ?_⟩
  generalize hHT : upd Hi tp _ = HT
  have sT := al_same hHT htp
  have eT := al_at hHT
  walk_at "rd1"
  refine ⟨_, _, rfl, SqT.of eT, rfl, _, _, rfl, _, _, rfl, _, _, rfl, rfl, ?_⟩
  have key : ∀ (d : V) (H3 : Hp), Same HT H3 → ((∃ r p, TxRule (Txt.partition t (Str.ofString " ")).2.2 r ∧ r.s = 1 ∧ d = .ref p ∧ FreshO HT H3 p r) ∨ ((¬ ∃ r, TxRule (Txt.partition t (Str.ofString " ")).2.2 r ∧ r.s = 1) ∧ d = .non)) → True := fun _ _ _ _ => trivial
  clear key
  walk_at "nx"
  have hw : ∀ n, LineIs t n → wordS (Txt.partition t (Str.ofString " ")).1 = true := fun n h => by rw [h.1]; exact h.2.1
  refine ⟨_, rfl, by omega, fun r p H3 hr hrs s3 hFO => ?_, fun H3 hn s3 => ?_⟩
  rotate_left
  ·have hbad := bad (fun ⟨n, h, h1⟩ => hn ⟨n.2, h.2.2, h1⟩)
   have sm3 := (smi.trans sT).trans s3
   walk_at "nx"
   refine ⟨_, rfl, by omega, _, rfl, ?_⟩
   refine ite2 (fun _ => no _ hbad sm3) (fun _ => ?_)
   refine ite2 (fun _ => no _ hbad sm3) (fun _ => ?_)
   exact no _ hbad sm3
  have sm3 := (smi.trans sT).trans s3
  have hF3 := s3 _ _ (sT _ _ hFi)
  walk_at "nx"
  refine ⟨_, rfl, by omega, _, rfl, ?_⟩
  cases hwb : wordS (Txt.partition t (Str.ofString " ")).1 with
  | false => exact ite2 (fun _ => no _ (bad fun ⟨n, h, _⟩ => by rw [hw n h] at hwb; cases hwb) sm3) (fun c => absurd rfl c)
  | true =>
  refine ite2 (fun c => absurd c (by decide)) (fun _ => ?_)
  refine ite2 (fun c => absurd (part_blank c eg) (rule_rest hr)) (fun _ => ?_)
  refine ite2 (fun c => absurd c (by simp)) (fun _ => ?_)
  refine ⟨⟨_, SqL.of hF3⟩, fun N hN => ?_⟩
  refine compW_list (xs := ps.map V.ref) (fun j ys H5 => Same H3 H5 ∧ H5 N = some (.lst ys) ∧ ys = ((ns.map (·.1)).take j).map V.str) ⟨same_new hN _, upd_same, rfl⟩ (fun j ys H5 _ h => SqL.of (h.1 _ _ hF3)) ?_ ?_
  ·rintro j ys H5 v hv hj' ⟨sm5, hN5, rfl⟩
   rw [List.length_map] at hj'
   rw [List.getElem?_map, List.getElem?_eq_getElem hj'] at hv
   cases hv
   have hjn : j < ns.length := by omega
   obtain ⟨a, g1, _⟩ := ((hps j _ _ (List.getElem?_eq_getElem hj') (List.getElem?_eq_getElem hjn)).mono (sT.trans s3)).at
   walk_at "rd1"
   refine ⟨_, _, rfl, SqT.of (sm5 _ _ g1), rfl, _, _, rfl, _, _, rfl, rfl, ?_⟩
   walk_at "rd1"
   refine cstep (by rw [List.length_map]; exact hj') (by simp; omega) (smallL (by rw [List.length_map]; omega)) hN5 ⟨sm5.upd hN _, upd_same, ?_⟩
   rw [List.take_add_one, List.getElem?_map, List.getElem?_eq_getElem hjn, List.map_append]; rfl
  rintro ys H5 ⟨sm5, hN5, rfl⟩
  rw [List.length_map, hpl, List.take_of_length_le (by rw [List.length_map]; omega)] at hN5
  walk_at "rd1"
  refine ⟨_, .inl (SqL.of hN5), rfl, flat_strs _, ?_⟩
  rw [inV_str]
  have hLI : LineIs t ((Txt.partition t (Str.ofString " ")).1, r) := ⟨rfl, hwb, hr⟩
  by_cases hmem : (Txt.partition t (Str.ofString " ")).1 ∈ ns.map (·.1)
  ·rw [decide_eq_true hmem]
   exact ite2 (fun _ => no _ (fun ⟨ns', h⟩ => dup_name hla hli hLI hmem h.1.2.1 h.1.2.2) (sm3.trans sm5)) (fun c => absurd rfl c)
  rw [decide_eq_false hmem]
  refine ite2 (fun c => absurd c (by decide)) (fun _ => ?_)
  have hF5 := sm5 _ _ hF3
  walk_at "nx"
  refine ⟨⟨_, SqL.of hF5⟩, by decide, fun a ha => ?_⟩
  have s6 := same_new ha (.tup [.str (Txt.partition t (Str.ofString " ")).1, .ref p])
  have hF6 := s6 _ _ hF5
  have hsT := (smi.trans sT)
  obtain ⟨pw, pr, as, g1, g2, g3, g4, g5, g6⟩ := hFO
  have hFT : HT F = _ := sT _ _ hFi
  have s36 := sm5.trans s6
  have new : FreshN H (upd H5 a (.tup [.str (Txt.partition t (Str.ofString " ")).1, .ref p])) F a (Txt.partition t (Str.ofString " ")).1 r := ⟨p, pw, pr, as, upd_same, s36 _ _ g1, s36 _ _ g2, g3.mono s36, hsT.free g5, (ne_of_none hFT g5).symm, (ne_of_none hFT g4).symm, fun x hx => (ne_of_none hFT (g6 x hx)).symm⟩
  refine ⟨_, hF6, smallL (by rw [List.length_map]; omega), _, _, _, _, _, ps ++ [a], ns ++ [((Txt.partition t (Str.ofString " ")).1, r)], rfl, (sm3.trans s36).upd hF _, ?_, by rw [upd_same, List.map_append]; rfl, by simp [hpl], by simp [hnl], ?_, fun n hn => ?_, ?_, fun j p' n' f1 f2 => ?_⟩
  ·rw [upd_ne nsF]; exact s36 _ _ (s3 _ _ (sT _ _ hspi))
  ·rw [List.take_add_one, hli]; exact hla.snoc hLI
  ·rcases List.mem_append.mp hn with z | z
   ·exact hs1 n z
   ·rw [List.mem_singleton.mp z]; exact hrs
  ·rw [List.map_append, List.nodup_append]
   exact ⟨hnd, by simp, fun x hx z hz => by
    have : z = (Txt.partition t (Str.ofString " ")).1 := by simpa using hz
    rw [this]; exact fun e => hmem (e ▸ hx)⟩
  ·rcases Nat.lt_or_ge j ps.length with hj | hj
   ·rw [List.getElem?_append_left hj] at f1
    rw [List.getElem?_append_left (by omega)] at f2
    exact ((hps j p' n' f1 f2).mono ((sT.trans s3).trans s36)).put hF6 _
   ·rw [List.getElem?_append_right hj] at f1
    rw [List.getElem?_append_right (by omega)] at f2
    have hj0 : j - ps.length = 0 := by
     have := (List.getElem?_eq_some_iff.mp f1).1
     simp at this; omega
    have hj1 : j - ns.length = 0 := by omega
    rw [hj0] at f1
    rw [hj1] at f2
    cases f1
    cases f2
    exact new.put hF6 _
 ·rintro σ H' ⟨o2, o3, o4, o5, o6, ps, ns, rfl, smi, hspi, hFi, hpl, hnl, hla, hs1, hnd, hps⟩
  rw [List.length_map] at hpl hnl hla
  rw [List.take_length] at hla
  walk_at "nx"
  refine ⟨_, .inl (SqL.of hFi), ?_⟩
  rw [List.length_map]
  refine ite2 (fun c8 => no _ (fun ⟨ns', h⟩ => by have := h.1.1; omega) smi) (fun c8 => ?_)
  walk_at "nx"
  exact q ns F H' ⟨by omega, hla, hnd⟩ hs1 smi ⟨ps, hFi, by omega, fun j p n f1 f2 => (hps j p n f1 f2).at⟩
end
theorem side_T {r : Rl} (ok : RlOk r) : (T (toString r.s)).length = 1 ∧ 10 ∉ T (toString r.s) := by
 rcases ok.s with e | e <;> rw [e] <;> exact ⟨by decide +kernel, by decide +kernel⟩
theorem glue_free {c : Nat} {sep : List Nat} {ps : List (List Nat)} (h1 : c ∉ sep) (h2 : ∀ p ∈ ps, c ∉ p) : c ∉ glue sep ps := by
 cases ps with
 | nil => simp [glue]
 | cons p ps =>
  show c ∉ p ++ ps.flatMap (sep ++ ·)
  intro hc
  rcases List.mem_append.mp hc with z | z
  ·exact h2 p List.mem_cons_self z
  ·obtain ⟨q, hq, hz⟩ := List.mem_flatMap.mp z
   rcases List.mem_append.mp hz with y | y
   ·exact h1 y
   ·exact h2 q (List.mem_cons_of_mem _ hq) y
theorem num_ten {k : Nat} (hk : k < 100) : 10 ∉ T (toString (k : Int)) := fun hc => by
 have h := List.all_eq_true.mp (num_facts k hk).2.2 10 hc
 revert h
 decide +kernel
theorem ruleT_ten {r : Rl} (ok : RlOk r) (h : ∀ u ∈ r.ws, 10 ∉ T u) : 10 ∉ ruleT r := by
 unfold ruleT
 intro hc
 rcases List.mem_append.mp hc with z | z
 ·rcases List.mem_append.mp z with z | z
  ·exact (side_T ok).2 z
  ·revert z; decide
 ·refine glue_free (by decide) (fun p hp => ?_) z
  obtain ⟨x, hx, rfl⟩ := List.mem_map.mp hp
  refine glue_free (by decide) (fun p hp hc => ?_)
  obtain ⟨j, hj, rfl⟩ := List.mem_iff_getElem.mp hp
  have hx' := ok.row x hx
  have hj' : j < r.ws.length := by rw [partsT_len hx'.1] at hj; exact hj
  have hu := h _ (List.getElem_mem hj')
  have e := partsT_at (ws := r.ws) (x := x) (j := j) (List.getElem?_eq_getElem hj') (List.getElem?_eq_getElem (by omega))
  rw [List.getElem?_eq_getElem hj] at e
  rw [Option.some.inj e] at hc
  have hk : ∀ k, x[j]'(by omega) = some k → k < 100 := fun k hk => by
   have h1 := hx'.2 k (hk ▸ List.getElem_mem _)
   have h2 := ok.n1
   omega
  cases e2 : x[j]'(by omega) with
  | none =>
   rw [e2] at hc
   rcases List.mem_append.mp hc with z | z
   ·exact hu z
   ·revert z; decide
  | some k =>
   rw [e2] at hc
   rcases List.mem_append.mp hc with z | z
   ·rcases List.mem_append.mp z with z | z
    ·exact hu z
    ·revert z; decide
   ·exact num_ten (hk k e2) z
theorem let_ten {c : Nat} (h : c ∈ letters.cps.toList) : c ≠ 10 := fun z => by
 rw [z] at h
 revert h
 decide +kernel
theorem word_ten {u : Str} (h : wordS u = true) : 10 ∉ T u := fun z => let_ten ((wordS_clean h).2 10 z) rfl
theorem parts_snoc {ws : List Str} {x : List (Option Nat)} {j : Nat} {u : Str} {o : Option Nat} (hx : x.length = j) (hu : ws[j]? = some u) : partsT (ws.take (j + 1)) (x ++ [o]) = partsT (ws.take j) x ++ [wayT (T u) o] := by
 have hj : j < ws.length := (List.getElem?_eq_some_iff.mp hu).1
 unfold partsT
 rw [List.take_add_one, hu]
 show List.zipWith _ (ws.take j ++ [u]) (x ++ [o]) = _
 rw [List.zipWith_append (by rw [List.length_take]; omega)]
 rfl
theorem parts_mem' {ws : List Str} {x : List (Option Nat)} (x1 : x.length = ws.length) (lw : ∀ u ∈ ws, u.length ≤ 10) (x2 : ∀ k, some k ∈ x → k < 100) : ∀ p ∈ partsT ws x, p.length ≤ 13 := fun p hm => by
 obtain ⟨j, hj, e⟩ := List.mem_iff_getElem.mp hm
 have hj' : j < ws.length := by rw [partsT_len x1] at hj; exact hj
 have e2 := partsT_at (ws := ws) (x := x) (j := j) (List.getElem?_eq_getElem hj') (List.getElem?_eq_getElem (by omega))
 rw [List.getElem?_eq_getElem hj, e] at e2
 have e3 := congrArg List.length (Option.some.inj e2)
 have hul := lw ws[j] (List.getElem_mem hj')
 rw [e3]
 have hom : x[j]'(by omega) ∈ x := List.getElem_mem _
 generalize x[j]'(by omega) = o at hom ⊢
 cases o with
 | none => show (T ws[j] ++ [33]).length ≤ 13; rw [List.length_append, T_len]; simp; omega
 | some k =>
  have := (num_facts k (x2 k hom)).2.1
  show (T ws[j] ++ [62] ++ T (toString (k : Int))).length ≤ 13
  rw [List.length_append, List.length_append, T_len ws[j]]
  simp only [List.length_singleton]
  omega
def lineT (n : Str × Rl) : List Nat := T n.1 ++ [32] ++ ruleT n.2
structure LnOk (n : Str × Rl) (y : Str) : Prop where
 tx : T y = lineT n
 w : wordS n.1 = true
 r : RuleTx n.2
 s : n.2.s = 1
 len : y.length ≤ 80
 nl : 10 ∉ T y
def spLine : Sp := fun vs H Q _ => ∃ (c : Int) (nm : Str) (pw : Addr) (w0 w1 : Str), vs = [.int c, .str nm, .ref pw] ∧ wordS nm = true ∧ H pw = some (.lst [.str w0, .str w1]) ∧ wordS w0 = true ∧ wordS w1 = true ∧ w0.cps.toList < w1.cps.toList ∧ ∀ (H' : Hp) (y : Str) (r : Rl), Same H H' → LnOk (nm, r) y → Q (.str y) H'
section
variable {P : Program} {w : World} {K : PySem.W.Frag} {mg : Str → Option Value} {base : Heap}
theorem ok_line (D : DefAt K mg "_law_drawn_line" s_law_drawn_line) (z_range : mg "range" = none) (z_str : mg "str" = none) (z_int : mg "int" = none) (c_law_mixed : Cal P w K mg base 1 "_law_mixed" ["_law_cell", "_law_k"] spMix) : Cal P w K mg base 2 "_law_drawn_line" ["_law_cell", "_law_name", "_law_words_here"] spLine := by
 refine D.cal (k := 1) sc_law_drawn_line (fun _ _ _ _ _ _ us hl => match us, hl with | [_, _, _], _ => rfl) (fun vs H Q E h => by obtain ⟨c, nm, pw, w0, w1, rfl, _⟩ := h; rfl) (fun f cdv A outer sh H vs Q E hr h => ?_)
 obtain ⟨c, nm, pw, w0, w1, rfl, hnm, hpw, hw0, hw1, hlt, q⟩ := h
 refine ⟨_, (pss_cons (ps_let 3 sc_law_drawn_line.nd (pe_op op_addA pe_int (pe_op op_mod (pv 0 (hv := vz23)) pe_int)) (hx := lzs))
   (pss_cons (ps_let 4 sc_law_drawn_line.nd (pe_lst pa_nil) (hx := lzt))
   (pss_cons (ps_for PassesOwn.never rfl (pi_range1 gz27 z_range (pa_cons (pv 3 (hv := vz26)) pa_nil)) (pg_let 5 sc_law_drawn_line.nd (hx := lzu)) (pss_cons (ps_let 6 sc_law_drawn_line.nd (pe_lst pa_nil) (hx := lzv))
   (pss_cons (ps_for PassesOwn.never rfl (pi_range1 gz27 z_range (pa_cons (pe_op op_addA pe_int (pe_op op_mod (pe_op op_fdiv (pv 0 (hv := vz23)) pe_int) pe_int)) pa_nil)) (pg_let 7 sc_law_drawn_line.nd (hx := lzw)) (pss_cons (ps_let 8 sc_law_drawn_line.nd (pe_cal c_law_mixed hr (pa_cons (pv 0 (hv := vz23)) (pa_cons (pe_op op_addA (pe_op op_mulB pe_int (pv 5 (hv := vz28))) (pv 7 (hv := vz2a))) pa_nil)) (hg := gz25)) (hx := lzx))
   (pss_one (ps_expr (pe_bmK K PySem.F.plainAttrs_list PySem.F.slot_list_append PySem.F.type_list_append mt_appendA (pv 6 (hv := vz29)) (pa_cons (pe_op op_addA (pe_ix (ix_K K) (pv 2 (hv := vz25)) (pv 7 (hv := vz2a)) (fun _ _ => rfl)) (pe_ix (ix_K K) (pe_lst (pa_cons pe_str (pa_cons (pe_op op_addA pe_str (pe_bty call_strI z_str bt_str (pa_cons (pe_op op_mod (pv 8 (hv := vz2b)) (pv 3 (hv := vz26))) pa_nil) (hg := gz28))) pa_nil))) (pe_bty call_intA z_int bt_int (pa_cons (pe_cmpR op_gt (pe_op op_mod (pe_op op_fdiv (pv 8 (hv := vz2b)) pe_int) pe_int) pe_int (nomark _)) pa_nil) (hg := gz26)) (fun _ _ => rfl))) pa_nil))))))
   (pss_one (ps_expr (pe_bmK K PySem.F.plainAttrs_list PySem.F.slot_list_append PySem.F.type_list_append mt_appendA (pv 4 (hv := vz27)) (pa_cons (pe_bmK K PySem.F.plainAttrs_str PySem.F.slot_str_join PySem.F.type_str_join (mt_joinK K) pe_str (pa_cons (pv 6 (hv := vz29)) pa_nil)) pa_nil)))))))
   (pss_one (ps_ret (pe_op op_addA (pe_op op_addA (pv 1 (hv := vz24)) pe_str) (pe_bmK K PySem.F.plainAttrs_str PySem.F.slot_str_join PySem.F.type_str_join (mt_joinK K) pe_str (pa_cons (pv 4 (hv := vz27)) pa_nil)))))))), ?_⟩
 have ln := (wordS_clean hnm).1
 have l0 := (wordS_clean hw0).1
 have l1 := (wordS_clean hw1).1
 walk_at "rd1"
 refine ⟨by decide, ?_⟩
 generalize hmn : 1 + c % 2 = mn
 have mn0 : 1 ≤ mn := by omega
 have mn1 : mn ≤ 2 := by omega
 walk_at "nx"
 refine ⟨by decide, fun L hL => ?_⟩
 generalize hH1 : upd H L _ = H1
 have s1 := al_same hH1 hL
 have e1 := al_at hH1
 walk_at "nx"
 refine ⟨by omega, by omega, ?_⟩
 generalize hwn : (1 + c / 2 % 2).toNat = wn
 have wn0 : 1 ≤ wn := by omega
 have wn1 : wn ≤ 2 := by omega
 refine forW_range (fun i σ H' => ∃ (o5 o6 o7 o8 : Option V) (ss : List Str) (rs : List (List (Option Nat))), σ = [some (.int c), some (.str nm), some (.ref pw), some (.int mn), some (.ref L), o5, o6, o7, o8] ∧ Same H H' ∧ H' L = some (.lst (ss.map V.str)) ∧ ss.length = i ∧ rs.length = i ∧ ss.map T = rs.map (roomT ([w0, w1].take wn)) ∧ ∀ x ∈ rs, x.length = wn ∧ ∀ k, some k ∈ x → (k : Int) < mn) ⟨none, none, none, none, [], [], rfl, s1, e1, rfl, rfl, rfl, by simp⟩ ?_ ?_
 ·rintro i σ H2 hi ⟨o5, o6, o7, o8, ss, rs, rfl, sm2, hL2, hsl, hrl, hst, hrow⟩
  walk_at "rd1"
  refine ⟨by decide, fun M hM => ?_⟩
  generalize hH3 : upd H2 M _ = H3
  have s3 := al_same hH3 hM
  have e3 := al_at hH3
  have nLM : L ≠ M := ne_of_none hL2 hM
  walk_at "nx"
  refine ⟨⟨by decide, by decide⟩, by decide, by omega, by omega, ?_⟩
  rw [hwn]
  have lx : (Str.ofString "!").length = 1 := by decide +kernel
  have lg : (Str.ofString ">").length = 1 := by decide +kernel
  refine forW_range (fun j σ H' => ∃ (o7 o8 : Option V) (us : List Str) (x : List (Option Nat)), σ = [some (.int c), some (.str nm), some (.ref pw), some (.int mn), some (.ref L), some (.int (0 + (i : Int))), some (.ref M), o7, o8] ∧ Same H2 H' ∧ H' M = some (.lst (us.map V.str)) ∧ us.length = j ∧ x.length = j ∧ us.map T = partsT ([w0, w1].take j) x ∧ ∀ k, some k ∈ x → (k : Int) < mn) ⟨_, _, [], [], rfl, s3, e3, rfl, rfl, rfl, by simp⟩ ?_ ?_
  ·rintro j σ H4 hj ⟨o7, o8, us, x, rfl, sm4, hM4, hul, hxl, hut, hxk⟩
   have hj2 : j < 2 := by omega
   obtain ⟨u, hu, hul8⟩ : ∃ u, [w0, w1][j]? = some u ∧ u.length ≤ 8 := by
    match j, hj2 with
    | 0, _ => exact ⟨w0, rfl, l0⟩
    | 1, _ => exact ⟨w1, rfl, l1⟩
   have huV : ([V.str w0, .str w1] : List V)[j]? = some (.str u) := by
    have : ([w0, w1].map V.str)[j]? = some (.str u) := by rw [List.getElem?_map, hu]; rfl
    exact this
   have sm24 := sm2.trans sm4
   walk_at "rd1"
   refine ⟨.inl ⟨by omega, by omega⟩, ⟨c, _, rfl, by omega, by omega, ?_⟩⟩
   generalize mixF c _ = num
   walk_at "nx"
   refine ⟨⟨_, SqL.of hM4⟩, _, _, .inl (SqL.of (sm24 _ _ hpw)), (by rw [show (0 : Int) + (j : Int) = (j : Int) by omega]; exact atI_nat huV), by omega, ?_⟩
   generalize hv : num % mn = v
   have v0 : 0 ≤ v := by rw [← hv]; exact Int.emod_nonneg _ (by omega)
   have v1 : v < mn := by rw [← hv]; exact Int.emod_lt_of_pos _ (by omega)
   obtain ⟨k, rfl⟩ := Int.eq_ofNat_of_zero_le v0
   have hk2 : k < 2 := by omega
   obtain ⟨k1, k2, _⟩ := num_facts k (by omega)
   rw [T_len] at k1 k2
   have k3 : ((k : Int)).natAbs.log2 < 1920 := by
    have : ((k : Int)).natAbs = k := by omega
    rw [this]
    exact Nat.lt_of_le_of_lt (Nat.log2_le_self k) (by omega)
   have push : ∀ (z : Str) (o : Option Nat) (H5 : Hp), Same H4 H5 → z.length ≤ 3 → T (u ++ z) = wayT (T u) o → (∀ k, o = some k → (k : Int) < mn) → rAddA (.str u) (.str z) H5 (fun v H6 => ∃ xs, H6 M = some (.lst xs) ∧ xs.length < sizeLine ∧ (fun (σ : L2.St) (H' : Hp) => ∃ (o7 o8 : Option V) (us : List Str) (x : List (Option Nat)), σ = [some (.int c), some (.str nm), some (.ref pw), some (.int mn), some (.ref L), some (.int (0 + (i : Int))), some (.ref M), o7, o8] ∧ Same H2 H' ∧ H' M = some (.lst (us.map V.str)) ∧ us.length = j + 1 ∧ x.length = j + 1 ∧ us.map T = partsT ([w0, w1].take (j + 1)) x ∧ ∀ k, some k ∈ x → (k : Int) < mn) [some (.int c), some (.str nm), some (.ref pw), some (.int mn), some (.ref L), some (.int (0 + (i : Int))), some (.ref M), some (.int (0 + (j : Int))), some (.int num)] (upd H6 M (.lst (xs ++ [v])))) := by
    intro z o H5 s5 hz hT ho
    walk_at "rd1"
    refine ⟨smallL (by omega), _, s5 _ _ hM4, smallL (by rw [List.length_map]; omega), _, _, us ++ [u ++ z], x ++ [o], rfl, (sm4.trans s5).upd hM _, by rw [upd_same, List.map_append]; rfl, by simp [hul], by simp [hxl], ?_, fun k hk => ?_⟩
    ·rw [List.map_append, hut, parts_snoc hxl hu, ← hT]; rfl
    ·rcases List.mem_append.mp hk with y' | y'
     ·exact hxk k y'
     ·exact ho k (List.mem_singleton.mp y').symm
   refine ⟨k3, by rw [lg]; exact smallL (by omega), by decide, fun tl htl => ⟨⟨by decide, by decide⟩, by decide, ?_⟩⟩
   have s5 := same_new htl (.lst [.str (Str.ofString "!"), .str (Str.ofString ">" ++ Str.ofString (toString (k : Int)))])
   by_cases hz : 0 < num / 2 % 3
   ·rw [if_pos hz]
    refine ⟨_, _, .inl (SqL.of upd_same), rfl, push _ (some k) _ s5 (by rw [Str.length_append, lg]; omega) ?_ (fun k' e => by cases e; exact v1)⟩
    rw [T_app, T_app]
    show _ = T u ++ [62] ++ _
    rw [List.append_assoc]; rfl
   ·rw [if_neg hz]
    exact ⟨_, _, .inl (SqL.of upd_same), rfl, push _ none _ s5 (by rw [lx]; omega) (by rw [T_app]; rfl) (fun k' e => by cases e)⟩
  ·rintro σ H4 ⟨o7, o8, us, x, rfl, sm4, hM4, hul, hxl, hut, hxk⟩
   walk_at "nx"
   have hL4 := sm4 _ _ hL2
   have hwl : ([w0, w1].take wn).length = wn := by rw [List.length_take]; show min wn 2 = wn; omega
   have hlw : ∀ u ∈ [w0, w1].take wn, u.length ≤ 10 := fun u hu => by
    have := List.mem_of_mem_take hu
    simp only [List.mem_cons, List.not_mem_nil, or_false] at this
    rcases this with rfl | rfl <;> omega
   have hlen : ∀ s ∈ us, s.length ≤ 13 := fun s hs' => by
    have hm : T s ∈ partsT ([w0, w1].take wn) x := by rw [← hut]; exact List.mem_map.mpr ⟨s, hs', rfl⟩
    have := parts_mem' (by rw [hwl]; exact hxl) hlw (fun k hk => by have := hxk k hk; omega) _ hm
    rwa [T_len] at this
   have h1' := sum_len_le 13 us hlen
   have h2' : (Str.ofString " ").length = 1 := by decide +kernel
   refine ⟨⟨_, SqL.of hL4⟩, us, SqL.of hM4, by rw [h2']; omega, _, hL4, smallL (by rw [List.length_map]; omega), _, _, _, _, ss ++ [Txt.join (Str.ofString " ") us], rs ++ [x], rfl, (sm2.trans sm4).upd hL _, by rw [upd_same, List.map_append]; rfl, by simp [hsl], by simp [hrl], ?_, fun z hz => ?_⟩
   ·rw [List.map_append, List.map_append, hst]
    congr 1
    show [T _] = [roomT _ x]
    rw [join_T, hut]; rfl
   ·rcases List.mem_append.mp hz with y' | y'
    ·exact hrow z y'
    ·rw [List.mem_singleton.mp y']; exact ⟨hxl, hxk⟩
 ·rintro σ H2 ⟨o5, o6, o7, o8, ss, rs, rfl, sm2, hL2, hsl, hrl, hst, hrow⟩
  have hwl : ([w0, w1].take wn).length = wn := by rw [List.length_take]; show min wn 2 = wn; omega
  have hwd : ∀ u ∈ [w0, w1].take wn, wordS u = true := fun u hu => by
   have := List.mem_of_mem_take hu
   simp only [List.mem_cons, List.not_mem_nil, or_false] at this
   rcases this with rfl | rfl
   ·exact hw0
   ·exact hw1
  have hlw : ∀ u ∈ [w0, w1].take wn, u.length ≤ 10 := fun u hu => by have := (wordS_clean (hwd u hu)).1; omega
  have hrm : ∀ x ∈ rs, (roomT ([w0, w1].take wn) x).length ≤ 28 := fun x hx => by
   have h := glue_len [32] 13 (partsT ([w0, w1].take wn) x) (parts_mem' (by rw [hwl]; exact (hrow x hx).1) hlw (fun k hk => by have := (hrow x hx).2 k hk; omega))
   rw [partsT_len (by rw [hwl]; exact (hrow x hx).1), hwl] at h
   simp only [List.length_cons, List.length_nil] at h
   unfold roomT
   omega
  have hmn2 : rs.length = mn.toNat := hrl
  have hrn : rs.length ≤ 2 := by omega
  have hr1 : 1 ≤ rs.length := by omega
  have hsl' : ss.length ≤ 2 := by omega
  have hlen : ∀ s ∈ ss, s.length ≤ 28 := fun s hs' => by
   have hm : T s ∈ rs.map (roomT ([w0, w1].take wn)) := by rw [← hst]; exact List.mem_map.mpr ⟨s, hs', rfl⟩
   obtain ⟨x, hx, e⟩ := List.mem_map.mp hm
   have := hrm x hx
   rw [e, T_len] at this
   exact this
  have h1' := sum_len_le 28 ss hlen
  have h2' : (Str.ofString "; ").length = 2 := by decide +kernel
  have h3' : (Str.ofString " 1: ").length = 4 := by decide +kernel
  have hgl := glue_len [59, 32] 28 (rs.map (roomT ([w0, w1].take wn))) (fun p hp => by obtain ⟨x, hx, rfl⟩ := List.mem_map.mp hp; exact hrm x hx)
  rw [List.length_map] at hgl
  simp only [List.length_cons, List.length_nil] at hgl
  have hjl : (Txt.join (Str.ofString "; ") ss).length ≤ 60 := by
   rw [← T_len, join_T, hst, show T (Str.ofString "; ") = [59, 32] by decide +kernel]; omega
  have hRT : RuleTx ⟨1, [w0, w1].take wn, rs⟩ := by
   refine ⟨⟨.inl rfl, by show ([w0, w1].take wn).length ≤ 16; omega, hr1, by show rs.length ≤ 60; omega, fun x hx => ⟨by show x.length = ([w0, w1].take wn).length; rw [hwl]; exact (hrow x hx).1, fun k hk => by have := (hrow x hx).2 k hk; show k < rs.length; omega⟩, hlw⟩, fun u hu => wordS_cl (hwd u hu), ?_⟩
   show (decide (([w0, w1].take wn).length ≤ 16) && (([w0, w1].take wn).all (wordOf 1) && risingB ([w0, w1].take wn))) = true
   rw [decide_eq_true (by omega), Bool.true_and, List.all_eq_true.mpr (show ∀ u ∈ [w0, w1].take wn, wordOf 1 u = true from fun u hu => hwd u hu), Bool.true_and]
   rcases (show wn = 1 ∨ wn = 2 by omega) with e | e
   ·rw [e]; rfl
   ·rw [e]
    show risingB [w0, w1] = true
    unfold risingB
    simpa using hlt
  walk_at "nx"
  refine ⟨by rw [h3']; exact smallL (by omega), ss, SqL.of hL2, by rw [h2']; omega, by rw [Str.length_append, h3']; exact smallL (by omega), q H2 _ ⟨1, [w0, w1].take wn, rs⟩ sm2 ?_⟩
  have hTx : T (nm ++ Str.ofString " 1: " ++ Txt.join (Str.ofString "; ") ss) = lineT (nm, ⟨1, [w0, w1].take wn, rs⟩) := by
   rw [T_app, T_app, join_T, hst, show T (Str.ofString "; ") = [59, 32] by decide +kernel, show T (Str.ofString " 1: ") = [32, 49, 58, 32] by decide +kernel]
   unfold lineT ruleT
   have t1 : T (toString (1 : Int)) = [49] := by decide +kernel
   show _ = T nm ++ [32] ++ (T (toString (1 : Int)) ++ [58, 32] ++ _)
   rw [t1]
   simp
  refine ⟨hTx, hnm, hRT, rfl, by rw [Str.length_append, Str.length_append, h3']; omega, fun z => ?_⟩
  rw [hTx] at z
  rcases List.mem_append.mp z with z | z
  ·rcases List.mem_append.mp z with z | z
   ·exact word_ten hnm z
   ·exact absurd (List.mem_singleton.mp z) (by decide)
  ·exact ruleT_ten hRT.ok (fun u hu => word_ten (hwd u hu)) z
end
section
variable {P : Program} {w : World} {K : PySem.W.Frag} {mg : Str → Option Value} {base : Heap} {C_NoRule C_NoText C_UseError : Addr}
def spChanged : Sp := fun vs H Q _ => ∃ (y : Str) (c : Int) (p : Addr) (ns : List Str), vs = [.str y, .int c, .ref p] ∧ y.length ≤ 400 ∧ H p = some (.lst (ns.map V.str)) ∧ ns.length ≤ 10 ∧ (∀ n ∈ ns, n.length ≤ 8) ∧ ∀ (H' : Hp) (z : Str), Same H H' → z.length ≤ 900 → Q (.str z) H'
theorem ok_changed (D : DefAt K mg "_law_changed" s_law_changed) (z_len : mg "len" = none) (c_law_mixed : Cal P w K mg base 1 "_law_mixed" ["_law_cell", "_law_k"] spMix) : Cal P w K mg base 2 "_law_changed" ["_law_text", "_law_cell", "_law_names"] spChanged := by
 refine D.cal (k := 1) sc_law_changed (fun _ _ _ _ _ _ us hl => match us, hl with | [_, _, _], _ => rfl) (fun vs H Q E h => by obtain ⟨y, c, p, ns, rfl, _⟩ := h; rfl) (fun f cdv A outer sh H vs Q E hr h => ?_)
 obtain ⟨y, c, p, ns, rfl, hyl, hp, hn, hns, q⟩ := h
 refine ⟨_, (pss_cons (ps_let 3 sc_law_changed.nd pe_str (hx := lzy))
   (pss_cons (ps_let 4 sc_law_changed.nd (pe_op op_mod (pe_op op_fdiv (pv 1 (hv := vz2d)) pe_int) (pe_op op_addA (pe_blt (call_lenK K) z_len bt_len (pa_cons (pv 0 (hv := vz2c)) pa_nil) (hg := gz2a)) pe_int)) (hx := lzz))
   (pss_cons (ps_let 5 sc_law_changed.nd (pe_ix (ix_K K) (pv 3 (hv := vz2f)) (pe_op op_mod (pe_cal c_law_mixed hr (pa_cons (pv 1 (hv := vz2d)) (pa_cons pe_int pa_nil)) (hg := gz29)) pe_int) (fun _ _ => rfl)) (hx := lz10))
   (pss_cons (ps_if (pt_cmpR op_ltA (pe_op op_mod (pv 1 (hv := vz2d)) pe_int) pe_int (nomark _)) (pss_one (ps_ret (pe_op op_addA (pe_op op_addA (pe_slice sl_str (pv 0 (hv := vz2c)) po_none (po_some (pv 4 (hv := vz2g)))) (pv 5 (hv := vz2h))) (pe_slice sl_str (pv 0 (hv := vz2c)) (po_some (pe_op op_addA (pv 4 (hv := vz2g)) pe_int)) po_none)))) pss_nil)
   (pss_cons (ps_if (pt_cmpR op_ltA (pe_op op_mod (pv 1 (hv := vz2d)) pe_int) pe_int (nomark _)) (pss_one (ps_ret (pe_op op_addA (pe_op op_addA (pe_slice sl_str (pv 0 (hv := vz2c)) po_none (po_some (pv 4 (hv := vz2g)))) (pv 5 (hv := vz2h))) (pe_slice sl_str (pv 0 (hv := vz2c)) (po_some (pv 4 (hv := vz2g))) po_none)))) pss_nil)
   (pss_cons (ps_if (pt_cmpR op_eqA (pe_op op_mod (pv 1 (hv := vz2d)) pe_int) pe_int (nomark _)) (pss_one (ps_ret (pe_op op_addA (pe_slice sl_str (pv 0 (hv := vz2c)) po_none (po_some (pv 4 (hv := vz2g)))) (pe_slice sl_str (pv 0 (hv := vz2c)) (po_some (pe_op op_addA (pv 4 (hv := vz2g)) pe_int)) po_none)))) pss_nil)
   (pss_cons (ps_if (pt_cmpR op_eqA (pe_op op_mod (pv 1 (hv := vz2d)) pe_int) pe_int (nomark _)) (pss_one (ps_ret (pe_op op_addA (pe_op op_addA (pv 0 (hv := vz2c)) pe_str) (pe_ix (ix_K K) (pe_bmK K PySem.F.plainAttrs_str PySem.F.slot_str_split PySem.F.type_str_split mt_split (pv 0 (hv := vz2c)) (pa_cons pe_str pa_nil)) (pe_op op_mod (pe_op op_fdiv (pv 1 (hv := vz2d)) pe_int) (pe_blt (call_lenK K) z_len bt_len (pa_cons (pe_bmK K PySem.F.plainAttrs_str PySem.F.slot_str_split PySem.F.type_str_split mt_split (pv 0 (hv := vz2c)) (pa_cons pe_str pa_nil)) pa_nil) (hg := gz2a))) (fun _ _ => rfl))))) pss_nil)
   (pss_one (ps_ret (pe_bmK K PySem.F.plainAttrs_str PySem.F.slot_str_join PySem.F.type_str_join (mt_joinK K) pe_str (pa_cons (pe_comp (CompSc.to (fsc := (defScope s_law_changed)) (N := ["_law_text", "_law_cell", "_law_names", "_law_signs", "_law_at", "_law_sign"]) (N0 := ["_law_text", "_law_cell", "_law_names", "_law_signs", "_law_at", "_law_sign"]) (T := ["_law_name"]) ⟨by decide +kernel, by decide +kernel, by decide +kernel, by decide +kernel, by decide +kernel, by decide +kernel, by decide +kernel⟩ rfl rfl) rfl (pi_listK K (pv 2 (hv := vz2e))) (fun _ _ _ _ => (pg_let 6 (show (["_law_text", "_law_cell", "_law_names", "_law_signs", "_law_at", "_law_sign", "_law_name"] : List Str).Nodup from by decide +kernel) (hx := (locC (defScope s_law_changed) (by decide +kernel))) (hf := fnC (defScope s_law_changed) (by decide +kernel)))) (gfr_name (show (["_law_text", "_law_cell", "_law_names", "_law_signs", "_law_at", "_law_sign"] : List Str).length ≤ 6 from by decide)) (fun _ _ _ _ => pifs_nil) (fun _ _ _ _ => (pe_op op_addA (pv 6 (hv := (visC (defScope s_law_changed) (by decide +kernel)))) pe_str))) pa_nil))))))))))), ?_⟩
 walk_at "rd1"
 walk_at "nx"
 refine ⟨⟨by decide, by decide⟩, smallL (by omega), by omega, ?_⟩
 generalize c / 8 % ((y.length : Int) + 1) = i
 walk_at "nx"
 refine ⟨c, 9, rfl, by decide, by decide, ?_⟩
 generalize mixF c 9 = m
 walk_at "rd1"
 obtain ⟨d, hd⟩ : ∃ d, atI (Str.ofString "abc012 \n>!;:.A\t").cps.toList (m % 15) = some d := by
  obtain ⟨x, _, h⟩ := at_lst (xs := (Str.ofString "abc012 \n>!;:.A\t").cps.toList) (i := m % 15) (by omega) (by
   have : (Str.ofString "abc012 \n>!;:.A\t").cps.toList.length = 15 := by decide +kernel
   rw [this]; omega)
  exact ⟨x, h⟩
 refine ⟨by decide, d, smallL (by decide +kernel), hd, ?_⟩
 have ld : (⟨#[d]⟩ : Str).length = 1 := rfl
 have l1 := Txt.slice_le y none (some i)
 have l2 := Txt.slice_le y (some i) none
 have l3 := Txt.slice_le y (some (i + 1)) none
 have lb : (Str.ofString "\n").length = 1 := by decide +kernel
 walk_at "nx"
 refine ⟨by decide, ite2 (fun _ => ?_) (fun _ => ?_)⟩
 ·exact ⟨smallL (by omega), smallL (by omega), smallL (by omega), smallL (by rw [Str.length_append]; omega), q _ _ (Same.refl _) (by rw [Str.length_append, Str.length_append]; omega)⟩
 walk_at "nx"
 refine ⟨by decide, ite2 (fun _ => ?_) (fun _ => ?_)⟩
 ·exact ⟨smallL (by omega), smallL (by omega), smallL (by omega), smallL (by rw [Str.length_append]; omega), q _ _ (Same.refl _) (by rw [Str.length_append, Str.length_append]; omega)⟩
 walk_at "nx"
 refine ⟨by decide, ite2 (fun _ => ?_) (fun _ => ?_)⟩
 ·exact ⟨smallL (by omega), smallL (by omega), smallL (by omega), q _ _ (Same.refl _) (by rw [Str.length_append]; omega)⟩
 have hb := split_len (x := y) (y := Str.ofString "\n") (by decide +kernel)
 have hb0 := List.length_pos_iff.mpr (split_ne y (Str.ofString "\n"))
 walk_at "nx"
 refine ⟨by decide, ite2 (fun _ => ?_) (fun _ => ?_)⟩
 ·refine ⟨by rw [lb]; exact smallL (by omega), by decide +kernel, by omega, fun l hl => ⟨⟨by decide, by decide⟩, by decide +kernel, by omega, fun l2 hl2 => ?_⟩⟩
  generalize Txt.split y (Str.ofString "\n") = ts at hb hb0 hl2 ⊢
  have s1 := same_new hl (.lst (ts.map V.str))
  have e1 : upd H l (.lst (ts.map V.str)) l = some (.lst (ts.map V.str)) := upd_same
  generalize upd H l (.lst (ts.map V.str)) = H1 at s1 e1 hl2 ⊢
  have s2 := same_new hl2 (.lst (ts.map V.str))
  refine ⟨_, .inl (SqL.of upd_same), by rw [List.length_map]; omega, ?_⟩
  rw [List.length_map]
  obtain ⟨x, hx, _⟩ := at_lst (xs := ts) (i := c / 8 % (ts.length : Int)) (Int.emod_nonneg _ (by omega)) (Int.emod_lt_of_pos _ (by omega))
  have hxl := hb.2 x (List.mem_of_getElem? hx)
  refine ⟨_, _, .inl (SqL.of (s2 _ _ e1)), at_map (Int.emod_nonneg _ (by omega)) hx, ?_⟩
  walk_at "rd1"
  exact ⟨smallL (by rw [Str.length_append, lb]; omega), q _ _ (s1.trans s2) (by rw [Str.length_append, Str.length_append, lb]; omega)⟩
 have l4 : (Str.ofString " 1: ").length = 4 := by decide +kernel
 walk_at "nx"
 refine ⟨⟨_, SqL.of hp⟩, fun L hL => ?_⟩
 refine compW_list (xs := ns.map V.str) (fun j ys H' => ∃ us : List Str, Same H H' ∧ H' L = some (.lst ys) ∧ ys = us.map V.str ∧ us.length = j ∧ ∀ u ∈ us, u.length ≤ 12) ⟨[], same_new hL _, upd_same, rfl, rfl, fun u hu => by simp at hu⟩ (fun j ys H' _ h => by obtain ⟨_, s, _⟩ := h; exact SqL.of (s _ _ hp)) ?_ ?_
 ·rintro j ys H' v hv hj ⟨us, sm, hD, rfl, hul, hub⟩
  rw [List.length_map] at hj
  rw [List.getElem?_map, List.getElem?_eq_getElem hj] at hv
  cases hv
  have hnl := hns _ (List.getElem_mem hj)
  walk_at "rd1"
  refine ⟨smallL (by omega), ?_⟩
  refine cstep (by rw [List.length_map]; exact hj) (by rw [List.length_map]; exact hul) (smallL (by rw [List.length_map]; omega)) hD ⟨us ++ [ns[j] ++ Str.ofString " 1: "], sm.upd hL _, upd_same, map_push _ _, len_push hul, fun u hu => ?_⟩
  rcases List.mem_append.mp hu with z | z
  ·exact hub u z
  ·rw [List.mem_singleton.mp z, Str.length_append, l4]; omega
 ·rintro ys H' ⟨us, sm, hD, rfl, hul, hub⟩
  rw [List.length_map] at hul
  walk_at "rd1"
  have h1' := sum_len_le 12 us hub
  refine ⟨us, SqL.of hD, by rw [lb]; omega, q _ _ sm ?_⟩
  have hg := glue_len [10] 12 (us.map T) (fun p hp => by obtain ⟨u, hu, rfl⟩ := List.mem_map.mp hp; rw [T_len]; exact hub u hu)
  rw [← T_len, join_T, show T (Str.ofString "\n") = [10] by decide +kernel]
  rw [List.length_map] at hg
  simp only [List.length_cons, List.length_nil] at hg
  omega
theorem ok_refused (D : DefAt K mg "_law_refused" s_law_refused) (z_isinstance : mg "isinstance" = none) (z_ValueError : mg "ValueError" = none) (x_NoRule : ExcAt K mg "NoRule" C_NoRule) (x_NoText : ExcAt K mg "NoText" C_NoText) (x_UseError : ExcAt K mg "UseError" C_UseError) (k1 : PySem.W.kitOne K (.ref C_NoText) (.ref C_NoRule) = some false) (k5 : PySem.W.kitOne K (.ref C_NoText) (.ref C_UseError) = some true) (k6 : PySem.W.kitOne K (.ref C_NoText) (.type "ValueError") = some true) (x_read_rules : CalX P w K mg base 8 "read_rules" ["text"] (spRulesX C_NoText)) :
  Cal P w K mg base 9 "_law_refused" ["_law_thing"] (fun vs H Q _ => ∃ x, vs = [x] ∧ ((∃ y : Str, x = .str y ∧ y.length ≤ 50000 ∧ ¬ ∃ ns, ListIs y ns) ∨ ∃ t, tyName H x = some t ∧ isT t "str" = false) ∧ ∀ H', Same H H' → Q (.bl true) H') := by
 refine D.cal (k := 8) sc_law_refused (fun _ _ _ _ _ _ us hl => match us, hl with | [_], _ => rfl) (fun vs H Q E h => by obtain ⟨x, rfl, _⟩ := h; rfl) (fun f cdv A outer s H vs Q E hr h => ?_)
 obtain ⟨x, rfl, h, q⟩ := h
 refine ⟨_, (pss_cons (ps_let 1 sc_law_refused.nd pe_bl (hx := lz11))
   (pss_cons (ps_tryE 2 x_NoText sc_law_refused.nd (fun Ee => (ats_one (at_expr (at_call x_read_rules hr (pa_cons (pv 0 (hv := vz2i)) pa_nil) (hg := gz2g))))) (fun a => (pss_one (ps_let 1 sc_law_refused.nd (pe_or (pe_blt (call_isX K) z_isinstance bt_isinstance (pa_cons (pv 2 (hv := vz2k)) (pa_cons (pe_gcls x_NoRule.m (hg := gz2b)) pa_nil)) (hg := gz2f)) (pe_or (pe_not (pe_blt (call_isX K) z_isinstance bt_isinstance (pa_cons (pv 2 (hv := vz2k)) (pa_cons (pe_gcls x_UseError.m (hg := gz2d)) pa_nil)) (hg := gz2f))) (pe_one (pe_not (pe_blt (call_isX K) z_isinstance bt_isinstance (pa_cons (pv 2 (hv := vz2k)) (pa_cons (pe_gty z_ValueError bt_ValueError (hg := gz2e)) pa_nil)) (hg := gz2f)))))) (hx := lz11)))) (pss_one (ps_ret pe_bl)) kz6 (hg := gz2c))
   (pss_one (ps_ret (pe_not (pv 1 (hv := vz2j))))))), ?_⟩
 walk_at "rd1"
 walk_at "nx"
 rw [tTryE_at]
 walk_at "rd1"
 have hd : ∀ HX : Hp, Same H HX → ∀ a, HX a = none → rIsX K [V.ref a, V.ref C_NoRule] (upd HX a (exO a (.ref C_NoText))) fun x_2 H1 => ∃ c, x_2 = V.bl c ∧ if c = true then Rest (tRet (tNotV (tVar 1))) { nx := fun x H' => Q V.non H', rt := Q } [some x, some (V.bl true), none] H1 else rIsX K [V.ref a, V.ref C_UseError] H1 fun x_3 H1 => ∃ c, x_3 = V.bl c ∧ if (!c) = true then Rest (tRet (tNotV (tVar 1))) { nx := fun x H' => Q V.non H', rt := Q } [some x, some (V.bl true), none] H1 else rIsX K [V.ref a, V.ty "ValueError"] H1 fun x_4 H1 => ∃ c, x_4 = V.bl c ∧ Rest (tRet (tNotV (tVar 1))) { nx := fun x H' => Q V.non H', rt := Q } [some x, some (V.bl !c), none] H1 := by
  intro HX sHX a ha0
  have ha : upd HX a (exO a (.ref C_NoText)) a = some (exO a (.ref C_NoText)) := upd_same
  have sX : Same H (upd HX a (exO a (.ref C_NoText))) := fun b o z => by
   have z' := sHX _ _ z
   rw [upd_ne (ne_of_none z' ha0)]
   exact z'
  generalize upd HX a (exO a (.ref C_NoText)) = H2 at ha sX ⊢
  refine isX_of ha x_NoText.c k1 ⟨_, rfl, ite2 (fun c => absurd c (by decide)) (fun _ => isX_of ha x_NoText.c k5 ⟨_, rfl, ite2 (fun c => absurd c (by decide)) (fun _ => isX_of ha x_NoText.c k6 ⟨_, rfl, ?_⟩)⟩)⟩
  walk_at "nx"
  exact q _ sX
 rcases h with ⟨y, rfl, hyl, hn⟩ | ht
 ·exact ⟨_, rfl, .inl ⟨y, rfl, hyl, fun ns l H' hns => absurd ⟨ns, hns⟩ hn, fun H' _ s' => ⟨rfl, hd H' s'⟩⟩⟩
 ·exact ⟨_, rfl, .inr ⟨ht, rfl, hd H (Same.refl _)⟩⟩
end
def spRulesC : Sp := fun vs H Q _ => ∃ (y : Str) (ns : List (Str × Rl)), vs = [.str y] ∧ y.length ≤ 50000 ∧ ListIs y ns ∧ ∀ l H', Same H H' → ListAt H' l ns → Q (.ref l) H'
def spRefused : Sp := fun vs H Q _ => ∃ x, vs = [x] ∧ ((∃ y : Str, x = .str y ∧ y.length ≤ 50000 ∧ ¬ ∃ ns, ListIs y ns) ∨ ∃ t, tyName H x = some t ∧ isT t "str" = false) ∧ ∀ H', Same H H' → Q (.bl true) H'
theorem glue_mem {sep p : List Nat} : ∀ {ps : List (List Nat)}, p ∈ ps → ∃ a b, glue sep ps = a ++ (p ++ b)
 | q :: ps, h => by
  have fm : ∀ (qs : List (List Nat)), p ∈ qs → ∃ a b, qs.flatMap (sep ++ ·) = a ++ (p ++ b) := fun qs => by
   induction qs with
   | nil => intro h; simp at h
   | cons r qs ih =>
    intro h
    rcases List.mem_cons.mp h with rfl | h
    ·exact ⟨sep, qs.flatMap (sep ++ ·), by simp⟩
    ·obtain ⟨a, b, e⟩ := ih h
     exact ⟨sep ++ r ++ a, b, by simp [e]⟩
  rcases List.mem_cons.mp h with rfl | h
  ·exact ⟨[], ps.flatMap (sep ++ ·), rfl⟩
  ·obtain ⟨a, b, e⟩ := fm ps h
   exact ⟨q ++ a, b, by show q ++ ps.flatMap (sep ++ ·) = _; rw [e, List.append_assoc]⟩
theorem found_in {x y : Str} {a b : List Nat} (h : T x = a ++ (T y ++ b)) : (!(Builtin.Str.occurrences x y 0 x.length 1).isEmpty) = true := by
 have hA := at_of (x := x) (y := y) (p := a) (q := b) h
 rcases PySem.StrLaws.occ_head x y 1 (Nat.le_refl 1) with ⟨h0, hn⟩ | ⟨i, rr, h0, ha, hn⟩
 ·exact absurd hA (hn _)
 ·rw [h0]; rfl
theorem one_side {y : Str} {ns : List (Str × Rl)} (h : ListIs y ns) (h2 : (!(Builtin.Str.occurrences y (Str.ofString "2:") 0 y.length 1).isEmpty) = false) : ∀ n ∈ ns, n.2.s = 1 := fun n hn => by
 rcases (show n.2.s = 1 ∨ n.2.s = 2 from by
  obtain ⟨i, hi, rfl⟩ := List.mem_iff_getElem.mp hn
  have hl := h.2.1.len
  obtain ⟨n', e, hL⟩ := h.2.1.at (List.getElem?_eq_getElem (show i < (linesP y).length by omega))
  rw [List.getElem?_eq_getElem hi] at e
  rw [Option.some.inj e]
  exact hL.2.2.1.ok.s) with z | z
 ·exact z
 ·exfalso
  obtain ⟨i, hi, e0⟩ := List.mem_iff_getElem.mp hn
  have hl := h.2.1.len
  have hil : i < (linesP y).length := by omega
  obtain ⟨n', e, hL⟩ := h.2.1.at (List.getElem?_eq_getElem hil)
  rw [List.getElem?_eq_getElem hi, e0] at e
  rw [← Option.some.inj e] at hL
  have hne : y ≠ Str.ofString "" := fun z' => by
   have : linesP y = [] := by unfold linesP; rw [if_pos z']
   rw [this] at hil; simp at hil
  have elp : linesP y = Txt.split y (Str.ofString "\n") := by unfold linesP; rw [if_neg hne]
  have hj := PySem.StrLaws.join_split y (Str.ofString "\n")
  have hj2 : Txt.join (Str.ofString "\n") (Txt.split y (Str.ofString "\n")) = y := (PySem.StrLaws.glued_eq_join _ _).trans hj
  have hmem : (linesP y)[i] ∈ linesP y := List.getElem_mem hil
  generalize (linesP y)[i] = t at hL hmem
  rw [elp] at hmem
  obtain ⟨a, b, eg⟩ := glue_mem (sep := T (Str.ofString "\n")) (List.mem_map.mpr ⟨t, hmem, rfl⟩ : T t ∈ (Txt.split y (Str.ofString "\n")).map T)
  have ey : T y = a ++ (T t ++ b) := by
   have h1 := congrArg T hj2
   rw [join_T] at h1
   rw [← h1, eg]
  have hbl : (Txt.partition t (Str.ofString " ")).2.1 ≠ Str.ofString "" := fun z' => rule_rest hL.2.2 (part_blank z' (by decide +kernel))
  have et := part_tx (x := t) (y := Str.ofString " ") (c := 32) (by decide +kernel) hbl
  have er := hL.2.2.2
  have t2 : T (toString (2 : Int)) = [50] := by decide +kernel
  have er2 : T (Txt.partition t (Str.ofString " ")).2.2 = [50, 58] ++ ([32] ++ glue [59, 32] (n.2.rs.map (roomT n.2.ws))) := by
   rw [er]; unfold ruleT; rw [z, t2]; rfl
  have ef : T y = (a ++ (T (Txt.partition t (Str.ofString " ")).1 ++ [32])) ++ (T (Str.ofString "2:") ++ (([32] ++ glue [59, 32] (n.2.rs.map (roomT n.2.ws))) ++ b)) := by
   rw [ey, et, er2, show T (Str.ofString "2:") = [50, 58] by decide +kernel]
   simp
  rw [found_in ef] at h2
  cases h2
theorem LnOk.is {n : Str × Rl} {y : Str} (h : LnOk n y) : LineIs y n := by
 have es : (Str.ofString " ").cps.toList = 32 :: [] := by decide +kernel
 have hp : Txt.partition y (Str.ofString " ") = (n.1, Str.ofString " ", strT (ruleT n.2)) := part_of es (by
  show T y = T n.1 ++ ((Str.ofString " ").cps.toList ++ T (strT _))
  rw [h.tx, T_strT, es]; unfold lineT; rw [List.append_assoc]) (fun z => (wordS_cl h.w _ z).1 rfl)
 refine ⟨by rw [hp], h.w, h.r, ?_⟩
 rw [hp]; exact T_strT _
theorem LnOk.ne {n : Str × Rl} {y : Str} (h : LnOk n y) : 1 ≤ (T y).length := by
 rw [h.tx]; unfold lineT; rw [List.length_append, List.length_append]; simp only [List.length_cons, List.length_nil]; omega
inductive LnsOk : List (Str × Rl) → List Str → Prop
 | nil : LnsOk [] []
 | cons {n y ns ys} : LnOk n y → LnsOk ns ys → LnsOk (n :: ns) (y :: ys)
theorem LnsOk.snoc {ns : List (Str × Rl)} {ys : List Str} {n : Str × Rl} {y : Str} (h : LnsOk ns ys) (h1 : LnOk n y) : LnsOk (ns ++ [n]) (ys ++ [y]) := by
 induction h with
 | nil => exact .cons h1 .nil
 | cons h2 _ ih => exact .cons h2 ih
theorem LnsOk.are {ns : List (Str × Rl)} {ys : List Str} (h : LnsOk ns ys) : LinesAre ys ns := by
 induction h with
 | nil => exact .nil
 | cons h1 _ ih => exact .cons h1.is ih
theorem LnsOk.mem {ns : List (Str × Rl)} {ys : List Str} (h : LnsOk ns ys) : (∀ n ∈ ns, n.2.s = 1) ∧ ∀ y ∈ ys, y.length ≤ 80 ∧ 10 ∉ T y ∧ 1 ≤ (T y).length := by
 induction h with
 | nil => exact ⟨fun n hn => by simp at hn, fun y hy => by simp at hy⟩
 | cons h1 _ ih =>
  refine ⟨fun n hn => ?_, fun y hy => ?_⟩
  ·rcases List.mem_cons.mp hn with rfl | z
   ·exact h1.s
   ·exact ih.1 n z
  ·rcases List.mem_cons.mp hy with rfl | z
   ·exact ⟨h1.len, h1.nl, h1.ne⟩
   ·exact ih.2 y z
theorem lines_of_join {ns : List (Str × Rl)} {ys : List Str} (h : LnsOk ns ys) : linesP (Txt.join (Str.ofString "\n") ys) = ys := by
 have es : (Str.ofString "\n").cps.toList = 10 :: [] := by decide +kernel
 have hj : Txt.join (Str.ofString "\n") ys = Str.join (Str.ofString "\n") ys := PySem.StrLaws.glued_eq_join _ _
 cases h with
 | nil => rfl
 | @cons n y ns ys h1 h2 =>
  have hall := (LnsOk.cons h1 h2).mem.2
  have hne : Txt.join (Str.ofString "\n") (y :: ys) ≠ Str.ofString "" := fun z => by
   have e := congrArg T z
   rw [join_T] at e
   have e2 : (glue (T (Str.ofString "\n")) ((y :: ys).map T)).length = 0 := by rw [e]; rfl
   have e3 : glue (T (Str.ofString "\n")) ((y :: ys).map T) = T y ++ (ys.map T).flatMap (T (Str.ofString "\n") ++ ·) := rfl
   rw [e3, List.length_append] at e2
   have := h1.ne
   omega
  unfold linesP
  rw [if_neg hne]
  exact split_of es (by decide +kernel) (by simp) (fun z hz => (hall z hz).2.1) hj
section
variable {P : Program} {w : World} {K : PySem.W.Frag} {mg : Str → Option Value} {base : Heap}
theorem compW_zipS {a b : Addr} {xs ys : List V} {g : TG} {te : TE} {nT : Nat} {σ : L2.St} {D : Addr} {Q : VK} {H : Hp} (Pv : Nat → List V → Hp → Prop) (hn : ys.length ≤ xs.length) (h0 : Pv 0 [] H) (hl : ∀ i zs H, i ≤ ys.length → Pv i zs H → SqL K H a xs ∧ SqL K H b ys)
  (hs : ∀ i zs H x y t, xs[i]? = some x → ys[i]? = some y → i < ys.length → Pv i zs H → H t = none → g (.ref t) (σ ++ List.replicate nT none) (upd H t (.tup [x, y])) (compK ys.length i Pv D zs te))
  (hd : ∀ zs H, Pv ys.length zs H → Q (.ref D) H) : compW (Itz K a b) g tYes te nT σ D Q H := by
 refine compW_by ys.length Pv h0 (fun i zs H hi p => ⟨xs, ys, xs[i]'(by omega), ys[i], (hl i zs H (Nat.le_of_lt hi) p).1, (hl i zs H (Nat.le_of_lt hi) p).2, List.getElem?_eq_getElem _, by simp [hi]⟩) (fun zs H p => ⟨xs, ys, (hl _ zs H (Nat.le_refl _) p).1, (hl _ zs H (Nat.le_refl _) p).2, .inr (Nat.le_refl _)⟩) (fun i zs H v H' hi p yl => ?_) hd
 obtain ⟨t, x, y, ht, rfl, rfl, y1, y2⟩ := yl
 exact hs i zs H x y t (y1 xs (hl i zs H (Nat.le_of_lt hi) p).1) (y2 ys (hl i zs H (Nat.le_of_lt hi) p).2) hi p ht
theorem ok_law {f : Addr} {fd : FuncData} (F : Fun K "law" "law" s_law f fd) (z_range : mg "range" = none) (z_len : mg "len" = none) (z_min : mg "min" = none) (z_zip : mg "zip" = none) (z_sorted : mg "sorted" = none) (c_law_cell_at : Cal P w K mg base 1 "_law_cell_at" ["_law_script", "_law_k"] (spCell K)) (c_law_words : Cal P w K mg base 2 "_law_words" ["_law_cell", "_law_many"] spWordsW) (c_law_drawn_line : Cal P w K mg base 2 "_law_drawn_line" ["_law_cell", "_law_name", "_law_words_here"] spLine)
  (c_law_list_of : Cal P w K mg base 5 "_law_list_of" ["_law_text"] spListOf) (c_law_changed : Cal P w K mg base 2 "_law_changed" ["_law_text", "_law_cell", "_law_names"] spChanged) (c_law_refused : Cal P w K mg base 9 "_law_refused" ["_law_thing"] spRefused) (c_read_rules : Cal P w K mg base 8 "read_rules" ["text"] spRulesC) : FnOk P w K mg base CX0 10 f fd ["_law_script"] (spLaw K) := by
 refine F.ok sc_law (fun vs H Q E h => by obtain ⟨a, ns, rfl, _⟩ := h; rfl) (fun cdv A outer s H vs Q E hr h => ?_)
 obtain ⟨a, ns, rfl, hS, h63, q⟩ := h
 refine ⟨_, (pss_cons (ps_let 1 sc_law.nd (pe_cal c_law_words hr (pa_cons (pe_cal c_law_cell_at hr (pa_cons (pv 0 (hv := vz2l)) (pa_cons pe_int pa_nil)) (hg := gz2h)) (pa_cons pe_int pa_nil)) (hg := gz2l)) (hx := lz12))
   (pss_cons (ps_let 2 sc_law.nd (pe_blt (call_sortS K) z_sorted bt_sorted (pa_cons (pe_slice (sl_listK K) (pv 1 (hv := vz2m)) (po_some pe_int) (po_some pe_int)) pa_nil) (hg := gz2q)) (hx := lz13))
   (pss_cons (ps_let 3 sc_law.nd (pe_bmK K PySem.F.plainAttrs_str PySem.F.slot_str_join PySem.F.type_str_join (mt_joinK K) pe_str (pa_cons (pe_comp (CompSc.to (fsc := (defScope s_law)) (N := ["_law_script", "_law_names", "_law_words_here", "_law_text", "_law_due", "_law_k", "_law_changed_here", "_law_told", "_law_thing"]) (N0 := ["_law_script", "_law_names", "_law_words_here", "_law_text", "_law_due", "_law_k", "_law_changed_here", "_law_told", "_law_thing"]) (T := ["_law_name", "_law_cell"]) ⟨by decide +kernel, by decide +kernel, by decide +kernel, by decide +kernel, by decide +kernel, by decide +kernel, by decide +kernel⟩ rfl rfl) rfl (pi_zipK K gz2r z_zip (pa_cons (pv 1 (hv := vz2m)) (pa_cons (pe_slice (sl_listK K) (pv 0 (hv := vz2l)) (po_some pe_int) (po_some pe_int)) pa_nil))) (fun _ _ _ _ => (pg_tupK K (n := 2) (pgs_cons (pg_let 9 (show (["_law_script", "_law_names", "_law_words_here", "_law_text", "_law_due", "_law_k", "_law_changed_here", "_law_told", "_law_thing", "_law_name", "_law_cell"] : List Str).Nodup from by decide +kernel) (hx := (locC (defScope s_law) (by decide +kernel))) (hf := fnC (defScope s_law) (by decide +kernel))) (pgs_cons (pg_let 10 (show (["_law_script", "_law_names", "_law_words_here", "_law_text", "_law_due", "_law_k", "_law_changed_here", "_law_told", "_law_thing", "_law_name", "_law_cell"] : List Str).Nodup from by decide +kernel) (hx := (locC (defScope s_law) (by decide +kernel))) (hf := fnC (defScope s_law) (by decide +kernel))) pgs_nil)))) (gfr_tup (gsfr_cons (gfr_name (show (["_law_script", "_law_names", "_law_words_here", "_law_text", "_law_due", "_law_k", "_law_changed_here", "_law_told", "_law_thing"] : List Str).length ≤ 9 from by decide)) gm_name (gsfr_cons (gfr_name (show (["_law_script", "_law_names", "_law_words_here", "_law_text", "_law_due", "_law_k", "_law_changed_here", "_law_told", "_law_thing"] : List Str).length ≤ 10 from by decide)) gm_name gsfr_nil gsm_nil) (gsm_cons gm_name gsm_nil))) (fun _ _ _ _ => pifs_nil) (fun _ _ _ _ => (pe_cal c_law_drawn_line hr (pa_cons (pv 10 (hv := (visC (defScope s_law) (by decide +kernel)))) (pa_cons (pv 9 (hv := (visC (defScope s_law) (by decide +kernel)))) (pa_cons (pv 2 (hv := (visC (defScope s_law) (by decide +kernel)))) pa_nil))) (hg := (glC (defScope s_law) (by decide +kernel)))))) pa_nil)) (hx := lz14))
   (pss_cons (ps_let 4 sc_law.nd (pe_cal c_law_list_of hr (pa_cons (pv 3 (hv := vz2n)) pa_nil) (hg := gz2j)) (hx := lz15))
   (pss_cons (ps_for PassesOwn.never rfl (pi_range2 gz2o z_range (pa_cons pe_int (pa_cons (pe_blt call_minA z_min bt_min (pa_cons (pe_blt (call_lenK K) z_len bt_len (pa_cons (pv 0 (hv := vz2l)) pa_nil) (hg := gz2m)) (pa_cons pe_int pa_nil)) (hg := gz2n)) pa_nil))) (pg_let 5 sc_law.nd (hx := lz16)) (pss_cons (ps_let 6 sc_law.nd (pe_cal c_law_changed hr (pa_cons (pv 3 (hv := vz2n)) (pa_cons (pe_ix (ix_K K) (pv 0 (hv := vz2l)) (pv 5 (hv := vz2p)) (fun _ _ => rfl)) (pa_cons (pe_slice (sl_listK K) (pv 1 (hv := vz2m)) po_none (po_some (pe_op op_addA pe_int (pe_op op_mod (pe_op op_fdiv (pe_ix (ix_K K) (pv 0 (hv := vz2l)) (pv 5 (hv := vz2p)) (fun _ _ => rfl)) pe_int) pe_int)))) pa_nil))) (hg := gz2i)) (hx := lz17))
   (pss_cons (ps_let 7 sc_law.nd (pe_cal c_law_list_of hr (pa_cons (pv 6 (hv := vz2q)) pa_nil) (hg := gz2j)) (hx := lz18))
   (pss_cons (ps_if (PW.pt' (pw_or (pt_cmpR (op_inK K) pe_str (pv 6 (hv := vz2q)) (by with_unfolding_all rfl)) (pw_or (pt_cmpR (op_inK K) pe_str (pv 6 (hv := vz2q)) (by with_unfolding_all rfl)) (pw_or1 (pt_cmpR (op_inK K) pe_str (pv 6 (hv := vz2q)) (by with_unfolding_all rfl)))))) (pss_one ps_continue) pss_nil)
   (pss_cons (ps_if (PW.pt' (pw_and (pt_cmpR op_isNA (pv 7 (hv := vz2r)) pe_non (nomark _)) (pw_and1 (pt_not (pt_val (pe_cal c_law_refused hr (pa_cons (pv 6 (hv := vz2q)) pa_nil) (hg := gz2k))))))) (pss_one (ps_ret pe_bl)) pss_nil)
   (pss_one (ps_if (PW.pt' (pw_and (pt_cmpR op_notNA (pv 7 (hv := vz2r)) pe_non (nomark _)) (pw_and1 (pt_cmpR (op_neKD K hr) (pe_cal c_read_rules hr (pa_cons (pv 6 (hv := vz2q)) pa_nil) (hg := gz2p)) (pv 7 (hv := vz2r)) (nomark _))))) (pss_one (ps_ret pe_bl)) pss_nil)))))))
   (pss_cons (ps_for PassesOwn.never rfl (pi_listK K (pe_lst (pa_cons pe_non (pa_cons pe_int (pa_cons (pe_lst (pa_cons (pv 3 (hv := vz2n)) pa_nil)) (pa_cons (pe_tup (pa_cons (pv 3 (hv := vz2n)) pa_nil)) pa_nil)))))) (pg_let 8 sc_law.nd (hx := lz19)) (pss_one (ps_if (pt_not (pt_val (pe_cal c_law_refused hr (pa_cons (pv 8 (hv := vz2s)) pa_nil) (hg := gz2k)))) (pss_one (ps_ret pe_bl)) pss_nil)))
   (pss_one (ps_ret (pe_and (pe_cmpR op_notNA (pv 4 (hv := vz2o)) pe_non (nomark _)) (pe_one (pe_cmpR (op_eqKD K hr) (pe_cal c_read_rules hr (pa_cons (pv 3 (hv := vz2n)) pa_nil) (hg := gz2p)) (pv 4 (hv := vz2o)) (nomark _)))))))))))), ?_⟩
 walk_at "rd1"
 refine ⟨a, ns, 0, rfl, hS, by decide, ?_⟩
 refine ⟨_, 10, rfl, by decide, fun pn H1 nm sm1 hpn hnm hnl hnw hnd => ?_⟩
 walk_at "nx"
 refine ⟨_, SqL.of hnm, fun p1 hp1 => ?_⟩
 rw [cut_map]
 have hcut : ∃ e f, cutS nm (some 4) (some 6) = [e, f] ∧ e ∈ nm ∧ f ∈ nm ∧ e ≠ f := by
  match nm, hnl, hnd with
  | [a, b, c, d, e, f, g, h, i, j], _, hnd => exact ⟨e, f, rfl, by simp, by simp, by simp at hnd; exact hnd.2.2.2.2.1.1⟩
 obtain ⟨e, g, hcut, he, hg, heg⟩ := hcut
 rw [hcut]
 have s2 := same_new hp1 (.lst ([e, g].map V.str))
 have e2 : upd H1 p1 (.lst ([e, g].map V.str)) p1 = some (.lst ([e, g].map V.str)) := upd_same
 generalize upd H1 p1 (.lst ([e, g].map V.str)) = H2 at s2 e2 ⊢
 refine ⟨[e, g], SqL.of e2, by show 2 < 64; decide, fun p2 ts hp2 hpm hso => ?_⟩
 have s3 := same_new hp2 (.lst (ts.map V.str))
 have e3 : upd H2 p2 (.lst (ts.map V.str)) p2 = some (.lst (ts.map V.str)) := upd_same
 generalize upd H2 p2 (.lst (ts.map V.str)) = H3 at s3 e3 ⊢
 have hts : ∃ w0 w1, ts = [w0, w1] ∧ wordS w0 = true ∧ wordS w1 = true ∧ w0.cps.toList < w1.cps.toList := by
  have hl : ts.length = 2 := hpm.length_eq
  have hnd2 : ts.Nodup := hpm.nodup_iff.mpr (by simp [heg])
  have hris := rising_of ts hso hnd2
  have hm : ∀ u ∈ ts, wordS u = true := fun u hu => by
   have := hpm.mem_iff.mp hu
   simp only [List.mem_cons, List.not_mem_nil, or_false] at this
   rcases this with rfl | rfl
   ·exact hnw _ he
   ·exact hnw _ hg
  match ts, hl, hris, hm with
  | [w0, w1], _, hris, hm => exact ⟨w0, w1, rfl, hm w0 (by simp), hm w1 (by simp), (rise_cons hris).1⟩
 obtain ⟨w0, w1, rfl, hw0, hw1, hlt⟩ := hts
 have s13 := s2.trans s3
 have hnm3 := s13 _ _ hnm
 have sm3 := sm1.trans s13
 walk_at "nx"
 refine ⟨_, sm3.seq hS, fun p3 hp3 => ?_⟩
 rw [cut_map]
 have hc4 : (cutS ns (some 1) (some 5)).length ≤ 4 := by
  unfold cutS
  rw [List.length_take, show ((1 : Int)) = ((1 : Nat) : Int) from rfl, show ((5 : Int)) = ((5 : Nat) : Int) from rfl, HT.sIx_nat, HT.sIx_nat]
  omega
 generalize cutS ns (some 1) (some 5) = cs at hc4 ⊢
 have s4 := same_new hp3 (.lst (cs.map V.int))
 have e4 : upd H3 p3 (.lst (cs.map V.int)) p3 = some (.lst (cs.map V.int)) := upd_same
 generalize upd H3 p3 (.lst (cs.map V.int)) = H4 at s4 e4 ⊢
 have hnm4 := s4 _ _ hnm3
 have e34 := s4 _ _ e3
 have sm4 := sm3.trans s4
 refine ⟨⟨_, SqL.of hnm4⟩, ⟨_, SqL.of e4⟩, fun L hL => ?_⟩
 refine compW_zipS (xs := nm.map V.str) (ys := cs.map V.int) (fun i ys H' => ∃ (us : List Str) (rs : List (Str × Rl)), Same H4 H' ∧ H' L = some (.lst ys) ∧ ys = us.map V.str ∧ us.length = i ∧ rs.map (·.1) = nm.take i ∧ LnsOk rs us) (by rw [List.length_map, List.length_map]; omega) ⟨[], [], same_new hL _, upd_same, rfl, rfl, by simp, .nil⟩ (fun i ys H' _ h => by obtain ⟨_, _, sm, _⟩ := h; exact ⟨SqL.of (sm _ _ hnm4), SqL.of (sm _ _ e4)⟩) ?_ ?_
 ·rintro i ys H' x y t hx hy hi ⟨us, rs, sm, hl, rfl, hul, hrs, hok⟩ ht
  rw [List.length_map] at hi
  have hi' : i < nm.length := by omega
  rw [List.getElem?_map, List.getElem?_eq_getElem hi'] at hx
  rw [List.getElem?_map, List.getElem?_eq_getElem hi] at hy
  cases hx
  cases hy
  have s5 := same_new ht (.tup [.str nm[i], .int cs[i]])
  walk_at "rd1"
  refine ⟨_, _, rfl, SqT.of upd_same, rfl, _, _, rfl, _, _, rfl, rfl, ?_⟩
  walk_at "rd1"
  refine ⟨cs[i], nm[i], p2, w0, w1, rfl, hnw _ (List.getElem_mem hi'), s5 _ _ (sm _ _ e34), hw0, hw1, hlt, fun H5 z r s6 hln => ?_⟩
  have s56 := s5.trans s6
  refine cstep (by rw [List.length_map]; exact hi) (by rw [List.length_map]; exact hul) (smallL (by rw [List.length_map]; omega)) (s56 _ _ hl) ⟨us ++ [z], rs ++ [(nm[i], r)], (sm.trans s56).upd hL _, upd_same, map_push _ _, len_push hul, ?_, hok.snoc hln⟩
  rw [List.map_append, hrs, List.take_add_one, List.getElem?_eq_getElem hi']; rfl
 rintro ys H5 ⟨us, rs, sm5, hl5, rfl, hul, hrs, hok⟩
 rw [List.length_map] at hul hrs
 have hall := hok.mem
 have lb : (Str.ofString "\n").length = 1 := by decide +kernel
 have hsum := sum_len_le 80 us (fun u hu => (hall.2 u hu).1)
 have htl : (Txt.join (Str.ofString "\n") us).length ≤ 400 := by
  have hg := glue_len [10] 80 (us.map T) (fun p hp => by obtain ⟨u, hu, rfl⟩ := List.mem_map.mp hp; rw [T_len]; exact (hall.2 u hu).1)
  rw [← T_len, join_T, show T (Str.ofString "\n") = [10] by decide +kernel]
  rw [List.length_map] at hg
  simp only [List.length_cons, List.length_nil] at hg
  omega
 have hLI : ListIs (Txt.join (Str.ofString "\n") us) rs := by
  have e := lines_of_join hok
  refine ⟨by rw [e]; omega, by rw [e]; exact hok.are, ?_⟩
  rw [hrs]; exact hnd.sublist (List.take_sublist _ _)
 walk_at "rd1"
 refine ⟨us, SqL.of hl5, by rw [lb]; omega, ?_⟩
 generalize Txt.join (Str.ofString "\n") us = tx at htl hLI ⊢
 have sm5' := sm4.trans sm5
 have hnm5 := sm5 _ _ hnm4
 walk_at "nx"
 refine ⟨tx, rfl, by omega, fun ns' l6 H6 hns' _ s6 hL6 => ?_, fun H6 hn _ => absurd ⟨rs, hLI, hall.1⟩ hn⟩
 have ens := hns'.uniq hLI
 subst ens
 have hnm6 := s6 _ _ hnm5
 have sm6 := sm5'.trans s6
 walk_at "nx"
 refine ⟨_, .inl (sm6.seq hS), ?_⟩
 rw [List.length_map]
 generalize hmn : (if 45 < (ns.length : Int) then 45 else (ns.length : Int)) = mn
 have mn1 : mn ≤ 45 ∧ mn ≤ (ns.length : Int) ∧ 0 ≤ mn := by rw [← hmn]; split <;> omega
 refine ⟨⟨by decide, by decide, by omega, by omega⟩, ?_⟩
 refine forW_range (fun i σ H' => ∃ o5 o6 o7 o8 : Option V, σ = [some (.ref a), some (.ref pn), some (.ref p2), some (.str tx), some (.ref l6), o5, o6, o7, o8] ∧ Same H6 H') ⟨_, _, _, _, rfl, Same.refl _⟩ ?_ ?_
 ·rintro i σ H7 hi ⟨o5, o6, o7, o8, rfl, sm7⟩
  obtain ⟨v, hv, _⟩ := at_lst (xs := ns) (i := 5 + (i : Int)) (by omega) (by omega)
  have sm67 := sm6.trans sm7
  walk_at "rd1"
  refine ⟨_, _, .inl (sm67.seq hS), at_map (by omega) hv, ?_⟩
  refine ⟨_, _, .inl (sm67.seq hS), at_map (by omega) hv, ?_⟩
  walk_at "rd1"
  refine ⟨⟨by decide, by decide⟩, by decide, _, SqL.of (sm7 _ _ hnm6), fun p8 hp8 => ?_⟩
  rw [cut_map]
  have hsub : ∀ n ∈ cutS nm none (some (8 + v / 8 % 3)), n ∈ nm := fun n hn => by unfold cutS at hn; exact List.mem_of_mem_drop (List.mem_of_mem_take hn)
  have hcl := cutS_len nm none (some (8 + v / 8 % 3))
  generalize cutS nm none (some (8 + v / 8 % 3)) = cn at hsub hcl ⊢
  have s8 := same_new hp8 (.lst (cn.map V.str))
  refine ⟨tx, v, p8, cn, rfl, htl, upd_same, by omega, fun n hn => (wordS_clean (hnw n (hsub n hn))).1, fun H9 z s9 hz => ?_⟩
  have s79 := s8.trans s9
  have keep : ∀ H', Same H9 H' → Same H6 H' := fun H' s' => (sm7.trans s79).trans s'
  walk_at "nx"
  refine ⟨z, rfl, hz, fun ns' l10 H10 hns' hs1 s10 hL10 => ?_, fun H10 hn s10 => ?_⟩
  ·walk_at "nx"
   refine ite2 (fun _ => ⟨_, _, _, _, rfl, keep _ s10⟩) (fun _ => ?_)
   refine ite2 (fun _ => ⟨_, _, _, _, rfl, keep _ s10⟩) (fun _ => ?_)
   refine ite2 (fun _ => ⟨_, _, _, _, rfl, keep _ s10⟩) (fun _ => ?_)
   walk_at "nx"
   refine ite2 (fun c => absurd c (by simp)) (fun _ => ?_)
   walk_at "nx"
   refine ite2 (fun _ => ?_) (fun c => absurd (by simp) c)
   refine ⟨z, ns', rfl, by omega, hns', fun l11 H11 s11 hL11 => ?_⟩
   walk_at "rd1"
   refine ⟨4, true, by decide, list_eq hL11 (hL10.mono s11), ?_⟩
   exact ite2 (fun c => absurd c (by decide)) (fun _ => ⟨_, _, _, _, rfl, keep _ (s10.trans s11)⟩)
  ·walk_at "nx"
   refine ite2 (fun _ => ⟨_, _, _, _, rfl, keep _ s10⟩) (fun _ => ?_)
   refine ite2 (fun _ => ⟨_, _, _, _, rfl, keep _ s10⟩) (fun _ => ?_)
   refine ite2 (fun _ => ⟨_, _, _, _, rfl, keep _ s10⟩) (fun c2 => ?_)
   have hno : ¬ ∃ ns, ListIs z ns := fun ⟨ns', h⟩ => hn ⟨ns', h, one_side h (by simpa using c2)⟩
   walk_at "nx"
   refine ⟨_, rfl, .inl ⟨z, rfl, by omega, hno⟩, fun H11 s11 => ⟨_, rfl, ite2 (fun c => absurd c (by decide)) (fun _ => ?_)⟩⟩
   walk_at "nx"
   exact ⟨_, _, _, _, rfl, keep _ (s10.trans s11)⟩
 rintro σ H7 ⟨o5, o6, o7, o8, rfl, sm7⟩
 have sm67 := sm6.trans sm7
 have hL7 := hL6.mono sm7
 walk_at "nx"
 refine ⟨by decide, fun p1 hp1 => ?_⟩
 generalize hH8 : upd H7 p1 _ = H8
 have s8 := al_same hH8 hp1
 have e8 := al_at hH8
 refine ⟨by decide, fun p5 hp5 => ?_⟩
 generalize hH9 : upd H8 p5 _ = H9
 have s9 := al_same hH9 hp5
 have e9 := al_at hH9
 refine ⟨by decide, fun p6 hp6 => ?_⟩
 generalize hH10 : upd H9 p6 _ = H10
 have s10 := al_same hH10 hp6
 have e10 := al_at hH10
 have f8 := s10 _ _ (s9 _ _ e8)
 have f9 := s10 _ _ e9
 have hL10 := hL7.mono ((s8.trans s9).trans s10)
 refine ⟨⟨_, SqL.of e10⟩, ?_⟩
 refine forW_list (xs := [V.non, .int 5, .ref p1, .ref p5]) (fun i σ H' => ∃ o8 : Option V, Same H10 H' ∧ σ = [some (.ref a), some (.ref pn), some (.ref p2), some (.str tx), some (.ref l6), o5, o6, o7, o8]) ⟨_, Same.refl _, rfl⟩ (fun i σ H' _ h => by obtain ⟨_, sm, _⟩ := h; exact SqL.of (sm _ _ e10)) ?_ ?_
 ·rintro i v σ H11 hv ⟨o8, s11, rfl⟩
  have hty : ∃ t, tyName H11 v = some t ∧ isT t "str" = false := by
   have hm := List.mem_of_getElem? hv
   simp only [List.mem_cons, List.not_mem_nil, or_false] at hm
   rcases hm with rfl | rfl | rfl | rfl
   ·exact ⟨_, rfl, by decide⟩
   ·exact ⟨_, rfl, by decide⟩
   ·exact ⟨"list", by simp [tyName, s11 _ _ f8], by decide⟩
   ·exact ⟨"tuple", by simp [tyName, s11 _ _ f9], by decide⟩
  walk_at "rd1"
  refine ⟨_, rfl, .inr hty, fun H12 s12 => ⟨_, rfl, ite2 (fun c => absurd c (by decide)) (fun _ => ⟨_, s11.trans s12, rfl⟩)⟩⟩
 ·rintro σ H11 ⟨o8, s11, rfl⟩
  walk_at "nx"
  refine ite2 (fun _ => ?_) (fun c => absurd (by simp) c)
  refine ⟨tx, _, rfl, by omega, hLI, fun l12 H12 s12 hL12 => ?_⟩
  walk_at "rd1"
  exact ⟨4, true, by decide, list_eq hL12 ((hL10.mono s11).mono s12), q _⟩
end
theorem all_mk {l : PySem.W.OpenLaw} {w : World} {K : PySem.W.Frag} {h : Heap} {mg : Str → Option Value} {fa : Addr} (X : K.In h) (G : h.Ns mainGlobals mg) (hfa : mg "law" = some (.ref fa))
  {f0 : Addr} {od0 an0 : Option Addr} {sl0 : Array (Option Value)} {oc0 kV0 dc0 pm0 cd0 ct0 : Value} {f1 : Addr} {od1 an1 : Option Addr} {sl1 : Array (Option Value)} {oc1 kV1 dc1 pm1 cd1 ct1 : Value} {f2 : Addr} {od2 an2 : Option Addr} {sl2 : Array (Option Value)} {oc2 kV2 dc2 pm2 cd2 ct2 : Value} {f3 : Addr} {od3 an3 : Option Addr} {sl3 : Array (Option Value)} {oc3 kV3 dc3 pm3 cd3 ct3 : Value} {f4 : Addr} {od4 an4 : Option Addr} {sl4 : Array (Option Value)} {oc4 kV4 dc4 pm4 cd4 ct4 : Value} {f5 : Addr} {od5 an5 : Option Addr} {sl5 : Array (Option Value)} {oc5 kV5 dc5 pm5 cd5 ct5 : Value} {f6 : Addr} {od6 an6 : Option Addr} {sl6 : Array (Option Value)} {oc6 kV6 dc6 pm6 cd6 ct6 : Value} {f7 : Addr} {od7 an7 : Option Addr} {sl7 : Array (Option Value)} {oc7 kV7 dc7 pm7 cd7 ct7 : Value} {f8 : Addr} {od8 an8 : Option Addr} {sl8 : Array (Option Value)} {oc8 kV8 dc8 pm8 cd8 ct8 : Value} {f9 : Addr} {od9 an9 : Option Addr} {sl9 : Array (Option Value)} {oc9 kV9 dc9 pm9 cd9 ct9 : Value} {f10 : Addr} {od10 an10 : Option Addr} {sl10 : Array (Option Value)} {oc10 kV10 dc10 pm10 cd10 ct10 : Value} {f11 : Addr} {od11 an11 : Option Addr} {sl11 : Array (Option Value)} {oc11 kV11 dc11 pm11 cd11 ct11 : Value} {f12 : Addr} {od12 an12 : Option Addr} {sl12 : Array (Option Value)} {oc12 kV12 dc12 pm12 cd12 ct12 : Value} {f13 : Addr} {od13 an13 : Option Addr} {sl13 : Array (Option Value)} {oc13 kV13 dc13 pm13 cd13 ct13 : Value} {f14 : Addr} {od14 an14 : Option Addr} {sl14 : Array (Option Value)} {oc14 kV14 dc14 pm14 cd14 ct14 : Value} {f15 : Addr} {od15 an15 : Option Addr} {sl15 : Array (Option Value)} {oc15 kV15 dc15 pm15 cd15 ct15 : Value} {f16 : Addr} {od16 an16 : Option Addr} {sl16 : Array (Option Value)} {oc16 kV16 dc16 pm16 cd16 ct16 : Value} {f17 : Addr} {od17 an17 : Option Addr} {sl17 : Array (Option Value)} {oc17 kV17 dc17 pm17 cd17 ct17 : Value} {f18 : Addr} {od18 an18 : Option Addr} {sl18 : Array (Option Value)} {oc18 kV18 dc18 pm18 cd18 ct18 : Value} {f19 : Addr} {od19 an19 : Option Addr} {sl19 : Array (Option Value)} {oc19 kV19 dc19 pm19 cd19 ct19 : Value} {f20 : Addr} {od20 an20 : Option Addr} {sl20 : Array (Option Value)} {oc20 kV20 dc20 pm20 cd20 ct20 : Value} {f21 : Addr} {od21 an21 : Option Addr} {sl21 : Array (Option Value)} {oc21 kV21 dc21 pm21 cd21 ct21 : Value} {f22 : Addr} {od22 an22 : Option Addr} {sl22 : Array (Option Value)} {oc22 kV22 dc22 pm22 cd22 ct22 : Value} {f23 : Addr} {od23 an23 : Option Addr} {sl23 : Array (Option Value)} {oc23 kV23 dc23 pm23 cd23 ct23 : Value} {f24 : Addr} {od24 an24 : Option Addr} {sl24 : Array (Option Value)} {oc24 kV24 dc24 pm24 cd24 ct24 : Value} {f25 : Addr} {od25 an25 : Option Addr} {sl25 : Array (Option Value)} {oc25 kV25 dc25 pm25 cd25 ct25 : Value} {f26 : Addr} {od26 an26 : Option Addr} {sl26 : Array (Option Value)} {oc26 kV26 dc26 pm26 cd26 ct26 : Value} {f27 : Addr} {od27 an27 : Option Addr} {sl27 : Array (Option Value)} {oc27 kV27 dc27 pm27 cd27 ct27 : Value} {f28 : Addr} {od28 an28 : Option Addr} {sl28 : Array (Option Value)} {oc28 kV28 dc28 pm28 cd28 ct28 : Value} {f29 : Addr} {od29 an29 : Option Addr} {sl29 : Array (Option Value)} {oc29 kV29 dc29 pm29 cd29 ct29 : Value} {f30 : Addr} {od30 an30 : Option Addr} {sl30 : Array (Option Value)} {oc30 kV30 dc30 pm30 cd30 ct30 : Value} {f31 : Addr} {od31 an31 : Option Addr} {sl31 : Array (Option Value)} {oc31 kV31 dc31 pm31 cd31 ct31 : Value} {f32 : Addr} {od32 an32 : Option Addr} {sl32 : Array (Option Value)} {oc32 kV32 dc32 pm32 cd32 ct32 : Value} {f33 : Addr} {od33 an33 : Option Addr} {sl33 : Array (Option Value)} {oc33 kV33 dc33 pm33 cd33 ct33 : Value} {t_FIGURES : Tok} {t_LETTERS : Tok} {t_MOST_LETTERS : Tok} {t_MOST_WORDS : Tok} {t_MOST_ROOMS : Tok} {t_MOST_FIGURES : Tok} {t_MOST_RULES : Tok} {C_NoText : Addr} {C_NoRule : Addr} {C_UseError : Addr}
  (a0 : PySem.W.nsIn K mainGlobals "number_in" = some (some (.ref f0))) (l0 : K.lookup f0 = some ⟨oc0, od0, .func (PySem.W.fnOf "number_in" "number_in" (defArgs s_number_in) (defBody s_number_in) (defScope s_number_in) .none kV0 dc0 pm0 an0 cd0 ct0), sl0⟩) (c0 : PySem.W.codeIn K cd0 "number_in" = true) (k0 : PySem.W.keepIn K (.ref f0) = true)
  (a1 : PySem.W.nsIn K mainGlobals "is_whole" = some (some (.ref f1))) (l1 : K.lookup f1 = some ⟨oc1, od1, .func (PySem.W.fnOf "is_whole" "is_whole" (defArgs s_is_whole) (defBody s_is_whole) (defScope s_is_whole) .none kV1 dc1 pm1 an1 cd1 ct1), sl1⟩) (c1 : PySem.W.codeIn K cd1 "is_whole" = true) (k1 : PySem.W.keepIn K (.ref f1) = true)
  (a2 : PySem.W.nsIn K mainGlobals "is_word" = some (some (.ref f2))) (l2 : K.lookup f2 = some ⟨oc2, od2, .func (PySem.W.fnOf "is_word" "is_word" (defArgs s_is_word) (defBody s_is_word) (defScope s_is_word) .none kV2 dc2 pm2 an2 cd2 ct2), sl2⟩) (c2 : PySem.W.codeIn K cd2 "is_word" = true) (k2 : PySem.W.keepIn K (.ref f2) = true)
  (a3 : PySem.W.nsIn K mainGlobals "is_sided_word" = some (some (.ref f3))) (l3 : K.lookup f3 = some ⟨oc3, od3, .func (PySem.W.fnOf "is_sided_word" "is_sided_word" (defArgs s_is_sided_word) (defBody s_is_sided_word) (defScope s_is_sided_word) .none kV3 dc3 pm3 an3 cd3 ct3), sl3⟩) (c3 : PySem.W.codeIn K cd3 "is_sided_word" = true) (k3 : PySem.W.keepIn K (.ref f3) = true)
  (a4 : PySem.W.nsIn K mainGlobals "is_rising" = some (some (.ref f4))) (l4 : K.lookup f4 = some ⟨oc4, od4, .func (PySem.W.fnOf "is_rising" "is_rising" (defArgs s_is_rising) (defBody s_is_rising) (defScope s_is_rising) .none kV4 dc4 pm4 an4 cd4 ct4), sl4⟩) (c4 : PySem.W.codeIn K cd4 "is_rising" = true) (k4 : PySem.W.keepIn K (.ref f4) = true)
  (a5 : PySem.W.nsIn K mainGlobals "are_words" = some (some (.ref f5))) (l5 : K.lookup f5 = some ⟨oc5, od5, .func (PySem.W.fnOf "are_words" "are_words" (defArgs s_are_words) (defBody s_are_words) (defScope s_are_words) .none kV5 dc5 pm5 an5 cd5 ct5), sl5⟩) (c5 : PySem.W.codeIn K cd5 "are_words" = true) (k5 : PySem.W.keepIn K (.ref f5) = true)
  (a6 : PySem.W.nsIn K mainGlobals "is_way" = some (some (.ref f6))) (l6 : K.lookup f6 = some ⟨oc6, od6, .func (PySem.W.fnOf "is_way" "is_way" (defArgs s_is_way) (defBody s_is_way) (defScope s_is_way) .none kV6 dc6 pm6 an6 cd6 ct6), sl6⟩) (c6 : PySem.W.codeIn K cd6 "is_way" = true) (k6 : PySem.W.keepIn K (.ref f6) = true)
  (a7 : PySem.W.nsIn K mainGlobals "is_room" = some (some (.ref f7))) (l7 : K.lookup f7 = some ⟨oc7, od7, .func (PySem.W.fnOf "is_room" "is_room" (defArgs s_is_room) (defBody s_is_room) (defScope s_is_room) .none kV7 dc7 pm7 an7 cd7 ct7), sl7⟩) (c7 : PySem.W.codeIn K cd7 "is_room" = true) (k7 : PySem.W.keepIn K (.ref f7) = true)
  (a8 : PySem.W.nsIn K mainGlobals "are_rooms" = some (some (.ref f8))) (l8 : K.lookup f8 = some ⟨oc8, od8, .func (PySem.W.fnOf "are_rooms" "are_rooms" (defArgs s_are_rooms) (defBody s_are_rooms) (defScope s_are_rooms) .none kV8 dc8 pm8 an8 cd8 ct8), sl8⟩) (c8 : PySem.W.codeIn K cd8 "are_rooms" = true) (k8 : PySem.W.keepIn K (.ref f8) = true)
  (a9 : PySem.W.nsIn K mainGlobals "is_rule" = some (some (.ref f9))) (l9 : K.lookup f9 = some ⟨oc9, od9, .func (PySem.W.fnOf "is_rule" "is_rule" (defArgs s_is_rule) (defBody s_is_rule) (defScope s_is_rule) .none kV9 dc9 pm9 an9 cd9 ct9), sl9⟩) (c9 : PySem.W.codeIn K cd9 "is_rule" = true) (k9 : PySem.W.keepIn K (.ref f9) = true)
  (a10 : PySem.W.nsIn K mainGlobals "lines_in" = some (some (.ref f10))) (l10 : K.lookup f10 = some ⟨oc10, od10, .func (PySem.W.fnOf "lines_in" "lines_in" (defArgs s_lines_in) (defBody s_lines_in) (defScope s_lines_in) .none kV10 dc10 pm10 an10 cd10 ct10), sl10⟩) (c10 : PySem.W.codeIn K cd10 "lines_in" = true) (k10 : PySem.W.keepIn K (.ref f10) = true)
  (a11 : PySem.W.nsIn K mainGlobals "show_way" = some (some (.ref f11))) (l11 : K.lookup f11 = some ⟨oc11, od11, .func (PySem.W.fnOf "show_way" "show_way" (defArgs s_show_way) (defBody s_show_way) (defScope s_show_way) .none kV11 dc11 pm11 an11 cd11 ct11), sl11⟩) (c11 : PySem.W.codeIn K cd11 "show_way" = true) (k11 : PySem.W.keepIn K (.ref f11) = true)
  (a12 : PySem.W.nsIn K mainGlobals "show_room" = some (some (.ref f12))) (l12 : K.lookup f12 = some ⟨oc12, od12, .func (PySem.W.fnOf "show_room" "show_room" (defArgs s_show_room) (defBody s_show_room) (defScope s_show_room) .none kV12 dc12 pm12 an12 cd12 ct12), sl12⟩) (c12 : PySem.W.codeIn K cd12 "show_room" = true) (k12 : PySem.W.keepIn K (.ref f12) = true)
  (a13 : PySem.W.nsIn K mainGlobals "show_rule" = some (some (.ref f13))) (l13 : K.lookup f13 = some ⟨oc13, od13, .func (PySem.W.fnOf "show_rule" "show_rule" (defArgs s_show_rule) (defBody s_show_rule) (defScope s_show_rule) .none kV13 dc13 pm13 an13 cd13 ct13), sl13⟩) (c13 : PySem.W.codeIn K cd13 "show_rule" = true) (k13 : PySem.W.keepIn K (.ref f13) = true)
  (a14 : PySem.W.nsIn K mainGlobals "way_in" = some (some (.ref f14))) (l14 : K.lookup f14 = some ⟨oc14, od14, .func (PySem.W.fnOf "way_in" "way_in" (defArgs s_way_in) (defBody s_way_in) (defScope s_way_in) .none kV14 dc14 pm14 an14 cd14 ct14), sl14⟩) (c14 : PySem.W.codeIn K cd14 "way_in" = true) (k14 : PySem.W.keepIn K (.ref f14) = true)
  (a15 : PySem.W.nsIn K mainGlobals "ways_in" = some (some (.ref f15))) (l15 : K.lookup f15 = some ⟨oc15, od15, .func (PySem.W.fnOf "ways_in" "ways_in" (defArgs s_ways_in) (defBody s_ways_in) (defScope s_ways_in) .none kV15 dc15 pm15 an15 cd15 ct15), sl15⟩) (c15 : PySem.W.codeIn K cd15 "ways_in" = true) (k15 : PySem.W.keepIn K (.ref f15) = true)
  (a16 : PySem.W.nsIn K mainGlobals "numbers_of" = some (some (.ref f16))) (l16 : K.lookup f16 = some ⟨oc16, od16, .func (PySem.W.fnOf "numbers_of" "numbers_of" (defArgs s_numbers_of) (defBody s_numbers_of) (defScope s_numbers_of) .none kV16 dc16 pm16 an16 cd16 ct16), sl16⟩) (c16 : PySem.W.codeIn K cd16 "numbers_of" = true) (k16 : PySem.W.keepIn K (.ref f16) = true)
  (a17 : PySem.W.nsIn K mainGlobals "rule_in" = some (some (.ref f17))) (l17 : K.lookup f17 = some ⟨oc17, od17, .func (PySem.W.fnOf "rule_in" "rule_in" (defArgs s_rule_in) (defBody s_rule_in) (defScope s_rule_in) .none kV17 dc17 pm17 an17 cd17 ct17), sl17⟩) (c17 : PySem.W.codeIn K cd17 "rule_in" = true) (k17 : PySem.W.keepIn K (.ref f17) = true)
  (a18 : PySem.W.nsIn K mainGlobals "read_rule" = some (some (.ref f18))) (l18 : K.lookup f18 = some ⟨oc18, od18, .func (PySem.W.fnOf "read_rule" "read_rule" (defArgs s_read_rule) (defBody s_read_rule) (defScope s_read_rule) .none kV18 dc18 pm18 an18 cd18 ct18), sl18⟩) (c18 : PySem.W.codeIn K cd18 "read_rule" = true) (k18 : PySem.W.keepIn K (.ref f18) = true)
  (a19 : PySem.W.nsIn K mainGlobals "named_in" = some (some (.ref f19))) (l19 : K.lookup f19 = some ⟨oc19, od19, .func (PySem.W.fnOf "named_in" "named_in" (defArgs s_named_in) (defBody s_named_in) (defScope s_named_in) .none kV19 dc19 pm19 an19 cd19 ct19), sl19⟩) (c19 : PySem.W.codeIn K cd19 "named_in" = true) (k19 : PySem.W.keepIn K (.ref f19) = true)
  (a20 : PySem.W.nsIn K mainGlobals "read_rules" = some (some (.ref f20))) (l20 : K.lookup f20 = some ⟨oc20, od20, .func (PySem.W.fnOf "read_rules" "read_rules" (defArgs s_read_rules) (defBody s_read_rules) (defScope s_read_rules) .none kV20 dc20 pm20 an20 cd20 ct20), sl20⟩) (c20 : PySem.W.codeIn K cd20 "read_rules" = true) (k20 : PySem.W.keepIn K (.ref f20) = true)
  (a21 : PySem.W.nsIn K mainGlobals "_law_cell_at" = some (some (.ref f21))) (l21 : K.lookup f21 = some ⟨oc21, od21, .func (PySem.W.fnOf "_law_cell_at" "_law_cell_at" (defArgs s_law_cell_at) (defBody s_law_cell_at) (defScope s_law_cell_at) .none kV21 dc21 pm21 an21 cd21 ct21), sl21⟩) (c21 : PySem.W.codeIn K cd21 "_law_cell_at" = true) (k21 : PySem.W.keepIn K (.ref f21) = true)
  (a22 : PySem.W.nsIn K mainGlobals "_law_mixed" = some (some (.ref f22))) (l22 : K.lookup f22 = some ⟨oc22, od22, .func (PySem.W.fnOf "_law_mixed" "_law_mixed" (defArgs s_law_mixed) (defBody s_law_mixed) (defScope s_law_mixed) .none kV22 dc22 pm22 an22 cd22 ct22), sl22⟩) (c22 : PySem.W.codeIn K cd22 "_law_mixed" = true) (k22 : PySem.W.keepIn K (.ref f22) = true)
  (a23 : PySem.W.nsIn K mainGlobals "_law_words" = some (some (.ref f23))) (l23 : K.lookup f23 = some ⟨oc23, od23, .func (PySem.W.fnOf "_law_words" "_law_words" (defArgs s_law_words) (defBody s_law_words) (defScope s_law_words) .none kV23 dc23 pm23 an23 cd23 ct23), sl23⟩) (c23 : PySem.W.codeIn K cd23 "_law_words" = true) (k23 : PySem.W.keepIn K (.ref f23) = true)
  (a24 : PySem.W.nsIn K mainGlobals "_law_word" = some (some (.ref f24))) (l24 : K.lookup f24 = some ⟨oc24, od24, .func (PySem.W.fnOf "_law_word" "_law_word" (defArgs s_law_word) (defBody s_law_word) (defScope s_law_word) .none kV24 dc24 pm24 an24 cd24 ct24), sl24⟩) (c24 : PySem.W.codeIn K cd24 "_law_word" = true) (k24 : PySem.W.keepIn K (.ref f24) = true)
  (a25 : PySem.W.nsIn K mainGlobals "_law_number" = some (some (.ref f25))) (l25 : K.lookup f25 = some ⟨oc25, od25, .func (PySem.W.fnOf "_law_number" "_law_number" (defArgs s_law_number) (defBody s_law_number) (defScope s_law_number) .none kV25 dc25 pm25 an25 cd25 ct25), sl25⟩) (c25 : PySem.W.codeIn K cd25 "_law_number" = true) (k25 : PySem.W.keepIn K (.ref f25) = true)
  (a26 : PySem.W.nsIn K mainGlobals "_law_move" = some (some (.ref f26))) (l26 : K.lookup f26 = some ⟨oc26, od26, .func (PySem.W.fnOf "_law_move" "_law_move" (defArgs s_law_move) (defBody s_law_move) (defScope s_law_move) .none kV26 dc26 pm26 an26 cd26 ct26), sl26⟩) (c26 : PySem.W.codeIn K cd26 "_law_move" = true) (k26 : PySem.W.keepIn K (.ref f26) = true)
  (a27 : PySem.W.nsIn K mainGlobals "_law_room" = some (some (.ref f27))) (l27 : K.lookup f27 = some ⟨oc27, od27, .func (PySem.W.fnOf "_law_room" "_law_room" (defArgs s_law_room) (defBody s_law_room) (defScope s_law_room) .none kV27 dc27 pm27 an27 cd27 ct27), sl27⟩) (c27 : PySem.W.codeIn K cd27 "_law_room" = true) (k27 : PySem.W.keepIn K (.ref f27) = true)
  (a28 : PySem.W.nsIn K mainGlobals "_law_rule_of" = some (some (.ref f28))) (l28 : K.lookup f28 = some ⟨oc28, od28, .func (PySem.W.fnOf "_law_rule_of" "_law_rule_of" (defArgs s_law_rule_of) (defBody s_law_rule_of) (defScope s_law_rule_of) .none kV28 dc28 pm28 an28 cd28 ct28), sl28⟩) (c28 : PySem.W.codeIn K cd28 "_law_rule_of" = true) (k28 : PySem.W.keepIn K (.ref f28) = true)
  (a29 : PySem.W.nsIn K mainGlobals "_law_list_of" = some (some (.ref f29))) (l29 : K.lookup f29 = some ⟨oc29, od29, .func (PySem.W.fnOf "_law_list_of" "_law_list_of" (defArgs s_law_list_of) (defBody s_law_list_of) (defScope s_law_list_of) .none kV29 dc29 pm29 an29 cd29 ct29), sl29⟩) (c29 : PySem.W.codeIn K cd29 "_law_list_of" = true) (k29 : PySem.W.keepIn K (.ref f29) = true)
  (a30 : PySem.W.nsIn K mainGlobals "_law_drawn_line" = some (some (.ref f30))) (l30 : K.lookup f30 = some ⟨oc30, od30, .func (PySem.W.fnOf "_law_drawn_line" "_law_drawn_line" (defArgs s_law_drawn_line) (defBody s_law_drawn_line) (defScope s_law_drawn_line) .none kV30 dc30 pm30 an30 cd30 ct30), sl30⟩) (c30 : PySem.W.codeIn K cd30 "_law_drawn_line" = true) (k30 : PySem.W.keepIn K (.ref f30) = true)
  (a31 : PySem.W.nsIn K mainGlobals "_law_changed" = some (some (.ref f31))) (l31 : K.lookup f31 = some ⟨oc31, od31, .func (PySem.W.fnOf "_law_changed" "_law_changed" (defArgs s_law_changed) (defBody s_law_changed) (defScope s_law_changed) .none kV31 dc31 pm31 an31 cd31 ct31), sl31⟩) (c31 : PySem.W.codeIn K cd31 "_law_changed" = true) (k31 : PySem.W.keepIn K (.ref f31) = true)
  (a32 : PySem.W.nsIn K mainGlobals "_law_refused" = some (some (.ref f32))) (l32 : K.lookup f32 = some ⟨oc32, od32, .func (PySem.W.fnOf "_law_refused" "_law_refused" (defArgs s_law_refused) (defBody s_law_refused) (defScope s_law_refused) .none kV32 dc32 pm32 an32 cd32 ct32), sl32⟩) (c32 : PySem.W.codeIn K cd32 "_law_refused" = true) (k32 : PySem.W.keepIn K (.ref f32) = true)
  (a33 : PySem.W.nsIn K mainGlobals "law" = some (some (.ref f33))) (l33 : K.lookup f33 = some ⟨oc33, od33, .func (PySem.W.fnOf "law" "law" (defArgs s_law) (defBody s_law) (defScope s_law) .none kV33 dc33 pm33 an33 cd33 ct33), sl33⟩) (c33 : PySem.W.codeIn K cd33 "law" = true) (k33 : PySem.W.keepIn K (.ref f33) = true)
  (y_isinstance : PySem.W.nsIn K mainGlobals "isinstance" = some none)
  (y_int : PySem.W.nsIn K mainGlobals "int" = some none)
  (y_bool : PySem.W.nsIn K mainGlobals "bool" = some none)
  (y_str : PySem.W.nsIn K mainGlobals "str" = some none)
  (y_tuple : PySem.W.nsIn K mainGlobals "tuple" = some none)
  (y_len : PySem.W.nsIn K mainGlobals "len" = some none)
  (y_range : PySem.W.nsIn K mainGlobals "range" = some none)
  (y_list : PySem.W.nsIn K mainGlobals "list" = some none)
  (y_sorted : PySem.W.nsIn K mainGlobals "sorted" = some none)
  (y_all : PySem.W.nsIn K mainGlobals "all" = some none)
  (y_zip : PySem.W.nsIn K mainGlobals "zip" = some none)
  (y_set : PySem.W.nsIn K mainGlobals "set" = some none)
  (y_min : PySem.W.nsIn K mainGlobals "min" = some none)
  (y_ValueError : PySem.W.nsIn K mainGlobals "ValueError" = some none)
  (h_FIGURES : PySem.W.nsIn K mainGlobals "FIGURES" = some (some (.str "0123456789" t_FIGURES)))
  (h_LETTERS : PySem.W.nsIn K mainGlobals "LETTERS" = some (some (.str "abcdefghijklmnopqrstuvwxyz" t_LETTERS)))
  (h_MOST_LETTERS : PySem.W.nsIn K mainGlobals "MOST_LETTERS" = some (some (.int 8 t_MOST_LETTERS)))
  (h_MOST_WORDS : PySem.W.nsIn K mainGlobals "MOST_WORDS" = some (some (.int 16 t_MOST_WORDS)))
  (h_MOST_ROOMS : PySem.W.nsIn K mainGlobals "MOST_ROOMS" = some (some (.int 60 t_MOST_ROOMS)))
  (h_MOST_FIGURES : PySem.W.nsIn K mainGlobals "MOST_FIGURES" = some (some (.int 2 t_MOST_FIGURES)))
  (h_MOST_RULES : PySem.W.nsIn K mainGlobals "MOST_RULES" = some (some (.int 8 t_MOST_RULES)))
  (n_NoText : PySem.W.nsIn K mainGlobals "NoText" = some (some (.ref C_NoText)))
  (xq_NoText : excQ K C_NoText [.type "ValueError", .type "Exception", .type "BaseException", .type "object"] "ValueError.__new__" = true) (xs_NoText : PySem.W.subIn K (.ref C_NoText) (.type "object") = some true) (xc_NoText : PySem.W.findIn K (.ref C_NoText) "__class__" = some (some (.builtin "object.__class__")))
  (n_NoRule : PySem.W.nsIn K mainGlobals "NoRule" = some (some (.ref C_NoRule)))
  (xq_NoRule : excQ K C_NoRule [.type "ValueError", .type "Exception", .type "BaseException", .type "object"] "ValueError.__new__" = true) (xs_NoRule : PySem.W.subIn K (.ref C_NoRule) (.type "object") = some true) (xc_NoRule : PySem.W.findIn K (.ref C_NoRule) "__class__" = some (some (.builtin "object.__class__")))
  (n_UseError : PySem.W.nsIn K mainGlobals "UseError" = some (some (.ref C_UseError)))
  (xq_UseError : excQ K C_UseError [.type "ValueError", .type "Exception", .type "BaseException", .type "object"] "ValueError.__new__" = true) (xs_UseError : PySem.W.subIn K (.ref C_UseError) (.type "object") = some true) (xc_UseError : PySem.W.findIn K (.ref C_UseError) "__class__" = some (some (.builtin "object.__class__")))
  (kt_NoText_NoRule : PySem.W.kitOne K (.ref C_NoText) (.ref C_NoRule) = some false)
  (kt_NoText_UseError : PySem.W.kitOne K (.ref C_NoText) (.ref C_UseError) = some true)
  (kt_NoText_ValueError : PySem.W.kitOne K (.ref C_NoText) (.type "ValueError") = some true) :
  ∃ fd : FuncData, (∀ (s : Shared) (v : Value), BindsTo s fd ⟨[v], []⟩ [("_law_script", v)]) ∧ ∀ base : Heap, K.In base → base.Ns mainGlobals mg → FnOk l.prog w K mg base CX0 10 fa fd ["_law_script"] (spLaw K) := by
 have e := hfa.symm.trans (PySem.W.mg_of X G a33)
 cases e
 have D_number_in : DefAt K mg "number_in" s_number_in := ⟨f0, _, fun_mk (st := s_number_in) l0 c0 k0, PySem.W.mg_of X G a0⟩
 have D_is_whole : DefAt K mg "is_whole" s_is_whole := ⟨f1, _, fun_mk (st := s_is_whole) l1 c1 k1, PySem.W.mg_of X G a1⟩
 have D_is_word : DefAt K mg "is_word" s_is_word := ⟨f2, _, fun_mk (st := s_is_word) l2 c2 k2, PySem.W.mg_of X G a2⟩
 have D_is_sided_word : DefAt K mg "is_sided_word" s_is_sided_word := ⟨f3, _, fun_mk (st := s_is_sided_word) l3 c3 k3, PySem.W.mg_of X G a3⟩
 have D_is_rising : DefAt K mg "is_rising" s_is_rising := ⟨f4, _, fun_mk (st := s_is_rising) l4 c4 k4, PySem.W.mg_of X G a4⟩
 have D_are_words : DefAt K mg "are_words" s_are_words := ⟨f5, _, fun_mk (st := s_are_words) l5 c5 k5, PySem.W.mg_of X G a5⟩
 have D_is_way : DefAt K mg "is_way" s_is_way := ⟨f6, _, fun_mk (st := s_is_way) l6 c6 k6, PySem.W.mg_of X G a6⟩
 have D_is_room : DefAt K mg "is_room" s_is_room := ⟨f7, _, fun_mk (st := s_is_room) l7 c7 k7, PySem.W.mg_of X G a7⟩
 have D_are_rooms : DefAt K mg "are_rooms" s_are_rooms := ⟨f8, _, fun_mk (st := s_are_rooms) l8 c8 k8, PySem.W.mg_of X G a8⟩
 have D_is_rule : DefAt K mg "is_rule" s_is_rule := ⟨f9, _, fun_mk (st := s_is_rule) l9 c9 k9, PySem.W.mg_of X G a9⟩
 have D_lines_in : DefAt K mg "lines_in" s_lines_in := ⟨f10, _, fun_mk (st := s_lines_in) l10 c10 k10, PySem.W.mg_of X G a10⟩
 have D_show_way : DefAt K mg "show_way" s_show_way := ⟨f11, _, fun_mk (st := s_show_way) l11 c11 k11, PySem.W.mg_of X G a11⟩
 have D_show_room : DefAt K mg "show_room" s_show_room := ⟨f12, _, fun_mk (st := s_show_room) l12 c12 k12, PySem.W.mg_of X G a12⟩
 have D_show_rule : DefAt K mg "show_rule" s_show_rule := ⟨f13, _, fun_mk (st := s_show_rule) l13 c13 k13, PySem.W.mg_of X G a13⟩
 have D_way_in : DefAt K mg "way_in" s_way_in := ⟨f14, _, fun_mk (st := s_way_in) l14 c14 k14, PySem.W.mg_of X G a14⟩
 have D_ways_in : DefAt K mg "ways_in" s_ways_in := ⟨f15, _, fun_mk (st := s_ways_in) l15 c15 k15, PySem.W.mg_of X G a15⟩
 have D_numbers_of : DefAt K mg "numbers_of" s_numbers_of := ⟨f16, _, fun_mk (st := s_numbers_of) l16 c16 k16, PySem.W.mg_of X G a16⟩
 have D_rule_in : DefAt K mg "rule_in" s_rule_in := ⟨f17, _, fun_mk (st := s_rule_in) l17 c17 k17, PySem.W.mg_of X G a17⟩
 have D_read_rule : DefAt K mg "read_rule" s_read_rule := ⟨f18, _, fun_mk (st := s_read_rule) l18 c18 k18, PySem.W.mg_of X G a18⟩
 have D_named_in : DefAt K mg "named_in" s_named_in := ⟨f19, _, fun_mk (st := s_named_in) l19 c19 k19, PySem.W.mg_of X G a19⟩
 have D_read_rules : DefAt K mg "read_rules" s_read_rules := ⟨f20, _, fun_mk (st := s_read_rules) l20 c20 k20, PySem.W.mg_of X G a20⟩
 have D_law_cell_at : DefAt K mg "_law_cell_at" s_law_cell_at := ⟨f21, _, fun_mk (st := s_law_cell_at) l21 c21 k21, PySem.W.mg_of X G a21⟩
 have D_law_mixed : DefAt K mg "_law_mixed" s_law_mixed := ⟨f22, _, fun_mk (st := s_law_mixed) l22 c22 k22, PySem.W.mg_of X G a22⟩
 have D_law_words : DefAt K mg "_law_words" s_law_words := ⟨f23, _, fun_mk (st := s_law_words) l23 c23 k23, PySem.W.mg_of X G a23⟩
 have D_law_word : DefAt K mg "_law_word" s_law_word := ⟨f24, _, fun_mk (st := s_law_word) l24 c24 k24, PySem.W.mg_of X G a24⟩
 have D_law_number : DefAt K mg "_law_number" s_law_number := ⟨f25, _, fun_mk (st := s_law_number) l25 c25 k25, PySem.W.mg_of X G a25⟩
 have D_law_move : DefAt K mg "_law_move" s_law_move := ⟨f26, _, fun_mk (st := s_law_move) l26 c26 k26, PySem.W.mg_of X G a26⟩
 have D_law_room : DefAt K mg "_law_room" s_law_room := ⟨f27, _, fun_mk (st := s_law_room) l27 c27 k27, PySem.W.mg_of X G a27⟩
 have D_law_rule_of : DefAt K mg "_law_rule_of" s_law_rule_of := ⟨f28, _, fun_mk (st := s_law_rule_of) l28 c28 k28, PySem.W.mg_of X G a28⟩
 have D_law_list_of : DefAt K mg "_law_list_of" s_law_list_of := ⟨f29, _, fun_mk (st := s_law_list_of) l29 c29 k29, PySem.W.mg_of X G a29⟩
 have D_law_drawn_line : DefAt K mg "_law_drawn_line" s_law_drawn_line := ⟨f30, _, fun_mk (st := s_law_drawn_line) l30 c30 k30, PySem.W.mg_of X G a30⟩
 have D_law_changed : DefAt K mg "_law_changed" s_law_changed := ⟨f31, _, fun_mk (st := s_law_changed) l31 c31 k31, PySem.W.mg_of X G a31⟩
 have D_law_refused : DefAt K mg "_law_refused" s_law_refused := ⟨f32, _, fun_mk (st := s_law_refused) l32 c32 k32, PySem.W.mg_of X G a32⟩
 have z_isinstance : mg "isinstance" = none := PySem.W.mg_none_of X G y_isinstance
 have z_int : mg "int" = none := PySem.W.mg_none_of X G y_int
 have z_bool : mg "bool" = none := PySem.W.mg_none_of X G y_bool
 have z_str : mg "str" = none := PySem.W.mg_none_of X G y_str
 have z_tuple : mg "tuple" = none := PySem.W.mg_none_of X G y_tuple
 have z_len : mg "len" = none := PySem.W.mg_none_of X G y_len
 have z_range : mg "range" = none := PySem.W.mg_none_of X G y_range
 have z_list : mg "list" = none := PySem.W.mg_none_of X G y_list
 have z_sorted : mg "sorted" = none := PySem.W.mg_none_of X G y_sorted
 have z_all : mg "all" = none := PySem.W.mg_none_of X G y_all
 have z_zip : mg "zip" = none := PySem.W.mg_none_of X G y_zip
 have z_set : mg "set" = none := PySem.W.mg_none_of X G y_set
 have z_min : mg "min" = none := PySem.W.mg_none_of X G y_min
 have z_ValueError : mg "ValueError" = none := PySem.W.mg_none_of X G y_ValueError
 have g_FIGURES : ∃ t, mg "FIGURES" = some (.str "0123456789" t) := ⟨t_FIGURES, PySem.W.mg_of X G h_FIGURES⟩
 have g_LETTERS : ∃ t, mg "LETTERS" = some (.str "abcdefghijklmnopqrstuvwxyz" t) := ⟨t_LETTERS, PySem.W.mg_of X G h_LETTERS⟩
 have g_MOST_LETTERS : ∃ t, mg "MOST_LETTERS" = some (.int 8 t) := ⟨t_MOST_LETTERS, PySem.W.mg_of X G h_MOST_LETTERS⟩
 have g_MOST_WORDS : ∃ t, mg "MOST_WORDS" = some (.int 16 t) := ⟨t_MOST_WORDS, PySem.W.mg_of X G h_MOST_WORDS⟩
 have g_MOST_ROOMS : ∃ t, mg "MOST_ROOMS" = some (.int 60 t) := ⟨t_MOST_ROOMS, PySem.W.mg_of X G h_MOST_ROOMS⟩
 have g_MOST_FIGURES : ∃ t, mg "MOST_FIGURES" = some (.int 2 t) := ⟨t_MOST_FIGURES, PySem.W.mg_of X G h_MOST_FIGURES⟩
 have g_MOST_RULES : ∃ t, mg "MOST_RULES" = some (.int 8 t) := ⟨t_MOST_RULES, PySem.W.mg_of X G h_MOST_RULES⟩
 have x_NoText : ExcAt K mg "NoText" C_NoText := ⟨⟨xq_NoText, xs_NoText, xc_NoText⟩, PySem.W.mg_of X G n_NoText⟩
 have x_NoRule : ExcAt K mg "NoRule" C_NoRule := ⟨⟨xq_NoRule, xs_NoRule, xc_NoRule⟩, PySem.W.mg_of X G n_NoRule⟩
 have x_UseError : ExcAt K mg "UseError" C_UseError := ⟨⟨xq_UseError, xs_UseError, xc_UseError⟩, PySem.W.mg_of X G n_UseError⟩
 have F := fun_mk (st := s_law) l33 c33 k33
 refine ⟨PySem.W.fnOf "law" "law" (defArgs s_law) (defBody s_law) (defScope s_law) .none kV33 dc33 pm33 an33 cd33 ct33, fun s v => .of_eq rfl, fun base _ _ => ?_⟩
 have c1 := ok_cell (P := l.prog) (w := w) (base := base) D_law_cell_at z_len
 have c2 := ok_mix (P := l.prog) (w := w) (base := base) D_law_mixed
 have c4 := ok_words D_law_words z_range z_int c2
 have w1 := ok_is_word (P := l.prog) (w := w) (base := base) D_is_word z_isinstance z_str z_len z_all g_MOST_LETTERS g_LETTERS
 have w2 := ok_wholeN (P := l.prog) (w := w) (base := base) D_is_whole z_isinstance z_int z_bool
 have w3 := ok_are D_are_words z_isinstance z_list z_len g_MOST_WORDS w1 (ok_sided D_is_sided_word z_isinstance z_str w1) (ok_rising D_is_rising z_len z_range z_all)
 have w4 := ok_arerooms D_are_rooms z_isinstance z_list z_len z_all g_MOST_ROOMS (ok_isroom D_is_room z_isinstance z_list z_len z_all (ok_isway D_is_way w2))
 have w5 := ok_isrule D_is_rule z_isinstance z_tuple z_len w2 w3 w4
 have s1 := ok_show_rule D_show_rule z_str (ok_show_room D_show_room z_zip (ok_show_way (P := l.prog) (w := w) (base := base) D_show_way))
 have n1 := ok_numin (P := l.prog) (w := w) (base := base) D_number_in z_len z_all z_int g_FIGURES
 have n2 := ok_rulein D_rule_in g_MOST_FIGURES n1 (ok_waysin D_ways_in (ok_wayin D_way_in g_MOST_FIGURES n1)) (ok_numbers D_numbers_of)
 have n3 := ok_readrule D_read_rule z_isinstance z_str x_NoText n2 w5 s1
 have n4 := ok_rules D_read_rules z_isinstance z_str z_len z_set g_MOST_RULES x_NoText (ok_lines D_lines_in) (ok_named D_named_in x_NoText w1 n3)
 have h1 := ok_lword (P := l.prog) (w := w) (base := base) D_law_word z_len
 have h2 := ok_move D_law_move h1 (ok_lnum D_law_number z_len z_int)
 have h3 := ok_ruleof D_law_rule_of z_len z_set z_sorted (ok_room D_law_room h2)
 have h4 := ok_listof D_law_list_of z_len h3 h1
 have h5 := ok_refused D_law_refused z_isinstance z_ValueError x_NoRule x_NoText x_UseError kt_NoText_NoRule kt_NoText_UseError kt_NoText_ValueError n4
 exact ok_law F z_range z_len z_min z_zip z_sorted c1 c4 (ok_line D_law_drawn_line z_range z_str z_int c2) h4 (ok_changed D_law_changed z_len c2) h5 (n4.calm fun vs H Q E h => by obtain ⟨y, ns, rfl, hy, hL, q⟩ := h; exact ⟨_, rfl, .inl ⟨y, rfl, hy, fun ns' l' H' h1 s1 h2 => q l' H' s1 (h1.uniq hL ▸ h2), fun H' hn _ => absurd ⟨ns, hL⟩ hn⟩⟩)
theorem walk {l : PySem.W.OpenLaw} {q : Program} {loose : List Str} {XP : (Str → Option Value) → Heap → Prop} {YP : World → Heap → Prop} {d : DefRec} {K : Params → PySem.W.Frag} (hn : l.most = some 63) (hdf : d.params.defaults = [])
  (hY : ∀ (w : World) (h : Heap), YP w h → (K w.params).In h)
  (F : ∀ (w : World) (mg : Str → Option Value) (fa : Addr) (h : Heap), (K w.params).In h → h.Ns mainGlobals mg → mg d.name = some (.ref fa) →
   ∃ fd : FuncData, (∀ (s : Shared) (u : Value), BindsTo s fd ⟨[u], []⟩ [("_law_script", u)]) ∧ ∀ base : Heap, (K w.params).In base → base.Ns mainGlobals mg → FnOk l.prog w (K w.params) mg base CX0 10 fa fd ["_law_script"] (spLaw (K w.params))) :
  PySem.W.WalkO q loose XP YP l.row.toRowW d [] (fun f vs => PySem.call f vs) :=
 L2.walk_of (n := 63) (k := 10) (x := "_law_script") (CX := fun _ => CX0) (sp := fun w => spLaw (K w.params)) hn (by decide) hdf ⟨rfl, by decide, by decide⟩ hY F (fun _ _ a ns hl _ hS => ⟨a, ns, rfl, hS, hl, fun _ => rfl⟩) fun _ _ _ _ _ z => z
end K86
end
open PySem PySem.W PyProof.Rows
set_option maxRecDepth 100000 in
set_option maxHeartbeats 0 in
theorem PySem.Challenge.cw_usewarden_k86_texts_that_tell_no_rules_holds : PySem.Challenge.rw_usewarden_k86_texts_that_tell_no_rules.Holds := by
 w_on
 refine holds_law (by decide +kernel) fun said => ?_
 refine holds_open (q := K86.qq) (loose := K86.loo) (Xt := K86.xt) (XP := XL K86.qq []) (Yf := Hook.obs (kHook K86.KK K86.kk K86.kk_eq)) (Ya := Hook.val (kHook K86.KK K86.kk K86.kk_eq)) (YP := Hook.says (kHook K86.KK K86.kk K86.kk_eq)) (N := 3550) K86.hl (Hook.of (kHook K86.KK K86.kk K86.kk_eq)) (Hook.keeps (kHook K86.KK K86.kk K86.kk_eq)) (fun s e => xl_of s (Bool.and_eq_true_iff.mp e).1) XL.keeps (by rfl) (by rfl) (by rfl) (fun s e => recFacts_of (Bool.and_eq_true_iff.mp e).2) (by rfl) said (by decide +kernel) ⟨rfl, rfl, rfl, rfl, rfl, by decide +kernel⟩ ?hw ?hc
 (case hw => w_witness2)
 k_fill
 refine K86.walk (l := PySem.Challenge.rw_usewarden_k86_texts_that_tell_no_rules) rfl rfl (fun w h Y => PySem.W.kIn_of Y) ?F
 case F =>
  intro w mg fa h KX G hmg
  refine' K86.all_mk KX G hmg ?a0 ?l0 ?c0 ?k0 ?a1 ?l1 ?c1 ?k1 ?a2 ?l2 ?c2 ?k2 ?a3 ?l3 ?c3 ?k3 ?a4 ?l4 ?c4 ?k4 ?a5 ?l5 ?c5 ?k5 ?a6 ?l6 ?c6 ?k6 ?a7 ?l7 ?c7 ?k7 ?a8 ?l8 ?c8 ?k8 ?a9 ?l9 ?c9 ?k9 ?a10 ?l10 ?c10 ?k10 ?a11 ?l11 ?c11 ?k11 ?a12 ?l12 ?c12 ?k12 ?a13 ?l13 ?c13 ?k13 ?a14 ?l14 ?c14 ?k14 ?a15 ?l15 ?c15 ?k15 ?a16 ?l16 ?c16 ?k16 ?a17 ?l17 ?c17 ?k17 ?a18 ?l18 ?c18 ?k18 ?a19 ?l19 ?c19 ?k19 ?a20 ?l20 ?c20 ?k20 ?a21 ?l21 ?c21 ?k21 ?a22 ?l22 ?c22 ?k22 ?a23 ?l23 ?c23 ?k23 ?a24 ?l24 ?c24 ?k24 ?a25 ?l25 ?c25 ?k25 ?a26 ?l26 ?c26 ?k26 ?a27 ?l27 ?c27 ?k27 ?a28 ?l28 ?c28 ?k28 ?a29 ?l29 ?c29 ?k29 ?a30 ?l30 ?c30 ?k30 ?a31 ?l31 ?c31 ?k31 ?a32 ?l32 ?c32 ?k32 ?a33 ?l33 ?c33 ?k33 ?y_isinstance ?y_int ?y_bool ?y_str ?y_tuple ?y_len ?y_range ?y_list ?y_sorted ?y_all ?y_zip ?y_set ?y_min ?y_ValueError ?h_FIGURES ?h_LETTERS ?h_MOST_LETTERS ?h_MOST_WORDS ?h_MOST_ROOMS ?h_MOST_FIGURES ?h_MOST_RULES ?n_NoText ?xq_NoText ?xs_NoText ?xc_NoText ?n_NoRule ?xq_NoRule ?xs_NoRule ?xc_NoRule ?n_UseError ?xq_UseError ?xs_UseError ?xc_UseError ?kt_NoText_NoRule ?kt_NoText_UseError ?kt_NoText_ValueError
  (case a0 => k_is)
  (case l0 => k_is)
  (case c0 => k_is)
  (case k0 => k_is)
  (case a1 => k_is)
  (case l1 => k_is)
  (case c1 => k_is)
  (case k1 => k_is)
  (case a2 => k_is)
  (case l2 => k_is)
  (case c2 => k_is)
  (case k2 => k_is)
  (case a3 => k_is)
  (case l3 => k_is)
  (case c3 => k_is)
  (case k3 => k_is)
  (case a4 => k_is)
  (case l4 => k_is)
  (case c4 => k_is)
  (case k4 => k_is)
  (case a5 => k_is)
  (case l5 => k_is)
  (case c5 => k_is)
  (case k5 => k_is)
  (case a6 => k_is)
  (case l6 => k_is)
  (case c6 => k_is)
  (case k6 => k_is)
  (case a7 => k_is)
  (case l7 => k_is)
  (case c7 => k_is)
  (case k7 => k_is)
  (case a8 => k_is)
  (case l8 => k_is)
  (case c8 => k_is)
  (case k8 => k_is)
  (case a9 => k_is)
  (case l9 => k_is)
  (case c9 => k_is)
  (case k9 => k_is)
  (case a10 => k_is)
  (case l10 => k_is)
  (case c10 => k_is)
  (case k10 => k_is)
  (case a11 => k_is)
  (case l11 => k_is)
  (case c11 => k_is)
  (case k11 => k_is)
  (case a12 => k_is)
  (case l12 => k_is)
  (case c12 => k_is)
  (case k12 => k_is)
  (case a13 => k_is)
  (case l13 => k_is)
  (case c13 => k_is)
  (case k13 => k_is)
  (case a14 => k_is)
  (case l14 => k_is)
  (case c14 => k_is)
  (case k14 => k_is)
  (case a15 => k_is)
  (case l15 => k_is)
  (case c15 => k_is)
  (case k15 => k_is)
  (case a16 => k_is)
  (case l16 => k_is)
  (case c16 => k_is)
  (case k16 => k_is)
  (case a17 => k_is)
  (case l17 => k_is)
  (case c17 => k_is)
  (case k17 => k_is)
  (case a18 => k_is)
  (case l18 => k_is)
  (case c18 => k_is)
  (case k18 => k_is)
  (case a19 => k_is)
  (case l19 => k_is)
  (case c19 => k_is)
  (case k19 => k_is)
  (case a20 => k_is)
  (case l20 => k_is)
  (case c20 => k_is)
  (case k20 => k_is)
  (case a21 => k_is)
  (case l21 => k_is)
  (case c21 => k_is)
  (case k21 => k_is)
  (case a22 => k_is)
  (case l22 => k_is)
  (case c22 => k_is)
  (case k22 => k_is)
  (case a23 => k_is)
  (case l23 => k_is)
  (case c23 => k_is)
  (case k23 => k_is)
  (case a24 => k_is)
  (case l24 => k_is)
  (case c24 => k_is)
  (case k24 => k_is)
  (case a25 => k_is)
  (case l25 => k_is)
  (case c25 => k_is)
  (case k25 => k_is)
  (case a26 => k_is)
  (case l26 => k_is)
  (case c26 => k_is)
  (case k26 => k_is)
  (case a27 => k_is)
  (case l27 => k_is)
  (case c27 => k_is)
  (case k27 => k_is)
  (case a28 => k_is)
  (case l28 => k_is)
  (case c28 => k_is)
  (case k28 => k_is)
  (case a29 => k_is)
  (case l29 => k_is)
  (case c29 => k_is)
  (case k29 => k_is)
  (case a30 => k_is)
  (case l30 => k_is)
  (case c30 => k_is)
  (case k30 => k_is)
  (case a31 => k_is)
  (case l31 => k_is)
  (case c31 => k_is)
  (case k31 => k_is)
  (case a32 => k_is)
  (case l32 => k_is)
  (case c32 => k_is)
  (case k32 => k_is)
  (case a33 => k_is)
  (case l33 => k_is)
  (case c33 => k_is)
  (case k33 => k_is)
  (case y_isinstance => k_is)
  (case y_int => k_is)
  (case y_bool => k_is)
  (case y_str => k_is)
  (case y_tuple => k_is)
  (case y_len => k_is)
  (case y_range => k_is)
  (case y_list => k_is)
  (case y_sorted => k_is)
  (case y_all => k_is)
  (case y_zip => k_is)
  (case y_set => k_is)
  (case y_min => k_is)
  (case y_ValueError => k_is)
  (case h_FIGURES => k_is)
  (case h_LETTERS => k_is)
  (case h_MOST_LETTERS => k_is)
  (case h_MOST_WORDS => k_is)
  (case h_MOST_ROOMS => k_is)
  (case h_MOST_FIGURES => k_is)
  (case h_MOST_RULES => k_is)
  (case n_NoText => k_is)
  (case xq_NoText => kernel_rfl)
  (case xs_NoText => k_is)
  (case xc_NoText => k_is)
  (case n_NoRule => k_is)
  (case xq_NoRule => kernel_rfl)
  (case xs_NoRule => k_is)
  (case xc_NoRule => k_is)
  (case n_UseError => k_is)
  (case xq_UseError => kernel_rfl)
  (case xs_UseError => k_is)
  (case xc_UseError => k_is)
  (case kt_NoText_NoRule => kernel_rfl)
  (case kt_NoText_UseError => kernel_rfl)
  (case kt_NoText_ValueError => kernel_rfl)
#print axioms PySem.Challenge.cw_usewarden_k86_texts_that_tell_no_rules_holds
