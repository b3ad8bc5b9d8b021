import PyProof.Rows.All
import Wide.All
import OpenK.AllK
import Wide.FinOn
import Lean
import PyProof.EqAt
import PyProof.EqKinds
import PyProof.TupleCall
import PyProof.SetScanFacts
import PyProof.SetKind
import PyProof.SetRoads
import PyProof.Rows.SetFrom
import PyProof.FactsBase
import PyProof.TableTree
import PyProof.FactsTree
import PyProof.PlainAttrs
import PyProof.FactsAll.set_1
import PyProof.CollectIter
import PyProof.FactsAll.set
import PyProof.ZipIter
import PyProof.EnumIter
import PyProof.TupleIter
import KE.KRevIter
import KE.KDictList
import PyProof.Rows.SumAny
import KE.KIntText
import PyProof.StrLawsTight
import PyProof.StrLawsChain
import PyProof.Rows.SortStr
import PyProof.Rows.StrNews2
import PyProof.StrLawsFirst
import PyProof.AutoSeq1
import PySem.Challenge.RW_usewarden_k30_steps_behind_one_another
set_option Elab.async false
set_option linter.all false
set_option maxRecDepth 100000
set_option maxHeartbeats 4000000
namespace L2
open PySem
def inClass (s : Stmt) (j : Nat) : Stmt := match s with
  | .ClassDef _ _ _ body _ _ _ _ _ _ _ => body.getD j (.Pass ⟨0, 0, 0, 0⟩)
  | _ => .Pass ⟨0, 0, 0, 0⟩
def defArgs (s : Stmt) : Arguments := match s with
  | .FunctionDef _ a _ _ _ _ _ _ _ _ => a
  | _ => { posonlyargs := [], args := [], vararg := none, kwonlyargs := [], kw_defaults := [], kwarg := none, defaults := [] }
def defBody (s : Stmt) : List Stmt := match s with
  | .FunctionDef _ _ b _ _ _ _ _ _ _ => b
  | _ => []
def defScope (s : Stmt) : Scope := match s with
  | .FunctionDef _ _ _ _ _ _ sc _ _ _ => sc
  | _ => { kind := .function, names := [], isGenerator := false, isCoroutine := false }

end L2
namespace K30
open PySem PySem.W
def top (i : Nat) : Stmt := PySem.Challenge.pw_usewarden_k30_steps_behind_one_another.main.body.getD i (.Pass ⟨0, 0, 0, 0⟩)
/-- what of the heap is kept behind the top: own print of the run -/
noncomputable def KK (P : Params) : Frag :=
  (nat_lit 2, ⟨.none, none, .dict #[] 0, #[]⟩) ::
  (nat_lit 3, ⟨.type "dict", none, .dict #[⟨PyData.keyHash P "__name__", .str "__name__" 165, .str "law_usewarden_k30_steps_behind_one_another" 577⟩, ⟨PyData.keyHash P "__doc__", .str "__doc__" 166, .none⟩, ⟨PyData.keyHash P "__package__", .str "__package__" 167, .none⟩, ⟨PyData.keyHash P "__loader__", .str "__loader__" 168, .builtin "__main__.__loader__#opaque"⟩, ⟨PyData.keyHash P "__spec__", .str "__spec__" 169, .none⟩, ⟨PyData.keyHash P "__annotations__", .str "__annotations__" 170, .ref 6⟩, ⟨PyData.keyHash P "__builtins__", .str "__builtins__" 171, .ref 4⟩, ⟨PyData.keyHash P "__file__", .str "__file__" 173, .str "/claim/cut.py" 172⟩, ⟨PyData.keyHash P "__cached__", .str "__cached__" 174, .none⟩, ⟨PyData.keyHash P "_wall", .str "_wall" 193, .ref 21⟩, ⟨PyData.keyHash P "UseError", .str "UseError" 213, .ref 31⟩, ⟨PyData.keyHash P "Breach", .str "Breach" 246, .ref 51⟩, ⟨PyData.keyHash P "CLOSERS", .str "CLOSERS" 259, .ref 54⟩, ⟨PyData.keyHash P "closers_of", .str "closers_of" 266, .ref 64⟩, ⟨PyData.keyHash P "head_of", .str "head_of" 273, .ref 71⟩, ⟨PyData.keyHash P "blocks_of", .str "blocks_of" 280, .ref 78⟩, ⟨PyData.keyHash P "NumberedStep", .str "NumberedStep" 316, .ref 95⟩, ⟨PyData.keyHash P "line_behind", .str "line_behind" 324, .ref 106⟩, ⟨PyData.keyHash P "numbered_step", .str "numbered_step" 336, .ref 113⟩, ⟨PyData.keyHash P "numbered_steps", .str "numbered_steps" 346, .ref 120⟩, ⟨PyData.keyHash P "sided_text", .str "sided_text" 356, .ref 127⟩, ⟨PyData.keyHash P "text_in_row", .str "text_in_row" 365, .ref 134⟩, ⟨PyData.keyHash P "row_of", .str "row_of" 371, .ref 139⟩, ⟨PyData.keyHash P "all_begin_tie", .str "all_begin_tie" 382, .ref 146⟩, ⟨PyData.keyHash P "broken_or_gone_on", .str "broken_or_gone_on" 395, .ref 153⟩, ⟨PyData.keyHash P "Run", .str "Run" 520, .ref 233⟩, ⟨PyData.keyHash P "do_simple", .str "do_simple" 532, .ref 244⟩, ⟨PyData.keyHash P "do_lend", .str "do_lend" 541, .ref 251⟩, ⟨PyData.keyHash P "do_if", .str "do_if" 549, .ref 258⟩, ⟨PyData.keyHash P "do_while", .str "do_while" 557, .ref 265⟩, ⟨PyData.keyHash P "do_steps", .str "do_steps" 566, .ref 272⟩, ⟨PyData.keyHash P "run_plain", .str "run_plain" 576, .ref 279⟩, ⟨PyData.keyHash P "_law_cell_at", .str "_law_cell_at" 586, .ref 286⟩, ⟨PyData.keyHash P "_law_names", .str "_law_names" 592, .ref 291⟩, ⟨PyData.keyHash P "_law_step", .str "_law_step" 604, .ref 298⟩, ⟨PyData.keyHash P "_law_logged", .str "_law_logged" 610, .ref 303⟩, ⟨PyData.keyHash P "_law_whole", .str "_law_whole" 617, .ref 310⟩, ⟨PyData.keyHash P "_law_entry", .str "_law_entry" 625, .ref 317⟩, ⟨PyData.keyHash P "_law_right", .str "_law_right" 635, .ref 324⟩, ⟨PyData.keyHash P "law", .str "law" 641, .ref 329⟩] 40, #[]⟩) ::
  (nat_lit 15, ⟨.type "tuple", none, .seq #[] 0, #[]⟩) ::
  (nat_lit 17, ⟨.type "tuple", none, .seq #[.str "k" 190] 0, #[]⟩) ::
  (nat_lit 18, ⟨.type "tuple", none, .seq #[] 0, #[]⟩) ::
  (nat_lit 20, ⟨.type "code", none, .fields #[.str "_wall" 187, .str "_wall" 188, .str "/claim/cut.py" 189, .int 1 0, .int 1 0, .int 0 0, .int 0 0, .int 3 0, .ref 15, .bool true, .int 181 0, .ref 16, .none, .ref 17, .ref 18, .ref 19, .int 191 0, .int 1 0, .str "/claim/cut.py" 192], #[]⟩) ::
  (nat_lit 21, ⟨.type "function", none, .func ⟨"_wall", "_wall", L2.defArgs (top 0), .stmts (L2.defBody (top 0)), L2.defScope (top 0), 3, [], .none, .none, .none, .str "__main__" 164, none, .ref 20, .none, 0⟩, #[]⟩) ::
  (nat_lit 22, ⟨.type "tuple", none, .seq #[.type "ValueError"] 0, #[]⟩) ::
  (nat_lit 29, ⟨.type "tuple", none, .seq #[] 0, #[]⟩) ::
  (nat_lit 30, ⟨.type "dict", none, .dict #[⟨PyData.keyHash P "__module__", .str "__module__" 203, .str "usewarden.errors" 194⟩, ⟨PyData.keyHash P "__firstlineno__", .str "__firstlineno__" 207, .int 5 206⟩, ⟨PyData.keyHash P "__static_attributes__", .str "__static_attributes__" 208, .ref 29⟩, ⟨PyData.keyHash P "__weakref__", .str "__weakref__" 210, .ref 32⟩, ⟨PyData.keyHash P "__doc__", .str "__doc__" 211, .none⟩] 3, #[]⟩) ::
  (nat_lit 31, ⟨.type "type", none, .cls ⟨"UseError", [.type "ValueError"], [.ref 31, .type "ValueError", .type "Exception", .type "BaseException", .type "object"], 30, "UseError", true, [], [.ref 51], false, none, false⟩, #[some (.ref 22), none, some (.str "UseError" 196), some (.str "UseError" 204), some (.builtin "ValueError.__new__"), some (.bool true)]⟩) ::
  (nat_lit 32, ⟨.type "getset_descriptor", none, .fields #[.str "__weakref__" 209, .ref 31, .builtin "ExceptionGroup.__weakref__", .none], #[]⟩) ::
  (nat_lit 35, ⟨.type "tuple", none, .seq #[.ref 31] 0, #[]⟩) ::
  (nat_lit 42, ⟨.type "tuple", none, .seq #[] 0, #[]⟩) ::
  (nat_lit 44, ⟨.type "tuple", none, .seq #[.str "self" 229, .str "rule" 230, .str "line" 231, .str "handles" 232, .str "row" 233, .str "log" 234] 0, #[]⟩) ::
  (nat_lit 45, ⟨.type "tuple", none, .seq #[] 0, #[]⟩) ::
  (nat_lit 47, ⟨.type "code", none, .fields #[.str "__init__" 226, .str "Breach.__init__" 227, .str "/claim/cut.py" 228, .int 9 0, .int 6 0, .int 0 0, .int 0 0, .int 3 0, .ref 42, .bool true, .int 181 0, .ref 43, .none, .ref 44, .ref 45, .ref 46, .int 235 0, .int 9 0, .str "/claim/cut.py" 236], #[]⟩) ::
  (nat_lit 48, ⟨.type "function", none, .func ⟨"__init__", "Breach.__init__", L2.defArgs (L2.inClass (top 3) 0), .stmts (L2.defBody (L2.inClass (top 3) 0)), L2.defScope (L2.inClass (top 3) 0), 3, [], .none, .none, .none, .str "usewarden.errors" 194, none, .ref 47, .none, 0⟩, #[]⟩) ::
  (nat_lit 49, ⟨.type "tuple", none, .seq #[.str "handles" 238, .str "line" 239, .str "log" 240, .str "row" 241, .str "rule" 242] 0, #[]⟩) ::
  (nat_lit 50, ⟨.type "dict", none, .dict #[⟨PyData.keyHash P "__module__", .str "__module__" 221, .str "usewarden.errors" 194⟩, ⟨PyData.keyHash P "__firstlineno__", .str "__firstlineno__" 225, .int 7 224⟩, ⟨PyData.keyHash P "__init__", .str "__init__" 237, .ref 48⟩, ⟨PyData.keyHash P "__static_attributes__", .str "__static_attributes__" 243, .ref 49⟩, ⟨PyData.keyHash P "__doc__", .str "__doc__" 244, .none⟩] 2, #[]⟩) ::
  (nat_lit 51, ⟨.type "type", none, .cls ⟨"Breach", [.ref 31], [.ref 51, .ref 31, .type "ValueError", .type "Exception", .type "BaseException", .type "object"], 50, "Breach", true, [], [], false, none, false⟩, #[some (.ref 35), none, some (.str "Breach" 214), some (.str "Breach" 222), some (.builtin "ValueError.__new__"), some (.bool true)]⟩) ::
  (nat_lit 54, ⟨.type "dict", none, .dict #[⟨PyData.keyHash P "lend", .str "lend" 249, .ref 55⟩, ⟨PyData.keyHash P "if", .str "if" 251, .ref 56⟩, ⟨PyData.keyHash P "while", .str "while" 254, .ref 57⟩] 3, #[]⟩) ::
  (nat_lit 55, ⟨.type "tuple", none, .seq #[.str "back" 250] 0, #[]⟩) ::
  (nat_lit 56, ⟨.type "tuple", none, .seq #[.str "else" 252, .str "fi" 253] 0, #[]⟩) ::
  (nat_lit 57, ⟨.type "tuple", none, .seq #[.str "done" 255] 0, #[]⟩) ::
  (nat_lit 58, ⟨.type "tuple", none, .seq #[] 0, #[]⟩) ::
  (nat_lit 60, ⟨.type "tuple", none, .seq #[.str "kind" 263] 0, #[]⟩) ::
  (nat_lit 61, ⟨.type "tuple", none, .seq #[] 0, #[]⟩) ::
  (nat_lit 63, ⟨.type "code", none, .fields #[.str "closers_of" 260, .str "closers_of" 261, .str "/claim/cut.py" 262, .int 18 0, .int 1 0, .int 0 0, .int 0 0, .int 3 0, .ref 58, .bool true, .int 181 0, .ref 59, .none, .ref 60, .ref 61, .ref 62, .int 264 0, .int 18 0, .str "/claim/cut.py" 265], #[]⟩) ::
  (nat_lit 64, ⟨.type "function", none, .func ⟨"closers_of", "closers_of", L2.defArgs (top 6), .stmts (L2.defBody (top 6)), L2.defScope (top 6), 3, [], .none, .none, .none, .str "usewarden.programs" 247, none, .ref 63, .none, 0⟩, #[]⟩) ::
  (nat_lit 65, ⟨.type "tuple", none, .seq #[] 0, #[]⟩) ::
  (nat_lit 67, ⟨.type "tuple", none, .seq #[.str "step" 270] 0, #[]⟩) ::
  (nat_lit 68, ⟨.type "tuple", none, .seq #[] 0, #[]⟩) ::
  (nat_lit 70, ⟨.type "code", none, .fields #[.str "head_of" 267, .str "head_of" 268, .str "/claim/cut.py" 269, .int 20 0, .int 1 0, .int 0 0, .int 0 0, .int 3 0, .ref 65, .bool true, .int 181 0, .ref 66, .none, .ref 67, .ref 68, .ref 69, .int 271 0, .int 20 0, .str "/claim/cut.py" 272], #[]⟩) ::
  (nat_lit 71, ⟨.type "function", none, .func ⟨"head_of", "head_of", L2.defArgs (top 7), .stmts (L2.defBody (top 7)), L2.defScope (top 7), 3, [], .none, .none, .none, .str "usewarden.programs" 247, none, .ref 70, .none, 0⟩, #[]⟩) ::
  (nat_lit 72, ⟨.type "tuple", none, .seq #[] 0, #[]⟩) ::
  (nat_lit 74, ⟨.type "tuple", none, .seq #[.str "step" 277] 0, #[]⟩) ::
  (nat_lit 75, ⟨.type "tuple", none, .seq #[] 0, #[]⟩) ::
  (nat_lit 77, ⟨.type "code", none, .fields #[.str "blocks_of" 274, .str "blocks_of" 275, .str "/claim/cut.py" 276, .int 22 0, .int 1 0, .int 0 0, .int 0 0, .int 3 0, .ref 72, .bool true, .int 181 0, .ref 73, .none, .ref 74, .ref 75, .ref 76, .int 278 0, .int 22 0, .str "/claim/cut.py" 279], #[]⟩) ::
  (nat_lit 78, ⟨.type "function", none, .func ⟨"blocks_of", "blocks_of", L2.defArgs (top 8), .stmts (L2.defBody (top 8)), L2.defScope (top 8), 3, [], .none, .none, .none, .str "usewarden.programs" 247, none, .ref 77, .none, 0⟩, #[]⟩) ::
  (nat_lit 86, ⟨.type "tuple", none, .seq #[] 0, #[]⟩) ::
  (nat_lit 88, ⟨.type "tuple", none, .seq #[.str "self" 298, .str "head" 299, .str "lines" 300, .str "blocks" 301] 0, #[]⟩) ::
  (nat_lit 89, ⟨.type "tuple", none, .seq #[] 0, #[]⟩) ::
  (nat_lit 91, ⟨.type "code", none, .fields #[.str "__init__" 295, .str "NumberedStep.__init__" 296, .str "/claim/cut.py" 297, .int 27 0, .int 4 0, .int 0 0, .int 0 0, .int 3 0, .ref 86, .bool true, .int 181 0, .ref 87, .none, .ref 88, .ref 89, .ref 90, .int 302 0, .int 27 0, .str "/claim/cut.py" 303], #[]⟩) ::
  (nat_lit 92, ⟨.type "function", none, .func ⟨"__init__", "NumberedStep.__init__", L2.defArgs (L2.inClass (top 10) 0), .stmts (L2.defBody (L2.inClass (top 10) 0)), L2.defScope (L2.inClass (top 10) 0), 3, [], .none, .none, .none, .str "usewarden.numbered" 281, none, .ref 91, .none, 0⟩, #[]⟩) ::
  (nat_lit 93, ⟨.type "tuple", none, .seq #[.str "blocks" 305, .str "kind" 306, .str "lines" 307, .str "parts" 308] 0, #[]⟩) ::
  (nat_lit 94, ⟨.type "dict", none, .dict #[⟨PyData.keyHash P "__module__", .str "__module__" 290, .str "usewarden.numbered" 281⟩, ⟨PyData.keyHash P "__firstlineno__", .str "__firstlineno__" 294, .int 25 293⟩, ⟨PyData.keyHash P "__init__", .str "__init__" 304, .ref 92⟩, ⟨PyData.keyHash P "__static_attributes__", .str "__static_attributes__" 309, .ref 93⟩, ⟨PyData.keyHash P "__dict__", .str "__dict__" 311, .ref 96⟩, ⟨PyData.keyHash P "__weakref__", .str "__weakref__" 313, .ref 97⟩, ⟨PyData.keyHash P "__doc__", .str "__doc__" 314, .none⟩] 4, #[]⟩) ::
  (nat_lit 95, ⟨.type "type", none, .cls ⟨"NumberedStep", [.type "object"], [.ref 95, .type "object"], 94, "NumberedStep", true, [], [], false, none, false⟩, #[none, none, some (.str "NumberedStep" 283), some (.str "NumberedStep" 291), some (.builtin "object.__new__"), some (.bool true)]⟩) ::
  (nat_lit 96, ⟨.type "getset_descriptor", none, .fields #[.str "__dict__" 310, .ref 95, .builtin "function.__dict__", .builtin "function.__dict__#set"], #[]⟩) ::
  (nat_lit 97, ⟨.type "getset_descriptor", none, .fields #[.str "__weakref__" 312, .ref 95, .builtin "ExceptionGroup.__weakref__", .none], #[]⟩) ::
  (nat_lit 100, ⟨.type "tuple", none, .seq #[] 0, #[]⟩) ::
  (nat_lit 102, ⟨.type "tuple", none, .seq #[.str "steps" 320, .str "line" 321] 0, #[]⟩) ::
  (nat_lit 103, ⟨.type "tuple", none, .seq #[] 0, #[]⟩) ::
  (nat_lit 105, ⟨.type "code", none, .fields #[.str "line_behind" 317, .str "line_behind" 318, .str "/claim/cut.py" 319, .int 32 0, .int 2 0, .int 0 0, .int 0 0, .int 3 0, .ref 100, .bool true, .int 181 0, .ref 101, .none, .ref 102, .ref 103, .ref 104, .int 322 0, .int 32 0, .str "/claim/cut.py" 323], #[]⟩) ::
  (nat_lit 106, ⟨.type "function", none, .func ⟨"line_behind", "line_behind", L2.defArgs (top 11), .stmts (L2.defBody (top 11)), L2.defScope (top 11), 3, [], .none, .none, .none, .str "usewarden.numbered" 281, none, .ref 105, .none, 0⟩, #[]⟩) ::
  (nat_lit 107, ⟨.type "tuple", none, .seq #[] 0, #[]⟩) ::
  (nat_lit 109, ⟨.type "tuple", none, .seq #[.str "step" 328, .str "line" 329, .str "lines" 330, .str "blocks" 331, .str "block" 332, .str "steps" 333] 0, #[]⟩) ::
  (nat_lit 110, ⟨.type "tuple", none, .seq #[] 0, #[]⟩) ::
  (nat_lit 112, ⟨.type "code", none, .fields #[.str "numbered_step" 325, .str "numbered_step" 326, .str "/claim/cut.py" 327, .int 34 0, .int 2 0, .int 0 0, .int 0 0, .int 3 0, .ref 107, .bool true, .int 181 0, .ref 108, .none, .ref 109, .ref 110, .ref 111, .int 334 0, .int 34 0, .str "/claim/cut.py" 335], #[]⟩) ::
  (nat_lit 113, ⟨.type "function", none, .func ⟨"numbered_step", "numbered_step", L2.defArgs (top 12), .stmts (L2.defBody (top 12)), L2.defScope (top 12), 3, [], .none, .none, .none, .str "usewarden.numbered" 281, none, .ref 112, .none, 0⟩, #[]⟩) ::
  (nat_lit 114, ⟨.type "tuple", none, .seq #[] 0, #[]⟩) ::
  (nat_lit 116, ⟨.type "tuple", none, .seq #[.str "steps" 340, .str "line" 341, .str "numbered" 342, .str "step" 343] 0, #[]⟩) ::
  (nat_lit 117, ⟨.type "tuple", none, .seq #[] 0, #[]⟩) ::
  (nat_lit 119, ⟨.type "code", none, .fields #[.str "numbered_steps" 337, .str "numbered_steps" 338, .str "/claim/cut.py" 339, .int 42 0, .int 2 0, .int 0 0, .int 0 0, .int 3 0, .ref 114, .bool true, .int 181 0, .ref 115, .none, .ref 116, .ref 117, .ref 118, .int 344 0, .int 42 0, .str "/claim/cut.py" 345], #[]⟩) ::
  (nat_lit 120, ⟨.type "function", none, .func ⟨"numbered_steps", "numbered_steps", L2.defArgs (top 13), .stmts (L2.defBody (top 13)), L2.defScope (top 13), 3, [], .none, .none, .none, .str "usewarden.numbered" 281, none, .ref 119, .none, 0⟩, #[]⟩) ::
  (nat_lit 121, ⟨.type "tuple", none, .seq #[] 0, #[]⟩) ::
  (nat_lit 123, ⟨.type "tuple", none, .seq #[.str "side" 352, .str "word" 353] 0, #[]⟩) ::
  (nat_lit 124, ⟨.type "tuple", none, .seq #[] 0, #[]⟩) ::
  (nat_lit 126, ⟨.type "code", none, .fields #[.str "sided_text" 349, .str "sided_text" 350, .str "/claim/cut.py" 351, .int 48 0, .int 2 0, .int 0 0, .int 0 0, .int 3 0, .ref 121, .bool true, .int 181 0, .ref 122, .none, .ref 123, .ref 124, .ref 125, .int 354 0, .int 48 0, .str "/claim/cut.py" 355], #[]⟩) ::
  (nat_lit 127, ⟨.type "function", none, .func ⟨"sided_text", "sided_text", L2.defArgs (top 15), .stmts (L2.defBody (top 15)), L2.defScope (top 15), 3, [], .none, .none, .none, .str "usewarden.watches" 347, none, .ref 126, .none, 0⟩, #[]⟩) ::
  (nat_lit 128, ⟨.type "tuple", none, .seq #[] 0, #[]⟩) ::
  (nat_lit 130, ⟨.type "tuple", none, .seq #[.str "handles" 360, .str "handle" 361, .str "word" 362] 0, #[]⟩) ::
  (nat_lit 131, ⟨.type "tuple", none, .seq #[] 0, #[]⟩) ::
  (nat_lit 133, ⟨.type "code", none, .fields #[.str "text_in_row" 357, .str "text_in_row" 358, .str "/claim/cut.py" 359, .int 50 0, .int 3 0, .int 0 0, .int 0 0, .int 3 0, .ref 128, .bool true, .int 181 0, .ref 129, .none, .ref 130, .ref 131, .ref 132, .int 363 0, .int 50 0, .str "/claim/cut.py" 364], #[]⟩) ::
  (nat_lit 134, ⟨.type "function", none, .func ⟨"text_in_row", "text_in_row", L2.defArgs (top 16), .stmts (L2.defBody (top 16)), L2.defScope (top 16), 3, [], .none, .none, .none, .str "usewarden.watches" 347, none, .ref 133, .none, 0⟩, #[]⟩) ::
  (nat_lit 135, ⟨.type "tuple", none, .seq #[] 0, #[]⟩) ::
  (nat_lit 138, ⟨.type "code", none, .fields #[.str "row_of" 366, .str "row_of" 367, .str "/claim/cut.py" 368, .int 52 0, .int 2 0, .int 0 0, .int 0 0, .int 3 0, .ref 135, .bool true, .int 181 0, .ref 136, .none, .none, .none, .ref 137, .int 369 0, .int 52 0, .str "/claim/cut.py" 370], #[]⟩) ::
  (nat_lit 139, ⟨.type "function", none, .func ⟨"row_of", "row_of", L2.defArgs (top 17), .stmts (L2.defBody (top 17)), L2.defScope (top 17), 3, [], .none, .none, .none, .str "usewarden.watches" 347, none, .ref 138, .none, 0⟩, #[]⟩) ::
  (nat_lit 140, ⟨.type "tuple", none, .seq #[] 0, #[]⟩) ::
  (nat_lit 142, ⟨.type "tuple", none, .seq #[.str "watches" 375, .str "one" 376, .str "other" 377, .str "start" 378, .str "watch" 379] 0, #[]⟩) ::
  (nat_lit 143, ⟨.type "tuple", none, .seq #[] 0, #[]⟩) ::
  (nat_lit 145, ⟨.type "code", none, .fields #[.str "all_begin_tie" 372, .str "all_begin_tie" 373, .str "/claim/cut.py" 374, .int 55 0, .int 4 0, .int 0 0, .int 0 0, .int 3 0, .ref 140, .bool true, .int 181 0, .ref 141, .none, .ref 142, .ref 143, .ref 144, .int 380 0, .int 55 0, .str "/claim/cut.py" 381], #[]⟩) ::
  (nat_lit 146, ⟨.type "function", none, .func ⟨"all_begin_tie", "all_begin_tie", L2.defArgs (top 18), .stmts (L2.defBody (top 18)), L2.defScope (top 18), 3, [], .none, .none, .none, .str "usewarden.watches" 347, none, .ref 145, .none, 0⟩, #[]⟩) ::
  (nat_lit 147, ⟨.type "tuple", none, .seq #[] 0, #[]⟩) ::
  (nat_lit 149, ⟨.type "tuple", none, .seq #[.str "watches" 386, .str "at" 387, .str "handle" 388, .str "word" 389, .str "broken" 390, .str "watch" 391, .str "first" 392] 0, #[]⟩) ::
  (nat_lit 150, ⟨.type "tuple", none, .seq #[] 0, #[]⟩) ::
  (nat_lit 152, ⟨.type "code", none, .fields #[.str "broken_or_gone_on" 383, .str "broken_or_gone_on" 384, .str "/claim/cut.py" 385, .int 58 0, .int 4 0, .int 0 0, .int 0 0, .int 3 0, .ref 147, .bool true, .int 181 0, .ref 148, .none, .ref 149, .ref 150, .ref 151, .int 393 0, .int 58 0, .str "/claim/cut.py" 394], #[]⟩) ::
  (nat_lit 153, ⟨.type "function", none, .func ⟨"broken_or_gone_on", "broken_or_gone_on", L2.defArgs (top 19), .stmts (L2.defBody (top 19)), L2.defScope (top 19), 3, [], .none, .none, .none, .str "usewarden.watches" 347, none, .ref 152, .none, 0⟩, #[]⟩) ::
  (nat_lit 161, ⟨.type "tuple", none, .seq #[] 0, #[]⟩) ::
  (nat_lit 163, ⟨.type "tuple", none, .seq #[.str "self" 413, .str "inputs" 414, .str "watches" 415] 0, #[]⟩) ::
  (nat_lit 164, ⟨.type "tuple", none, .seq #[] 0, #[]⟩) ::
  (nat_lit 166, ⟨.type "code", none, .fields #[.str "__init__" 410, .str "Run.__init__" 411, .str "/claim/cut.py" 412, .int 73 0, .int 3 0, .int 0 0, .int 0 0, .int 3 0, .ref 161, .bool true, .int 181 0, .ref 162, .none, .ref 163, .ref 164, .ref 165, .int 416 0, .int 73 0, .str "/claim/cut.py" 417], #[]⟩) ::
  (nat_lit 167, ⟨.type "function", none, .func ⟨"__init__", "Run.__init__", L2.defArgs (L2.inClass (top 21) 0), .stmts (L2.defBody (L2.inClass (top 21) 0)), L2.defScope (L2.inClass (top 21) 0), 3, [], .none, .none, .none, .str "usewarden.runs" 396, none, .ref 166, .none, 0⟩, #[]⟩) ::
  (nat_lit 168, ⟨.type "tuple", none, .seq #[] 0, #[]⟩) ::
  (nat_lit 170, ⟨.type "tuple", none, .seq #[.str "self" 422, .str "at" 423] 0, #[]⟩) ::
  (nat_lit 171, ⟨.type "tuple", none, .seq #[] 0, #[]⟩) ::
  (nat_lit 173, ⟨.type "code", none, .fields #[.str "come_to" 419, .str "Run.come_to" 420, .str "/claim/cut.py" 421, .int 83 0, .int 2 0, .int 0 0, .int 0 0, .int 3 0, .ref 168, .bool true, .int 181 0, .ref 169, .none, .ref 170, .ref 171, .ref 172, .int 424 0, .int 83 0, .str "/claim/cut.py" 425], #[]⟩) ::
  (nat_lit 174, ⟨.type "function", none, .func ⟨"come_to", "Run.come_to", L2.defArgs (L2.inClass (top 21) 1), .stmts (L2.defBody (L2.inClass (top 21) 1)), L2.defScope (L2.inClass (top 21) 1), 3, [], .none, .none, .none, .str "usewarden.runs" 396, none, .ref 173, .none, 0⟩, #[]⟩) ::
  (nat_lit 175, ⟨.type "tuple", none, .seq #[] 0, #[]⟩) ::
  (nat_lit 177, ⟨.type "tuple", none, .seq #[.str "self" 430, .str "bound" 431] 0, #[]⟩) ::
  (nat_lit 178, ⟨.type "tuple", none, .seq #[] 0, #[]⟩) ::
  (nat_lit 180, ⟨.type "code", none, .fields #[.str "takes_more" 427, .str "Run.takes_more" 428, .str "/claim/cut.py" 429, .int 86 0, .int 2 0, .int 0 0, .int 0 0, .int 3 0, .ref 175, .bool true, .int 181 0, .ref 176, .none, .ref 177, .ref 178, .ref 179, .int 432 0, .int 86 0, .str "/claim/cut.py" 433], #[]⟩) ::
  (nat_lit 181, ⟨.type "function", none, .func ⟨"takes_more", "Run.takes_more", L2.defArgs (L2.inClass (top 21) 2), .stmts (L2.defBody (L2.inClass (top 21) 2)), L2.defScope (L2.inClass (top 21) 2), 3, [], .none, .none, .none, .str "usewarden.runs" 396, none, .ref 180, .none, 0⟩, #[]⟩) ::
  (nat_lit 182, ⟨.type "tuple", none, .seq #[] 0, #[]⟩) ::
  (nat_lit 184, ⟨.type "tuple", none, .seq #[.str "self" 438, .str "holder" 439] 0, #[]⟩) ::
  (nat_lit 185, ⟨.type "tuple", none, .seq #[] 0, #[]⟩) ::
  (nat_lit 187, ⟨.type "code", none, .fields #[.str "handle_of" 435, .str "Run.handle_of" 436, .str "/claim/cut.py" 437, .int 93 0, .int 2 0, .int 0 0, .int 0 0, .int 3 0, .ref 182, .bool true, .int 181 0, .ref 183, .none, .ref 184, .ref 185, .ref 186, .int 440 0, .int 93 0, .str "/claim/cut.py" 441], #[]⟩) ::
  (nat_lit 188, ⟨.type "function", none, .func ⟨"handle_of", "Run.handle_of", L2.defArgs (L2.inClass (top 21) 3), .stmts (L2.defBody (L2.inClass (top 21) 3)), L2.defScope (L2.inClass (top 21) 3), 3, [], .none, .none, .none, .str "usewarden.runs" 396, none, .ref 187, .none, 0⟩, #[]⟩) ::
  (nat_lit 189, ⟨.type "tuple", none, .seq #[] 0, #[]⟩) ::
  (nat_lit 191, ⟨.type "tuple", none, .seq #[.str "self" 446, .str "holder" 447, .str "handle" 448] 0, #[]⟩) ::
  (nat_lit 192, ⟨.type "tuple", none, .seq #[] 0, #[]⟩) ::
  (nat_lit 194, ⟨.type "code", none, .fields #[.str "hold" 443, .str "Run.hold" 444, .str "/claim/cut.py" 445, .int 96 0, .int 3 0, .int 0 0, .int 0 0, .int 3 0, .ref 189, .bool true, .int 181 0, .ref 190, .none, .ref 191, .ref 192, .ref 193, .int 449 0, .int 96 0, .str "/claim/cut.py" 450], #[]⟩) ::
  (nat_lit 195, ⟨.type "function", none, .func ⟨"hold", "Run.hold", L2.defArgs (L2.inClass (top 21) 4), .stmts (L2.defBody (L2.inClass (top 21) 4)), L2.defScope (L2.inClass (top 21) 4), 3, [], .none, .none, .none, .str "usewarden.runs" 396, none, .ref 194, .none, 0⟩, #[]⟩) ::
  (nat_lit 196, ⟨.type "tuple", none, .seq #[] 0, #[]⟩) ::
  (nat_lit 198, ⟨.type "tuple", none, .seq #[.str "self" 455, .str "line" 456, .str "handle" 457, .str "word" 458, .str "entry" 459, .str "broken" 460] 0, #[]⟩) ::
  (nat_lit 199, ⟨.type "tuple", none, .seq #[] 0, #[]⟩) ::
  (nat_lit 201, ⟨.type "code", none, .fields #[.str "deed" 452, .str "Run.deed" 453, .str "/claim/cut.py" 454, .int 99 0, .int 4 0, .int 0 0, .int 0 0, .int 3 0, .ref 196, .bool true, .int 181 0, .ref 197, .none, .ref 198, .ref 199, .ref 200, .int 461 0, .int 99 0, .str "/claim/cut.py" 462], #[]⟩) ::
  (nat_lit 202, ⟨.type "function", none, .func ⟨"deed", "Run.deed", L2.defArgs (L2.inClass (top 21) 5), .stmts (L2.defBody (L2.inClass (top 21) 5)), L2.defScope (L2.inClass (top 21) 5), 3, [], .none, .none, .none, .str "usewarden.runs" 396, none, .ref 201, .none, 0⟩, #[]⟩) ::
  (nat_lit 203, ⟨.type "tuple", none, .seq #[] 0, #[]⟩) ::
  (nat_lit 205, ⟨.type "tuple", none, .seq #[.str "self" 467, .str "entry" 468, .str "broken" 469, .str "name" 470, .str "start" 471, .str "handles" 472] 0, #[]⟩) ::
  (nat_lit 206, ⟨.type "tuple", none, .seq #[] 0, #[]⟩) ::
  (nat_lit 208, ⟨.type "code", none, .fields #[.str "refuse" 464, .str "Run.refuse" 465, .str "/claim/cut.py" 466, .int 108 0, .int 3 0, .int 0 0, .int 0 0, .int 3 0, .ref 203, .bool true, .int 181 0, .ref 204, .none, .ref 205, .ref 206, .ref 207, .int 473 0, .int 108 0, .str "/claim/cut.py" 474], #[]⟩) ::
  (nat_lit 209, ⟨.type "function", none, .func ⟨"refuse", "Run.refuse", L2.defArgs (L2.inClass (top 21) 6), .stmts (L2.defBody (L2.inClass (top 21) 6)), L2.defScope (L2.inClass (top 21) 6), 3, [], .none, .none, .none, .str "usewarden.runs" 396, none, .ref 208, .none, 0⟩, #[]⟩) ::
  (nat_lit 210, ⟨.type "tuple", none, .seq #[] 0, #[]⟩) ::
  (nat_lit 212, ⟨.type "tuple", none, .seq #[.str "self" 479, .str "line" 480, .str "holder" 481, .str "handle" 482] 0, #[]⟩) ::
  (nat_lit 213, ⟨.type "tuple", none, .seq #[] 0, #[]⟩) ::
  (nat_lit 215, ⟨.type "code", none, .fields #[.str "new_handle" 476, .str "Run.new_handle" 477, .str "/claim/cut.py" 478, .int 114 0, .int 3 0, .int 0 0, .int 0 0, .int 3 0, .ref 210, .bool true, .int 181 0, .ref 211, .none, .ref 212, .ref 213, .ref 214, .int 483 0, .int 114 0, .str "/claim/cut.py" 484], #[]⟩) ::
  (nat_lit 216, ⟨.type "function", none, .func ⟨"new_handle", "Run.new_handle", L2.defArgs (L2.inClass (top 21) 7), .stmts (L2.defBody (L2.inClass (top 21) 7)), L2.defScope (L2.inClass (top 21) 7), 3, [], .none, .none, .none, .str "usewarden.runs" 396, none, .ref 215, .none, 0⟩, #[]⟩) ::
  (nat_lit 217, ⟨.type "tuple", none, .seq #[] 0, #[]⟩) ::
  (nat_lit 219, ⟨.type "tuple", none, .seq #[.str "self" 489, .str "line" 490, .str "one" 491, .str "other" 492] 0, #[]⟩) ::
  (nat_lit 220, ⟨.type "tuple", none, .seq #[] 0, #[]⟩) ::
  (nat_lit 222, ⟨.type "code", none, .fields #[.str "tie" 486, .str "Run.tie" 487, .str "/claim/cut.py" 488, .int 120 0, .int 4 0, .int 0 0, .int 0 0, .int 3 0, .ref 217, .bool true, .int 181 0, .ref 218, .none, .ref 219, .ref 220, .ref 221, .int 493 0, .int 120 0, .str "/claim/cut.py" 494], #[]⟩) ::
  (nat_lit 223, ⟨.type "function", none, .func ⟨"tie", "Run.tie", L2.defArgs (L2.inClass (top 21) 8), .stmts (L2.defBody (L2.inClass (top 21) 8)), L2.defScope (L2.inClass (top 21) 8), 3, [], .none, .none, .none, .str "usewarden.runs" 396, none, .ref 222, .none, 0⟩, #[]⟩) ::
  (nat_lit 224, ⟨.type "tuple", none, .seq #[] 0, #[]⟩) ::
  (nat_lit 226, ⟨.type "tuple", none, .seq #[.str "self" 499, .str "line" 500, .str "handle" 501] 0, #[]⟩) ::
  (nat_lit 227, ⟨.type "tuple", none, .seq #[] 0, #[]⟩) ::
  (nat_lit 229, ⟨.type "code", none, .fields #[.str "end_all" 496, .str "Run.end_all" 497, .str "/claim/cut.py" 498, .int 125 0, .int 2 0, .int 0 0, .int 0 0, .int 3 0, .ref 224, .bool true, .int 181 0, .ref 225, .none, .ref 226, .ref 227, .ref 228, .int 502 0, .int 125 0, .str "/claim/cut.py" 503], #[]⟩) ::
  (nat_lit 230, ⟨.type "function", none, .func ⟨"end_all", "Run.end_all", L2.defArgs (L2.inClass (top 21) 9), .stmts (L2.defBody (L2.inClass (top 21) 9)), L2.defScope (L2.inClass (top 21) 9), 3, [], .none, .none, .none, .str "usewarden.runs" 396, none, .ref 229, .none, 0⟩, #[]⟩) ::
  (nat_lit 231, ⟨.type "tuple", none, .seq #[.str "at" 505, .str "held" 506, .str "inputs" 507, .str "last" 508, .str "log" 509, .str "opened" 510, .str "taken" 511, .str "watches" 512] 0, #[]⟩) ::
  (nat_lit 232, ⟨.type "dict", none, .dict #[⟨PyData.keyHash P "__module__", .str "__module__" 405, .str "usewarden.runs" 396⟩, ⟨PyData.keyHash P "__firstlineno__", .str "__firstlineno__" 409, .int 71 408⟩, ⟨PyData.keyHash P "__init__", .str "__init__" 418, .ref 167⟩, ⟨PyData.keyHash P "come_to", .str "come_to" 426, .ref 174⟩, ⟨PyData.keyHash P "takes_more", .str "takes_more" 434, .ref 181⟩, ⟨PyData.keyHash P "handle_of", .str "handle_of" 442, .ref 188⟩, ⟨PyData.keyHash P "hold", .str "hold" 451, .ref 195⟩, ⟨PyData.keyHash P "deed", .str "deed" 463, .ref 202⟩, ⟨PyData.keyHash P "refuse", .str "refuse" 475, .ref 209⟩, ⟨PyData.keyHash P "new_handle", .str "new_handle" 485, .ref 216⟩, ⟨PyData.keyHash P "tie", .str "tie" 495, .ref 223⟩, ⟨PyData.keyHash P "end_all", .str "end_all" 504, .ref 230⟩, ⟨PyData.keyHash P "__static_attributes__", .str "__static_attributes__" 513, .ref 231⟩, ⟨PyData.keyHash P "__dict__", .str "__dict__" 515, .ref 234⟩, ⟨PyData.keyHash P "__weakref__", .str "__weakref__" 517, .ref 235⟩, ⟨PyData.keyHash P "__doc__", .str "__doc__" 518, .none⟩] 4, #[]⟩) ::
  (nat_lit 233, ⟨.type "type", none, .cls ⟨"Run", [.type "object"], [.ref 233, .type "object"], 232, "Run", true, [], [], false, none, false⟩, #[none, none, some (.str "Run" 398), some (.str "Run" 406), some (.builtin "object.__new__"), some (.bool true)]⟩) ::
  (nat_lit 234, ⟨.type "getset_descriptor", none, .fields #[.str "__dict__" 514, .ref 233, .builtin "function.__dict__", .builtin "function.__dict__#set"], #[]⟩) ::
  (nat_lit 235, ⟨.type "getset_descriptor", none, .fields #[.str "__weakref__" 516, .ref 233, .builtin "ExceptionGroup.__weakref__", .none], #[]⟩) ::
  (nat_lit 238, ⟨.type "tuple", none, .seq #[] 0, #[]⟩) ::
  (nat_lit 240, ⟨.type "tuple", none, .seq #[.str "run" 526, .str "step" 527, .str "line" 528, .str "parts" 529] 0, #[]⟩) ::
  (nat_lit 241, ⟨.type "tuple", none, .seq #[] 0, #[]⟩) ::
  (nat_lit 243, ⟨.type "code", none, .fields #[.str "do_simple" 523, .str "do_simple" 524, .str "/claim/cut.py" 525, .int 129 0, .int 2 0, .int 0 0, .int 0 0, .int 3 0, .ref 238, .bool true, .int 181 0, .ref 239, .none, .ref 240, .ref 241, .ref 242, .int 530 0, .int 129 0, .str "/claim/cut.py" 531], #[]⟩) ::
  (nat_lit 244, ⟨.type "function", none, .func ⟨"do_simple", "do_simple", L2.defArgs (top 23), .stmts (L2.defBody (top 23)), L2.defScope (top 23), 3, [], .none, .none, .none, .str "usewarden.plainruns" 521, none, .ref 243, .none, 0⟩, #[]⟩) ::
  (nat_lit 245, ⟨.type "tuple", none, .seq #[] 0, #[]⟩) ::
  (nat_lit 247, ⟨.type "tuple", none, .seq #[.str "run" 536, .str "step" 537, .str "lent" 538] 0, #[]⟩) ::
  (nat_lit 248, ⟨.type "tuple", none, .seq #[] 0, #[]⟩) ::
  (nat_lit 250, ⟨.type "code", none, .fields #[.str "do_lend" 533, .str "do_lend" 534, .str "/claim/cut.py" 535, .int 142 0, .int 2 0, .int 0 0, .int 0 0, .int 3 0, .ref 245, .bool true, .int 181 0, .ref 246, .none, .ref 247, .ref 248, .ref 249, .int 539 0, .int 142 0, .str "/claim/cut.py" 540], #[]⟩) ::
  (nat_lit 251, ⟨.type "function", none, .func ⟨"do_lend", "do_lend", L2.defArgs (top 24), .stmts (L2.defBody (top 24)), L2.defScope (top 24), 3, [], .none, .none, .none, .str "usewarden.plainruns" 521, none, .ref 250, .none, 0⟩, #[]⟩) ::
  (nat_lit 252, ⟨.type "tuple", none, .seq #[] 0, #[]⟩) ::
  (nat_lit 254, ⟨.type "tuple", none, .seq #[.str "run" 545, .str "step" 546] 0, #[]⟩) ::
  (nat_lit 255, ⟨.type "tuple", none, .seq #[] 0, #[]⟩) ::
  (nat_lit 257, ⟨.type "code", none, .fields #[.str "do_if" 542, .str "do_if" 543, .str "/claim/cut.py" 544, .int 149 0, .int 2 0, .int 0 0, .int 0 0, .int 3 0, .ref 252, .bool true, .int 181 0, .ref 253, .none, .ref 254, .ref 255, .ref 256, .int 547 0, .int 149 0, .str "/claim/cut.py" 548], #[]⟩) ::
  (nat_lit 258, ⟨.type "function", none, .func ⟨"do_if", "do_if", L2.defArgs (top 25), .stmts (L2.defBody (top 25)), L2.defScope (top 25), 3, [], .none, .none, .none, .str "usewarden.plainruns" 521, none, .ref 257, .none, 0⟩, #[]⟩) ::
  (nat_lit 259, ⟨.type "tuple", none, .seq #[] 0, #[]⟩) ::
  (nat_lit 261, ⟨.type "tuple", none, .seq #[.str "run" 553, .str "step" 554] 0, #[]⟩) ::
  (nat_lit 262, ⟨.type "tuple", none, .seq #[] 0, #[]⟩) ::
  (nat_lit 264, ⟨.type "code", none, .fields #[.str "do_while" 550, .str "do_while" 551, .str "/claim/cut.py" 552, .int 154 0, .int 2 0, .int 0 0, .int 0 0, .int 3 0, .ref 259, .bool true, .int 181 0, .ref 260, .none, .ref 261, .ref 262, .ref 263, .int 555 0, .int 154 0, .str "/claim/cut.py" 556], #[]⟩) ::
  (nat_lit 265, ⟨.type "function", none, .func ⟨"do_while", "do_while", L2.defArgs (top 26), .stmts (L2.defBody (top 26)), L2.defScope (top 26), 3, [], .none, .none, .none, .str "usewarden.plainruns" 521, none, .ref 264, .none, 0⟩, #[]⟩) ::
  (nat_lit 266, ⟨.type "tuple", none, .seq #[] 0, #[]⟩) ::
  (nat_lit 268, ⟨.type "tuple", none, .seq #[.str "run" 561, .str "steps" 562, .str "step" 563] 0, #[]⟩) ::
  (nat_lit 269, ⟨.type "tuple", none, .seq #[] 0, #[]⟩) ::
  (nat_lit 271, ⟨.type "code", none, .fields #[.str "do_steps" 558, .str "do_steps" 559, .str "/claim/cut.py" 560, .int 157 0, .int 2 0, .int 0 0, .int 0 0, .int 3 0, .ref 266, .bool true, .int 181 0, .ref 267, .none, .ref 268, .ref 269, .ref 270, .int 564 0, .int 157 0, .str "/claim/cut.py" 565], #[]⟩) ::
  (nat_lit 272, ⟨.type "function", none, .func ⟨"do_steps", "do_steps", L2.defArgs (top 27), .stmts (L2.defBody (top 27)), L2.defScope (top 27), 3, [], .none, .none, .none, .str "usewarden.plainruns" 521, none, .ref 271, .none, 0⟩, #[]⟩) ::
  (nat_lit 273, ⟨.type "tuple", none, .seq #[] 0, #[]⟩) ::
  (nat_lit 275, ⟨.type "tuple", none, .seq #[.str "program" 570, .str "inputs" 571, .str "steps" 572, .str "run" 573] 0, #[]⟩) ::
  (nat_lit 276, ⟨.type "tuple", none, .seq #[] 0, #[]⟩) ::
  (nat_lit 278, ⟨.type "code", none, .fields #[.str "run_plain" 567, .str "run_plain" 568, .str "/claim/cut.py" 569, .int 167 0, .int 2 0, .int 0 0, .int 0 0, .int 3 0, .ref 273, .bool true, .int 181 0, .ref 274, .none, .ref 275, .ref 276, .ref 277, .int 574 0, .int 167 0, .str "/claim/cut.py" 575], #[]⟩) ::
  (nat_lit 279, ⟨.type "function", none, .func ⟨"run_plain", "run_plain", L2.defArgs (top 28), .stmts (L2.defBody (top 28)), L2.defScope (top 28), 3, [], .none, .none, .none, .str "usewarden.plainruns" 521, none, .ref 278, .none, 0⟩, #[]⟩) ::
  (nat_lit 280, ⟨.type "tuple", none, .seq #[] 0, #[]⟩) ::
  (nat_lit 282, ⟨.type "tuple", none, .seq #[.str "_law_script" 582, .str "_law_k" 583] 0, #[]⟩) ::
  (nat_lit 283, ⟨.type "tuple", none, .seq #[] 0, #[]⟩) ::
  (nat_lit 285, ⟨.type "code", none, .fields #[.str "_law_cell_at" 579, .str "_law_cell_at" 580, .str "/claim/cut.py" 581, .int 174 0, .int 2 0, .int 0 0, .int 0 0, .int 3 0, .ref 280, .bool true, .int 181 0, .ref 281, .none, .ref 282, .ref 283, .ref 284, .int 584 0, .int 174 0, .str "/claim/cut.py" 585], #[]⟩) ::
  (nat_lit 286, ⟨.type "function", none, .func ⟨"_law_cell_at", "_law_cell_at", L2.defArgs (top 30), .stmts (L2.defBody (top 30)), L2.defScope (top 30), 3, [], .none, .none, .none, .str "law_usewarden_k30_steps_behind_one_another" 577, none, .ref 285, .none, 0⟩, #[]⟩) ::
  (nat_lit 287, ⟨.type "tuple", none, .seq #[] 0, #[]⟩) ::
  (nat_lit 290, ⟨.type "code", none, .fields #[.str "_law_names" 587, .str "_law_names" 588, .str "/claim/cut.py" 589, .int 178 0, .int 1 0, .int 0 0, .int 0 0, .int 3 0, .ref 287, .bool true, .int 181 0, .ref 288, .none, .none, .none, .ref 289, .int 590 0, .int 178 0, .str "/claim/cut.py" 591], #[]⟩) ::
  (nat_lit 291, ⟨.type "function", none, .func ⟨"_law_names", "_law_names", L2.defArgs (top 31), .stmts (L2.defBody (top 31)), L2.defScope (top 31), 3, [], .none, .none, .none, .str "law_usewarden_k30_steps_behind_one_another" 577, none, .ref 290, .none, 0⟩, #[]⟩) ::
  (nat_lit 292, ⟨.type "tuple", none, .seq #[] 0, #[]⟩) ::
  (nat_lit 294, ⟨.type "tuple", none, .seq #[.str "_law_cell" 596, .str "_law_names_here" 597, .str "_law_x" 598, .str "_law_y" 599, .str "_law_kind" 600, .str "_law_words" 601] 0, #[]⟩) ::
  (nat_lit 295, ⟨.type "tuple", none, .seq #[] 0, #[]⟩) ::
  (nat_lit 297, ⟨.type "code", none, .fields #[.str "_law_step" 593, .str "_law_step" 594, .str "/claim/cut.py" 595, .int 191 0, .int 2 0, .int 0 0, .int 0 0, .int 3 0, .ref 292, .bool true, .int 181 0, .ref 293, .none, .ref 294, .ref 295, .ref 296, .int 602 0, .int 191 0, .str "/claim/cut.py" 603], #[]⟩) ::
  (nat_lit 298, ⟨.type "function", none, .func ⟨"_law_step", "_law_step", L2.defArgs (top 32), .stmts (L2.defBody (top 32)), L2.defScope (top 32), 3, [], .none, .none, .none, .str "law_usewarden_k30_steps_behind_one_another" 577, none, .ref 297, .none, 0⟩, #[]⟩) ::
  (nat_lit 299, ⟨.type "tuple", none, .seq #[] 0, #[]⟩) ::
  (nat_lit 302, ⟨.type "code", none, .fields #[.str "_law_logged" 605, .str "_law_logged" 606, .str "/claim/cut.py" 607, .int 205 0, .int 1 0, .int 0 0, .int 0 0, .int 3 0, .ref 299, .bool true, .int 181 0, .ref 300, .none, .none, .none, .ref 301, .int 608 0, .int 205 0, .str "/claim/cut.py" 609], #[]⟩) ::
  (nat_lit 303, ⟨.type "function", none, .func ⟨"_law_logged", "_law_logged", L2.defArgs (top 33), .stmts (L2.defBody (top 33)), L2.defScope (top 33), 3, [], .none, .none, .none, .str "law_usewarden_k30_steps_behind_one_another" 577, none, .ref 302, .none, 0⟩, #[]⟩) ::
  (nat_lit 304, ⟨.type "tuple", none, .seq #[] 0, #[]⟩) ::
  (nat_lit 306, ⟨.type "tuple", none, .seq #[.str "_law_found" 614] 0, #[]⟩) ::
  (nat_lit 307, ⟨.type "tuple", none, .seq #[] 0, #[]⟩) ::
  (nat_lit 309, ⟨.type "code", none, .fields #[.str "_law_whole" 611, .str "_law_whole" 612, .str "/claim/cut.py" 613, .int 226 0, .int 1 0, .int 0 0, .int 0 0, .int 3 0, .ref 304, .bool true, .int 181 0, .ref 305, .none, .ref 306, .ref 307, .ref 308, .int 615 0, .int 226 0, .str "/claim/cut.py" 616], #[]⟩) ::
  (nat_lit 310, ⟨.type "function", none, .func ⟨"_law_whole", "_law_whole", L2.defArgs (top 34), .stmts (L2.defBody (top 34)), L2.defScope (top 34), 3, [], .none, .none, .none, .str "law_usewarden_k30_steps_behind_one_another" 577, none, .ref 309, .none, 0⟩, #[]⟩) ::
  (nat_lit 311, ⟨.type "tuple", none, .seq #[] 0, #[]⟩) ::
  (nat_lit 313, ⟨.type "tuple", none, .seq #[.str "_law_found" 621, .str "_law_due" 622] 0, #[]⟩) ::
  (nat_lit 314, ⟨.type "tuple", none, .seq #[] 0, #[]⟩) ::
  (nat_lit 316, ⟨.type "code", none, .fields #[.str "_law_entry" 618, .str "_law_entry" 619, .str "/claim/cut.py" 620, .int 228 0, .int 2 0, .int 0 0, .int 0 0, .int 3 0, .ref 311, .bool true, .int 181 0, .ref 312, .none, .ref 313, .ref 314, .ref 315, .int 623 0, .int 228 0, .str "/claim/cut.py" 624], #[]⟩) ::
  (nat_lit 317, ⟨.type "function", none, .func ⟨"_law_entry", "_law_entry", L2.defArgs (top 35), .stmts (L2.defBody (top 35)), L2.defScope (top 35), 3, [], .none, .none, .none, .str "law_usewarden_k30_steps_behind_one_another" 577, none, .ref 316, .none, 0⟩, #[]⟩) ::
  (nat_lit 318, ⟨.type "tuple", none, .seq #[] 0, #[]⟩) ::
  (nat_lit 320, ⟨.type "tuple", none, .seq #[.str "_law_found" 629, .str "_law_due" 630, .str "_law_one" 631, .str "_law_other" 632] 0, #[]⟩) ::
  (nat_lit 321, ⟨.type "tuple", none, .seq #[] 0, #[]⟩) ::
  (nat_lit 323, ⟨.type "code", none, .fields #[.str "_law_right" 626, .str "_law_right" 627, .str "/claim/cut.py" 628, .int 236 0, .int 2 0, .int 0 0, .int 0 0, .int 3 0, .ref 318, .bool true, .int 181 0, .ref 319, .none, .ref 320, .ref 321, .ref 322, .int 633 0, .int 236 0, .str "/claim/cut.py" 634], #[]⟩) ::
  (nat_lit 324, ⟨.type "function", none, .func ⟨"_law_right", "_law_right", L2.defArgs (top 36), .stmts (L2.defBody (top 36)), L2.defScope (top 36), 3, [], .none, .none, .none, .str "law_usewarden_k30_steps_behind_one_another" 577, none, .ref 323, .none, 0⟩, #[]⟩) ::
  (nat_lit 325, ⟨.type "tuple", none, .seq #[] 0, #[]⟩) ::
  (nat_lit 328, ⟨.type "code", none, .fields #[.str "law" 636, .str "law" 637, .str "/claim/cut.py" 638, .int 243 0, .int 1 0, .int 0 0, .int 0 0, .int 3 0, .ref 325, .bool true, .int 181 0, .ref 326, .none, .none, .none, .ref 327, .int 639 0, .int 243 0, .str "/claim/cut.py" 640], #[]⟩) ::
  (nat_lit 329, ⟨.type "function", none, .func ⟨"law", "law", L2.defArgs (top 37), .stmts (L2.defBody (top 37)), L2.defScope (top 37), 3, [], .none, .none, .none, .str "law_usewarden_k30_steps_behind_one_another" 577, none, .ref 328, .none, 0⟩, #[]⟩) :: []
def kk : List Addr := [2, 3, 15, 17, 18, 20, 21, 22, 29, 30, 31, 32, 35, 42, 44, 45, 47, 48, 49, 50, 51, 54, 55, 56, 57, 58, 60, 61, 63, 64, 65, 67, 68, 70, 71, 72, 74, 75, 77, 78, 86, 88, 89, 91, 92, 93, 94, 95, 96, 97, 100, 102, 103, 105, 106, 107, 109, 110, 112, 113, 114, 116, 117, 119, 120, 121, 123, 124, 126, 127, 128, 130, 131, 133, 134, 135, 138, 139, 140, 142, 143, 145, 146, 147, 149, 150, 152, 153, 161, 163, 164, 166, 167, 168, 170, 171, 173, 174, 175, 177, 178, 180, 181, 182, 184, 185, 187, 188, 189, 191, 192, 194, 195, 196, 198, 199, 201, 202, 203, 205, 206, 208, 209, 210, 212, 213, 215, 216, 217, 219, 220, 222, 223, 224, 226, 227, 229, 230, 231, 232, 233, 234, 235, 238, 240, 241, 243, 244, 245, 247, 248, 250, 251, 252, 254, 255, 257, 258, 259, 261, 262, 264, 265, 266, 268, 269, 271, 272, 273, 275, 276, 278, 279, 280, 282, 283, 285, 286, 287, 290, 291, 292, 294, 295, 297, 298, 299, 302, 303, 304, 306, 307, 309, 310, 311, 313, 314, 316, 317, 318, 320, 321, 323, 324, 325, 328, 329]
theorem kk_eq : ∀ P, kk = (KK P).map (·.1) := fun _ => by kernel_rfl
noncomputable abbrev HH : Hook := kHook KK kk kk_eq
def qq : Program := view PySem.Challenge.pw_usewarden_k30_steps_behind_one_another [0, 2, 3, 5, 6, 7, 8, 10, 11, 12, 13, 15, 16, 17, 18, 19, 21, 23, 24, 25, 26, 27, 28, 30, 31, 32, 33, 34, 35, 36, 37]
def loo : List Str := ["CLOSERS"]
noncomputable def xt (s : Shared) : Bool := xlAt qq [] s && recOk (RowW.records (OpenRow.toRowW (OpenLaw.row PySem.Challenge.rw_usewarden_k30_steps_behind_one_another))) s
def PH1 (w : World) : Prop := (openEnds treeTable PySem.Challenge.pw_usewarden_k30_steps_behind_one_another w 4344).map (fun s => openSeen qq loo (importedModules (Program.main PySem.Challenge.pw_usewarden_k30_steps_behind_one_another).body) xt true s) = some (openGood qq loo)
def PH2 (w : World) : Prop := (openEnds treeTable PySem.Challenge.pw_usewarden_k30_steps_behind_one_another w 4344).map (fun s => Hook.obs HH s) = some (Hook.val HH w)
set_option maxRecDepth 1000000 in
theorem hlf1 (w : World) : PH1 (w.withFollow "special-get-raises" false) := by unfold PH1; kernel_rfl
set_option maxRecDepth 1000000 in
theorem hlt1 (w : World) : PH1 (w.withFollow "special-get-raises" true) := by unfold PH1; kernel_rfl
theorem hlw1 (w : World) : PH1 w := byRow2 "special-get-raises" (P := PH1) hlf1 hlt1 w
set_option maxRecDepth 1000000 in
theorem hlf2 (w : World) : PH2 (w.withFollow "special-get-raises" false) := by unfold PH2; kernel_rfl
set_option maxRecDepth 1000000 in
theorem hlt2 (w : World) : PH2 (w.withFollow "special-get-raises" true) := by unfold PH2; kernel_rfl
theorem hlw2 (w : World) : PH2 w := byRow2 "special-get-raises" (P := PH2) hlf2 hlt2 w
theorem map_both {α β γ : Type} {o : Option α} {f : α → β} {g : α → γ} {a : β} {b : γ} (h1 : o.map f = some a) (h2 : o.map g = some b) : o.map (fun s => (f s, g s)) = some (a, b) := by
  cases o with
  | none => cases h1
  | some s => cases h1; cases h2; rfl
theorem hl (w : World) : (openEnds treeTable PySem.Challenge.pw_usewarden_k30_steps_behind_one_another w 4344).map (fun s => (openSeen qq loo (importedModules (Program.main PySem.Challenge.pw_usewarden_k30_steps_behind_one_another).body) xt true s, Hook.obs HH s)) = some (openGood qq loo, Hook.val HH w) := map_both (hlw1 w) (hlw2 w)
end K30
-- CHANGE: your row's module here, as the last of these rows
set_option Elab.async false
set_option linter.all false
set_option maxRecDepth 100000
/-! THE HAND LAYER, for ints, bools, texts, own classes, LISTS and tuples (index, slices, in, append, pop ..), calls, loops. Paste it whole ahead of your own text; what your proof does not reach may be deleted. -/
namespace L2
open PySem PySem.Spec PyProof.Rows

/-- a key: an int or a str -/
abbrev Key := Sum Int Str
def keyIs : Key → Value → Bool
  | .inl k, v => Value.isInt k v
  | .inr x, v => Value.isStrOf x v
def keyH (w : World) : Key → Int
  | .inl k => hashInt k
  | .inr x => hashStr w x
theorem keyIs_shape : ∀ {k : Key} {v : Value}, keyIs k v = true → (∃ i t, k = Sum.inl i ∧ v = Value.int i t) ∨ (∃ x t, k = Sum.inr x ∧ v = Value.str x t)
  | .inl i, v, h => by
    obtain ⟨t, e⟩ := Value.isInt_shape (k := i) (v := v) h
    exact .inl ⟨i, t, rfl, e⟩
  | .inr x, v, h => by
    obtain ⟨t, e⟩ := Value.isStrOf_shape (x := x) (v := v) h
    exact .inr ⟨x, t, rfl, e⟩
theorem keyIs_int (i : Int) (t : Tok) : keyIs (.inl i) (.int i t) = true := by simp [keyIs, Value.isInt]
theorem keyIs_str (x : Str) (t : Tok) : keyIs (.inr x) (.str x t) = true := by simp [keyIs, Value.isStrOf]
theorem key_ll (a b : Int) : decide ((Sum.inl a : Key) = Sum.inl b) = (a == b) := by
  by_cases e : a = b
  · subst e; simp
  · have h : ¬ (Sum.inl a : Key) = Sum.inl b := fun q => e (Sum.inl.inj q)
    rw [decide_eq_false h]
    exact (beq_eq_false_iff_ne.mpr e).symm
theorem key_rr (a b : Str) : decide ((Sum.inr a : Key) = Sum.inr b) = decide (a = b) := by
  by_cases e : a = b
  · subst e; simp
  · have h : ¬ (Sum.inr a : Key) = Sum.inr b := fun q => e (Sum.inr.inj q)
    rw [decide_eq_false h, decide_eq_false e]
theorem key_lr (a : Int) (b : Str) : decide ((Sum.inl a : Key) = Sum.inr b) = false := decide_eq_false (fun q => nomatch q)
theorem key_rl (a : Str) (b : Int) : decide ((Sum.inr a : Key) = Sum.inl b) = false := decide_eq_false (fun q => nomatch q)

def mixKind (prog : Program) (w : World) : PySem.KeyKind prog w Key where
  is := keyIs
  hash := keyH w
  inj := fun v a b ha hb => by
    rcases keyIs_shape ha with ⟨i, t, rfl, rfl⟩ | ⟨x, t, rfl, rfl⟩
    · rcases keyIs_shape hb with ⟨j, u, rfl, e⟩ | ⟨y, u, rfl, e⟩
      · injection e with e1 _; rw [e1]
      · exact nomatch e
    · rcases keyIs_shape hb with ⟨j, u, rfl, e⟩ | ⟨y, u, rfl, e⟩
      · exact nomatch e
      · injection e with e1 _; rw [e1]
  byValue := fun k v h => by
    rcases keyIs_shape h with ⟨i, t, rfl, rfl⟩ | ⟨x, t, rfl, rfl⟩ <;> rfl
  pyHash := fun hv h => by
    rcases keyIs_shape hv with ⟨i, t, rfl, rfl⟩ | ⟨x, t, rfl, rfl⟩
    · exact wpAny_pyHash_int h
    · exact wpAny_pyHash_str h
  eqBool := fun hu hv h => by
    rcases keyIs_shape hu with ⟨i, t, rfl, rfl⟩ | ⟨x, t, rfl, rfl⟩
    · rcases keyIs_shape hv with ⟨j, u, rfl, rfl⟩ | ⟨y, u, rfl, rfl⟩
      · rw [key_ll] at h; exact wpAny_eqBool_int h
      · rw [key_lr] at h; exact SeqAt.EqAt.int_str i t y u _ _ _ _ h
    · rcases keyIs_shape hv with ⟨j, u, rfl, rfl⟩ | ⟨y, u, rfl, rfl⟩
      · rw [key_rl] at h; exact SeqAt.EqAt.str_int x t j u _ _ _ _ h
      · rw [key_rr] at h; exact wpAny_eqBool_str h
  «strs» := fun k x t v h => by
    rcases keyIs_shape h with ⟨i, u, rfl, e⟩ | ⟨y, u, rfl, e⟩
    · exact nomatch e
    · injection e with e1 _
      subst e1
      cases v <;> rfl

theorem mixKind_int (prog : Program) (w : World) (i : Int) (t : Tok) : (mixKind prog w).is (.inl i) (.int i t) = true := keyIs_int i t
theorem mixKind_str (prog : Program) (w : World) (x : Str) (t : Tok) : (mixKind prog w).is (.inr x) (.str x t) = true := keyIs_str x t
end L2

namespace L2
open PySem PySem.Spec PyProof.Rows

/-- a value, without the heap -/
inductive V where
  | non | bl (b : Bool) | int (i : Int) | str (x : Str) | byt (b : Array UInt8) | flt (b : UInt64) | ref (a : Addr) | ty (n : String)
  deriving DecidableEq

def RelV : V → Value → Prop
  | .non, u => u = Value.none
  | .bl b, u => u = Value.bool b
  | .int i, u => ∃ t, u = Value.int i t
  | .str x, u => ∃ t, u = Value.str x t
  | .byt b, u => ∃ t, u = Value.bytes b t
  | .flt b, u => ∃ t, u = Value.float b t
  | .ref a, u => u = Value.ref a
  | .ty n, u => u = Value.type n

abbrev Vals : List V → List Value → Prop := Paired RelV
theorem Vals.length {xs : List V} {us : List Value} (r : Vals xs us) : xs.length = us.length := Paired.length r
theorem Vals.get : ∀ {xs : List V} {us : List Value} {i : Nat} {x : V}, Vals xs us → xs[i]? = some x → ∃ u, us[i]? = some u ∧ RelV x u
  | _, _, _, _, .nil, e => by simp at e
  | _, _, 0, _, .cons r _, e => by simp at e; subst e; exact ⟨_, rfl, r⟩
  | _, _, i + 1, x, .cons _ t, e => by
    obtain ⟨u, h1, h2⟩ := Vals.get (i := i) (x := x) t (by simpa using e)
    exact ⟨u, by simpa using h1, h2⟩
theorem Vals.set {x : V} {u : Value} (r : RelV x u) : ∀ {xs : List V} {us : List Value} (i : Nat), Vals xs us → Vals (xs.set i x) (us.set i u)
  | _, _, _, .nil => .nil
  | _, _, 0, .cons _ t => .cons r t
  | _, _, i + 1, .cons q t => .cons q (Vals.set r i t)
theorem Vals.append : ∀ {xs ys : List V} {us ws : List Value}, Vals xs us → Vals ys ws → Vals (xs ++ ys) (us ++ ws)
  | _, _, _, _, .nil, s => s
  | _, _, _, _, .cons r t, s => .cons r (Vals.append t s)
theorem Vals.take : ∀ {xs : List V} {us : List Value} (n : Nat), Vals xs us → Vals (xs.take n) (us.take n)
  | _, _, 0, _ => .nil
  | _, _, _ + 1, .nil => .nil
  | _, _, n + 1, .cons r t => .cons r (Vals.take n t)
theorem Vals.drop : ∀ {xs : List V} {us : List Value} (n : Nat), Vals xs us → Vals (xs.drop n) (us.drop n)
  | _, _, 0, r => r
  | _, _, _ + 1, .nil => .nil
  | _, _, n + 1, .cons _ t => Vals.drop n t
theorem Vals.none_of : ∀ {xs : List V} {us : List Value} {i : Nat}, Vals xs us → xs[i]? = none → us[i]? = none := fun {xs us i} r e => by
  have h1 := r.length
  have h2 : xs.length ≤ i := List.getElem?_eq_none_iff.mp e
  exact List.getElem?_eq_none_iff.mpr (by omega)

def RelO : Option V → Option Value → Prop
  | some v, some u => RelV v u
  | none, none => True
  | _, _ => False
def KV {κ : Type} : List (κ × V) → List (κ × Value) → Prop := Paired fun (p : κ × V) (q : κ × Value) => p.1 = q.1 ∧ RelV p.2 q.2

/-- a key of a dict (00_mix): an int or a text -/
def kV : Key → V
  | .inl i => .int i
  | .inr x => .str x

/-- what stands at a tracked address -/
inductive HO where
  /-- a list -/
  | lst (xs : List V)
  /-- a tuple (never changes) -/
  | tup (xs : List V)
  /-- a dict whose keys are ints and texts; one whose keys are tuples of ints and texts (the empty one is both) -/
  | dK (kvs : List (Key × V)) | dT (kvs : List (List Key × V))
  /-- a set of ints: its members, its size -/
  | set (S : Int → Bool) (n : Nat)
  /-- an instance of the class at C, its dict at dx, its attributes -/
  | ins (C dx : Addr) (fs : List (Str × V))
  /-- the dict of the instance at x -/
  | own (x : Addr)
  /-- the dict of an exception -/
  | xd (fs : List (Str × V))
  /-- a bound method, f of x -/
  | met (f x : Addr)
  /-- a range object lo, lo + 1, .. below hi -/
  | rng (lo hi : Int)
  /-- a thing that is known to the object (the script; a dict while a loop walks it): read, never written while it is so -/
  | frz (o : Obj) (u : HO)
  /-- a code object's table -/
  | tbl (ps : Array Value)
  /-- any other thing, by what is true of its one object (a def of one's own: SetO a S n := HO.ext fun h => ..) -/
  | ext (φ : Heap → Prop)

abbrev Hp := Addr → Option HO
def upd (H : Hp) (a : Addr) (o : HO) : Hp := fun b => if b = a then some o else H b
theorem upd_same {H : Hp} {a : Addr} {o : HO} : upd H a o a = some o := by unfold upd; rw [if_pos rfl]
theorem upd_ne {H : Hp} {a b : Addr} {o : HO} (h : b ≠ a) : upd H a o b = H b := by unfold upd; rw [if_neg h]
/-- two objects of different content stand apart -/
theorem ne_of {H : Hp} {a b : Addr} {o u : HO} (h : H a = some o) (h' : H b = some u) (d : o ≠ u) : a ≠ b := by
  intro e; subst e; rw [h] at h'; exact d (Option.some.inj h')
theorem ne_of_none {H : Hp} {a b : Addr} {o : HO} (h : H a = some o) (h' : H b = none) : a ≠ b := by
  intro e; subst e; rw [h] at h'; cases h'

section
variable (P : Program) (w : World)
def ObjOk (H : Hp) (h : Heap) (a : Addr) : HO → Prop
  | .lst xs => xs.length ≤ sizeLine ∧ ∃ (its : List Value) (n : Nat), Vals xs its ∧ h.get? a = some { cls := .type "list", data := .seq its.toArray n }
  | .tup xs => xs.length ≤ sizeLine ∧ ∃ its : List Value, Vals xs its ∧ IsTup h a its.toArray
  | .dK kvs => kvs.length ≤ sizeLine ∧ (a == sysModules) = false ∧ ∃ vs, KV kvs vs ∧ h.DictOf (mixKind P w) a vs
  | .dT kvs => kvs.length ≤ sizeLine ∧ (a == sysModules) = false ∧ ∃ xs : List (List Key × Addr × Value),
      Paired (fun (p : List Key × V) (q : List Key × Addr × Value) => p.1 = q.1 ∧ H q.2.1 = some (.tup (p.1.map kV)) ∧ RelV p.2 q.2.2) kvs xs ∧
      ∃ o es ep, h.get? a = some o ∧ o.ExactDict ∧ o.data = .dict es ep ∧ es.toList = xs.map (entryOfKey (tupleKind (mixKind P w))) ∧ (xs.map (·.1)).Nodup
  | .set S n => h.SetOf (intKind P w) a S n
  | .ins C dx fs => H dx = some (.own a) ∧ fs.length ≤ 1000 ∧ dx ≠ a ∧ h.get? a = some (PySem.W.instObj C dx) ∧
      ∃ mA, h.Ns1 dx mA ∧ (∀ f, RelO (fs.lookup f) (mA f)) ∧ PySem.Within mA (fs.map (·.1))
  | .own _ => ∃ o, h.get? a = some o
  | .xd fs => ∃ mA, h.Ns1 a mA ∧ ∀ f, RelO (fs.lookup f) (mA f)
  | .rng lo hi => ∃ t u v, h.get? a = some { cls := .type "range", data := .fields #[.int lo t, .int hi u, .int 1 v] }
  | .frz o u => h.get? a = some o ∧ ObjOk H h a u
  | .tbl ps => h.get? a = some { cls := .none, data := .fields ps }
  | .met f x => h.get? a = some (PySem.W.methodObj (.ref f) (.ref x))
  | .ext φ => φ h ∧ (∃ o, h.get? a = some o) ∧ ∀ h1 h2 : Heap, φ h1 → (∀ o, h1.get? a = some o → h2.get? a = some o) → φ h2
/-- the abstract heap is held -/
def HOk (H : Hp) (h : Heap) : Prop := ∀ a o, H a = some o → ObjOk P w H h a o
end

section
variable {P : Program} {w : World} {H H' : Hp} {h h' : Heap} {a : Addr} {o : HO}
theorem ObjOk.lt (x : ObjOk P w H h a o) : a < h.objs.size := by
  cases o with
  | lst xs => obtain ⟨_, _, _, _, e⟩ := x; exact Heap.lt_size e
  | tup xs => obtain ⟨_, _, _, p⟩ := x; exact p.lt
  | dK kvs => obtain ⟨_, _, _, _, o, _, _, e, _⟩ := x; exact Heap.lt_size e
  | dT kvs => obtain ⟨_, _, _, _, o, _, _, e, _⟩ := x; exact Heap.lt_size e
  | set S n => obtain ⟨o, _, _, _, e, _⟩ := x; exact Heap.lt_size e
  | ins C dx fs => obtain ⟨_, _, _, e, _⟩ := x; exact Heap.lt_size e
  | own y => obtain ⟨_, e⟩ := x; exact Heap.lt_size e
  | xd fs => obtain ⟨_, ⟨_, _, _, e, _⟩, _⟩ := x; exact Heap.lt_size e
  | rng lo hi => obtain ⟨_, _, _, e⟩ := x; exact Heap.lt_size e
  | frz ob u => obtain ⟨e, _⟩ := x; exact Heap.lt_size e
  | tbl ps => exact Heap.lt_size (show h.get? a = some _ from x)
  | met f y => exact Heap.lt_size (show h.get? a = some _ from x)
  | ext φ => obtain ⟨_, ⟨_, e⟩, _⟩ := x; exact Heap.lt_size e
theorem Paired.mapP {α β : Type} {F G : α → β → Prop} : ∀ {l₁ : List α} {l₂ : List β}, Paired F l₁ l₂ → (∀ a b, F a b → G a b) → Paired G l₁ l₂
  | _, _, .nil, _ => .nil
  | _, _, .cons r t, f => .cons (f _ _ r) (Paired.mapP t f)
theorem Paired.imp' {α β : Type} {F G : α → β → Prop} (f : ∀ a b, F a b → G a b) {l₁ : List α} {l₂ : List β} (r : Paired F l₁ l₂) : Paired G l₁ l₂ := Paired.mapP r f
/-- what an object's description leans on: its own object, its own dict, the tuples -/
theorem ObjOk.stay (x : ObjOk P w H h a o) (k : ∀ b u, (b = a ∨ H b = some (.own a)) → h.get? b = some u → h'.get? b = some u)
    (ho : ∀ b, H b = some (.own a) → H' b = some (.own a)) (ht : ∀ b xs, H b = some (.tup xs) → H' b = some (.tup xs)) : ObjOk P w H' h' a o := by
  induction o with
  | lst xs => obtain ⟨z, its, n, r, e⟩ := x; exact ⟨z, its, n, r, k _ _ (.inl rfl) e⟩
  | tup xs => obtain ⟨z, its, r, ob, e, c⟩ := x; exact ⟨z, its, r, ob, k _ _ (.inl rfl) e, c⟩
  | dK kvs => obtain ⟨z, y, vs, r, ob, es, ep, e, c⟩ := x; exact ⟨z, y, vs, r, ob, es, ep, k _ _ (.inl rfl) e, c⟩
  | dT kvs =>
    obtain ⟨z, y, xs, r, ob, es, ep, e, c⟩ := x
    exact ⟨z, y, xs, Paired.mapP r fun p q z => ⟨z.1, ht _ _ z.2.1, z.2.2⟩, ob, es, ep, k _ _ (.inl rfl) e, c⟩
  | set S n => obtain ⟨ob, es, ep, t, e, c⟩ := x; exact ⟨ob, es, ep, t, k _ _ (.inl rfl) e, c⟩
  | ins C dx fs =>
    obtain ⟨d, z, ne, e, mA, ⟨od, es, ep, e2, c⟩, r⟩ := x
    exact ⟨ho _ d, z, ne, k _ _ (.inl rfl) e, mA, ⟨od, es, ep, k _ _ (.inr d) e2, c⟩, r⟩
  | own y => obtain ⟨ob, e⟩ := x; exact ⟨ob, k _ _ (.inl rfl) e⟩
  | xd fs => obtain ⟨mA, ⟨od, es, ep, e, c⟩, r⟩ := x; exact ⟨mA, ⟨od, es, ep, k _ _ (.inl rfl) e, c⟩, r⟩
  | rng lo hi => obtain ⟨t, u, v, e⟩ := x; exact ⟨t, u, v, k _ _ (.inl rfl) e⟩
  | frz ob u ih => obtain ⟨e, q⟩ := x; exact ⟨k _ _ (.inl rfl) e, ih q⟩
  | tbl ps =>
    have e : h.get? a = some { cls := .none, data := .fields ps } := x
    show h'.get? a = some { cls := .none, data := .fields ps }
    exact k a _ (.inl rfl) e
  | met f y =>
    have e : h.get? a = some (PySem.W.methodObj (.ref f) (.ref y)) := x
    show h'.get? a = some (PySem.W.methodObj (.ref f) (.ref y))
    exact k a _ (.inl rfl) e
  | ext φ => obtain ⟨p, ⟨o, e⟩, st⟩ := x; exact ⟨st _ _ p fun o q => k _ _ (.inl rfl) q, ⟨o, k _ _ (.inl rfl) e⟩, st⟩
theorem HOk.lt (x : HOk P w H h) (e : H a = some o) : a < h.objs.size := (x a o e).lt
theorem HOk.fresh (x : HOk P w H h) (e : h.objs.size ≤ a) : H a = none := by
  cases q : H a with
  | none => rfl
  | some u => exact absurd (Nat.lt_of_lt_of_le (x.lt q) e) (Nat.lt_irrefl _)
/-- every object of the heap is kept -/
theorem HOk.kept (x : HOk P w H h) (k : ∀ b u, h.get? b = some u → h'.get? b = some u) : HOk P w H h' := fun a o e =>
  (x a o e).stay (fun b u _ q => k b u q) (fun _ q => q) fun _ _ q => q
/-- a new object is laid and tracked -/
theorem HOk.laid (x : HOk P w H h) (k : ∀ b u, h.get? b = some u → h'.get? b = some u) (hp : h.objs.size ≤ a) (new : ObjOk P w (upd H a o) h' a o) : HOk P w (upd H a o) h' := fun b u e => by
  have hn := x.fresh hp
  by_cases hb : b = a
  · subst hb; rw [upd_same] at e; cases e; exact new
  · rw [upd_ne hb] at e
    exact (x b u e).stay (fun c v _ q => k c v q) (fun c q => by rw [upd_ne (ne_of_none q hn)]; exact q) fun c xs q => by rw [upd_ne (ne_of_none q hn)]; exact q
end

/-- what may be read as u: it is u, or a known u -/
def Rd (H : Hp) (a : Addr) (u : HO) : Prop := H a = some u ∨ ∃ o, H a = some (.frz o u)
theorem Rd.of {H : Hp} {a : Addr} {u : HO} (h : H a = some u) : Rd H a u := .inl h
theorem Rd.ok {P : Program} {w : World} {H : Hp} {h : Heap} {a : Addr} {u : HO} (r : Rd H a u) (x : HOk P w H h) : ObjOk P w H h a u := by
  rcases r with r | ⟨o, r⟩
  · exact x a u r
  · obtain ⟨_, q⟩ := x a _ r
    exact q
/-- what may be written -/
def Mut : Option HO → Prop
  | some (.lst _) => True
  | some (.dK _) => True
  | some (.dT _) => True
  | some (.set _ _) => True
  | some (.ins _ _ _) => True
  | some (.ext _) => True
  | _ => False
section
variable {P : Program} {w : World} {H : Hp} {h h' : Heap} {x e : Addr} {o' : HO}
/-- the object at e is changed: x itself, or the dict of the instance x -/
theorem HOk.write (ok : HOk P w H h) (mu : Mut (H x)) (he : e = x ∨ H e = some (.own x)) (k : ∀ b u, b ≠ e → h.get? b = some u → h'.get? b = some u) (heo : ∃ u, h'.get? e = some u)
    (new : ObjOk P w (upd H x o') h' x o') : HOk P w (upd H x o') h' := fun b u q => by
  have nown : ∀ c y, H c = some (.own y) → c ≠ x := fun c y r z => by subst z; rw [r] at mu; exact mu
  have ntup : ∀ c xs, H c = some (.tup xs) → c ≠ x := fun c xs r z => by subst z; rw [r] at mu; exact mu
  by_cases hb : b = x
  · subst hb; rw [upd_same] at q; cases q; exact new
  · rw [upd_ne hb] at q
    by_cases hbe : b = e
    · have q' : H b = some (.own x) := by
        rcases he with z | z
        · exact absurd (hbe.trans z) hb
        · rw [hbe]; exact z
      rw [q] at q'; cases q'
      obtain ⟨v, hv⟩ := heo
      exact ⟨v, by rw [hbe]; exact hv⟩
    · refine (ok b u q).stay (fun c v hc r => k c v ?_ r) (fun c r => by rw [upd_ne (nown c b r)]; exact r) fun c xs r => by rw [upd_ne (ntup c xs r)]; exact r
      rcases hc with rfl | hc
      · exact hbe
      · rintro rfl
        rcases he with z | z
        · exact nown c b hc z
        · rw [hc] at z; cases z; exact hb rfl
end

/-! ### kept unless tracked; of the frames at fs (the callers') the slots may change (an exception that passes writes there); of the records at ex (iterators) nothing is said -/
structure Un (fs ex : List Addr) (H H' : Hp) (h h' : Heap) : Prop where
  keep : ∀ b o, h.get? b = some o → H b = none → b ∉ fs → b ∉ ex → h'.get? b = some o
  slot : ∀ b o, h.get? b = some o → H b = none → b ∈ fs → b ∉ ex → ∃ sl, h'.get? b = some { o with slots := sl }
  free : ∀ b o, h.get? b = some o → H b = none → b ∉ ex → H' b = none
  there : ∀ b o, h.get? b = some o → b ∉ ex → ∃ o', h'.get? b = some o'
  tups : ∀ b xs, H b = some (.tup xs) → H' b = some (.tup xs)
  frzs : ∀ b o u, H b = some (.frz o u) → H' b = some (.frz o u)
  tbls : ∀ b ps, H b = some (.tbl ps) → ∃ more, H' b = some (.tbl (ps ++ more))
section
variable {fs fs' ex ex' : List Addr} {H H1 H2 : Hp} {h h1 h2 h' : Heap} {a x e : Addr} {o : HO}
theorem Un.any (u : Un fs ex H H1 h h1) {b : Addr} {ob : Obj} (q : h.get? b = some ob) (n : H b = none) (hx : b ∉ ex) : ∃ sl, h1.get? b = some { ob with slots := sl } := by
  by_cases hb : b ∈ fs
  · exact u.slot b ob q n hb hx
  · exact ⟨ob.slots, u.keep b ob q n hb hx⟩
theorem Un.trans (a : Un fs ex H H1 h h1) (b : Un fs ex H1 H2 h1 h2) : Un fs ex H H2 h h2 where
  keep := fun c ob q n hc hx => b.keep c ob (a.keep c ob q n hc hx) (a.free c ob q n hx) hc hx
  slot := fun c ob q n hc hx => by
    obtain ⟨sl, e1⟩ := a.slot c ob q n hc hx
    obtain ⟨sl', e2⟩ := b.slot c _ e1 (a.free c ob q n hx) hc hx
    exact ⟨sl', e2⟩
  free := fun c ob q n hx => by
    obtain ⟨o', e1⟩ := a.there c ob q hx
    exact b.free c o' e1 (a.free c ob q n hx) hx
  there := fun c ob q hx => by
    obtain ⟨o', e1⟩ := a.there c ob q hx
    exact b.there c o' e1 hx
  tups := fun c xs q => b.tups c xs (a.tups c xs q)
  frzs := fun c ob xs q => b.frzs c ob xs (a.frzs c ob xs q)
  tbls := fun c ps q => by
    obtain ⟨m1, e1⟩ := a.tbls c ps q
    obtain ⟨m2, e2⟩ := b.tbls c _ e1
    exact ⟨m1 ++ m2, by rw [e2, Array.append_assoc]⟩
theorem Un.kept (k : ∀ b u, h.get? b = some u → h'.get? b = some u) : Un fs ex H H h h' :=
  ⟨fun b ob q _ _ _ => k b ob q, fun b ob q _ _ _ => ⟨ob.slots, k b ob q⟩, fun _ _ _ n _ => n, fun b ob q _ => ⟨ob, k b ob q⟩, fun _ _ q => q, fun _ _ _ q => q, fun _ ps q => ⟨#[], by rw [q]; simp⟩⟩
theorem Un.refl : Un fs ex H H h h := Un.kept fun _ _ q => q
theorem Un.laid (k : ∀ b u, h.get? b = some u → h'.get? b = some u) (hp : h.objs.size ≤ a) (hn : H a = none) : Un fs ex H (upd H a o) h h' where
  keep := fun b u q _ _ _ => k b u q
  slot := fun b u q _ _ _ => ⟨u.slots, k b u q⟩
  free := fun b u q n _ => by rw [upd_ne (Nat.ne_of_lt (Nat.lt_of_lt_of_le (Heap.lt_size q) hp))]; exact n
  there := fun b u q _ => ⟨u, k b u q⟩
  tups := fun b xs q => by rw [upd_ne (ne_of_none q hn)]; exact q
  frzs := fun b u xs q => by rw [upd_ne (ne_of_none q hn)]; exact q
  tbls := fun b ps q => ⟨#[], by rw [upd_ne (ne_of_none q hn), q]; simp⟩
theorem Un.write (mu : Mut (H x)) (he : e = x ∨ H e = some (.own x)) (k : ∀ b u, b ≠ e → h.get? b = some u → h'.get? b = some u) (heo : ∃ u, h'.get? e = some u) : Un fs ex H (upd H x o) h h' := by
  have hx : ∀ b, H b = none → b ≠ x := fun b n z => by subst z; rw [n] at mu; exact mu
  have hb : ∀ b, H b = none → b ≠ e := fun b n z => by
    subst z
    rcases he with r | r
    · exact hx b n r
    · rw [n] at r; cases r
  have hm : ∀ b u, H b = some u → ¬ Mut (some u) → b ≠ x := fun b u q nm z => by subst z; rw [q] at mu; exact nm mu
  refine ⟨fun b u q n _ _ => k b u (hb b n) q, fun b u q n _ _ => ⟨u.slots, k b u (hb b n) q⟩, fun b u q n _ => by rw [upd_ne (hx b n)]; exact n, fun b u q _ => ?_,
    fun b xs q => by rw [upd_ne (hm b _ q fun z => z)]; exact q, fun b u xs q => by rw [upd_ne (hm b _ q fun z => z)]; exact q, fun b ps q => ⟨#[], by rw [upd_ne (hm b _ q fun z => z), q]; simp⟩⟩
  by_cases hbe : b = e
  · subst hbe; exact heo
  · exact ⟨u, k b u hbe q⟩
theorem Un.mono (u : Un fs ex H H1 h h1) (hs : ∀ b ∈ fs, b ∈ fs') (hx : ∀ b ∈ ex, b ∈ ex') : Un fs' ex' H H1 h h1 :=
  ⟨fun b ob q n hb he => u.keep b ob q n (fun z => hb (hs b z)) fun z => he (hx b z), fun _ _ q n _ he => u.any q n fun z => he (hx _ z), fun b ob q n he => u.free b ob q n fun z => he (hx b z), fun b ob q he => u.there b ob q fun z => he (hx b z), u.tups, u.frzs, u.tbls⟩
end

/-! ### the heap without what is tracked -/
def trk (h : Heap) (H : Hp) : List Addr := (List.range h.objs.size).filter fun a => (H a).isSome
def hidT (h : Heap) (H : Hp) : Heap := PySem.W.hideAll h (trk h H)
theorem hidT_size (h : Heap) (H : Hp) : (hidT h H).objs.size = h.objs.size := PySem.W.hideAll_size _ _
theorem hidT_get {h : Heap} {H : Hp} {b : Addr} {o : Obj} (e : h.get? b = some o) (n : H b = none) : (hidT h H).get? b = some o :=
  PySem.W.hideAll_get _ e fun hm => by
    have q : (H b).isSome = true := (List.mem_filter.mp hm).2
    rw [n] at q; simp at q
theorem of_hidT {h : Heap} {H : Hp} {b : Addr} {o : Obj} (e : (hidT h H).get? b = some o) : h.get? b = some o ∧ H b = none := by
  have e' : h.get? b = some o := PySem.W.of_hideAll (trk h H) e
  refine ⟨e', ?_⟩
  cases q : H b with
  | none => rfl
  | some x =>
    have hm : b ∈ trk h H := List.mem_filter.mpr ⟨List.mem_range.mpr (Heap.lt_size e'), by simp [q]⟩
    have z : (hidT h H).get? b = none := PySem.W.hideAll_none (trk h H) hm
    rw [z] at e; cases e

/-! ### OpenK's ledger, filled with every new object but one -/
def allNews (g h : Heap) (L : Addr) : List (Addr × Obj) := (List.range h.objs.size).filterMap fun a => if a = L ∨ (g.get? a).isSome = true then none else (h.get? a).map fun o => (a, o)
def rest (g h : Heap) (L d : Addr) : List (Addr × Obj) := (allNews g h L).filter fun p => decide (p.1 ≠ d)
end L2

namespace L2
open PySem PySem.Spec PyProof.Rows

/-- the module's facts, over the base: the heap at the law's entry without what is tracked there -/
structure Mod (K : PySem.W.Frag) (mg : Str → Option Value) (base : Heap) : Prop where
  kin : K.In base
  glob : base.Ns mainGlobals mg
  blt : ∃ mb, base.Ns builtinsNs mb ∧ ∀ x : Str, x ≠ "__name__" → mb x = bootBuiltins x
  nolimit : base.NoLimit

/-- the context: a def's body (or a comprehension's block) running. base: fixed through the whole law; s₀, H₀: the entry; outer: the frames whose slots others may change (a def's callers); stack: all frames that run;
   ex: iterators that were made ahead of the entry and are walked here (a comprehension's); fn: the names whose cells were made at the entry (a def: all; a comprehension's block: its own); calm: not within an except suite; pn: pins that every state bears; xe: what is wanted of an exception that leaves the code -/
structure Cx where
  prog : Program
  w : World
  K : PySem.W.Frag
  mg : Str → Option Value
  base : Heap
  A : Around
  N : List Str
  s₀ : Shared
  H₀ : Hp
  env : Env
  outer : List Env
  stack : List Env
  ex : List Addr
  fn : Str → Bool
  calm : Bool
  pn : List (Addr × Obj)
  xe : Value → Shared → Prop
/-- the callers' frames -/
def frs (l : List Env) : List Addr := l.filterMap (·.frame)
abbrev Cx.fs (X : Cx) : List Addr := frs X.outer

def Vis (sc : Scope) (x : Str) : Prop := sc.names.lookup x = some .local ∨ sc.names.lookup x = some .cell ∨ sc.names.lookup x = some .free
def Loc (sc : Scope) (x : Str) : Prop := sc.names.lookup x = some .local ∨ sc.names.lookup x = some .cell
def Look (env : Env) (h : Heap) (m : Str → Option Value) (x : Str) (u : Value) : Prop :=
  (env.kindOf x = some .local ∧ m x = some u) ∨ ((env.kindOf x = some .cell ∨ env.kindOf x = some .free) ∧ ∃ c, env.cells.lookup x = some c ∧ h.IsCell c (some u))

structure Cx.Ok (X : Cx) : Prop where
  mod : Mod X.K X.mg X.base
  kind : X.env.scope.kind = .function
  glob : X.env.globals = mainGlobals
  blt : X.env.builtins = builtinsNs
  above : X.s₀.heap.objs.size ≤ X.env.locals
  inj : ∀ x y c, X.env.cells.lookup x = some c → X.env.cells.lookup y = some c → x = y
  has : ∀ x, (X.env.kindOf x = some .cell ∨ X.env.kindOf x = some .free) → ∃ c, X.env.cells.lookup x = some c
  cab : ∀ x c, X.fn x = true → X.env.cells.lookup x = some c → X.s₀.heap.objs.size ≤ c
  hd : X.calm = true → X.A.handled = none
  frames : X.A.frames = some X.stack
  stk : X.stack = X.outer ∨ (X.stack = X.env :: X.outer ∧ X.env.frame = some X.env.locals)
  exf : ∀ b ∈ X.ex, b ≠ X.env.locals ∧ ∀ x c, X.env.cells.lookup x = some c → c ≠ b
  bs : ∀ b o, X.base.get? b = some o → X.s₀.heap.get? b = some o ∧ X.H₀ b = none
  bsz : X.base.objs.size ≤ X.s₀.heap.objs.size
  noex : ∀ b o, X.base.get? b = some o → b ∉ X.ex
  exfs : ∀ b ∈ X.ex, b ∉ X.fs
  funs : X.s₀.heap.FunFrames X.base X.outer
  frf : ∀ b ∈ X.fs, X.H₀ b = none

structure Inv (X : Cx) (pins : List (Addr × Obj)) (σ : List (Option V)) (H : Hp) (s : Shared) : Prop where
  ok : X.Ok
  os : s.os = X.s₀.os
  bare : AllBare s.gens
  base : Un X.fs X.ex X.H₀ H X.s₀.heap s.heap
  loc : ∃ m, s.heap.Ns X.env.locals m ∧ ∀ (i : Nat) (x : Str) (v : V), X.N[i]? = some x → σ[i]? = some (some v) → Vis X.env.scope x → ∃ u, RelV v u ∧ Look X.env s.heap m x u
  cell : ∀ x c, X.env.cells.lookup x = some c → ∃ v, s.heap.IsCell c v
  free : H X.env.locals = none
  freeC : ∀ x c, X.env.cells.lookup x = some c → H c = none
  pin : ∀ p ∈ X.pn ++ pins, s.heap.get? p.1 = some p.2 ∧ H p.1 = none ∧ p.1 ≠ X.env.locals ∧ p.1 ∉ X.fs ∧ ∀ v, p.2.data ≠ .cell v
  hok : HOk X.prog X.w H s.heap
  len : σ.length = X.N.length

section
variable {X : Cx} {pins : List (Addr × Obj)} {σ : List (Option V)} {H H' : Hp} {s : Shared} {h' : Heap}

theorem Cx.Ok.nofr (ok : X.Ok) {b : Addr} {o : Obj} (e : X.base.get? b = some o) : b ∉ X.fs := fun hb => by
  have := (ok.funs.mem hb).1
  rw [e] at this; cases this
theorem Inv.bs (I : Inv X pins σ H s) : ∀ b o, X.base.get? b = some o → s.heap.get? b = some o ∧ H b = none := fun b o e =>
  ⟨I.base.keep b o (I.ok.bs b o e).1 (I.ok.bs b o e).2 (I.ok.nofr e) (I.ok.noex b o e), I.base.free b o (I.ok.bs b o e).1 (I.ok.bs b o e).2 (I.ok.noex b o e)⟩
theorem Inv.bk (I : Inv X pins σ H s) : ∀ b o, X.base.get? b = some o → s.heap.get? b = some o := fun b o e => (I.bs b o e).1
theorem Inv.mod (I : Inv X pins σ H s) : Mod X.K X.mg X.base := I.ok.mod
theorem Inv.kIn (I : Inv X pins σ H s) : X.K.In s.heap := I.ok.mod.kin.keeps I.bk
theorem Inv.nolimit (I : Inv X pins σ H s) : s.heap.NoLimit := I.ok.mod.nolimit.keeps I.bk
/-- the frame over the base: for OpenK's rules (K.In X.base is I.mod.kin) -/
theorem Inv.fr (I : Inv X pins σ H s) : ∃ m, Fr X.base X.env.locals s.heap m :=
  let ⟨m, hn, _⟩ := I.loc
  ⟨m, hn, I.bk, Nat.le_trans I.ok.bsz I.ok.above⟩
theorem Inv.lt (I : Inv X pins σ H s) : X.env.locals < s.heap.objs.size := let ⟨_, hn, _⟩ := I.loc; hn.lt
theorem Inv.sz (I : Inv X pins σ H s) : X.s₀.heap.objs.size ≤ s.heap.objs.size := Nat.le_trans I.ok.above (Nat.le_of_lt I.lt)
theorem Inv.nofs (I : Inv X pins σ H s) {a : Addr} (h : s.heap.objs.size ≤ a) : a ∉ X.fs := fun hb => by
  obtain ⟨_, o, ho, _⟩ := I.ok.funs.mem hb
  exact absurd (Nat.lt_of_lt_of_le (Heap.lt_size ho) (Nat.le_trans I.sz h)) (Nat.lt_irrefl _)
theorem Inv.cne (I : Inv X pins σ H s) : ∀ x c, X.env.cells.lookup x = some c → c ≠ X.env.locals := fun x c e z => by
  obtain ⟨v, o, ho, hd⟩ := I.cell x c e
  obtain ⟨m, ⟨o', es, ep, ho', hd', _⟩, _⟩ := I.loc
  rw [z, ho'] at ho; cases ho; rw [hd'] at hd; cases hd
theorem Inv.funs (I : Inv X pins σ H s) : s.heap.FunFrames X.base X.outer := by
  have all : ∀ (l : List Env), (∀ b ∈ frs l, b ∈ X.fs) → X.s₀.heap.FunFrames X.base l → s.heap.FunFrames X.base l := by
    intro l
    induction l with
    | nil => intro _ _; trivial
    | cons env r ih =>
      intro hs hl
      obtain ⟨hk, ⟨L, o, hf, hn, ho, hd⟩, hr⟩ := hl
      have hL : L ∈ X.fs := hs L (by unfold frs; rw [List.filterMap_cons, hf]; exact List.mem_cons_self)
      obtain ⟨sl, e⟩ := I.base.slot L o ho (I.ok.frf L hL) hL fun z => I.ok.exfs L z hL
      exact ⟨hk, ⟨L, _, hf, hn, e, hd⟩, ih (fun b hb => hs b (by unfold frs; rw [List.filterMap_cons, hf]; exact List.mem_cons_of_mem _ hb)) hr⟩
  exact all X.outer (fun _ hb => hb) I.ok.funs

/-- the frames that run, for a call -/
theorem Inv.stack (I : Inv X pins σ H s) : s.heap.FunFrames X.base X.stack := by
  rcases I.ok.stk with e | ⟨e, hf⟩
  · rw [e]; exact I.funs
  · rw [e]
    obtain ⟨m, hn, _⟩ := I.loc
    refine .cons (by rw [I.ok.kind]; decide) hf hn ?_ I.funs
    exact Heap.get?_none_of_le (Nat.le_trans I.ok.bsz I.ok.above)
theorem Inv.stkSub (I : Inv X pins σ H s) : ∀ b ∈ frs X.stack, b ∈ X.env.locals :: X.fs := fun b hb => by
  rcases I.ok.stk with e | ⟨e, hf⟩
  · rw [e] at hb; exact List.mem_cons_of_mem _ hb
  · rw [e] at hb
    unfold frs at hb
    rw [List.filterMap_cons, hf] at hb
    exact hb
theorem Inv.stkFree (I : Inv X pins σ H s) : ∀ b ∈ frs X.stack, H b = none := fun b hb => by
  rcases List.mem_cons.mp (I.stkSub b hb) with e | hb
  · rw [e]; exact I.free
  · obtain ⟨_, o, ho, _⟩ := I.ok.funs.mem hb
    exact I.base.free b o ho (I.ok.frf b hb) fun z => I.ok.exfs b z hb

/-- THE STEP: the untracked objects but the frame and the records at ch are kept (the callers' frames up to slots), the frame's map is kept, the new abstract heap is held -/
theorem Inv.step {g' : Array GenState} {t' : Nat} {d' : Drawn} {ch : List Addr} (I : Inv X pins σ H s)
    (hch : ∀ b ∈ ch, (b ∈ X.ex ∨ X.s₀.heap.objs.size ≤ b) ∧ b ≠ X.env.locals ∧ (∀ x c, X.env.cells.lookup x = some c → c ≠ b) ∧ ∀ p ∈ X.pn ++ pins, p.1 ≠ b)
    (keep : ∀ b o, b ≠ X.env.locals → b ∉ X.fs → b ∉ ch → s.heap.get? b = some o → H b = none → h'.get? b = some o)
    (slot : ∀ b o, b ≠ X.env.locals → b ∈ X.fs → b ∉ ch → s.heap.get? b = some o → H b = none → ∃ sl, h'.get? b = some { o with slots := sl }) (free : ∀ b o, b ∉ ch → s.heap.get? b = some o → H b = none → H' b = none)
    (there : ∀ b o, b ∉ ch → s.heap.get? b = some o → ∃ o', h'.get? b = some o')
    (tups : ∀ b xs, H b = some (.tup xs) → H' b = some (.tup xs)) (frzs : ∀ b o u, H b = some (.frz o u) → H' b = some (.frz o u)) (tbls : ∀ b ps, H b = some (.tbl ps) → ∃ more, H' b = some (.tbl (ps ++ more)))
    (ns : ∀ m, s.heap.Ns X.env.locals m → h'.Ns X.env.locals m) (hok : HOk X.prog X.w H' h') (hg : AllBare g') :
    Inv X pins σ H' { s with heap := h', gens := g', drawn := d', toks := t' } := by
  have neL : ∀ b o, X.s₀.heap.get? b = some o → b ≠ X.env.locals := fun b o e => Nat.ne_of_lt (Nat.lt_of_lt_of_le (Heap.lt_size e) I.ok.above)
  have neC : ∀ b o, X.s₀.heap.get? b = some o → b ∉ X.ex → b ∉ ch := fun b o e hx hb => by
    rcases (hch b hb).1 with z | z
    · exact hx z
    · exact absurd (Nat.lt_of_lt_of_le (Heap.lt_size e) z) (Nat.lt_irrefl _)
  have cellK : ∀ x c, X.env.cells.lookup x = some c → ∀ v, s.heap.IsCell c v → h'.IsCell c v := fun x c e v ⟨o, ho, hd⟩ => by
    have nch : c ∉ ch := fun z => (hch c z).2.2.1 x c e rfl
    by_cases hc : c ∈ X.fs
    · obtain ⟨sl, q⟩ := slot c o (I.cne x c e) hc nch ho (I.freeC x c e)
      exact ⟨_, q, hd⟩
    · exact ⟨o, keep c o (I.cne x c e) hc nch ho (I.freeC x c e), hd⟩
  refine ⟨I.ok, I.os, hg, ⟨fun b o e n hb hx => ?_, fun b o e n hb hx => ?_, fun b o e n hx => ?_, fun b o e hx => ?_, fun b xs e => tups b xs (I.base.tups b xs e), fun b o xs e => frzs b o xs (I.base.frzs b o xs e), fun b ps e => ?_⟩, ?_, fun x c e => ?_, ?_, fun x c e => ?_, fun p hp => ?_, hok, I.len⟩
  · exact keep b o (neL b o e) hb (neC b o e hx) (I.base.keep b o e n hb hx) (I.base.free b o e n hx)
  · obtain ⟨sl, e1⟩ := I.base.slot b o e n hb hx
    obtain ⟨sl', e2⟩ := slot b _ (neL b o e) hb (neC b o e hx) e1 (I.base.free b o e n hx)
    exact ⟨sl', e2⟩
  · obtain ⟨o', e1⟩ := I.base.there b o e hx
    exact free b o' (neC b o e hx) e1 (I.base.free b o e n hx)
  · obtain ⟨o', e1⟩ := I.base.there b o e hx
    exact there b o' (neC b o e hx) e1
  · obtain ⟨m1, e1⟩ := I.base.tbls b ps e
    obtain ⟨m2, e2⟩ := tbls b _ e1
    exact ⟨m1 ++ m2, by rw [e2, Array.append_assoc]⟩
  · obtain ⟨m, hn, hl⟩ := I.loc
    refine ⟨m, ns m hn, fun i x v e1 e2 e3 => ?_⟩
    obtain ⟨u, r, l⟩ := hl i x v e1 e2 e3
    refine ⟨u, r, ?_⟩
    rcases l with l | ⟨k, c, e, z⟩
    · exact .inl l
    · exact .inr ⟨k, c, e, cellK x c e _ z⟩
  · obtain ⟨v, z⟩ := I.cell x c e
    exact ⟨v, cellK x c e v z⟩
  · obtain ⟨m, ⟨o, _, _, ho, _⟩, _⟩ := I.loc
    exact free _ o (fun z => (hch _ z).2.1 rfl) ho I.free
  · obtain ⟨v, o, ho, hd⟩ := I.cell x c e
    exact free c o (fun z => (hch c z).2.2.1 x c e rfl) ho (I.freeC x c e)
  · obtain ⟨e, n, ne, nf, d⟩ := I.pin p hp
    have nch : p.1 ∉ ch := fun z => (hch p.1 z).2.2.2 p hp rfl
    exact ⟨keep p.1 p.2 ne nf nch e n, free p.1 p.2 nch e n, ne, nf, d⟩
/-- .. where the frame's own object is kept too -/
theorem Inv.un {t' : Nat} (I : Inv X pins σ H s) (u : Un X.fs [] H H' s.heap h') (hok : HOk X.prog X.w H' h') : Inv X pins σ H' { s with heap := h', toks := t' } := by
  obtain ⟨m, ⟨o, es, ep, ho, r⟩, _⟩ := id I.loc
  obtain ⟨sl, hL⟩ := u.any ho I.free (by simp)
  exact I.step (g' := s.gens) (d' := s.drawn) (ch := []) (fun _ z => nomatch z) (fun b o _ hb _ e n => u.keep b o e n hb (by simp)) (fun b o _ hb _ e n => u.slot b o e n hb (by simp)) (fun b o _ e n => u.free b o e n (by simp)) (fun b o _ e => u.there b o e (by simp)) u.tups u.frzs u.tbls (fun m' hm => by
    obtain ⟨o', es', ep', ho', r'⟩ := hm
    rw [ho] at ho'; cases ho'
    exact ⟨_, es', ep', hL, r'⟩) hok I.bare
/-- behind a call (or a comprehension's block): the slots of this frame may have changed too, the records at ch may have turned -/
theorem Inv.call {g' : Array GenState} {t' : Nat} {d' : Drawn} {ch : List Addr} (I : Inv X pins σ H s) (u : Un (frs X.stack) ch H H' s.heap h') (hok : HOk X.prog X.w H' h') (hg : AllBare g')
    (hch : ∀ b ∈ ch, (b ∈ X.ex ∨ X.s₀.heap.objs.size ≤ b) ∧ b ≠ X.env.locals ∧ (∀ x c, X.env.cells.lookup x = some c → c ≠ b) ∧ ∀ p ∈ X.pn ++ pins, p.1 ≠ b) :
    Inv X pins σ H' { s with heap := h', gens := g', drawn := d', toks := t' } := by
  obtain ⟨m, ⟨o, es, ep, ho, r⟩, _⟩ := id I.loc
  obtain ⟨sl, hL⟩ := u.any ho I.free fun z => (hch _ z).2.1 rfl
  exact I.step (ch := ch) hch (fun b o hL hb hc e n => u.keep b o e n (fun z => (List.mem_cons.mp (I.stkSub b z)).elim hL hb) hc) (fun b o _ _ hc e n => u.any e n hc) (fun b o hc e n => u.free b o e n hc) (fun b o hc e => u.there b o e hc) u.tups u.frzs u.tbls (fun m' hm => by
    obtain ⟨o', es', ep', ho', r'⟩ := hm
    rw [ho] at ho'; cases ho'
    exact ⟨_, es', ep', hL, r'⟩) hok hg
/-- an untracked record of ours (an iterator) has turned -/
theorem Inv.turned {t' : Nat} {it : Addr} (I : Inv X pins σ H s) (k : ∀ b o, b ≠ it → s.heap.get? b = some o → h'.get? b = some o) (hn : H it = none) (hL : it ≠ X.env.locals)
    (h1 : it ∈ X.ex ∨ X.s₀.heap.objs.size ≤ it) (h2 : ∀ x c, X.env.cells.lookup x = some c → c ≠ it) (h3 : ∀ p ∈ X.pn ++ pins, p.1 ≠ it) : Inv X pins σ H { s with heap := h', toks := t' } := by
  have nit : ∀ b u, H b = some u → b ≠ it := fun b u e z => by rw [z, hn] at e; cases e
  refine I.step (g' := s.gens) (d' := s.drawn) (ch := [it]) (fun b hb => ?_) (fun b o _ _ hc e _ => k b o (fun z => hc (by simp [z])) e) (fun b o _ _ hc e _ => ⟨o.slots, k b o (fun z => hc (by simp [z])) e⟩) (fun _ _ _ _ n => n)
    (fun b o hc e => ⟨o, k b o (fun z => hc (by simp [z])) e⟩) (fun _ _ e => e) (fun _ _ _ e => e) (fun b ps e => ⟨#[], by rw [e]; simp⟩) (fun m hm => ?_) (fun b u e => ?_) I.bare
  · have e : b = it := by simpa using hb
    subst e
    exact ⟨h1, hL, h2, h3⟩
  · obtain ⟨o, es, ep, ho, r⟩ := hm
    exact ⟨o, es, ep, k _ o (Ne.symm hL) ho, r⟩
  · refine (I.hok b u e).stay (fun c v hc q => k c v ?_ q) (fun _ q => q) fun _ _ q => q
    rcases hc with z | z
    · rw [z]; exact nit b u e
    · exact nit c _ z
theorem Inv.tok (I : Inv X pins σ H s) (t : Nat) : Inv X pins σ H { s with toks := t } := I.un (h' := s.heap) (t' := t) Un.refl I.hok
/-- all objects kept -/
theorem Inv.kept {t' : Nat} (I : Inv X pins σ H s) (k : ∀ b u, s.heap.get? b = some u → h'.get? b = some u) : Inv X pins σ H { s with heap := h', toks := t' } := I.un (Un.kept k) (I.hok.kept k)
/-- a new object laid and tracked -/
theorem Inv.laid {a : Addr} {o : HO} {t' : Nat} (I : Inv X pins σ H s) (k : ∀ b u, s.heap.get? b = some u → h'.get? b = some u) (hp : s.heap.objs.size ≤ a) (new : ObjOk X.prog X.w (upd H a o) h' a o) :
    Inv X pins σ (upd H a o) { s with heap := h', toks := t' } := I.un (Un.laid k hp (I.hok.fresh hp)) (I.hok.laid k hp new)
/-- an object written -/
theorem Inv.write {x e : Addr} {o : HO} {t' : Nat} (I : Inv X pins σ H s) (mu : Mut (H x)) (he : e = x ∨ H e = some (.own x)) (k : ∀ b u, b ≠ e → s.heap.get? b = some u → h'.get? b = some u) (heo : ∃ u, h'.get? e = some u)
    (new : ObjOk X.prog X.w (upd H x o) h' x o) : Inv X pins σ (upd H x o) { s with heap := h', toks := t' } := I.un (Un.write mu he k heo) (I.hok.write mu he k heo new)
/-- forgetting slots, pins -/
theorem Inv.weak {σ' : List (Option V)} (I : Inv X pins σ H s) (hl : σ'.length = σ.length) (w : ∀ (i : Nat) v, σ'[i]? = some (some v) → σ[i]? = some (some v)) : Inv X pins σ' H s :=
  ⟨I.ok, I.os, I.bare, I.base, let ⟨m, hn, hl'⟩ := I.loc; ⟨m, hn, fun i x v e1 e2 e3 => hl' i x v e1 (w i v e2) e3⟩, I.cell, I.free, I.freeC, I.pin, I.hok, hl.trans I.len⟩
theorem Inv.pins_of {pins' : List (Addr × Obj)} (I : Inv X pins σ H s) (h : ∀ p ∈ pins', s.heap.get? p.1 = some p.2 ∧ H p.1 = none ∧ p.1 ≠ X.env.locals ∧ p.1 ∉ X.fs ∧ ∀ v, p.2.data ≠ .cell v) : Inv X pins' σ H s :=
  ⟨I.ok, I.os, I.bare, I.base, I.loc, I.cell, I.free, I.freeC, fun p hp => (List.mem_append.mp hp).elim (fun z => I.pin p (List.mem_append_left _ z)) (h p), I.hok, I.len⟩

theorem nodup_ix {N : List Str} (hN : N.Nodup) {i j : Nat} {x : Str} (a : N[i]? = some x) (b : N[j]? = some x) : i = j := by
  obtain ⟨h1, e1⟩ := List.getElem?_eq_some_iff.mp a
  obtain ⟨h2, e2⟩ := List.getElem?_eq_some_iff.mp b
  exact (List.getElem_inj hN).mp (e1.trans e2.symm)

/-- a name is stored; what changed -/
theorem store_ok2 {M : Model} {A : Around} {E : Value → Shared → Prop} {i : Nat} {x : Str} {v : V} {u : Value} {Q : Unit → Shared → Prop} (I : Inv X pins σ H s) (hN : X.N.Nodup) (hi : X.N[i]? = some x) (hx : Loc X.env.scope x) (r : RelV v u)
    (h : ∀ s', Inv X pins (σ.set i (some v)) H s' → (∃ a, Heap.SameBut a s.heap s'.heap ∧ (a = X.env.locals ∨ X.env.cells.lookup x = some a)) → Q () s') (hf : X.fn x = true ∨ X.env.scope.names.lookup x = some .local := by first | exact .inl rfl | exact .inr rfl | assumption) : wpAny M A (storeName X.env x u) Q E s := by
  obtain ⟨m, hn, hl⟩ := id I.loc
  have hcls : (X.env.scope.kind == .class || (X.env.scope.kind == .module && X.env.locals != X.env.globals)) = false := by rw [I.ok.kind]; rfl
  have hiσ : i < σ.length := by rw [I.len]; exact (List.getElem?_eq_some_iff.mp hi).1
  have cne := I.cne
  have tracked : ∀ {a : Addr} {h' : Heap}, (∃ o, s.heap.get? a = some o ∧ H a = none) → Heap.SameBut a s.heap h' → HOk X.prog X.w H h' := fun {a h'} ha hs b ob e => by
    obtain ⟨_, _, hfree⟩ := ha
    refine (I.hok b ob e).stay (fun c w' hc q => (hs.2 c ?_).trans q) (fun _ q => q) fun _ _ q => q
    rintro rfl
    rcases hc with rfl | hc
    · rw [hfree] at e; cases e
    · rw [hfree] at hc; cases hc
  rcases hx with hk | hk
  · refine wpAny_storeName_local hk hn (fun h' hn' hs => ?_) hcls
    obtain ⟨oL, _, _, hoL, _⟩ := id hn
    refine h _ ⟨I.ok, I.os, I.bare, ⟨fun b o e n hb hx => ?_, fun b o e n hb hx => ?_, I.base.free, fun b o e hx => ?_, I.base.tups, I.base.frzs, I.base.tbls⟩, ⟨_, hn', fun j y v' e1 e2 e3 => ?_⟩, fun y c e => ?_, I.free, I.freeC, fun p hp => ?_, tracked ⟨oL, hoL, I.free⟩ hs, by simpa using I.len⟩ ⟨_, hs, .inl rfl⟩
    · exact (hs.2 b (Nat.ne_of_lt (Nat.lt_of_lt_of_le (Heap.lt_size e) I.ok.above))).trans (I.base.keep b o e n hb hx)
    · obtain ⟨sl, e1⟩ := I.base.slot b o e n hb hx
      exact ⟨sl, (hs.2 b (Nat.ne_of_lt (Nat.lt_of_lt_of_le (Heap.lt_size e) I.ok.above))).trans e1⟩
    · obtain ⟨o', e1⟩ := I.base.there b o e hx
      exact ⟨o', (hs.2 b (Nat.ne_of_lt (Nat.lt_of_lt_of_le (Heap.lt_size e) I.ok.above))).trans e1⟩
    · by_cases hj : j = i
      · subst hj
        rw [hi] at e1; cases e1
        rw [List.getElem?_set_self hiσ] at e2
        cases e2
        exact ⟨u, r, .inl ⟨hk, by simp⟩⟩
      · rw [List.getElem?_set_ne (Ne.symm hj)] at e2
        obtain ⟨u', r', q⟩ := hl j y v' e1 e2 e3
        refine ⟨u', r', ?_⟩
        rcases q with ⟨k, e⟩ | ⟨k, c, e, z⟩
        · refine .inl ⟨k, ?_⟩
          have : y ≠ x := fun e => hj (nodup_ix hN e1 (e ▸ hi))
          simp [this, e]
        · exact .inr ⟨k, c, e, z.sameBut hs (cne y c e)⟩
    · obtain ⟨w', z⟩ := I.cell y c e
      exact ⟨w', z.sameBut hs (cne y c e)⟩
    · obtain ⟨e, n, ne, nf, d⟩ := I.pin p hp
      exact ⟨(hs.2 p.1 ne).trans e, n, ne, nf, d⟩
  · have hfn : X.fn x = true := by
      rcases hf with z | z
      · exact z
      · rw [z] at hk; cases hk
    obtain ⟨c, hc⟩ := I.ok.has x (.inl hk)
    obtain ⟨w', z⟩ := I.cell x c hc
    refine wpAny_storeName_cell I.ok.kind hk hc z (fun h' hc' hs => ?_)
    obtain ⟨oc, hoc, hocd⟩ := id z
    refine h { s with heap := h' } ⟨I.ok, I.os, I.bare, ⟨fun b o e n hb hx => ?_, fun b o e n hb hx => ?_, I.base.free, fun b o e hx => ?_, I.base.tups, I.base.frzs, I.base.tbls⟩, ⟨m, hn.sameBut hs (Ne.symm (cne x c hc)), fun j y v' e1 e2 e3 => ?_⟩, fun y c' e => ?_, I.free, I.freeC, fun p hp => ?_, tracked ⟨oc, hoc, I.freeC x c hc⟩ hs, by simpa using I.len⟩ ⟨c, hs, .inr hc⟩
    · exact (hs.2 b (Nat.ne_of_lt (Nat.lt_of_lt_of_le (Heap.lt_size e) (I.ok.cab x c hfn hc)))).trans (I.base.keep b o e n hb hx)
    · obtain ⟨sl, e1⟩ := I.base.slot b o e n hb hx
      exact ⟨sl, (hs.2 b (Nat.ne_of_lt (Nat.lt_of_lt_of_le (Heap.lt_size e) (I.ok.cab x c hfn hc)))).trans e1⟩
    · obtain ⟨o', e1⟩ := I.base.there b o e hx
      exact ⟨o', (hs.2 b (Nat.ne_of_lt (Nat.lt_of_lt_of_le (Heap.lt_size e) (I.ok.cab x c hfn hc)))).trans e1⟩
    · by_cases hj : j = i
      · subst hj
        rw [hi] at e1; cases e1
        rw [List.getElem?_set_self hiσ] at e2
        cases e2
        exact ⟨u, r, .inr ⟨.inl hk, c, hc, hc'⟩⟩
      · rw [List.getElem?_set_ne (Ne.symm hj)] at e2
        obtain ⟨u', r', q⟩ := hl j y v' e1 e2 e3
        refine ⟨u', r', ?_⟩
        rcases q with q | ⟨k, c', e, z'⟩
        · exact .inl q
        · refine .inr ⟨k, c', e, z'.sameBut hs ?_⟩
          rintro rfl
          exact hj (nodup_ix hN e1 (I.ok.inj _ _ _ e hc ▸ hi))
    · by_cases hcc : c' = c
      · subst hcc; exact ⟨_, hc'⟩
      · obtain ⟨w2, z2⟩ := I.cell y c' e
        exact ⟨w2, z2.sameBut hs hcc⟩
    · obtain ⟨e, n, ne, nf, d⟩ := I.pin p hp
      refine ⟨(hs.2 p.1 ?_).trans e, n, ne, nf, d⟩
      intro q
      rw [q, hoc] at e
      have q' : oc = p.2 := Option.some.inj e
      exact d w' (by rw [← q']; exact hocd)
theorem store_ok {M : Model} {A : Around} {E : Value → Shared → Prop} {i : Nat} {x : Str} {v : V} {u : Value} {Q : Unit → Shared → Prop} (I : Inv X pins σ H s) (hN : X.N.Nodup) (hi : X.N[i]? = some x) (hx : Loc X.env.scope x) (r : RelV v u)
    (h : ∀ s', Inv X pins (σ.set i (some v)) H s' → Q () s') (hf : X.fn x = true ∨ X.env.scope.names.lookup x = some .local := by first | exact .inl rfl | exact .inr rfl | assumption) : wpAny M A (storeName X.env x u) Q E s :=
  store_ok2 I hN hi hx r (fun s' I' _ => h s' I') hf
/-- behind a call or a block, the state as it is -/
theorem Inv.call' {s' : Shared} {ch : List Addr} (I : Inv X pins σ H s) (ho : s'.os = s.os) (u : Un (frs X.stack) ch H H' s.heap s'.heap) (hok : HOk X.prog X.w H' s'.heap) (hg : AllBare s'.gens)
    (hch : ∀ b ∈ ch, (b ∈ X.ex ∨ X.s₀.heap.objs.size ≤ b) ∧ b ≠ X.env.locals ∧ (∀ x c, X.env.cells.lookup x = some c → c ≠ b) ∧ ∀ p ∈ X.pn ++ pins, p.1 ≠ b) : Inv X pins σ H' s' := by
  obtain ⟨h', g', d', t', o'⟩ := s'
  have e : o' = s.os := ho
  subst e
  exact I.call (g' := g') (t' := t') (d' := d') u hok hg hch
end

/-! ### the judgements -/
/-- an exception: its class, its own dict's address (where it has one), the abstract heap behind it -/
abbrev XK := Value → Option Addr → Hp → Prop
abbrev St := List (Option V)
abbrev VK := V → Hp → Prop
/-- an expression's reading; a test's; an argument list's -/
abbrev TE := St → Hp → VK → Prop
abbrev TT := St → Hp → (Bool → Hp → Prop) → Prop
abbrev TA := St → Hp → (List V → Hp → Prop) → Prop
/-- what is wanted behind a statement -/
structure Ends where
  nx : St → Hp → Prop
  rt : VK
  bk : St → Hp → Prop := fun _ _ => False
  ct : St → Hp → Prop := fun _ _ => False
abbrev TS := Ends → St → Hp → Prop

def EP (X : Cx) (pins : List (Addr × Obj)) (σ : St) (Q : VK) (u : Value) (s' : Shared) : Prop := ∃ v H', Inv X pins σ H' s' ∧ RelV v u ∧ Q v H'
def TP (X : Cx) (pins : List (Addr × Obj)) (σ : St) (Q : Bool → Hp → Prop) (b : Bool) (s' : Shared) : Prop := ∃ H', Inv X pins σ H' s' ∧ Q b H'
def AP (X : Cx) (pins : List (Addr × Obj)) (σ : St) (Q : List V → Hp → Prop) (us : List Value) (s' : Shared) : Prop := ∃ vs H', Inv X pins σ H' s' ∧ Vals vs us ∧ Q vs H'
def SP (X : Cx) (pins : List (Addr × Obj)) (D : Ends) (f : Flow) (s' : Shared) : Prop :=
  match f with
  | .next => ∃ σ' H', Inv X pins σ' H' s' ∧ D.nx σ' H'
  | .brk => ∃ σ' H', Inv X pins σ' H' s' ∧ D.bk σ' H'
  | .cont => ∃ σ' H', Inv X pins σ' H' s' ∧ D.ct σ' H'
  | .ret u => ∃ v σ' H', Inv X pins σ' H' s' ∧ RelV v u ∧ D.rt v H'

def PE (X : Cx) (e : Expr) (t : TE) : Prop :=
  ∀ (pins : List (Addr × Obj)) (s : Shared) (σ : St) (H : Hp) (Q : VK), Inv X pins σ H s → t σ H Q → wpAny (model X.prog X.w) X.A (eval e X.env) (EP X pins σ Q) X.xe s
def PT (X : Cx) (e : Expr) (t : TT) : Prop :=
  ∀ (pins : List (Addr × Obj)) (s : Shared) (σ : St) (H : Hp) (Q : Bool → Hp → Prop), Inv X pins σ H s → t σ H Q → wpAny (model X.prog X.w) X.A (isTrue e X.env (eval e X.env)) (TP X pins σ Q) X.xe s
/-- a test whatever its 'whole' is (and, or) -/
def PW (X : Cx) (e : Expr) (t : TT) : Prop :=
  ∀ (whole : Sem Value) (pins : List (Addr × Obj)) (s : Shared) (σ : St) (H : Hp) (Q : Bool → Hp → Prop), Inv X pins σ H s → t σ H Q → wpAny (model X.prog X.w) X.A (isTrue e X.env whole) (TP X pins σ Q) X.xe s
theorem PW.pt {X : Cx} {e : Expr} {t : TT} (h : PW X e t) : PT X e t := h _
/-- an argument list (no star), from the left -/
def PA (X : Cx) (es : List Expr) (t : TA) : Prop :=
  ∀ (pos : Pos) (pins : List (Addr × Obj)) (s : Shared) (σ : St) (H : Hp) (Q : List V → Hp → Prop), Inv X pins σ H s → t σ H Q → wpAny (model X.prog X.w) X.A (spliced (backTo pos (starEach es X.env))) (AP X pins σ Q) X.xe s
def PS (X : Cx) (st : Stmt) (t : TS) : Prop :=
  ∀ (pins : List (Addr × Obj)) (s : Shared) (σ : St) (H : Hp) (D : Ends), Inv X pins σ H s → t D σ H → wpAny (model X.prog X.w) X.A (exec st X.env) (SP X pins D) X.xe s
def PSs (X : Cx) (st : List Stmt) (t : TS) : Prop :=
  ∀ (pins : List (Addr × Obj)) (s : Shared) (σ : St) (H : Hp) (D : Ends), Inv X pins σ H s → t D σ H → wpAny (model X.prog X.w) X.A (execs st X.env) (SP X pins D) X.xe s
/-- weaken the end -/
theorem thn {α : Type} {t : Sem α} {Q Q' : α → Shared → Prop} {M : Model} {A : Around} {E : Value → Shared → Prop} {s : Shared} (h : wpAny M A t Q E s) (hQ : ∀ a s, Q a s → Q' a s) : wpAny M A t Q' E s := wpAny_mono h hQ fun _ _ x => x
end L2

namespace L2
open PySem PySem.Spec PyProof.Rows
section
variable {X : Cx}

/-! ### names and constants -/
def tVar (i : Nat) : TE := fun σ H Q => ∃ v, σ[i]? = some (some v) ∧ Q v H
def tC (v : V) : TE := fun _ H Q => Q v H
theorem pe_var {i : Nat} {x : Str} {pos : Pos} (hN : X.N[i]? = some x) (hv : Vis X.env.scope x) (hd : (x == ("__debug__" : Str)) = false := by decide) (hcd : (x == ("__classdict__" : Str)) = false := by decide) : PE X (.Name x pos) (tVar i) := by
  intro pins s σ H Q I h
  obtain ⟨v, e, h⟩ := h
  obtain ⟨m, hn, hl⟩ := I.loc
  obtain ⟨u, r, l⟩ := hl i x v hN e hv
  have fin : EP X pins σ Q u s := ⟨v, H, I, r, h⟩
  rcases l with ⟨hk, hm⟩ | ⟨hk, c, hc, hcell⟩
  · exact wpAny_Name (wpAny_loadName_local I.ok.kind hk hn hm fin) hd
  · rcases hk with hk | hk
    · exact wpAny_Name (wpAny_loadName_cell I.ok.kind hk hc hcell fin) hd
    · exact wpAny_Name (wpAny_loadName_free I.ok.kind hk hc hcell fin hcd) hd
theorem pe_int {i j pos} : PE X (.Constant (.int i) j pos) (tC (.int i)) := fun _ _ _ H _ I h => wpAny_Constant_int ⟨.int i, H, I.tok _, ⟨_, rfl⟩, h⟩
theorem pe_bl {b j pos} : PE X (.Constant (.bool b) j pos) (tC (.bl b)) := fun _ _ _ H _ I h => Constant_bool ⟨.bl b, H, I, rfl, h⟩
theorem pe_non {j pos} : PE X (.Constant .none j pos) (tC .non) := fun _ _ _ H _ I h => Constant_none ⟨.non, H, I, rfl, h⟩
theorem pe_str {x j pos} : PE X (.Constant (.str x) j pos) (tC (.str x)) := fun _ _ _ H _ I h => Calls.Constant_str ⟨.str x, H, I.tok _, ⟨_, rfl⟩, h⟩

/-- a global name of the def -/
def Gl (X : Cx) (x : Str) : Prop := X.env.kindOf x = some .globalImplicit
theorem ld_glob {E : Value → Shared → Prop} {pins : List (Addr × Obj)} {s : Shared} {σ : St} {H : Hp} {x : Str} {u : Value} {pos : Pos} {Q : Value → Shared → Prop} (I : Inv X pins σ H s) (hg : Gl X x) (hm : X.mg x = some u) (h : Q u s)
    (hd : (x == ("__debug__" : Str)) = false := by decide) : wpAny (model X.prog X.w) X.A (eval (.Name x pos) X.env) Q E s :=
  Calls.Name_function_global I.ok.kind hg (Calls.loadGlobal_global (by rw [I.ok.glob]; exact I.mod.glob.keeps I.bk) hm h) hd
theorem ld_blt {E : Value → Shared → Prop} {pins : List (Addr × Obj)} {s : Shared} {σ : St} {H : Hp} {x : Str} {u : Value} {pos : Pos} {Q : Value → Shared → Prop} (I : Inv X pins σ H s) (hg : Gl X x) (hm : X.mg x = none) (hv : bootBuiltins x = some u) (h : Q u s)
    (hn : x ≠ "__name__" := by decide) (hd : (x == ("__debug__" : Str)) = false := by decide) : wpAny (model X.prog X.w) X.A (eval (.Name x pos) X.env) Q E s := by
  obtain ⟨mb, h1, h2⟩ := I.mod.blt
  exact Calls.Name_function_global I.ok.kind hg (Calls.loadGlobal_builtin (by rw [I.ok.glob]; exact I.mod.glob.keeps I.bk) hm (by rw [I.ok.blt]; exact h1.keeps I.bk) ((h2 x hn).trans hv) h) hd
/-- a module's constant, a class, a function, as a value -/
theorem pe_glob {x : Str} {v : V} {u : Value} {pos : Pos} (hg : Gl X x) (hm : X.mg x = some u) (r : RelV v u) (hd : (x == ("__debug__" : Str)) = false := by decide) : PE X (.Name x pos) (tC v) :=
  fun _ _ _ H _ I h => ld_glob I hg hm ⟨v, H, I, r, h⟩ hd
theorem pe_bltn {x : Str} {v : V} {u : Value} {pos : Pos} (hg : Gl X x) (hm : X.mg x = none) (hv : bootBuiltins x = some u) (r : RelV v u) (hn : x ≠ "__name__" := by decide) (hd : (x == ("__debug__" : Str)) = false := by decide) : PE X (.Name x pos) (tC v) :=
  fun _ _ _ H _ I h => ld_blt I hg hm hv ⟨v, H, I, r, h⟩ hn hd

/-! ### arithmetic -/
variable {a b : Expr} {ta tb : TE} {pos : Pos}
/-! ### comparisons -/
/-- a comparison as a value, as a test -/
def tB (t : TE) : TT := fun σ H Q => t σ H fun x H1 => ∃ c, x = .bl c ∧ Q c H1
/-- an expression whose value is a bool, as a test -/
theorem pt_val {e : Expr} {t : TE} (h : PE X e t) (he : ∀ whole, isTrue e X.env whole = (do let v ← whole; standAt e.pos; holding [v] (truthy v)) := by intro _; rfl) : PT X e (tB t) := by
  intro pins s σ H Q I hw
  refine isTrue_plain (thn (h pins s σ H _ I hw) fun v s1 ⟨x, H1, I1, r1, q1⟩ => ?_) (he _)
  obtain ⟨d, rfl, q⟩ := q1
  cases r1
  exact wpAny_truthy_bool ⟨H1, I1, q⟩

/-! ### and, or, not -/
variable {tA tB' : TT} {rest : List Expr}
def tAnd (t u : TT) : TT := fun σ H Q => t σ H fun c H1 => if c = true then u σ H1 Q else Q false H1
def tOr (t u : TT) : TT := fun σ H Q => t σ H fun c H1 => if c = true then Q true H1 else u σ H1 Q
def tNot (t : TT) : TT := fun σ H Q => t σ H fun c H1 => Q (!c) H1
theorem pw_and1 (ha : PT X a tA) : PW X (.BoolOp .And [a] pos) tA := by
  intro wh pins s σ H Q I h
  refine isTrue_and (thn (ha pins s σ H Q I h) fun c s1 e => ?_)
  cases c with
  | true => exact isTrue_and_nil e
  | false => exact e
theorem pw_or1 (ha : PT X a tA) : PW X (.BoolOp .Or [a] pos) tA := by
  intro wh pins s σ H Q I h
  refine isTrue_or (thn (ha pins s σ H Q I h) fun c s1 e => ?_)
  cases c with
  | false => exact isTrue_or_nil e
  | true => exact e
theorem pw_and (ha : PT X a tA) (hb : PW X (.BoolOp .And (b :: rest) pos) tB') : PW X (.BoolOp .And (a :: b :: rest) pos) (tAnd tA tB') := by
  intro wh pins s σ H Q I h
  refine isTrue_and (thn (ha pins s σ H _ I h) fun c s1 ⟨H1, I1, q1⟩ => ?_)
  cases c with
  | true => exact hb wh pins s1 σ H1 Q I1 q1
  | false => exact ⟨H1, I1, q1⟩
theorem pw_or (ha : PT X a tA) (hb : PW X (.BoolOp .Or (b :: rest) pos) tB') : PW X (.BoolOp .Or (a :: b :: rest) pos) (tOr tA tB') := by
  intro wh pins s σ H Q I h
  refine isTrue_or (thn (ha pins s σ H _ I h) fun c s1 ⟨H1, I1, q1⟩ => ?_)
  cases c with
  | true => exact ⟨H1, I1, q1⟩
  | false => exact hb wh pins s1 σ H1 Q I1 q1
theorem pt_not (ha : PT X a tA) : PT X (.UnaryOp .Not a pos) (tNot tA) := by
  intro pins s σ H Q I h
  exact isTrue_not (ha pins s σ H (fun c H1 => Q (!c) H1) I h)
/-- .. as values (bools) -/
def tAndV (ta tb : TE) : TE := fun σ H Q => ta σ H fun x H1 => ∃ c, x = .bl c ∧ if c = true then tb σ H1 Q else Q (.bl false) H1
def tNotV (ta : TE) : TE := fun σ H Q => ta σ H fun x H1 => ∃ c, x = .bl c ∧ Q (.bl (!c)) H1
theorem pe_one {op} {t : TE} (h : PE X a t) : PE X (.BoolOp op [a] pos) t := fun pins s σ H Q I hw => BoolOp_one (h pins s σ H Q I hw)
theorem pe_and (ha : PE X a ta) (hb : PE X (.BoolOp .And (b :: rest) pos) tb) : PE X (.BoolOp .And (a :: b :: rest) pos) (tAndV ta tb) := by
  intro pins s σ H Q I h
  refine BoolOp_and (thn (ha pins s σ H _ I h) fun v s1 ⟨x, H1, I1, r1, q1⟩ => ?_)
  obtain ⟨c, rfl, q1⟩ := q1
  cases r1
  refine wpAny_truthy_bool ?_
  cases c with
  | true => exact hb pins s1 σ H1 Q I1 q1
  | false => exact ⟨.bl false, H1, I1, rfl, q1⟩
theorem pe_not (ha : PE X a ta) : PE X (.UnaryOp .Not a pos) (tNotV ta) := by
  intro pins s σ H Q I h
  refine UnaryOp_ (thn (ha pins s σ H _ I h) fun v s1 ⟨x, H1, I1, r1, q1⟩ => ?_)
  obtain ⟨c, rfl, q1⟩ := q1
  cases r1
  exact not_of (wpAny_truthy_bool ⟨.bl (!c), H1, I1, rfl, q1⟩)
/-- a if t else b -/
def tIf (t : TT) (ta tb : TE) : TE := fun σ H Q => t σ H fun c H1 => if c = true then ta σ H1 Q else tb σ H1 Q
theorem pe_ifExp {c : Expr} (hc : PT X c tA) (ha : PE X a ta) (hb : PE X b tb) : PE X (.IfExp c a b pos) (tIf tA ta tb) := by
  intro pins s σ H Q I h
  refine wpAny_IfExp (thn (hc pins s σ H _ I h) fun d s1 ⟨H1, I1, q1⟩ => ?_)
  cases d with
  | true => exact ha pins s1 σ H1 Q I1 q1
  | false => exact hb pins s1 σ H1 Q I1 q1
end
end L2

namespace L2
open PySem PySem.Spec PyProof.Rows

/-! ### a list, a tuple that is read: tracked, frozen, or an object of the module -/
def SqL (K : PySem.W.Frag) (H : Hp) (a : Addr) (xs : List V) : Prop :=
  Rd H a (.lst xs) ∨
    ∃ (o : Obj) (its : Array Value) (n : Nat), K.lookup a = some o ∧ o.cls = .type "list" ∧ o.dict = none ∧ o.data = .seq its n ∧ its.size ≤ sizeLine ∧ Vals xs its.toList
def SqT (K : PySem.W.Frag) (H : Hp) (a : Addr) (xs : List V) : Prop :=
  Rd H a (.tup xs) ∨
    ∃ (o : Obj) (its : Array Value) (n : Nat), K.lookup a = some o ∧ o.cls = .type "tuple" ∧ o.data = .seq its n ∧ its.size ≤ sizeLine ∧ Vals xs its.toList
def absV : Value → Option V
  | .none => some .non
  | .bool b => some (.bl b)
  | .int i _ => some (.int i)
  | .str x _ => some (.str x)
  | .bytes b _ => some (.byt b)
  | .float b _ => some (.flt b)
  | .ref a => some (.ref a)
  | .type n => some (.ty n)
  | _ => none
theorem RelV.abs {x : V} {u : Value} (r : RelV x u) : absV u = some x := by
  cases x with
  | non => cases r; rfl
  | bl _ => cases r; rfl
  | int _ => obtain ⟨t, rfl⟩ := r; rfl
  | str _ => obtain ⟨t, rfl⟩ := r; rfl
  | byt _ => obtain ⟨t, rfl⟩ := r; rfl
  | flt _ => obtain ⟨t, rfl⟩ := r; rfl
  | ref _ => cases r; rfl
  | ty _ => cases r; rfl
theorem RelV.inj {x y : V} {u : Value} (r : RelV x u) (q : RelV y u) : x = y := Option.some.inj (r.abs.symm.trans q.abs)
theorem Vals.inj : ∀ {xs ys : List V} {us : List Value}, Vals xs us → Vals ys us → xs = ys
  | _, _, _, .nil, .nil => rfl
  | _, _, _, .cons r t, .cons r' t' => by rw [r.inj r', Vals.inj t t']
section
variable {X : Cx} {pins : List (Addr × Obj)} {σ : St} {H : Hp} {s : Shared} {a : Addr} {xs ys : List V}
theorem SqL.of {K : PySem.W.Frag} (h : H a = some (.lst xs)) : SqL K H a xs := .inl (.inl h)
theorem SqT.of {K : PySem.W.Frag} (h : H a = some (.tup xs)) : SqT K H a xs := .inl (.inl h)
theorem Inv.list (I : Inv X pins σ H s) (h : SqL X.K H a xs) : ∃ its : List Value, Vals xs its ∧ PlainL s.heap a its.toArray ∧ xs.length ≤ sizeLine := by
  rcases h with h | ⟨o, its, n, hk, hc, hd, hs, hz, r⟩
  · obtain ⟨z, its, n, r, e⟩ := h.ok I.hok
    exact ⟨its, r, ⟨_, n, e, rfl, rfl, rfl⟩, z⟩
  · refine ⟨its.toList, r, ⟨o, n, I.kIn a o hk, hc, hd, by simpa using hs⟩, ?_⟩
    have e := r.length
    simp only [Array.length_toList] at e
    omega
theorem Inv.tuple (I : Inv X pins σ H s) (h : SqT X.K H a xs) : ∃ its : List Value, Vals xs its ∧ IsTup s.heap a its.toArray ∧ xs.length ≤ sizeLine := by
  rcases h with h | ⟨o, its, n, hk, hc, hs, hz, r⟩
  · obtain ⟨z, its, r, p⟩ := h.ok I.hok
    exact ⟨its, r, p, z⟩
  · refine ⟨its.toList, r, ⟨o, I.kIn a o hk, hc, n, by simpa using hs⟩, ?_⟩
    have e := r.length
    simp only [Array.length_toList] at e
    omega
theorem Inv.list_inj (I : Inv X pins σ H s) (h : SqL X.K H a xs) (h' : SqL X.K H a ys) : xs = ys := by
  obtain ⟨its, r, ⟨o, n, e, _, _, d⟩, _⟩ := I.list h
  obtain ⟨its', r', ⟨o', n', e', _, _, d'⟩, _⟩ := I.list h'
  rw [e] at e'; cases e'
  rw [d] at d'
  injection d' with d1 _
  have : its = its' := by simpa using congrArg Array.toList d1
  subst this
  exact r.inj r'
theorem Inv.tuple_inj (I : Inv X pins σ H s) (h : SqT X.K H a xs) (h' : SqT X.K H a ys) : xs = ys := by
  obtain ⟨its, r, ⟨o, e, _, n, d⟩, _⟩ := I.tuple h
  obtain ⟨its', r', ⟨o', e', _, n', d'⟩, _⟩ := I.tuple h'
  rw [e] at e'; cases e'
  rw [d] at d'
  injection d' with d1 _
  have : its = its' := by simpa using congrArg Array.toList d1
  subst this
  exact r.inj r'
end

/-! ### another wish about exceptions -/
abbrev Cx.wish (X : Cx) (E : Value → Shared → Prop) : Cx := { X with xe := E }
/-- no exception leaves -/
abbrev Cx.nox (X : Cx) : Cx := X.wish fun _ _ => False
theorem Cx.Ok.wish {X : Cx} (ok : X.Ok) (E : Value → Shared → Prop) : (X.wish E).Ok :=
  ⟨ok.mod, ok.kind, ok.glob, ok.blt, ok.above, ok.inj, ok.has, ok.cab, ok.hd, ok.frames, ok.stk, ok.exf, ok.bs, ok.bsz, ok.noex, ok.exfs, ok.funs, ok.frf⟩
theorem Cx.Ok.unwish {X : Cx} {E : Value → Shared → Prop} (ok : (X.wish E).Ok) : X.Ok :=
  ⟨ok.mod, ok.kind, ok.glob, ok.blt, ok.above, ok.inj, ok.has, ok.cab, ok.hd, ok.frames, ok.stk, ok.exf, ok.bs, ok.bsz, ok.noex, ok.exfs, ok.funs, ok.frf⟩
section
variable {X : Cx} {pins : List (Addr × Obj)} {σ : St} {H : Hp} {s : Shared} {E : Value → Shared → Prop}
theorem Inv.wish (I : Inv X pins σ H s) (E : Value → Shared → Prop) : Inv (X.wish E) pins σ H s := ⟨I.ok.wish E, I.os, I.bare, I.base, I.loc, I.cell, I.free, I.freeC, I.pin, I.hok, I.len⟩
theorem Inv.unwish (I : Inv (X.wish E) pins σ H s) : Inv X pins σ H s := ⟨I.ok.unwish, I.os, I.bare, I.base, I.loc, I.cell, I.free, I.freeC, I.pin, I.hok, I.len⟩
theorem SP.unwish {D : Ends} {f : Flow} {s' : Shared} (h : SP (X.wish E) pins D f s') : SP X pins D f s' := by
  cases f with
  | next => obtain ⟨σ', H', I, q⟩ := h; exact ⟨σ', H', I.unwish, q⟩
  | brk => obtain ⟨σ', H', I, q⟩ := h; exact ⟨σ', H', I.unwish, q⟩
  | cont => obtain ⟨σ', H', I, q⟩ := h; exact ⟨σ', H', I.unwish, q⟩
  | ret u => obtain ⟨v, σ', H', I, r, q⟩ := h; exact ⟨v, σ', H', I.unwish, r, q⟩
theorem PE.nox {e : Expr} {t : TE} (h : PE X.nox e t) : PE X e t := fun pins s σ H Q I hw =>
  wpAny_mono (h pins s σ H Q (I.wish _) hw) (fun _ _ ⟨v, H', I', r, q⟩ => ⟨v, H', I'.unwish, r, q⟩) fun _ _ z => False.elim z
theorem PT.nox {e : Expr} {t : TT} (h : PT X.nox e t) : PT X e t := fun pins s σ H Q I hw =>
  wpAny_mono (h pins s σ H Q (I.wish _) hw) (fun _ _ ⟨H', I', q⟩ => ⟨H', I'.unwish, q⟩) fun _ _ z => False.elim z
theorem PSs.nox {st : List Stmt} {t : TS} (h : PSs X.nox st t) : PSs X st t := fun pins s σ H D I hw =>
  wpAny_mono (h pins s σ H D (I.wish _) hw) (fun _ _ q => q.unwish) fun _ _ z => False.elim z
end

/-! ### blocks and small statements -/
section
variable {X : Cx} {st : Stmt} {rest : List Stmt} {t u : TS} {e : Expr} {te : TE} {pos : Pos}
def tNext : TS := fun D σ H => D.nx σ H
def tSeq (t u : TS) : TS := fun D σ H => t { D with nx := u D } σ H
theorem pss_nil : PSs X [] tNext := fun _ _ σ H _ I h => wpAny_execs_nil ⟨σ, H, I, h⟩
theorem pss_cons (h1 : PS X st t) (h2 : PSs X rest u) : PSs X (st :: rest) (tSeq t u) := by
  intro pins s σ H D I h
  refine wpAny_execs_cons (thn (h1 pins s σ H { D with nx := u D } I h) fun f s1 q => ?_)
  cases f with
  | next =>
    obtain ⟨σ', H', I', q⟩ := q
    exact h2 pins s1 σ' H' D I' q
  | ret v => exact q
  | brk => exact q
  | cont => exact q
theorem pss_one (h1 : PS X st t) : PSs X [st] t := by
  intro pins s σ H D I h
  refine wpAny_execs_cons (thn (h1 pins s σ H D I h) fun f s1 q => ?_)
  cases f with
  | next => exact wpAny_execs_nil q
  | ret v => exact q
  | brk => exact q
  | cont => exact q
/-- in a def's body nothing is shown -/
theorem Inv.quiet {pins : List (Addr × Obj)} {σ : St} {H : Hp} {s : Shared} (I : Inv X pins σ H s) : interactive X.env = false := by simp [interactive, I.ok.kind]
/-- an expression whose value is dropped -/
def tDrop (te : TE) : TS := fun D σ H => te σ H fun _ H1 => D.nx σ H1
theorem ps_expr (he : PE X e te) (hs : swapsWith e none pos.line X.env = pure false := by rfl) : PS X (.Expr e pos) (tDrop te) := by
  intro pins s σ H D I h
  exact wpAny_Expr_any (thn (he pins s σ H _ I h) fun v s1 ⟨x, H1, I1, r1, q1⟩ => ⟨σ, H1, I1, q1⟩) I.quiet hs
def tRet (te : TE) : TS := fun D σ H => te σ H D.rt
theorem ps_ret (he : PE X e te) : PS X (.Return (some e) pos) (tRet te) := by
  intro pins s σ H D I h
  exact wpAny_Return_some (thn (he pins s σ H _ I h) fun v s1 ⟨x, H1, I1, r1, q1⟩ => ⟨x, σ, H1, I1, r1, q1⟩)
def tRetN : TS := fun D _ H => D.rt .non H
theorem ps_retN : PS X (.Return none pos) tRetN := fun _ _ σ H _ I h => wpAny_Return_none ⟨.non, σ, H, I, rfl, h⟩
def tIfS (c : TT) (t u : TS) : TS := fun D σ H => c σ H fun b H1 => if b = true then t D σ H1 else u D σ H1
theorem ps_if {c : Expr} {a b : List Stmt} {tc : TT} (hc : PT X c tc) (ha : PSs X a t) (hb : PSs X b u) : PS X (.If c a b pos) (tIfS tc t u) := by
  intro pins s σ H D I h
  refine wpAny_If (thn (hc pins s σ H _ I h) fun d s1 ⟨H1, I1, q1⟩ => ?_)
  cases d with
  | true => exact ha pins s1 σ H1 D I1 q1
  | false => exact hb pins s1 σ H1 D I1 q1
/-- code that the proof never comes to -/
def tNever : TS := fun _ _ _ => False
theorem ps_never : PS X st tNever := fun _ _ _ _ _ _ h => h.elim
theorem pss_never {sts : List Stmt} : PSs X sts tNever := fun _ _ _ _ _ _ h => h.elim
end

/-! ### targets -/
abbrev TG := V → St → Hp → (St → Hp → Prop) → Prop
abbrev TGs := List V → St → Hp → (St → Hp → Prop) → Prop
def PG (X : Cx) (target : Expr) (t : TG) : Prop :=
  ∀ (pins : List (Addr × Obj)) (s : Shared) (σ : St) (H : Hp) (v : V) (u : Value) (Q : St → Hp → Prop), Inv X pins σ H s → RelV v u → t v σ H Q →
    wpAny (model X.prog X.w) X.A (assign target X.env u) (fun _ s' => ∃ σ' H', Inv X pins σ' H' s' ∧ Q σ' H') X.xe s
/-- several targets, one after another -/
def PGs (X : Cx) (ts : List Expr) (t : TGs) : Prop :=
  ∀ (pins : List (Addr × Obj)) (s : Shared) (σ : St) (H : Hp) (vs : List V) (us : List Value) (Q : St → Hp → Prop), Inv X pins σ H s → Vals vs us → t vs σ H Q →
    wpAny (model X.prog X.w) X.A (assignInOrder ((assignEach ts X.env).map (·.2)) us) (fun _ s' => ∃ σ' H', Inv X pins σ' H' s' ∧ Q σ' H') X.xe s
/-- o[i] = v, by values -/
abbrev TSet := V → V → V → Hp → (Hp → Prop) → Prop
def PSet (X : Cx) (t : TSet) : Prop :=
  ∀ (pins : List (Addr × Obj)) (s : Shared) (σ : St) (H : Hp) (o i v : V) (ov iv u : Value) (Q : Hp → Prop), Inv X pins σ H s → RelV o ov → RelV i iv → RelV v u → t o i v H Q →
    wpAny (model X.prog X.w) X.A (setItem ov iv u) (fun _ s' => ∃ H', Inv X pins σ H' s' ∧ Q H') X.xe s
section
variable {X : Cx} {pos : Pos}
def gName (i : Nat) : TG := fun v σ H Q => Q (σ.set i (some v)) H
theorem pg_name {i : Nat} {x : Str} (hN : X.N.Nodup) (hi : X.N[i]? = some x) (hx : Loc X.env.scope x) (hf : X.fn x = true ∨ X.env.scope.names.lookup x = some .local := by first | exact .inl rfl | exact .inr rfl | assumption) : PG X (.Name x pos) (gName i) := by
  intro pins s σ H v u Q I r h
  exact wpAny_assign_Name (store_ok I hN hi hx r (fun s' I' => ⟨_, H, I', h⟩) hf)
def gNil : TGs := fun vs σ H Q => vs = [] ∧ Q σ H
def gCons (t : TG) (u : TGs) : TGs := fun vs σ H Q => ∃ v r, vs = v :: r ∧ t v σ H fun σ' H' => u r σ' H' Q
theorem pgs_nil : PGs X [] gNil := by
  intro pins s σ H vs us Q I r h
  obtain ⟨e, h⟩ := h
  subst e
  cases r
  exact assignInOrder_nil ⟨σ, H, I, h⟩
theorem pgs_cons {e : Expr} {es : List Expr} {t : TG} {u : TGs} (h1 : PG X e t) (h2 : PGs X es u)
    (hs : (assignEach (e :: es) X.env).map (·.2) = assign e X.env :: (assignEach es X.env).map (·.2) := by rfl) : PGs X (e :: es) (gCons t u) := by
  intro pins s σ H vs us Q I r h
  obtain ⟨v, vr, e1, h⟩ := h
  subst e1
  cases r with
  | cons r rr =>
    rw [hs]
    refine assignInOrder_cons (thn (h1 pins s σ H _ _ _ I r h) fun _ s1 ⟨σ1, H1, I1, q1⟩ => ?_)
    exact h2 pins s1 σ1 H1 _ _ Q I1 rr q1
/-- (a, b, ..) = a tuple of that length -/
def gTup (K : PySem.W.Frag) (n : Nat) (t : TGs) : TG := fun v σ H Q => ∃ a xs, v = .ref a ∧ SqT K H a xs ∧ xs.length = n ∧ t xs σ H Q
theorem pg_tup {es : List Expr} {k : Nat} {t : TGs} {n : Nat} (hc : X.calm = true) (h : PGs X es t)
    (hn : (assignEach es X.env).length = n := by rfl) (hst : (assignEach es X.env).findIdx? (·.1) = none := by rfl) : PG X (.Tuple es k pos) (gTup X.K n t) := by
  intro pins s σ H v u Q I r hw
  obtain ⟨a, xs, e1, hq, hl, hw⟩ := hw
  subst e1
  cases r
  obtain ⟨its, rv, ht, hz⟩ := I.tuple hq
  refine assign_Tuple_tuple (I.ok.hd hc) ht (by simp [hn, ← hl, rv.length]) hst fun h' hx => ?_
  have I1 : Inv X pins σ H { s with heap := h' } := I.kept (t' := s.toks) fun b o e => hx b o (Nat.ne_of_lt (Heap.lt_size e)) e
  exact h pins _ σ H xs _ Q I1 (by simpa using rv) hw
/-- o[i] = .. -/
def gSub (to ti : TE) (t : TSet) : TG := fun v σ H Q => to σ H fun o H1 => ti σ H1 fun i H2 => t o i v H2 fun H3 => Q σ H3
theorem pg_sub {o i : Expr} {to ti : TE} {t : TSet} (ho : PE X o to) (hi : PE X i ti) (hs : PSet X t)
    (ha : ∀ v, assign (.Subscript o i pos) X.env v = (do
      let ov ← holding [v] (eval o X.env)
      let iv ← holding [v, ov] (eval i X.env)
      standAt pos
      holding [v, ov, iv] (setItem ov iv v)
      release [v, ov, iv] []) := by intro _; rfl) : PG X (.Subscript o i pos) (gSub to ti t) := by
  intro pins s σ H v u Q I r h
  rw [ha]
  refine wpAny_bind (wpAny_holding (thn (ho pins s σ H _ I h) fun ov s1 ⟨x, H1, I1, r1, q1⟩ => ?_))
  refine wpAny_bind (wpAny_holding (thn (hi pins s1 σ H1 _ I1 q1) fun iv s2 ⟨y, H2, I2, r2, q2⟩ => ?_))
  refine wpAny_bind (wpAny_standAt (wpAny_bind (wpAny_holding (thn (hs pins s2 σ H2 x y v ov iv u _ I2 r1 r2 r q2) fun _ s3 ⟨H3, I3, q3⟩ => ?_))))
  exact wpAny_release ⟨σ, H3, I3, q3⟩
/-- target = value -/
def tAsg (te : TE) (g : TG) : TS := fun D σ H => te σ H fun x H1 => g x σ H1 D.nx
theorem ps_asg {tg e : Expr} {te : TE} {g : TG} (he : PE X e te) (hg : PG X tg g) (hs : swapsWithSole [tg] e pos.line X.env = pure false := by rfl) (hw : swappedStores [tg] e X.env = pure none := by rfl)
    (h1 : (assignEach [tg] X.env).map (·.2) = [assign tg X.env] := by rfl) : PS X (.Assign [tg] e pos) (tAsg te g) := by
  intro pins s σ H D I h
  refine wpAny_Assign_stores (thn (he pins s σ H _ I h) fun v s1 ⟨x, H1, I1, r1, q1⟩ => ?_) hs hw
  rw [h1]
  exact thn (hg pins s1 σ H1 x v _ I1 r1 q1) fun _ s2 q => q
/-- name = value -/
theorem ps_set {i : Nat} {x : Str} {e : Expr} {te : TE} {pos' : Pos} (hN : X.N.Nodup) (hi : X.N[i]? = some x) (hx : Loc X.env.scope x) (he : PE X e te) (hs : swapsWith e (some (.Name x pos')) pos.line X.env = pure false := by rfl) (hf : X.fn x = true ∨ X.env.scope.names.lookup x = some .local := by first | exact .inl rfl | exact .inr rfl | assumption) :
    PS X (.Assign [.Name x pos'] e pos) (tAsg te (gName i)) := by
  intro pins s σ H D I h
  refine wpAny_Assign_Name (thn (he pins s σ H _ I h) fun v s1 ⟨y, H1, I1, r1, q1⟩ => ?_) hs
  exact store_ok I1 hN hi hx r1 (fun s2 I2 => ⟨_, H1, I2, q1⟩) hf
end

/-! ### while -/
section
variable {X : Cx} {pos : Pos}
/-- the invariant W with its measure -/
def tWhile (c : TT) (tb : TS) : TS := fun D σ H => ∃ W : Nat → St → Hp → Prop, (∃ m, W m σ H) ∧ ∀ m σ H, W m σ H →
  c σ H fun b H1 => if b = true then ∃ N : St → Hp → Prop, (∀ σ' H', N σ' H' → ∃ m', m' < m ∧ W m' σ' H') ∧ tb { D with nx := N, ct := N, bk := D.nx } σ H1 else D.nx σ H1
theorem ps_while {c : Expr} {body : List Stmt} {tc : TT} {tb : TS} (hp : PassesOwn (model X.prog X.w) X.A X.env X.xe) (hc : PT X c tc) (hb : PSs X body tb) : PS X (.While c body [] pos) (tWhile tc tb) := by
  intro pins s σ H D I h
  obtain ⟨W, ⟨m0, w0⟩, turn⟩ := h
  refine wpAny_While (codeAny_whileLoop (fun n s' => ∃ σ' H', Inv X pins σ' H' s' ∧ W n σ' H') ?_ m0 ⟨σ, H, I, w0⟩)
  rintro n s1 ⟨σ1, H1, I1, w1⟩
  refine wpAny_passesOwn hp (thn (hc pins s1 σ1 H1 _ I1 (turn n σ1 H1 w1)) fun b s2 ⟨H2, I2, q2⟩ => ?_)
  cases b with
  | true =>
    obtain ⟨N, hN, q2⟩ := q2
    rw [if_pos rfl]
    refine wpAny_passesOwn hp (thn (hb pins s2 σ1 H2 _ I2 q2) fun f s3 q3 => ?_)
    cases f with
    | next =>
      obtain ⟨σ3, H3, I3, n3⟩ := q3
      obtain ⟨m', hm, w3⟩ := hN σ3 H3 n3
      exact ⟨m', hm, σ3, H3, I3, w3⟩
    | cont =>
      obtain ⟨σ3, H3, I3, n3⟩ := q3
      obtain ⟨m', hm, w3⟩ := hN σ3 H3 n3
      exact ⟨m', hm, σ3, H3, I3, w3⟩
    | brk => exact q3
    | ret v => exact q3
  | false =>
    rw [if_neg Bool.false_ne_true]
    exact wpAny_execs_nil ⟨σ1, H2, I2, q2⟩
end

/-! ### what a loop or a comprehension walks -/
/-- at turn i: it yields x (the heap may grow), or it stops -/
structure It where
  go : Nat → Hp → Prop
  yld : Nat → Hp → V → Hp → Prop
  stop : Nat → Hp → Prop
/-- the iterator's own objects may turn: they are not the frame's, not pinned, younger than the entry (or a comprehension's own) -/
def FpOk (X : Cx) (pins : List (Addr × Obj)) (H : Hp) (b : Addr) : Prop :=
  H b = none ∧ b ≠ X.env.locals ∧ b ∉ X.fs ∧ (b ∈ X.ex ∨ X.s₀.heap.objs.size ≤ b) ∧ (∀ x c, X.env.cells.lookup x = some c → c ≠ b) ∧ ∀ p ∈ X.pn ++ pins, p.1 ≠ b
theorem Inv.fpOk {X : Cx} {pins : List (Addr × Obj)} {σ : St} {H H' : Hp} {s : Shared} {b : Addr} (I : Inv X pins σ H s) (hb : s.heap.objs.size ≤ b) (hn : H' b = none) : FpOk X pins H' b := by
  refine ⟨hn, Nat.ne_of_gt (Nat.lt_of_lt_of_le I.lt hb), I.nofs hb, .inr (Nat.le_trans I.sz hb), fun x c e z => ?_, fun p hp z => ?_⟩
  · obtain ⟨v, q⟩ := I.cell x c e
    exact absurd (Nat.lt_of_lt_of_le q.lt (by rw [z]; exact hb)) (Nat.lt_irrefl _)
  · exact absurd (Nat.lt_of_lt_of_le (Heap.lt_size (I.pin p hp).1) (by rw [z]; exact hb)) (Nat.lt_irrefl _)
structure Turn (P : Program) (w : World) (K : PySem.W.Frag) (tg : Expr) (J : It) (fp : List Addr) (it : Addr) (tn : Nat → Heap → Prop) : Prop where
  mem : it ∈ fp
  obj : ∀ i h, tn i h → ∀ b ∈ fp, ∃ o, h.get? b = some o ∧ ∀ v, o.data ≠ .cell v
  keep : ∀ i h h', tn i h → (∀ b ∈ fp, ∀ o, h.get? b = some o → h'.get? b = some o) → tn i h'
  item : ∀ (X : Cx), X.prog = P → X.w = w → X.K = K → X.calm = true → ∀ (i : Nat) (pins : List (Addr × Obj)) (s : Shared) (σ : St) (H : Hp) (E : Value → Shared → Prop), Inv X pins σ H s → (∀ b ∈ fp, FpOk X pins H b) → tn i s.heap → J.go i H →
    wpAny (model P w) X.A (pyNext (.ref it)) (fun r s1 => ∃ u, r = some u ∧
      wpAny (model P w) X.A (letOwnedTupleGo tg (.ref it) u) (fun _ s2 => ∃ x H', Inv X pins σ H' s2 ∧ RelV x u ∧ J.yld i H x H' ∧ tn (i + 1) s2.heap ∧ ∀ b ∈ fp, H' b = none) E s1) E s
  done : ∀ (X : Cx), X.prog = P → X.w = w → X.K = K → X.calm = true → ∀ (i : Nat) (pins : List (Addr × Obj)) (s : Shared) (σ : St) (H : Hp) (E : Value → Shared → Prop), Inv X pins σ H s → (∀ b ∈ fp, FpOk X pins H b) → tn i s.heap → J.stop i H →
    wpAny (model P w) X.A (pyNext (.ref it)) (fun r s1 => r = none ∧ Inv X pins σ H s1) E s
  self : ∀ (A : Around) (i : Nat) (s : Shared) (Q : Value → Shared → Prop) (E : Value → Shared → Prop), tn i s.heap → Q (.ref it) s → wpAny (model P w) A (pyIter (.ref it)) Q E s
abbrev TI := St → Hp → (It → Hp → Prop) → Prop
/-- an iterator has come -/
def PIE (X : Cx) (pins : List (Addr × Obj)) (σ : St) (tg : Expr) (R : It → Hp → Prop) (itv : Value) (s2 : Shared) : Prop :=
  ∃ (it : Addr) (fp : List Addr) (tn : Nat → Heap → Prop) (J : It) (H' : Hp), itv = .ref it ∧ Inv X pins σ H' s2 ∧ Turn X.prog X.w X.K tg J fp it tn ∧ tn 0 s2.heap ∧ (∀ b ∈ fp, FpOk X pins H' b) ∧ R J H'
def PI (X : Cx) (tg iter : Expr) (wi : TI) : Prop :=
  ∀ (pins : List (Addr × Obj)) (s : Shared) (σ : St) (H : Hp) (R : It → Hp → Prop), Inv X pins σ H s → wi σ H R →
    wpAny (model X.prog X.w) X.A (eval iter X.env) (fun v s1 => wpAny (model X.prog X.w) X.A (pyIter v) (PIE X pins σ tg R) X.xe s1) X.xe s

/-- the step ahead of the store is nothing for an iterator that keeps no tuple -/
theorem go_of {M : Model} {A : Around} {E : Value → Shared → Prop} {s : Shared} {tg : Expr} {it : Addr} {u : Value} {o : Obj} {n : String} {vs : Array Value} {Q : Unit → Shared → Prop} (ho : s.heap.get? it = some o) (hc : o.cls = .type n) (hd : o.data = .fields vs)
    (hn : ["enumerate", "zip", "dict_itemiterator", "dict_reverseitemiterator", "odict_iterator", "itertools.zip_longest", "itertools.pairwise"].contains n = false) (hQ : Q () s) : wpAny M A (letOwnedTupleGo tg (.ref it) u) Q E s := by
  unfold letOwnedTupleGo
  cases tg <;> first
    | exact wpAny_pure hQ
    | (cases u <;> first
        | exact wpAny_pure hQ
        | (refine wpAny_bind (wpAny_load ho ?_)
           rw [hc, hd]
           show wpAny M A (if (["enumerate", "zip", "dict_itemiterator", "dict_reverseitemiterator", "odict_iterator", "itertools.zip_longest", "itertools.pairwise"].contains n && vs[0]? == some (rawInt _)) = true then _ else _) Q E s
           rw [if_neg (by intro h; rw [hn, Bool.false_and] at h; cases h)]
           exact wpAny_pure hQ))

/-- the list at a, as it stands at each turn (a loop may append to it) -/
def Itl (K : PySem.W.Frag) (a : Addr) : It :=
  ⟨fun i H => ∃ xs x, SqL K H a xs ∧ xs[i]? = some x, fun i H x H' => H' = H ∧ ∀ xs, SqL K H a xs → xs[i]? = some x, fun i H => ∃ xs, SqL K H a xs ∧ xs.length ≤ i⟩
def Itt (K : PySem.W.Frag) (a : Addr) : It :=
  ⟨fun i H => ∃ xs x, SqT K H a xs ∧ xs[i]? = some x, fun i H x H' => H' = H ∧ ∀ xs, SqT K H a xs → xs[i]? = some x, fun i H => ∃ xs, SqT K H a xs ∧ xs.length ≤ i⟩
/-- lo, lo + 1, .. (n of them) -/
def Itr (lo : Int) (n : Nat) : It := ⟨fun i _ => i < n, fun i H x H' => H' = H ∧ x = .int (lo + i), fun i _ => n ≤ i⟩
theorem turn_list {P : Program} {w : World} {K : PySem.W.Frag} {tg : Expr} (a it : Addr) : Turn P w K tg (Itl K a) [it] it (fun i h => h.IsListIter it a i) where
  mem := by simp
  obj := fun i h st b hb => by
    have e : b = it := by simpa using hb
    subst e
    obtain ⟨o, e, c, d⟩ := st
    exact ⟨o, e, fun v z => by rw [d] at z; cases z⟩
  keep := fun i h h' st k => st.at fun o e => k it (by simp) o e
  item := by
    intro X hP hw hK hc i pins s σ H E I hf st hg
    subst hP hw hK
    obtain ⟨xs, x, hq, hx⟩ := hg
    obtain ⟨its, rv, p, hz⟩ := I.list hq
    obtain ⟨u, hu, ru⟩ := rv.get hx
    obtain ⟨f0, f1, f2, f3, f4, f5⟩ := hf it (by simp)
    refine wpAny_pyNext_list_item st p.isList (x := u) (by simpa using hu) fun h' st' sb => ?_
    have I1 : Inv X pins σ H { s with heap := h' } := I.turned (t' := s.toks) (fun b o hb e => (sb.2 b hb).trans e) f0 f1 f3 f4 f5
    obtain ⟨o, e, c, d⟩ := id st'
    exact ⟨u, rfl, go_of (s := { s with heap := h' }) e c d (by decide) ⟨x, H, I1, ru, ⟨rfl, fun ys hy => by rw [I.list_inj hy hq]; exact hx⟩, st', fun b hb => (hf b hb).1⟩⟩
  done := by
    intro X hP hw hK hc i pins s σ H E I hf st hg
    subst hP hw hK
    obtain ⟨xs, hq, hx⟩ := hg
    obtain ⟨its, rv, p, hz⟩ := I.list hq
    obtain ⟨f0, f1, f2, f3, f4, f5⟩ := hf it (by simp)
    have hl := rv.length
    exact wpAny_pyNext_list_end (I.ok.hd hc) st p.isList (by simp; omega) fun h' eb => ⟨rfl, I.turned (t' := s.toks) (fun b o hb e => eb b o hb e) f0 f1 f3 f4 f5⟩
  self := fun _ _ _ _ _ st h => wpAny_pyIter_listiter st h
theorem turn_tuple {P : Program} {w : World} {K : PySem.W.Frag} {tg : Expr} (a it : Addr) : Turn P w K tg (Itt K a) [it] it (fun i h => h.IsTupleIter it a i) where
  mem := by simp
  obj := fun i h st b hb => by
    have e : b = it := by simpa using hb
    subst e
    obtain ⟨o, e, c, d⟩ := st
    exact ⟨o, e, fun v z => by rw [d] at z; cases z⟩
  keep := fun i h h' st k => st.at fun o e => k it (by simp) o e
  item := by
    intro X hP hw hK hc i pins s σ H E I hf st hg
    subst hP hw hK
    obtain ⟨xs, x, hq, hx⟩ := hg
    obtain ⟨its, rv, p, hz⟩ := I.tuple hq
    obtain ⟨u, hu, ru⟩ := rv.get hx
    obtain ⟨f0, f1, f2, f3, f4, f5⟩ := hf it (by simp)
    refine wpAny_pyNext_tuple_item st (show s.heap.IsTuple a its.toArray from p) (x := u) (by simpa using hu) fun h' st' sb => ?_
    have I1 : Inv X pins σ H { s with heap := h' } := I.turned (t' := s.toks) (fun b o hb e => (sb.2 b hb).trans e) f0 f1 f3 f4 f5
    obtain ⟨o, e, c, d⟩ := id st'
    exact ⟨u, rfl, go_of (s := { s with heap := h' }) e c d (by decide) ⟨x, H, I1, ru, ⟨rfl, fun ys hy => by rw [I.tuple_inj hy hq]; exact hx⟩, st', fun b hb => (hf b hb).1⟩⟩
  done := by
    intro X hP hw hK hc i pins s σ H E I hf st hg
    subst hP hw hK
    obtain ⟨xs, hq, hx⟩ := hg
    obtain ⟨its, rv, p, hz⟩ := I.tuple hq
    obtain ⟨f0, f1, f2, f3, f4, f5⟩ := hf it (by simp)
    have hl := rv.length
    exact wpAny_pyNext_tuple_end (I.ok.hd hc) st (show s.heap.IsTuple a its.toArray from p) (by simp; omega) fun h' eb => ⟨rfl, I.turned (t' := s.toks) (fun b o hb e => eb b o hb e) f0 f1 f3 f4 f5⟩
  self := fun _ _ _ _ _ st h => wpAny_pyIter_tupleiter st h
theorem turn_range {P : Program} {w : World} {K : PySem.W.Frag} {tg : Expr} (it : Addr) (lo : Int) (n : Nat) : Turn P w K tg (Itr lo n) [it] it (fun i h => IsRangeIter h it (lo + (i : Nat) * 1) ((n : Int) - (i : Nat)) 1) where
  mem := by simp
  obj := fun i h st b hb => by
    have e : b = it := by simpa using hb
    subst e
    exact ⟨_, st, fun v z => by
      have z' : Data.fields _ = Data.cell v := z
      cases z'⟩
  keep := fun i h h' st k => k it (by simp) _ st
  item := by
    intro X hP hw hK hc i pins s σ H E I hf st hg
    subst hP hw hK
    obtain ⟨f0, f1, f2, f3, f4, f5⟩ := hf it (by simp)
    have W := Walks.range (prog := X.prog) (w := X.w) (I.ok.hd hc) it lo 1 n
    refine W.item i s _ _ hg st fun v h' tk hv st' kk => ?_
    obtain ⟨t, rfl⟩ := hv
    have I1 : Inv X pins σ H { s with heap := h', toks := tk } := I.turned (fun b o hb e => kk b o (by simpa using hb) e) f0 f1 f3 f4 f5
    refine ⟨_, rfl, go_of (s := { s with heap := h', toks := tk }) (n := "range_iterator") st' rfl rfl (by decide) ⟨.int (lo + i), H, I1, ⟨t, ?_⟩, ⟨rfl, rfl⟩, st', fun b hb => (hf b hb).1⟩⟩
    rw [Int.mul_one]
  done := by
    intro X hP hw hK hc i pins s σ H E I hf st hg
    subst hP hw hK
    obtain ⟨f0, f1, f2, f3, f4, f5⟩ := hf it (by simp)
    exact wpAny_pyNext_range_end (I.ok.hd hc) st (by have : n ≤ i := hg; omega) fun h' eb => ⟨rfl, I.turned (t' := s.toks) (fun b o hb e => eb b o hb e) f0 f1 f3 f4 f5⟩
  self := fun _ _ _ _ _ st h => wpAny_pyIter_rangeiter st h
end L2

namespace L2
open PySem PySem.Spec PyProof.Rows
section
variable {X : Cx} {tg : Expr}
def iList (K : PySem.W.Frag) (tl : TE) : TI := fun σ H R => tl σ H fun x H1 => ∃ a, x = .ref a ∧ (∃ xs, SqL K H1 a xs) ∧ R (Itl K a) H1
def iTup (K : PySem.W.Frag) (tl : TE) : TI := fun σ H R => tl σ H fun x H1 => ∃ a, x = .ref a ∧ (∃ xs, SqT K H1 a xs) ∧ R (Itt K a) H1
theorem pi_list {l : Expr} {tl : TE} (hl : PE X l tl) : PI X tg l (iList X.K tl) := by
  intro pins s σ H R I h
  refine thn (hl pins s σ H _ I h) fun v s1 ⟨x, H1, I1, r1, q1⟩ => ?_
  obtain ⟨a, e, ⟨xs, hq⟩, q⟩ := q1
  subst e
  cases r1
  obtain ⟨its, rv, p, hz⟩ := I1.list hq
  refine wpAny_pyIter_list p.isList ?_
  refine ⟨s1.heap.objs.size, [s1.heap.objs.size], _, _, H1, rfl, I1.kept (t' := s1.toks) fun b o e => Heap.get?_push_of_some _ e, turn_list a _, ⟨_, Heap.get?_push_size _ rfl, rfl, rfl⟩, fun b hb => ?_, q⟩
  have e : b = s1.heap.objs.size := by simpa using hb
  subst e
  exact I1.fpOk (Nat.le_refl _) (I1.hok.fresh (Nat.le_refl _))
theorem pi_tup {l : Expr} {tl : TE} (hl : PE X l tl) : PI X tg l (iTup X.K tl) := by
  intro pins s σ H R I h
  refine thn (hl pins s σ H _ I h) fun v s1 ⟨x, H1, I1, r1, q1⟩ => ?_
  obtain ⟨a, e, ⟨xs, hq⟩, q⟩ := q1
  subst e
  cases r1
  obtain ⟨its, rv, p, hz⟩ := I1.tuple hq
  refine wpAny_pyIter_tuple (show s1.heap.IsTuple a its.toArray from p) ?_
  refine ⟨s1.heap.objs.size, [s1.heap.objs.size], _, _, H1, rfl, I1.kept (t' := s1.toks) fun b o e => Heap.get?_push_of_some _ e, turn_tuple a _, ⟨_, Heap.get?_push_size _ rfl, rfl, rfl⟩, fun b hb => ?_, q⟩
  have e : b = s1.heap.objs.size := by simpa using hb
  subst e
  exact I1.fpOk (Nat.le_refl _) (I1.hok.fresh (Nat.le_refl _))
/-- a range object just made, walked -/
theorem range_it {pins : List (Addr × Obj)} {σ : St} {H : Hp} {s : Shared} {R : It → Hp → Prop} {E : Value → Shared → Prop} {lo hi : Int} {t u v : Tok} {tk : Nat} (I : Inv X pins σ H s) (h1 : -(2 ^ 62) ≤ lo) (h2 : lo < 2 ^ 62) (h3 : -(2 ^ 62) ≤ hi) (h4 : hi < 2 ^ 62)
    (q : R (Itr lo (hi - lo).toNat) H) : wpAny (model X.prog X.w) X.A (pyIter (.ref s.heap.objs.size)) (PIE X pins σ tg R) E { s with heap := s.heap.push { cls := .type "range", data := .fields #[.int lo t, .int hi u, .int 1 v] }, toks := tk } := by
  refine wpAny_pyIter_range (IsRange.new ..) (small_one h1 h2 h3 h4) ?_
  have I1 : Inv X pins σ H { s with heap := s.heap.push { cls := .type "range", data := .fields #[.int lo t, .int hi u, .int 1 v] }, toks := tk } := I.kept fun b o e => Heap.get?_push_of_some _ e
  refine ⟨(s.heap.push { cls := .type "range", data := .fields #[.int lo t, .int hi u, .int 1 v] }).objs.size, [(s.heap.push { cls := .type "range", data := .fields #[.int lo t, .int hi u, .int 1 v] }).objs.size], _, _, H, rfl,
    I1.kept (t' := tk) fun b o e => Heap.get?_push_of_some _ e, turn_range _ lo (hi - lo).toNat, ?_, fun b hb => ?_, q⟩
  · have e1 : lo + ((0 : Nat) : Int) * 1 = lo := by simp
    have e2 : (((hi - lo).toNat : Nat) : Int) - ((0 : Nat) : Int) = Builtin.Range.rangeSize lo hi 1 := by rw [rangeSize_one]; split <;> omega
    show IsRangeIter _ _ (lo + ((0 : Nat) : Int) * 1) ((((hi - lo).toNat : Nat) : Int) - ((0 : Nat) : Int)) 1
    rw [e1, e2]
    exact Heap.get?_push_size _ rfl
  · have e : b = (s.heap.push { cls := .type "range", data := .fields #[.int lo t, .int hi u, .int 1 v] }).objs.size := by simpa using hb
    subst e
    exact I1.fpOk (Nat.le_refl _) (I1.hok.fresh (Nat.le_refl _))
def iRng1 (ta : TA) : TI := fun σ H R => ta σ H fun vs H1 => ∃ j : Int, vs = [.int j] ∧ -(2 ^ 62) ≤ j ∧ j < 2 ^ 62 ∧ R (Itr 0 j.toNat) H1
theorem pi_range1 {a : Expr} {ta : TA} {p pos : Pos} (hg : Gl X "range") (hm : X.mg "range" = none) (ha : PA X [a] ta) (hs : starEach [a] X.env = [(false, eval a X.env)] := by rfl) : PI X tg (.Call (.Name "range" p) [a] [] pos) (iRng1 ta) := by
  intro pins s σ H R I h
  refine Call_ (ld_blt I hg hm boot_range (PyProof.Rows.callWith_type1 (thn (ha pos pins s σ H _ I h) fun us s1 ⟨vs, H1, I1, r1, q1⟩ => ?_) hs rfl))
  obtain ⟨j, e, q1, q2, q⟩ := q1
  subst e
  cases r1 with
  | cons r rr =>
    cases rr
    obtain ⟨t, rfl⟩ := r
    exact call_range_1 (range_it I1 (by omega) (by omega) q1 q2 (by simpa using q))
/-! ### for -/
/-- W: the invariant by the turn and a measure; N: what the body is to reach -/
def tFor (wi : TI) (g : TG) (tb : TS) : TS := fun D σ H => wi σ H fun J H1 => ∃ W : Nat → Nat → St → Hp → Prop, (∃ m, W 0 m σ H1) ∧ ∀ i m σ H, W i m σ H →
  (J.stop i H ∧ D.nx σ H) ∨ (J.go i H ∧ ∃ N : St → Hp → Prop, (∀ σ' H', N σ' H' → ∃ m', m' < m ∧ W (i + 1) m' σ' H') ∧ ∀ x H', J.yld i H x H' → g x σ H' fun σ2 H2 => tb { D with nx := N, ct := N, bk := D.nx } σ2 H2)
/-- the records at fp as they stand -/
def pinsAt (fp : List Addr) (h : Heap) : List (Addr × Obj) := fp.filterMap fun b => (h.get? b).map fun o => (b, o)
theorem mem_pinsAt {fp : List Addr} {h : Heap} {b : Addr} {o : Obj} (hb : b ∈ fp) (e : h.get? b = some o) : (b, o) ∈ pinsAt fp h := List.mem_filterMap.mpr ⟨b, hb, by rw [e]; rfl⟩
theorem of_pinsAt {fp : List Addr} {h : Heap} {p : Addr × Obj} (hp : p ∈ pinsAt fp h) : p.1 ∈ fp ∧ h.get? p.1 = some p.2 := by
  obtain ⟨b, hb, e⟩ := List.mem_filterMap.mp hp
  cases q : h.get? b with
  | none => rw [q] at e; cases e
  | some o =>
    rw [q] at e
    have e' : (b, o) = p := Option.some.inj e
    subst e'
    exact ⟨hb, q⟩
theorem Inv.pinned {pins : List (Addr × Obj)} {σ : St} {H : Hp} {s : Shared} {fp : List Addr} (I : Inv X pins σ H s) (hf : ∀ b ∈ fp, FpOk X pins H b) (ho : ∀ b ∈ fp, ∃ o, s.heap.get? b = some o ∧ ∀ v, o.data ≠ .cell v) : Inv X (pins ++ pinsAt fp s.heap) σ H s :=
  I.pins_of fun p hp => (List.mem_append.mp hp).elim (fun z => I.pin p (List.mem_append_right _ z)) fun z => by
    obtain ⟨hb, e⟩ := of_pinsAt z
    obtain ⟨f0, f1, f2, _⟩ := hf p.1 hb
    obtain ⟨o, e', d⟩ := ho p.1 hb
    rw [e] at e'; cases e'
    exact ⟨e, f0, f1, f2, d⟩
theorem Inv.unpinned {pins pl : List (Addr × Obj)} {σ : St} {H : Hp} {s : Shared} (I : Inv X (pins ++ pl) σ H s) : Inv X pins σ H s := I.pins_of fun p hp => I.pin p (List.mem_append_right _ (List.mem_append_left _ hp))
theorem ps_for {iter : Expr} {body : List Stmt} {wi : TI} {g : TG} {tb : TS} {pos : Pos} (hp : PassesOwn (model X.prog X.w) X.A X.env X.xe) (hc : X.calm = true) (hi : PI X tg iter wi) (hg : PG X tg g) (hb : PSs X body tb)
    (hs : ∀ x, foldedSetIterable iter X.env x = pure x := by intro _; rfl) : PS X (.For tg iter body [] pos) (tFor wi g tb) := by
  intro pins s σ H D I h
  refine wpAny_For (thn (hi pins s σ H _ I h) fun v s1 h1 => thn h1 fun itv s2 h2 => ?_) hs
  obtain ⟨it, fp, tn, J, H2, e, I2, T, st2, f2, W, ⟨m0, w0⟩, turn⟩ := h2
  subst e
  -- what stays true of the iterator's objects through the loop
  have stat : ∀ {H' : Hp}, (∀ b ∈ fp, H' b = none) → ∀ b ∈ fp, FpOk X pins H' b := fun hn b hb => ⟨hn b hb, (f2 b hb).2⟩
  refine codeAny_forLoop_any (fun n s' => ∃ i σ' H', Inv X pins σ' H' s' ∧ tn i s'.heap ∧ (∀ b ∈ fp, H' b = none) ∧ W i n σ' H') ?_ m0 ⟨0, σ, H2, I2, st2, fun b hb => (f2 b hb).1, w0⟩
  rintro n s3 ⟨i, σ3, H3, I3, st3, fr3, w3⟩
  rcases turn i n σ3 H3 w3 with ⟨stop, qn⟩ | ⟨go, N, hN, step⟩
  · refine wpAny_passesOwn hp (thn (T.done X rfl rfl rfl hc i pins s3 σ3 H3 X.xe I3 (stat fr3) st3 stop) fun r s4 ⟨hr, I4⟩ => ?_)
    subst hr
    exact wpAny_execs_nil ⟨σ3, H3, I4, qn⟩
  · refine wpAny_passesOwn hp (thn (T.item X rfl rfl rfl hc i pins s3 σ3 H3 X.xe I3 (stat fr3) st3 go) fun r s4 ⟨u, hr, h4⟩ => ?_)
    subst hr
    refine wpAny_passesOwn hp (thn h4 fun _ s5 ⟨x, H5, I5, r5, y5, st5, fr5⟩ => ?_)
    have I5' := I5.pinned (stat fr5) (T.obj _ _ st5)
    refine wpAny_passesOwn hp (thn (hg _ s5 σ3 H5 x u _ I5' r5 (step x H5 y5)) fun _ s6 ⟨σ6, H6, I6, q6⟩ => ?_)
    refine wpAny_passesOwn hp (thn (hb _ s6 σ6 H6 _ I6 q6) fun f s7 q7 => ?_)
    have again : ∀ {σ7 : St} {H7 : Hp}, Inv X (pins ++ pinsAt fp s5.heap) σ7 H7 s7 → N σ7 H7 → ∃ m, m < n ∧ ∃ i σ' H', Inv X pins σ' H' s7 ∧ tn i s7.heap ∧ (∀ b ∈ fp, H' b = none) ∧ W i m σ' H' := fun {σ7 H7} I7 n7 => by
      obtain ⟨m', hm, w7⟩ := hN σ7 H7 n7
      refine ⟨m', hm, i + 1, σ7, H7, I7.unpinned, T.keep _ _ _ st5 fun b hb o e => (I7.pin (b, o) (List.mem_append_right _ (List.mem_append_right _ (mem_pinsAt hb e)))).1, fun b hb => ?_, w7⟩
      obtain ⟨o, e, d⟩ := T.obj _ _ st5 b hb
      exact (I7.pin (b, o) (List.mem_append_right _ (List.mem_append_right _ (mem_pinsAt hb e)))).2.1
    cases f with
    | next => obtain ⟨σ7, H7, I7, n7⟩ := q7; exact again I7 n7
    | cont => obtain ⟨σ7, H7, I7, n7⟩ := q7; exact again I7 n7
    | brk => obtain ⟨σ7, H7, I7, q7⟩ := q7; exact ⟨σ7, H7, I7.unpinned, q7⟩
    | ret v => obtain ⟨x7, σ7, H7, I7, r7, q7⟩ := q7; exact ⟨x7, σ7, H7, I7.unpinned, r7, q7⟩
end

/-! ### the forms one uses -/
/-- over a list that the body leaves as it is -/
theorem for_list {K : PySem.W.Frag} {a : Addr} {xs : List V} {g : TG} {tb : TS} {D : Ends} {σ : St} {H : Hp} (Pv : Nat → St → Hp → Prop) (h0 : Pv 0 σ H) (hl : ∀ i σ H, i ≤ xs.length → Pv i σ H → SqL K H a xs)
    (hs : ∀ i x σ H, xs[i]? = some x → Pv i σ H → g x σ H fun σ2 H2 => tb { D with nx := Pv (i + 1), ct := Pv (i + 1), bk := D.nx } σ2 H2) (hd : ∀ σ H, Pv xs.length σ H → D.nx σ H) :
    ∃ W : Nat → Nat → St → Hp → Prop, (∃ m, W 0 m σ H) ∧ ∀ i m σ H, W i m σ H →
      ((Itl K a).stop i H ∧ D.nx σ H) ∨ ((Itl K a).go i H ∧ ∃ N : St → Hp → Prop, (∀ σ' H', N σ' H' → ∃ m', m' < m ∧ W (i + 1) m' σ' H') ∧ ∀ x H', (Itl K a).yld i H x H' → g x σ H' fun σ2 H2 => tb { D with nx := N, ct := N, bk := D.nx } σ2 H2) := by
  refine ⟨fun i m σ H => m = xs.length - i ∧ i ≤ xs.length ∧ Pv i σ H, ⟨xs.length, by simp, Nat.zero_le _, h0⟩, ?_⟩
  rintro i m σ H ⟨rfl, hi, p⟩
  have q := hl i σ H hi p
  by_cases hlt : i < xs.length
  · refine .inr ⟨⟨xs, xs[i], q, by simp [hlt]⟩, Pv (i + 1), fun σ' H' p' => ⟨xs.length - (i + 1), by omega, rfl, hlt, p'⟩, fun x H' y => ?_⟩
    obtain ⟨e, y⟩ := y
    subst e
    exact hs i x σ _ (y xs q) p
  · have e : i = xs.length := by omega
    subst e
    exact .inl ⟨⟨xs, q, Nat.le_refl _⟩, hd σ H p⟩
theorem for_range {lo : Int} {n : Nat} {g : TG} {tb : TS} {D : Ends} {σ : St} {H : Hp} (Pv : Nat → St → Hp → Prop) (h0 : Pv 0 σ H)
    (hs : ∀ i σ H, i < n → Pv i σ H → g (.int (lo + i)) σ H fun σ2 H2 => tb { D with nx := Pv (i + 1), ct := Pv (i + 1), bk := D.nx } σ2 H2) (hd : ∀ σ H, Pv n σ H → D.nx σ H) :
    ∃ W : Nat → Nat → St → Hp → Prop, (∃ m, W 0 m σ H) ∧ ∀ i m σ H, W i m σ H →
      ((Itr lo n).stop i H ∧ D.nx σ H) ∨ ((Itr lo n).go i H ∧ ∃ N : St → Hp → Prop, (∀ σ' H', N σ' H' → ∃ m', m' < m ∧ W (i + 1) m' σ' H') ∧ ∀ x H', (Itr lo n).yld i H x H' → g x σ H' fun σ2 H2 => tb { D with nx := N, ct := N, bk := D.nx } σ2 H2) := by
  refine ⟨fun i m σ H => m = n - i ∧ i ≤ n ∧ Pv i σ H, ⟨n, by simp, Nat.zero_le _, h0⟩, ?_⟩
  rintro i m σ H ⟨rfl, hi, p⟩
  by_cases hlt : i < n
  · refine .inr ⟨hlt, Pv (i + 1), fun σ' H' p' => ⟨n - (i + 1), by omega, rfl, hlt, p'⟩, fun x H' y => ?_⟩
    obtain ⟨e, y⟩ := y
    subst e y
    exact hs i σ _ hlt p
  · have e : i = n := by omega
    subst e
    exact .inl ⟨Nat.le_refl _, hd σ H p⟩
end L2

namespace L2
open PySem PySem.Spec PyProof.Rows

abbrev R2 := V → V → Hp → VK → Prop
/-- a two-place operation on values: f is binaryOp op, inplaceOp op or compareOp op -/
def OpR (X : Cx) (f : Value → Value → Sem Value) (r : R2) : Prop :=
  ∀ (pins : List (Addr × Obj)) (s : Shared) (σ : St) (H : Hp) (x y : V) (v u : Value) (Q : VK), Inv X pins σ H s → RelV x v → RelV y u → r x y H Q →
    wpAny (model X.prog X.w) X.A (f v u) (EP X pins σ Q) X.xe s
/-- a one-place operation -/
def UnR (X : Cx) (f : Value → Sem Value) (r : V → Hp → VK → Prop) : Prop :=
  ∀ (pins : List (Addr × Obj)) (s : Shared) (σ : St) (H : Hp) (x : V) (v : Value) (Q : VK), Inv X pins σ H s → RelV x v → r x H Q →
    wpAny (model X.prog X.w) X.A (f v) (EP X pins σ Q) X.xe s
/-- a call of a value that is known (a builtin, a type) with values -/
def CallR (X : Cx) (f : Value) (r : List V → Hp → VK → Prop) : Prop :=
  ∀ (pins : List (Addr × Obj)) (s : Shared) (σ : St) (H : Hp) (xs : List V) (us : List Value) (Q : VK), Inv X pins σ H s → Vals xs us → r xs H Q →
    wpAny (model X.prog X.w) X.A (call f us) (EP X pins σ Q) X.xe s
def tOp (r : R2) (ta tb : TE) : TE := fun σ H Q => ta σ H fun x H1 => tb σ H1 fun y H2 => r x y H2 Q
def tUn (r : V → Hp → VK → Prop) (ta : TE) : TE := fun σ H Q => ta σ H fun x H1 => r x H1 Q
/-- ints in, under C, and a value out -/
def rI (C : Int → Int → Prop) (g : Int → Int → V) : R2 := fun x y H Q => ∃ i j, x = .int i ∧ y = .int j ∧ C i j ∧ Q (g i j) H
def rI0 (g : Int → Int → V) : R2 := fun x y H Q => ∃ i j, x = .int i ∧ y = .int j ∧ Q (g i j) H
def rU (g : Int → V) : V → Hp → VK → Prop := fun x H Q => ∃ i, x = .int i ∧ Q (g i) H

section
variable {X : Cx} {a b c : Expr} {ta tb tc : TE} {pos : Pos}

theorem binT (ha : PE X a ta) (hb : PE X b tb) {pins : List (Addr × Obj)} {s : Shared} {σ : St} {H : Hp} {R : V → V → Hp → Prop} (I : Inv X pins σ H s)
    (h : ta σ H fun x H1 => tb σ H1 fun y H2 => R x y H2) {Q : Value → Shared → Prop} {f : Value → Value → Sem Value}
    (hf : ∀ v u s2 x y H2, Inv X pins σ H2 s2 → RelV x v → RelV y u → R x y H2 → wpAny (model X.prog X.w) X.A (f v u) Q X.xe s2) :
    wpAny (model X.prog X.w) X.A (eval a X.env) (fun v s₁ => wpAny (model X.prog X.w) X.A (eval b X.env) (fun u s₂ => wpAny (model X.prog X.w) X.A (f v u) Q X.xe s₂) X.xe s₁) X.xe s := by
  refine thn (ha pins s σ H _ I h) fun v s1 ⟨x, H1, I1, r1, q1⟩ => ?_
  refine thn (hb pins s1 σ H1 _ I1 q1) fun u s2 ⟨y, H2, I2, r2, q2⟩ => ?_
  exact hf v u s2 x y H2 I2 r1 r2 q2

theorem pe_op {op : Operator} {r : R2} (ho : OpR X (binaryOp op) r) (ha : PE X a ta) (hb : PE X b tb) : PE X (.BinOp a op b pos) (tOp r ta tb) := by
  intro pins s σ H Q I h
  exact wpAny_BinOp (binT ha hb I h fun v u s2 x y H2 I2 rx ry q => ho pins s2 σ H2 x y v u Q I2 rx ry q)
theorem pe_un {op : UnaryOp} {r : V → Hp → VK → Prop} (ho : UnR X (unaryOp op) r) (ha : PE X a ta) : PE X (.UnaryOp op a pos) (tUn r ta) := by
  intro pins s σ H Q I h
  exact UnaryOp_ (thn (ha pins s σ H _ I h) fun v s1 ⟨x, H1, I1, r1, q1⟩ => ho pins s1 σ H1 x v Q I1 r1 q1)
/-! ### ints -/
theorem opI {f : Value → Value → Sem Value} {C : Int → Int → Prop} {g : Int → Int → Int}
    (rule : ∀ (i j : Int) (t u : Tok) (s : Shared) (Q : Value → Shared → Prop) (E : Value → Shared → Prop), C i j → Q (.int (g i j) s.toks) { s with toks := s.toks + 1 } → wpAny (model X.prog X.w) X.A (f (.int i t) (.int j u)) Q E s) :
    OpR X f (rI C fun i j => .int (g i j)) := by
  intro pins s σ H x y v u Q I rx ry h
  obtain ⟨i, j, rfl, rfl, hc, q⟩ := h
  obtain ⟨t, rfl⟩ := rx
  obtain ⟨t', rfl⟩ := ry
  exact rule i j t t' s _ _ hc ⟨.int (g i j), H, I.tok _, ⟨_, rfl⟩, q⟩
theorem opI0 {f : Value → Value → Sem Value} {g : Int → Int → Int}
    (rule : ∀ (i j : Int) (t u : Tok) (s : Shared) (Q : Value → Shared → Prop) (E : Value → Shared → Prop), Q (.int (g i j) s.toks) { s with toks := s.toks + 1 } → wpAny (model X.prog X.w) X.A (f (.int i t) (.int j u)) Q E s) :
    OpR X f (rI0 fun i j => .int (g i j)) := by
  intro pins s σ H x y v u Q I rx ry h
  obtain ⟨i, j, rfl, rfl, q⟩ := h
  obtain ⟨t, rfl⟩ := rx
  obtain ⟨t', rfl⟩ := ry
  exact rule i j t t' s _ _ ⟨.int (g i j), H, I.tok _, ⟨_, rfl⟩, q⟩
theorem opB0 {f : Value → Value → Sem Value} {g : Int → Int → Bool}
    (rule : ∀ (i j : Int) (t u : Tok) (s : Shared) (Q : Value → Shared → Prop) (E : Value → Shared → Prop), Q (.bool (g i j)) s → wpAny (model X.prog X.w) X.A (f (.int i t) (.int j u)) Q E s) :
    OpR X f (rI0 fun i j => .bl (g i j)) := by
  intro pins s σ H x y v u Q I rx ry h
  obtain ⟨i, j, rfl, rfl, q⟩ := h
  obtain ⟨t, rfl⟩ := rx
  obtain ⟨t', rfl⟩ := ry
  exact rule i j t t' s _ _ ⟨.bl (g i j), H, I, rfl, q⟩

def CDiv (i j : Int) : Prop := 0 < j ∧ j < 1073741824
def CPow (i j : Int) : Prop := 0 ≤ j ∧ j ≤ 1000000 ∧ i.natAbs < 2 ^ 64
def CMul (i j : Int) : Prop := (-(2 ^ 64) < i ∧ i < 2 ^ 64) ∨ (-(2 ^ 64) < j ∧ j < 2 ^ 64)
theorem CMul.ok {i j : Int} (h : CMul i j) : IntMulOk i j := by
  rcases h with ⟨h1, h2⟩ | ⟨h1, h2⟩
  · exact .of_left (intBits_le_64 h1 h2)
  · exact .of_right (intBits_le_64 h1 h2)
theorem op_add : OpR X (binaryOp .Add) (rI0 fun i j => .int (i + j)) := opI0 fun _ _ _ _ _ _ _ q => add_int q
theorem op_sub : OpR X (binaryOp .Sub) (rI0 fun i j => .int (i - j)) := opI0 fun _ _ _ _ _ _ _ q => sub_int q
theorem op_mul : OpR X (binaryOp .Mult) (rI CMul fun i j => .int (i * j)) := opI fun _ _ _ _ _ _ _ hc q => mul_int q hc.ok
/-- // by a positive divisor -/
theorem op_fdiv : OpR X (binaryOp .FloorDiv) (rI CDiv fun i j => .int (i / j)) := opI fun i j _ _ _ _ _ hc q => by
  have h1 : (0 : Int) < j := hc.1
  have h2 : j < 1073741824 := hc.2
  exact floordiv_int (by omega) (by rw [Int.fdiv_eq_ediv_of_nonneg i (by omega)]; exact q) (.inl (PyProof.noPylong_small (by omega)))
/-- % by a positive divisor of any size -/
theorem op_mod : OpR X (binaryOp .Mod) (rI (fun _ j => 0 < j) fun i j => .int (i % j)) := opI fun i j _ _ _ _ _ hc q => by
  have h1 : (0 : Int) < j := hc
  exact mod_int' (by omega) (by rw [Int.fmod_eq_emod_of_nonneg i (by omega)]; exact q)
theorem op_pow : OpR X (binaryOp .Pow) (rI CPow fun i j => .int (i ^ j.toNat)) := opI fun _ _ _ _ _ _ _ hc q => pow_int_small hc.1 hc.2.1 hc.2.2 q
theorem unI {f : Value → Sem Value} {g : Int → Int}
    (rule : ∀ (i : Int) (t : Tok) (s : Shared) (Q : Value → Shared → Prop) (E : Value → Shared → Prop), Q (.int (g i) s.toks) { s with toks := s.toks + 1 } → wpAny (model X.prog X.w) X.A (f (.int i t)) Q E s) :
    UnR X f (rU fun i => .int (g i)) := by
  intro pins s σ H x v Q I rx h
  obtain ⟨i, rfl, q⟩ := h
  obtain ⟨t, rfl⟩ := rx
  exact rule i t s _ _ ⟨.int (g i), H, I.tok _, ⟨_, rfl⟩, q⟩
theorem un_neg : UnR X (unaryOp .USub) (rU fun i => .int (-i)) := unI fun _ _ _ _ _ q => neg_int q
/-! ### bools among ints: n += (a < b) -/
end

/-! ### comparisons -/
/-- the scalars that == tells apart as data does -/
def scal : V → V → Bool
  | .non, .non => true | .non, .int _ => true | .int _, .non => true | .non, .bl _ => true | .bl _, .non => true | .non, .str _ => true | .str _, .non => true
  | .int _, .int _ => true | .bl _, .bl _ => true | .str _, .str _ => true | .byt _, .byt _ => true
  | .int _, .str _ => true | .str _, .int _ => true | .bl _, .str _ => true | .str _, .bl _ => true
  | _, _ => false
def rEq : R2 := fun x y H Q => scal x y = true ∧ Q (.bl (decide (x = y))) H
def rNe : R2 := fun x y H Q => scal x y = true ∧ Q (.bl (!decide (x = y))) H

theorem dec_int {i j : Int} : decide (V.int i = V.int j) = (i == j) := by
  rw [Bool.eq_iff_iff]
  simp
theorem dec_bl {i j : Bool} : decide (V.bl i = V.bl j) = (i == j) := by
  rw [Bool.eq_iff_iff]
  simp
theorem dec_str {i j : Str} : decide (V.str i = V.str j) = (i == j) := by
  rw [Bool.eq_iff_iff]
  simp
theorem dec_byt {i j : Array UInt8} : decide (V.byt i = V.byt j) = (i.toList == j.toList) := by
  rw [Bool.eq_iff_iff]
  cases i
  cases j
  simp

section
variable {X : Cx} {a b c : Expr} {ta tb tc : TE} {pos : Pos}
theorem fin_bl {pins : List (Addr × Obj)} {σ : St} {H : Hp} {s : Shared} {Q : VK} {k k' : Bool} (I : Inv X pins σ H s) (q : Q (.bl k) H) (e : k = k') : EP X pins σ Q (.bool k') s := by
  subst e
  exact ⟨.bl k, H, I, rfl, q⟩
theorem op_eq : OpR X (compareOp .Eq) rEq := by
  intro pins s σ H x y v u Q I rx ry h
  obtain ⟨hs, q⟩ := h
  cases x with
  | non =>
    cases rx
    cases y with
    | non => cases ry; exact PySem.EqNone.eq_none_none (fin_bl I q (by simp))
    | bl j => cases ry; exact PySem.EqNone.eq_none_bool (fin_bl I q (by simp))
    | int j => obtain ⟨t', rfl⟩ := ry; exact PySem.EqNone.eq_none_int (fin_bl I q (by simp))
    | str j => obtain ⟨t', rfl⟩ := ry; exact PySem.EqNone.eq_none_str (fin_bl I q (by simp))
    | _ => exact absurd (show false = true from hs) Bool.false_ne_true
  | bl i =>
    cases rx
    cases y with
    | non => cases ry; exact PySem.EqNone.eq_bool_none (fin_bl I q (by simp))
    | bl j => cases ry; exact eq_bool (fin_bl I q dec_bl)
    | str j => obtain ⟨t', rfl⟩ := ry; exact PySem.EqMixed.eq_bool_str (fin_bl I q (by simp))
    | _ => exact absurd (show false = true from hs) Bool.false_ne_true
  | int i =>
    obtain ⟨t, rfl⟩ := rx
    cases y with
    | non => cases ry; exact PySem.EqNone.eq_int_none (fin_bl I q (by simp))
    | int j => obtain ⟨t', rfl⟩ := ry; exact eq_int (fin_bl I q dec_int)
    | str j => obtain ⟨t', rfl⟩ := ry; exact PySem.EqMixed.eq_int_str (fin_bl I q (by simp))
    | _ => exact absurd (show false = true from hs) Bool.false_ne_true
  | str i =>
    obtain ⟨t, rfl⟩ := rx
    cases y with
    | non => cases ry; exact PySem.EqNone.eq_str_none (fin_bl I q (by simp))
    | bl j => cases ry; exact PySem.EqMixed.eq_str_bool (fin_bl I q (by simp))
    | int j => obtain ⟨t', rfl⟩ := ry; exact PySem.EqMixed.eq_str_int (fin_bl I q (by simp))
    | str j => obtain ⟨t', rfl⟩ := ry; exact eq_str (fin_bl I q dec_str)
    | _ => exact absurd (show false = true from hs) Bool.false_ne_true
  | byt i =>
    obtain ⟨t, rfl⟩ := rx
    cases y with
    | byt j => obtain ⟨t', rfl⟩ := ry; exact PySem.W.eq_bytes (fin_bl I q dec_byt)
    | _ => exact absurd (show false = true from hs) Bool.false_ne_true
  | _ => cases y <;> exact absurd (show false = true from hs) Bool.false_ne_true
theorem op_ne : OpR X (compareOp .NotEq) rNe := by
  intro pins s σ H x y v u Q I rx ry h
  obtain ⟨hs, q⟩ := h
  cases x with
  | non =>
    cases rx
    cases y with
    | non => cases ry; exact PySem.EqNone.ne_none_none (fin_bl I q (by simp))
    | bl j => cases ry; exact PySem.EqNone.ne_none_bool (fin_bl I q (by simp))
    | int j => obtain ⟨t', rfl⟩ := ry; exact PySem.EqNone.ne_none_int (fin_bl I q (by simp))
    | str j => obtain ⟨t', rfl⟩ := ry; exact PySem.EqNone.ne_none_str (fin_bl I q (by simp))
    | _ => exact absurd (show false = true from hs) Bool.false_ne_true
  | bl i =>
    cases rx
    cases y with
    | non => cases ry; exact PySem.EqNone.ne_bool_none (fin_bl I q (by simp))
    | bl j => cases ry; exact ne_bool (fin_bl I q (congrArg not dec_bl))
    | str j => obtain ⟨t', rfl⟩ := ry; exact PySem.EqMixed.ne_bool_str (fin_bl I q (by simp))
    | _ => exact absurd (show false = true from hs) Bool.false_ne_true
  | int i =>
    obtain ⟨t, rfl⟩ := rx
    cases y with
    | non => cases ry; exact PySem.EqNone.ne_int_none (fin_bl I q (by simp))
    | int j => obtain ⟨t', rfl⟩ := ry; exact ne_int (fin_bl I q (congrArg not dec_int))
    | str j => obtain ⟨t', rfl⟩ := ry; exact PySem.EqMixed.ne_int_str (fin_bl I q (by simp))
    | _ => exact absurd (show false = true from hs) Bool.false_ne_true
  | str i =>
    obtain ⟨t, rfl⟩ := rx
    cases y with
    | non => cases ry; exact PySem.EqNone.ne_str_none (fin_bl I q (by simp))
    | bl j => cases ry; exact PySem.EqMixed.ne_str_bool (fin_bl I q (by simp))
    | int j => obtain ⟨t', rfl⟩ := ry; exact PySem.EqMixed.ne_str_int (fin_bl I q (by simp))
    | str j => obtain ⟨t', rfl⟩ := ry; exact ne_str (fin_bl I q (congrArg not dec_str))
    | _ => exact absurd (show false = true from hs) Bool.false_ne_true
  | byt i =>
    obtain ⟨t, rfl⟩ := rx
    cases y with
    | byt j => obtain ⟨t', rfl⟩ := ry; exact PySem.W.ne_bytes (fin_bl I q (congrArg not dec_byt))
    | _ => exact absurd (show false = true from hs) Bool.false_ne_true
  | _ => cases y <;> exact absurd (show false = true from hs) Bool.false_ne_true

theorem op_lt : OpR X (compareOp .Lt) (rI0 fun i j => .bl (decide (i < j))) := opB0 fun _ _ _ _ _ _ _ q => lt_int q
theorem op_gt : OpR X (compareOp .Gt) (rI0 fun i j => .bl (decide (j < i))) := opB0 fun _ _ _ _ _ _ _ q => gt_int q
theorem op_ge : OpR X (compareOp .GtE) (rI0 fun i j => .bl (decide (j ≤ i))) := opB0 fun _ _ _ _ _ _ _ q => ge_int q
theorem op_lt_str : OpR X (compareOp .Lt) (fun x y H Q => ∃ i j, x = .str i ∧ y = .str j ∧ Q (.bl (decide (i.cps.toList < j.cps.toList))) H) := by
  intro pins s σ H x y v u Q I rx ry h
  obtain ⟨i, j, rfl, rfl, q⟩ := h
  obtain ⟨t, rfl⟩ := rx
  obtain ⟨t', rfl⟩ := ry
  exact lt_str (fin_bl I q rfl)
/-- is None, is not None: the right side a value none -/
theorem op_isN : OpR X (compareOp .Is) (fun x y H Q => y = .non ∧ Q (.bl (decide (x = .non))) H) := by
  intro pins s σ H x y v u Q I rx ry h
  obtain ⟨rfl, q⟩ := h
  cases ry
  refine is_none_gen (fin_bl I q ?_)
  cases x <;> first
    | (cases rx; rfl)
    | (obtain ⟨t, rfl⟩ := rx; rfl)
theorem op_notN : OpR X (compareOp .IsNot) (fun x y H Q => y = .non ∧ Q (.bl (!decide (x = .non))) H) := by
  intro pins s σ H x y v u Q I rx ry h
  obtain ⟨rfl, q⟩ := h
  cases ry
  refine isnot_none_gen (fin_bl I q ?_)
  cases x <;> first
    | (cases rx; rfl)
    | (obtain ⟨t, rfl⟩ := rx; rfl)

/-- two rules for one operation: by cases -/
theorem OpR.or {f : Value → Value → Sem Value} {r r' : R2} (h : OpR X f r) (h' : OpR X f r') : OpR X f (fun x y H Q => r x y H Q ∨ r' x y H Q) := by
  intro pins s σ H x y v u Q I rx ry q
  rcases q with q | q
  · exact h pins s σ H x y v u Q I rx ry q
  · exact h' pins s σ H x y v u Q I rx ry q

theorem nomark (b : Expr) {op : CmpOp} (h : op ≠ .In := by decide) (h2 : op ≠ .NotIn := by decide) : behindInMarks op b = false := by
  have e1 : (op == CmpOp.In) = false := by cases op <;> first | rfl | exact absurd rfl h
  have e2 : (op == CmpOp.NotIn) = false := by cases op <;> first | rfl | exact absurd rfl h2
  cases b <;> simp [behindInMarks, e1, e2]
/-- a comparison as a value; hm: nomark b, or (for in, not in) by with_unfolding_all rfl -/
theorem pe_cmpR {op : CmpOp} {r : R2} (ho : OpR X (compareOp op) r) (ha : PE X a ta) (hb : PE X b tb) (hm : behindInMarks op b = false) : PE X (.Compare a [op] [b] pos) (tOp r ta tb) := by
  intro pins s σ H Q I h
  exact wpAny_Compare1 (binT ha hb I h fun v u s2 x y H2 I2 rx ry q => ho pins s2 σ H2 x y v u Q I2 rx ry q) hm
/-- a reading of a value as a test -/
def tTest (t : TE) : TT := fun σ H Q => t σ H fun x H' => ∃ k, x = .bl k ∧ Q k H'
theorem pt_cmpR {op : CmpOp} {r : R2} (ho : OpR X (compareOp op) r) (ha : PE X a ta) (hb : PE X b tb) (hm : behindInMarks op b = false) : PT X (.Compare a [op] [b] pos) (tTest (tOp r ta tb)) := by
  intro pins s σ H Q I h
  refine wpAny_isTrue_Compare1 (thn (ha pins s σ H _ I h) fun v s1 ⟨x, H1, I1, r1, q1⟩ => thn (hb pins s1 σ H1 _ I1 q1) fun u s2 ⟨y, H2, I2, r2, q2⟩ =>
    thn (ho pins s2 σ H2 x y v u _ I2 r1 r2 q2) fun c s3 ⟨z, H3, I3, r3, k, e, q3⟩ => ?_) hm
  subst e
  cases r3
  exact wpAny_truthy_bool ⟨H3, I3, q3⟩
/-! ### truth -/
theorem line63 : (sizeLine : Nat) < 2 ^ 63 := by rw [sizeLine_eq]; decide
/-! ### strs and bytes -/
theorem op_add_str : OpR X (binaryOp .Add) (fun x y H Q => ∃ i j, x = .str i ∧ y = .str j ∧ i.length + j.length ≤ sizeLine ∧ Q (.str (i ++ j)) H) := by
  intro pins s σ H x y v u Q I rx ry h
  obtain ⟨i, j, rfl, rfl, hz, q⟩ := h
  obtain ⟨t, rfl⟩ := rx
  obtain ⟨t', rfl⟩ := ry
  exact add_str (fun t' tk => ⟨.str (i ++ j), H, I.tok _, ⟨_, rfl⟩, q⟩) hz
/-! ### scalar builtins, by CallR -/
theorem vals1 {x : V} {us : List Value} (r : Vals [x] us) : ∃ u, us = [u] ∧ RelV x u := by
  cases r with
  | cons r1 r2 => cases r2; exact ⟨_, rfl, r1⟩
theorem vals2 {x y : V} {us : List Value} (r : Vals [x, y] us) : ∃ u w', us = [u, w'] ∧ RelV x u ∧ RelV y w' := by
  cases r with
  | cons r1 r2 =>
    cases r2 with
    | cons r3 r4 => cases r4; exact ⟨_, _, rfl, r1, r3⟩
end
end L2

namespace L2
open PySem PySem.Spec PyProof.Rows

/-! ### an instance, its attributes a map -/
structure ObjM (h : Heap) (x dx C : Addr) (mA : Str → Option Value) : Prop where
  obj : h.get? x = some (PySem.W.instObj C dx)
  ns : h.Ns1 dx mA
  ne : dx ≠ x

theorem lookIn_ns {h : Heap} {dx : Addr} {mA : Str → Option Value} (n : h.Ns1 dx mA) : ∃ od, h.get? dx = some od ∧ ∀ name, PySem.W.lookIn name od = some (mA name) := by
  obtain ⟨o, es, ep, ho, hd, hk, _, hm⟩ := n
  refine ⟨o, ho, fun name => ?_⟩
  have e := hm name
  unfold nsFind findBy at e
  rw [← Array.find?_toList] at e
  unfold PySem.W.lookIn
  rw [hd]
  dsimp only
  split
  · rename_i y q
    rw [q] at e
    exact congrArg some e
  · rename_i q
    rw [q] at e
    have a : es.toList.any (·.refKey) = false := by
      rw [List.any_eq_false]
      intro y hy
      obtain ⟨z, t, hkey⟩ := hk y (Array.mem_toList_iff.mp hy)
      simp [DictEntry.refKey, hkey]
    have a' : ¬ es.toList.any (·.refKey) = true := by rw [a]; exact Bool.false_ne_true
    rw [if_neg a']
    exact congrArg some e

theorem ObjM.look {h : Heap} {x dx C : Addr} {mA : Str → Option Value} (I : ObjM h x dx C mA) : ∃ od, PySem.W.InstAt h x (PySem.W.instObj C dx) C (some od) ∧ ∀ name, PySem.W.lookIn name od = some (mA name) :=
  let ⟨od, ho, hl⟩ := lookIn_ns I.ns
  ⟨od, ⟨I.obj, rfl, rfl, ho⟩, hl⟩

section
variable {prog : Program} {w : World} {A : Around} {E : Value → Shared → Prop} {s : Shared} {K : PySem.W.Frag} {x dx C f : Addr} {mA : Str → Option Value} {name : Str} {v : Value}

theorem get_map {expr : Bool} {Q : Value → Shared → Prop} (X : K.In s.heap) (I : ObjM s.heap x dx C mA) (hg : PySem.W.plainGet K C name = true) (hh : PySem.W.hasDictIn K C = true)
    (ha : PySem.W.findIn K (.ref C) name = some none) (hv : mA name = some v) (hv' : PySem.W.handedIn v = true) (h : Q v { s with toks := s.toks + 1 }) :
    wpAny (model prog w) A (getAttr (.ref x) name expr) Q E s := by
  obtain ⟨od, J, hl⟩ := I.look
  exact PySem.W.get_value X J (PySem.W.plainGet_of hg).1 (PySem.W.findObj_own hh ha rfl (by rw [hl, hv])) hv' h

theorem get_meth {pl : Sem Bool} {Q : Value × List Value → Shared → Prop} (X : K.In s.heap) (I : ObjM s.heap x dx C mA) (hg : PySem.W.plainGet K C name = true)
    (hf : PySem.W.findIn K (.ref C) name = some (some (.ref f))) (ht : PySem.W.isFn K (.ref f) = true) (hv : mA name = none) (h : Q (.ref f, [.ref x]) s) :
    wpAny (model prog w) A (getMethod (.ref x) name pl) Q E s := by
  obtain ⟨od, J, hl⟩ := I.look
  exact PySem.W.method_fn X J (PySem.W.plainGet_of hg).1 (PySem.W.plainGet_of hg).2 hf (beq_iff_eq.mp ht) (by show (PySem.W.lookIn name od).map (·.isSome) = some false; rw [hl, hv]; rfl) h

theorem set_map {ns : List Str} {Q : Unit → Shared → Prop} (X : K.In s.heap) (I : ObjM s.heap x dx C mA)
    (hs : PySem.W.findIn K (.ref C) "__setattr__" = some (some (.builtin "object.__setattr__"))) (hp : PySem.W.plainOver K C = true) (ht : PySem.W.takerIn K C name = some none) (hh : PySem.W.hasDictIn K C = true)
    (hw : PySem.Within mA ns) (hsz : ns.length ≤ sizeLine)
    (h : ∀ h', ObjM h' x dx C (fun y => if y = name then some v else mA y) → Heap.SameBut dx s.heap h' → Q () { s with heap := h', toks := s.toks + 2 }) :
    wpAny (model prog w) A (setAttr (.ref x) name v) Q E s := by
  obtain ⟨od, J, hl⟩ := I.look
  refine PySem.W.set_plain X J hs (PySem.W.osa_open (s := { s with toks := s.toks + 1 }) (r := none) X J hp ht fun b => ?_)
  obtain ⟨cd, hc, hd'⟩ := PySem.W.any_some hh
  have hx : s.heap.get? x = some ⟨.ref C, some dx, .plain, #[]⟩ := I.obj
  refine wpAny_bind (wpAny_pure (wpAny_bind (wpAny_bind (wpAny_loadPart hx (wpAny_bind (PySem.W.Looks.here (s := { s with toks := s.toks + 1 }) (PySem.W.looks_clsIn X hc) ?_))))))
  rw [hd']
  refine wpAny_pure (a := some dx) (wpAny_bind (wpAny_pure (wpAny_bind ?_)))
  refine wpAny_nsSet1 (s := { s with toks := s.toks + 1 }) I.ns fun h' hn2 hs2 => ?_
  obtain ⟨oD, esD, epD, hoD, hdD, hcD⟩ := hn2.count (PySem.Within.cons name v hw)
  refine wpAny_bind (wpAny_lookBehind hoD (by rw [hdD]; exact pastItsLine_dict (Nat.le_trans hcD (by rw [List.length_cons]; omega))) ?_)
  exact wpAny_pure (h _ ⟨(hs2.2 _ (Ne.symm I.ne)).trans I.obj, hn2, I.ne⟩ hs2)

/-- C(..): the dict at the heap's end, the instance behind it; then its __init__ -/
theorem make_map {R : Result → Shared → Prop} {vs : List Value} {kw : List (Str × Value)} (X : K.In s.heap) (hm : PySem.W.makesIn K C = true)
    (hi : PySem.W.findIn K (.ref C) "__init__" = some (some (.ref f))) (hf : PySem.W.typeIn K (.ref f) = some (.type "function"))
    (h : codeAny (model prog w) (A.under (.builtin "type.__call__" ⟨.ref C :: vs, kw⟩)) (.call (.ref f) ⟨.ref (s.heap.objs.size + 1) :: vs, kw⟩) (PySem.W.InitBack (s.heap.objs.size + 1) R)
      { s with heap := (s.heap.push PySem.W.emptyDict).push (PySem.W.instObj C s.heap.objs.size) }) :
    codeAny (model prog w) A (.call (.ref C) ⟨vs, kw⟩) R s := by
  obtain ⟨hh, g, d, t, os⟩ := s
  exact PySem.W.make_core (PySem.W.makes_of X hm) (PySem.W.looks_findIn X hi) (fun self => PySem.W.bind_fn X self hf) (.inl rfl) h
end

/-! ### the attributes as a list of pairs -/
def putF (f : Str) (v : V) : List (Str × V) → List (Str × V)
  | [] => [(f, v)]
  | (g, x) :: r => if g = f then (g, v) :: r else (g, x) :: putF f v r
theorem lookup_putF (f g : Str) (v : V) : ∀ fs : List (Str × V), (putF f v fs).lookup g = if g = f then some v else fs.lookup g
  | [] => by
    show List.lookup g [(f, v)] = _
    by_cases h : g = f
    · have hb : (g == f) = true := beq_iff_eq.mpr h
      simp only [List.lookup, hb, if_pos h]
    · have hb : (g == f) = false := beq_eq_false_iff_ne.mpr h
      simp only [List.lookup, hb, if_neg h]
  | (k, x) :: r => by
    have ih := lookup_putF f g v r
    rw [show putF f v ((k, x) :: r) = (if k = f then (k, v) :: r else (k, x) :: putF f v r) from rfl]
    by_cases hk : k = f
    · rw [if_pos hk]
      by_cases h : g = k
      · have hb : (g == k) = true := beq_iff_eq.mpr h
        simp only [List.lookup, hb, if_pos (h.trans hk)]
      · have hb : (g == k) = false := beq_eq_false_iff_ne.mpr h
        simp only [List.lookup, hb, if_neg (fun e : g = f => h (e.trans hk.symm))]
    · rw [if_neg hk]
      by_cases h : g = k
      · have hb : (g == k) = true := beq_iff_eq.mpr h
        simp only [List.lookup, hb, if_neg (fun e : g = f => hk (h.symm.trans e))]
      · have hb : (g == k) = false := beq_eq_false_iff_ne.mpr h
        simp only [List.lookup, hb]
        exact ih
theorem keys_putF (f : Str) (v : V) : ∀ fs : List (Str × V), f ∈ (putF f v fs).map (·.1) ∧ ∀ g, g ∈ fs.map (·.1) → g ∈ (putF f v fs).map (·.1)
  | [] => ⟨by simp [putF], fun g h => by simp at h⟩
  | (k, x) :: r => by
    obtain ⟨i1, i2⟩ := keys_putF f v r
    rw [show putF f v ((k, x) :: r) = (if k = f then (k, v) :: r else (k, x) :: putF f v r) from rfl]
    by_cases hk : k = f
    · rw [if_pos hk]
      subst hk
      exact ⟨by simp, fun g h => by simpa using h⟩
    · rw [if_neg hk]
      refine ⟨?_, fun g h => ?_⟩
      · rw [List.map_cons]
        exact List.mem_cons_of_mem _ i1
      · rw [List.map_cons] at h ⊢
        rcases List.mem_cons.mp h with e | e
        · exact List.mem_cons.mpr (.inl e)
        · exact List.mem_cons_of_mem _ (i2 g e)
theorem length_putF (f : Str) (v : V) : ∀ fs : List (Str × V), (putF f v fs).length ≤ fs.length + 1
  | [] => by simp [putF]
  | (k, x) :: r => by
    have ih := length_putF f v r
    rw [show putF f v ((k, x) :: r) = (if k = f then (k, v) :: r else (k, x) :: putF f v r) from rfl]
    by_cases hk : k = f
    · rw [if_pos hk, List.length_cons, List.length_cons]; omega
    · rw [if_neg hk, List.length_cons, List.length_cons]; omega

theorem RelO.some_of {v : V} {o : Option Value} (r : RelO (some v) o) : ∃ u, o = some u ∧ RelV v u := by
  cases o with
  | none => exact (show False from r).elim
  | some u => exact ⟨u, rfl, r⟩
theorem RelO.none_of {o : Option Value} (r : RelO none o) : o = none := by
  cases o with
  | none => rfl
  | some u => exact (show False from r).elim
theorem handed_of {v : V} {u : Value} (r : RelV v u) : PySem.W.handedIn u = true := by
  cases v with
  | non => cases (show u = Value.none from r); rfl
  | bl b => cases (show u = Value.bool b from r); rfl
  | int i => obtain ⟨t, e⟩ := (show ∃ t, u = Value.int i t from r); cases e; rfl
  | str x => obtain ⟨t, e⟩ := (show ∃ t, u = Value.str x t from r); cases e; rfl
  | byt b => obtain ⟨t, e⟩ := (show ∃ t, u = Value.bytes b t from r); cases e; rfl
  | flt b => obtain ⟨t, e⟩ := (show ∃ t, u = Value.float b t from r); cases e; rfl
  | ref a => cases (show u = Value.ref a from r); rfl
  | ty n => cases (show u = Value.type n from r); rfl

section
variable {P : Program} {w : World} {H H' : Hp} {h h' : Heap} {a C dx : Addr} {fs fs' : List (Str × V)}
theorem ins_get (hok : HOk P w H h) (e : H a = some (.ins C dx fs)) : ∃ mA, ObjM h a dx C mA ∧ (∀ f, RelO (fs.lookup f) (mA f)) ∧ PySem.Within mA (fs.map (·.1)) ∧ fs.length ≤ 1000 ∧ H dx = some (.own a) := by
  obtain ⟨d, z, ne, ob, mA, n, r, q⟩ := (show ObjOk P w H h a (.ins C dx fs) from hok a _ e)
  exact ⟨mA, ⟨ob, n, ne⟩, r, q, z, d⟩
end

/-! ### what of the text a class must have -/
structure Cls (K : PySem.W.Frag) (C : Addr) : Prop where
  pg : PySem.W.plainGet K C Str.empty = true
  hd : PySem.W.hasDictIn K C = true
  po : PySem.W.plainOver K C = true
  sa : PySem.W.findIn K (.ref C) "__setattr__" = some (some (.builtin "object.__setattr__"))
theorem Cls.get {K : PySem.W.Frag} {C : Addr} (c : Cls K C) (f : Str) : PySem.W.plainGet K C f = true := c.pg
/-- no class of it has the name -/
def NoAttr (K : PySem.W.Frag) (C : Addr) (f : Str) : Prop := PySem.W.findIn K (.ref C) f = some none
theorem NoAttr.taker {K : PySem.W.Frag} {C : Addr} {f : Str} (n : NoAttr K C f) : PySem.W.takerIn K C f = some none := by
  unfold PySem.W.takerIn
  rw [show PySem.W.findIn K (.ref C) f = some none from n]
  rfl
/-- a constant of the class -/
structure Con (K : PySem.W.Frag) (C : Addr) (f : Str) (v : V) (u : Value) : Prop where
  at_ : PySem.W.findIn K (.ref C) f = some (some u)
  rel : RelV v u
  get : PySem.W.specialIn K u "__get__" = some none
  cp : PySem.W.copiedNames.contains f = false
/-- a method: a plain def of the class or of one above it -/
structure Meth (K : PySem.W.Frag) (C : Addr) (m : Str) (f : Addr) : Prop where
  at_ : PySem.W.findIn K (.ref C) m = some (some (.ref f))
  fn : PySem.W.isFn K (.ref f) = true
  kp : PySem.W.keepIn K (.ref f) = true

section
variable {X : Cx} {pins : List (Addr × Obj)} {σ : St} {H : Hp} {s : Shared} {a C dx : Addr} {fs : List (Str × V)} {f : Str} {v : V} {A : Around} {E : Value → Shared → Prop}

theorem getattr_ok {b : Bool} {Q : Value → Shared → Prop} (I : Inv X pins σ H s) (e : H a = some (.ins C dx fs)) (c : Cls X.K C) (n : NoAttr X.K C f) (l : fs.lookup f = some v)
    (h : ∀ u s', Inv X pins σ H s' → RelV v u → Q u s') : wpAny (model X.prog X.w) A (getAttr (.ref a) f b) Q E s := by
  obtain ⟨mA, O, r, _, _, _⟩ := ins_get I.hok e
  obtain ⟨u, hu, ru⟩ := RelO.some_of (v := v) (o := mA f) (by rw [← l]; exact r f)
  exact get_map I.kIn O (c.get f) c.hd n hu (handed_of ru) (h u _ (I.tok _) ru)

theorem getmeth_ok {m : Str} {g : Addr} {pl : Sem Bool} {Q : Value × List Value → Shared → Prop} (I : Inv X pins σ H s) (e : H a = some (.ins C dx fs)) (c : Cls X.K C) (k : Meth X.K C m g) (l : fs.lookup m = none)
    (h : Q (.ref g, [.ref a]) s) : wpAny (model X.prog X.w) A (getMethod (.ref a) m pl) Q E s := by
  obtain ⟨mA, O, r, _, _, _⟩ := ins_get I.hok e
  have hn : mA m = none := RelO.none_of (by rw [← l]; exact r m)
  exact get_meth I.kIn O (c.get m) k.at_ k.fn hn h

theorem setattr_ok {y : V} {u : Value} {Q : Unit → Shared → Prop} (I : Inv X pins σ H s) (e : H a = some (.ins C dx fs)) (c : Cls X.K C) (n : NoAttr X.K C f) (hl : fs.length < 1000) (ry : RelV y u)
    (h : ∀ s', Inv X pins σ (upd H a (.ins C dx (putF f y fs))) s' → Q () s') : wpAny (model X.prog X.w) A (setAttr (.ref a) f u) Q E s := by
  obtain ⟨mA, O, r, wi, _, ho⟩ := ins_get I.hok e
  have hz : (fs.map (·.1)).length ≤ sizeLine := by rw [List.length_map, sizeLine_eq]; omega
  refine set_map I.kIn O c.sa c.po n.taker c.hd wi hz fun h' O' sb => h _ ?_
  have hd : ∃ o, h'.get? dx = some o := let ⟨o, _, _, e', _⟩ := O'.ns; ⟨o, e'⟩
  refine I.write (x := a) (e := dx) (by rw [e]; exact True.intro) (.inr ho) (fun b q hb z => (sb.2 b hb).trans z) hd ?_
  refine ⟨by rw [upd_ne O.ne]; exact ho, ?_, O.ne, O'.obj, _, O'.ns, fun g => ?_, fun g hg => ?_⟩
  · have := length_putF f y fs; omega
  · show RelO ((putF f y fs).lookup g) (if g = f then some u else mA g)
    rw [lookup_putF]
    by_cases q : g = f
    · rw [if_pos q, if_pos q]; exact ry
    · rw [if_neg q, if_neg q]; exact r g
  · by_cases q : g = f
    · rw [q]; exact (keys_putF f y fs).1
    · refine (keys_putF f y fs).2 g (wi g fun z => hg ?_)
      show (if g = f then some u else mA g) = none
      rw [if_neg q]; exact z

/-- a new instance, tracked, without attributes -/
theorem Inv.made (I : Inv X pins σ H s) : Inv X pins σ (upd (upd H s.heap.objs.size (.own (s.heap.objs.size + 1))) (s.heap.objs.size + 1) (.ins C s.heap.objs.size []))
    { s with heap := (s.heap.push PySem.W.emptyDict).push (PySem.W.instObj C s.heap.objs.size) } := by
  have e1 : (s.heap.push PySem.W.emptyDict).get? s.heap.objs.size = some PySem.W.emptyDict := Heap.get?_push_size s.heap rfl
  have e2 : ((s.heap.push PySem.W.emptyDict).push (PySem.W.instObj C s.heap.objs.size)).get? (s.heap.objs.size + 1) = some (PySem.W.instObj C s.heap.objs.size) := by
    have := Heap.get?_push_size (s.heap.push PySem.W.emptyDict) (o := PySem.W.instObj C s.heap.objs.size) rfl
    rwa [Heap.size_push] at this
  have e3 : (s.heap.push PySem.W.emptyDict).Ns s.heap.objs.size (fun _ => none) := ⟨PySem.W.emptyDict, #[], _, e1, rfl, (fun e he => absurd he (by simp)), fun _ => rfl⟩
  have I1 := I.laid (a := s.heap.objs.size) (o := .own (s.heap.objs.size + 1)) (h' := s.heap.push PySem.W.emptyDict) (t' := s.toks) (fun b u q => Heap.get?_push_of_some _ q) (Nat.le_refl _) ⟨_, e1⟩
  refine I1.laid (a := s.heap.objs.size + 1) (o := .ins C s.heap.objs.size []) (t' := s.toks) (fun b u q => Heap.get?_push_of_some _ q) (Nat.le_of_eq (Heap.size_push _ _)) ?_
  have ne : s.heap.objs.size ≠ s.heap.objs.size + 1 := Nat.ne_of_lt (Nat.lt_succ_self _)
  refine ⟨by rw [upd_ne ne, upd_same], Nat.zero_le _, ne, e2, fun _ => none, (Heap.Ns1.of_empty e3).at fun o q => Heap.get?_push_of_some _ q, fun _ => True.intro, fun y hy => absurd rfl hy⟩

/-- e.f where nothing but the object is asked: through attributeBase (super) and the last hold -/
theorem attr_of {prog : Program} {w : World} {env : Env} {e : Expr} {f : Str} {pos : Pos} {s : Shared} {Q : Value → Shared → Prop} (hb : attributeBase e f env (eval e env) = eval e env)
    (h : wpAny (model prog w) A (eval e env) (fun o s₁ => wpAny (model prog w) A (getAttr o f true) Q E s₁) E s) : wpAny (model prog w) A (eval (.Attribute e f pos) env) Q E s :=
  Attribute_any_ h (by rw [arm_eval_Attribute, hb])
end

/-! ### readings and rules -/
section
variable {X : Cx} {o e value : Expr} {f : Str} {pos pos' tpos : Pos} {ta tv : TE}
end

/-! ### isinstance -/
section
variable {X : Cx} {pins : List (Addr × Obj)} {σ : St} {H : Hp} {s : Shared} {A : Around} {E : Value → Shared → Prop} {Q : Value → Shared → Prop} {c : Value} {b : Bool}
/-- the type of a value, as the fragment's deciders take it; for an instance its class -/
inductive TyOf (K : PySem.W.Frag) (H : Hp) : V → Value → Prop where
  | non : TyOf K H .non (.type "NoneType")
  | bl (x : Bool) : TyOf K H (.bl x) (.type "bool")
  | int (i : Int) : TyOf K H (.int i) (.type "int")
  | str (x : Str) : TyOf K H (.str x) (.type "str")
  | flt (x : UInt64) : TyOf K H (.flt x) (.type "float")
  | lst {a : Addr} {xs : List V} (e : H a = some (.lst xs)) : TyOf K H (.ref a) (.type "list")
  | frz {a : Addr} {o : Obj} {xs : List V} (e : H a = some (.frz o (.lst xs))) : TyOf K H (.ref a) (.type "list")
  | tup {a : Addr} {xs : List V} (e : H a = some (.tup xs)) : TyOf K H (.ref a) (.type "tuple")
  | dK {a : Addr} {kvs : List (Key × V)} (e : H a = some (.dK kvs)) : TyOf K H (.ref a) (.type "dict")
  | dT {a : Addr} {kvs : List (List Key × V)} (e : H a = some (.dT kvs)) : TyOf K H (.ref a) (.type "dict")
  | ins {a C dx : Addr} {fs : List (Str × V)} (e : H a = some (.ins C dx fs)) (cl : Cls K C) (ha : PySem.W.findIn K (.ref C) "__class__" = some (some (.builtin "object.__class__")))
      (hn : PySem.W.specialIn K (.builtin "object.__class__") "__get__" = some (some (.builtin "getset_descriptor.__get__"))) (htk : PySem.W.takesIn K (.builtin "object.__class__") = some true)
      (hm : PySem.W.mroIn K C (.type "object") = some true) : TyOf K H (.ref a) (.ref C)
/-- isinstance(x, c) for one class c, a built-in or an own one: kitOne's answer -/
theorem isinst_ok {x : V} {u t : Value} (I : Inv X pins σ H s) (rx : RelV x u) (ty : TyOf X.K H x t) (e : PySem.W.kitOne X.K t c = some b) (h : ∀ tk, Q (.bool b) { s with toks := tk }) :
    wpAny (model X.prog X.w) A (call (.builtin "isinstance") [u, c]) Q E s := by
  cases ty with
  | non => cases (show u = Value.none from rx); exact PySem.W.kia_one PySem.W.kitx_none I.kIn True.intro e (fun z => nomatch z) h
  | bl y => cases (show u = Value.bool y from rx); exact PySem.W.kia_one PySem.W.kitx_bool I.kIn True.intro e (fun z => nomatch z) h
  | int i => obtain ⟨t, q⟩ := (show ∃ t, u = Value.int i t from rx); cases q; exact PySem.W.kia_one PySem.W.kitx_int I.kIn True.intro e (fun z => nomatch z) h
  | str y => obtain ⟨t, q⟩ := (show ∃ t, u = Value.str y t from rx); cases q; exact PySem.W.kia_one PySem.W.kitx_str I.kIn True.intro e (fun z => nomatch z) h
  | flt y => obtain ⟨t, q⟩ := (show ∃ t, u = Value.float y t from rx); cases q; exact PySem.W.kia_one PySem.W.kitx_float I.kIn True.intro e (fun z => nomatch z) h
  | @lst a xs ea =>
    cases (show u = Value.ref a from rx)
    obtain ⟨_, _, n, _, h1⟩ := (show ObjOk X.prog X.w H s.heap a (.lst xs) from I.hok a _ ea)
    exact PySem.W.kia_one PySem.W.kitx_list I.kIn ⟨_, h1, rfl⟩ e (fun z => nomatch z) h
  | @frz a ob xs ea =>
    cases (show u = Value.ref a from rx)
    obtain ⟨_, _, _, n, _, h1⟩ := (show ObjOk X.prog X.w H s.heap a (.frz ob (.lst xs)) from I.hok a _ ea)
    exact PySem.W.kia_one PySem.W.kitx_list I.kIn ⟨_, h1, rfl⟩ e (fun z => nomatch z) h
  | @tup a xs ea =>
    cases (show u = Value.ref a from rx)
    obtain ⟨_, _, _, p⟩ := (show ObjOk X.prog X.w H s.heap a (.tup xs) from I.hok a _ ea)
    obtain ⟨o, h1, h2, _⟩ := p
    exact PySem.W.kia_one PySem.W.kitx_tuple I.kIn ⟨o, h1, h2⟩ e (fun z => nomatch z) h
  | @dK a kvs ea =>
    cases (show u = Value.ref a from rx)
    obtain ⟨_, _, vs, _, p⟩ := (show ObjOk X.prog X.w H s.heap a (.dK kvs) from I.hok a _ ea)
    obtain ⟨o, es, ep, h1, h2, _⟩ := p
    exact PySem.W.kia_one PySem.W.kitx_dict I.kIn ⟨o, h1, h2.1⟩ e (fun z => nomatch z) h
  | @dT a kvs ea =>
    cases (show u = Value.ref a from rx)
    obtain ⟨_, _, xs, _, o, es, ep, h1, h2, _⟩ := (show ObjOk X.prog X.w H s.heap a (.dT kvs) from I.hok a _ ea)
    exact PySem.W.kia_one PySem.W.kitx_dict I.kIn ⟨o, h1, h2.1⟩ e (fun z => nomatch z) h
  | @ins a C dx fs ea cl ha hn htk hm =>
    cases (show u = Value.ref a from rx)
    obtain ⟨mA, O, _⟩ := ins_get I.hok ea
    obtain ⟨od, J, _⟩ := O.look
    exact PySem.W.kia_one (PySem.W.kitx_own (cl.get _) cl.hd ha hn htk hm) I.kIn J e (fun z => nomatch z) h
end
end L2

namespace L2
open PySem PySem.Spec PyProof.Rows

/-! ### room -/
structure Room (k : Nat) (A : Around) : Prop where
  hd : A.handled = none
  dp : A.depth + 3 * k + 5 < recursionLimit
  un : A.units + 16 * k + 200 < cLine
theorem Room.mono {j k : Nat} {A : Around} (r : Room k A) (h : j ≤ k) : Room j A := ⟨r.hd, by have := r.dp; omega, by have := r.un; omega⟩
theorem Room.deeper {k : Nat} {A : Around} (r : Room (k + 1) A) (env : Env) : Room k (A.deeper env) :=
  ⟨r.hd, by have := r.dp; show A.depth + 1 + 3 * k + 5 < _; omega, by have := r.un; show A.units + 3 + 16 * k + 200 < _; omega⟩
theorem Room.in1 {k : Nat} {A : Around} (r : Room (k + 1) A) : Room k A.in1 :=
  ⟨r.hd, by have := r.dp; show A.depth + 3 * k + 5 < _; omega, by have := r.un; show A.units + 1 + 16 * k + 200 < _; omega⟩
theorem make_depth {A : Around} {C : Addr} {us : List Value} {kw : List (Str × Value)} : (A.under (.builtin "type.__call__" ⟨.ref C :: us, kw⟩)).depth = A.depth + 1 := by
  first | rfl | simp [Around.under, Code.weight, Code.isCreation, Code.isGuard, Code.isCaller, Code.frames, Code.isFrame, guardIds]
theorem make_units {A : Around} {C : Addr} {us : List Value} {kw : List (Str × Value)} : (A.under (.builtin "type.__call__" ⟨.ref C :: us, kw⟩)).units = A.units + 1 := by
  first | rfl | simp [Around.under, Code.cUnits, Code.frames, Code.isFrame]
theorem Room.make {k : Nat} {A : Around} (r : Room (k + 1) A) (C : Addr) (us : List Value) (kw : List (Str × Value)) : Room k (A.under (.builtin "type.__call__" ⟨.ref C :: us, kw⟩)) :=
  ⟨r.hd, by have := r.dp; rw [make_depth]; omega, by have := r.un; rw [make_units]; omega⟩
theorem Room.depth {k : Nat} {A : Around} (r : Room k A) : A.depth < recursionLimit := by have := r.dp; omega
theorem Room.units {k : Nat} {A : Around} (r : Room k A) : A.units + 64 < cLine := by have := r.un; omega
/-! ### argument lists and displays -/
def tNil : TA := fun _ H Q => Q [] H
def tCons (ta : TE) (tr : TA) : TA := fun σ H Q => ta σ H fun x H1 => tr σ H1 fun xs H2 => Q (x :: xs) H2
section
variable {X : Cx} {e : Expr} {es : List Expr} {te : TE} {t : TA} {pos : Pos}
theorem pa_nil : PA X [] tNil := fun _ _ _ _ H Q I h => Calls.spliced_nil ⟨[], H, I, .nil, h⟩
theorem pa_cons (ha : PE X e te) (hr : PA X es t) (hs : starEach (e :: es) X.env = (false, eval e X.env) :: starEach es X.env := by rfl) : PA X (e :: es) (tCons te t) := by
  intro pos pins s σ H Q I h
  rw [hs]
  show wpAny _ _ (spliced ((false, eval e X.env) :: backTo pos (starEach es X.env))) _ _ s
  refine Calls.spliced_cons (thn (ha pins s σ H _ I h) fun u s1 ⟨x, H1, I1, r1, q1⟩ => ?_)
  exact thn (hr pos pins s1 σ H1 _ I1 q1) fun us s2 ⟨xs, H2, I2, r2, q2⟩ => ⟨x :: xs, H2, I2, .cons r1 r2, q2⟩

/-- a tuple, a list of written items -/
def tTup (t : TA) : TE := fun σ H Q => t σ H fun xs H1 => xs.length ≤ sizeLine ∧ ∀ p, H1 p = none → Q (.ref p) (upd H1 p (.tup xs))
def tLst (t : TA) : TE := fun σ H Q => t σ H fun xs H1 => xs.length ≤ sizeLine ∧ ∀ p, H1 p = none → Q (.ref p) (upd H1 p (.lst xs))
theorem pe_tup {x1} (h : PA X es t) : PE X (.Tuple es x1 pos) (tTup t) := by
  intro pins s σ H Q I hq
  refine wpAny_Tuple_spliced (thn (h pos pins s σ H _ I hq) fun us s1 ⟨xs, H1, I1, r, z, q⟩ => ⟨by rw [← r.length]; exact z, ?_⟩)
  have hf : H1 s1.heap.objs.size = none := I1.hok.fresh (Nat.le_refl _)
  refine ⟨.ref s1.heap.objs.size, upd H1 s1.heap.objs.size (.tup xs), I1.laid (t' := s1.toks) (fun b u e => Heap.get?_push_of_some _ e) (Nat.le_refl _) ?_, rfl, q _ hf⟩
  exact ⟨z, us, r, ⟨_, Heap.get?_push_size _ rfl, rfl, _, rfl⟩⟩
theorem pe_lst (h : PA X es t) : PE X (.List es pos) (tLst t) := by
  intro pins s σ H Q I hq
  refine wpAny_List_spliced (thn (h pos pins s σ H _ I hq) fun us s1 ⟨xs, H1, I1, r, z, q⟩ => ⟨by rw [← r.length]; exact z, ?_⟩)
  have hf : H1 s1.heap.objs.size = none := I1.hok.fresh (Nat.le_refl _)
  refine ⟨.ref s1.heap.objs.size, upd H1 s1.heap.objs.size (.lst xs), I1.laid (t' := s1.toks) (fun b u e => Heap.get?_push_of_some _ e) (Nat.le_refl _) ?_, rfl, q _ hf⟩
  exact ⟨z, us, 0, r, Heap.get?_push_size _ rfl⟩
end

/-! ### what a def promises -/
/-- a def's promise: the bound arguments in the parameters' order, the heap, the wanted end, the wanted exception -/
abbrev Sp := List V → Hp → VK → XK → Prop
/-- how an exception lies behind a call (file 08 gives it): the callers' frames, abstract heap and state ahead of the call, the wish, the exception, the state -/
abbrev CXT := List Env → Hp → Shared → XK → Value → Shared → Prop

/-- the state at a call -/
structure Env0 (P : Program) (w : World) (K : PySem.W.Frag) (mg : Str → Option Value) (base : Heap) (A : Around) (outer : List Env) (s : Shared) (H : Hp) : Prop where
  frames : A.frames = some outer
  mod : Mod K mg base
  bs : ∀ b o, base.get? b = some o → s.heap.get? b = some o ∧ H b = none
  bsz : base.objs.size ≤ s.heap.objs.size
  funs : s.heap.FunFrames base outer
  frf : ∀ b ∈ frs outer, H b = none
  hok : HOk P w H s.heap
  bare : AllBare s.gens
/-- a call's end -/
def CE (outer : List Env) (P : Program) (w : World) (H : Hp) (s : Shared) (Q : VK) (u : Value) (s' : Shared) : Prop :=
  ∃ v H', s'.os = s.os ∧ AllBare s'.gens ∧ Un (frs outer) [] H H' s.heap s'.heap ∧ HOk P w H' s'.heap ∧ RelV v u ∧ Q v H'
def CR (CX : CXT) (outer : List Env) (P : Program) (w : World) (H : Hp) (s : Shared) (Q : VK) (E : XK) (r : Result) (s' : Shared) : Prop :=
  match r with
  | .ok (.ret u) => CE outer P w H s Q u s'
  | .ok _ => False
  | .error e => CX outer H s E e s'
structure FnOk (P : Program) (w : World) (K : PySem.W.Frag) (mg : Str → Option Value) (base : Heap) (CX : CXT) (k : Nat) (f : Addr) (fd : FuncData) (ps : List Str) (sp : Sp) : Prop where
  len : ∀ vs H Q E, sp vs H Q E → vs.length = ps.length
  run : ∀ (A : Around) (outer : List Env) (s : Shared) (H : Hp) (args : Args) (us : List Value) (vs : List V) (Q : VK) (E : XK), Room k A → Env0 P w K mg base A outer s H → BindsTo s fd args (ps.zip us) → Vals vs us → sp vs H Q E →
    codeAny (model P w) A (.call (.ref f) args) (CR CX outer P w H s Q E) s
theorem FnOk.mono {P : Program} {w : World} {K : PySem.W.Frag} {mg : Str → Option Value} {base : Heap} {CX : CXT} {j k : Nat} {f : Addr} {fd : FuncData} {ps : List Str} {sp : Sp} (F : FnOk P w K mg base CX j f fd ps sp) (h : j ≤ k) :
    FnOk P w K mg base CX k f fd ps sp := ⟨F.len, fun A outer s H args us vs Q E hr => F.run A outer s H args us vs Q E (hr.mono h)⟩
/-- a weaker promise -/
theorem FnOk.imp {P : Program} {w : World} {K : PySem.W.Frag} {mg : Str → Option Value} {base : Heap} {CX : CXT} {k : Nat} {f : Addr} {fd : FuncData} {ps : List Str} {sp sp' : Sp} (F : FnOk P w K mg base CX k f fd ps sp)
    (h : ∀ vs H Q E, sp' vs H Q E → sp vs H Q E) : FnOk P w K mg base CX k f fd ps sp' :=
  ⟨fun vs H Q E q => F.len vs H Q E (h _ _ _ _ q), fun A outer s H args us vs Q E hr he hb hv hs => F.run A outer s H args us vs Q E hr he hb hv (h _ _ _ _ hs)⟩

theorem Env0.make {P : Program} {w : World} {K : PySem.W.Frag} {mg : Str → Option Value} {base : Heap} {A : Around} {outer : List Env} {s : Shared} {H : Hp} (e : Env0 P w K mg base A outer s H) (C : Addr) (us : List Value) (kw : List (Str × Value)) :
    Env0 P w K mg base (A.under (.builtin "type.__call__" ⟨.ref C :: us, kw⟩)) outer s H := ⟨by first | exact e.frames | (simpa [Around.under, Code.envs, Code.isFrame, pushEnvs] using e.frames), e.mod, e.bs, e.bsz, e.funs, e.frf, e.hok, e.bare⟩
theorem Env0.in1 {P : Program} {w : World} {K : PySem.W.Frag} {mg : Str → Option Value} {base : Heap} {A : Around} {outer : List Env} {s : Shared} {H : Hp} (e : Env0 P w K mg base A outer s H) :
    Env0 P w K mg base A.in1 outer s H := ⟨e.frames, e.mod, e.bs, e.bsz, e.funs, e.frf, e.hok, e.bare⟩

section
variable {X : Cx} {pins : List (Addr × Obj)} {σ : St} {H : Hp} {s s' : Shared}
/-- from a body: what a callee wants -/
theorem Inv.env0 (I : Inv X pins σ H s) : Env0 X.prog X.w X.K X.mg X.base X.A X.stack s H :=
  ⟨I.ok.frames, I.ok.mod, I.bs, Nat.le_trans I.ok.bsz I.sz, I.stack, I.stkFree, I.hok, I.bare⟩
/-- behind a call -/
theorem Inv.after {Q : VK} {u : Value} (I : Inv X pins σ H s) (h : CE X.stack X.prog X.w H s Q u s') : EP X pins σ Q u s' := by
  obtain ⟨v, H', os, bare, un, hok, r, q⟩ := h
  obtain ⟨hh, g, d, t, os'⟩ := s'
  obtain rfl : os' = s.os := os
  exact ⟨v, H', I.call (h' := hh) (g' := g) (d' := d) (t' := t) (ch := []) un hok bare (fun b z => absurd z (by simp)), r, q⟩
end

/-! ### calls -/
/-- f(..): the written arguments, then the defaults dvs; E: what is wanted of an exception -/
def tCall (sp : Sp) (dvs : List V) (E : XK) (t : TA) : TE := fun σ H Q => t σ H fun vs H1 => sp (vs ++ dvs) H1 Q E
/-- how the parameters are bound: us the positional arguments, kw the keywords' values by name, ds the defaults that fill up -/
def Binds (K : PySem.W.Frag) (fd : FuncData) (ps : List Str) (ds : List Value) : Prop :=
  ∀ (s : Shared) (us : List Value), K.In s.heap → (us ++ ds).length = ps.length → BindsTo s fd ⟨us, []⟩ (ps.zip (us ++ ds))
/-- every parameter is given -/
theorem Binds.all {K : PySem.W.Frag} {fd : FuncData} {ps : List Str} (h : ∀ us : List Value, us.length = ps.length → bindArgs fd ⟨us, []⟩ = pure (ps.zip us)) : Binds K fd ps [] := fun s us _ hl => by
  rw [List.append_nil] at hl ⊢
  exact .of_eq (h us hl)

/-- an exception of a callee reaches what this body wants of exceptions -/
def Passes (CX : CXT) (X : Cx) (E : XK) : Prop := ∀ (pins : List (Addr × Obj)) (σ : St) (H : Hp) (s : Shared) (e : Value) (s' : Shared), Inv X pins σ H s → CX X.stack H s E e s' → X.xe e s'

section
variable {X : Cx} {CX : CXT} {k : Nat} {f C : Addr} {fd : FuncData} {ps : List Str} {sp : Sp} {dvs : List V} {ds : List Value} {E : XK} {x m : Str} {p pos apos : Pos} {e o : Expr} {es : List Expr} {ta : TE} {t : TA}

/-- the callee runs -/
theorem run_fn {pins : List (Addr × Obj)} {σ : St} {H : Hp} {s : Shared} {Q : VK} {us : List Value} {vs : List V} (F : FnOk X.prog X.w X.K X.mg X.base CX k f fd ps sp) (hr : Room k X.A) (hb : Binds X.K fd ps ds) (hd : Vals dvs ds) (hx : Passes CX X E)
    (I : Inv X pins σ H s) (r : Vals vs us) (h : sp (vs ++ dvs) H Q E) : wpAny (model X.prog X.w) X.A (call (.ref f) us) (EP X pins σ Q) X.xe s := by
  have r2 : Vals (vs ++ dvs) (us ++ ds) := r.append hd
  have hl : (us ++ ds).length = ps.length := by rw [← r2.length]; exact F.len _ _ _ _ h
  refine wpAny_call (codeAny_mono (F.run X.A X.stack s H ⟨us, []⟩ (us ++ ds) (vs ++ dvs) Q E hr I.env0 (hb s us I.kIn hl) r2 h) fun r s' hq => ?_)
  cases r with
  | error e => exact hx pins σ H s e s' I hq
  | ok fl =>
    cases fl with
    | ret u => exact I.after hq
    | next => exact False.elim hq
    | brk => exact False.elim hq
    | cont => exact False.elim hq

theorem pe_call (F : FnOk X.prog X.w X.K X.mg X.base CX k f fd ps sp) (hr : Room k X.A) (hg : Gl X x) (hm : X.mg x = some (.ref f)) (hk : PySem.W.keepIn X.K (.ref f) = true) (hb : Binds X.K fd ps ds) (hd : Vals dvs ds) (hx : Passes CX X E)
    (ha : PA X (e :: es) t) (hdb : (x == ("__debug__" : Str)) = false := by decide) (he : starEach (e :: es) X.env = (false, eval e X.env) :: starEach es X.env := by rfl) (hpl : (backTo pos (starEach es X.env)).any (·.1) = false := by rfl) :
    PE X (.Call (.Name x p) (e :: es) [] pos) (tCall sp dvs E t) := by
  intro pins s σ H Q I h
  refine wpAny_Call_Name_kw (ld_glob I hg hm ?_ hdb)
  refine PySem.W.callWith_K (h₀ := X.base) I.ok.mod.kin hk (thn (ha pos pins s σ H _ I h) fun us s1 ⟨vs, H1, I1, r, q⟩ => ⟨I1.kIn, ?_⟩) he hpl
  exact run_fn F hr hb hd hx I1 r q
/-- what a class must have to be made -/
structure Mk (K : PySem.W.Frag) (C f : Addr) : Prop where
  makes : PySem.W.makesIn K C = true
  init : PySem.W.findIn K (.ref C) "__init__" = some (some (.ref f))
  fn : PySem.W.isFn K (.ref f) = true
  kp : PySem.W.keepIn K (.ref C) = true

theorem run_make {pins : List (Addr × Obj)} {σ : St} {H : Hp} {s : Shared} {Q : VK} {us : List Value} {vs : List V} (M : Mk X.K C f) (F : FnOk X.prog X.w X.K X.mg X.base CX k f fd ps sp) (hr : Room (k + 1) X.A) (hb : Binds X.K fd ps ds) (hd : Vals dvs ds)
    (hx : Passes CX X E) (I : Inv X pins σ H s) (r : Vals vs us)
    (h : ∀ x dx, H x = none → H dx = none → dx ≠ x → sp (.ref x :: (vs ++ dvs)) (upd (upd H dx (.own x)) x (.ins C dx [])) (fun v H2 => v = .non ∧ Q (.ref x) H2) E) :
    wpAny (model X.prog X.w) X.A (call (.ref C) us) (EP X pins σ Q) X.xe s := by
  have hq := h (s.heap.objs.size + 1) s.heap.objs.size (I.hok.fresh (Nat.le_succ _)) (I.hok.fresh (Nat.le_refl _)) (Nat.ne_of_lt (Nat.lt_succ_self _))
  have I2 := Inv.made (C := C) I
  have r2 : Vals (V.ref (s.heap.objs.size + 1) :: (vs ++ dvs)) (Value.ref (s.heap.objs.size + 1) :: (us ++ ds)) := .cons rfl (r.append hd)
  have hl : (Value.ref (s.heap.objs.size + 1) :: us ++ ds).length = ps.length := by
    have e := r2.length
    rw [F.len _ _ _ _ hq] at e
    exact e.symm
  refine wpAny_call (make_map (f := f) I.kIn M.makes M.init (beq_iff_eq.mp M.fn) (codeAny_mono (F.run _ X.stack _ _ ⟨Value.ref (s.heap.objs.size + 1) :: us, []⟩ (Value.ref (s.heap.objs.size + 1) :: (us ++ ds)) _ _ E (hr.make C us [])
    (I2.env0.make C us []) (hb _ (Value.ref (s.heap.objs.size + 1) :: us) I2.kIn hl) r2 hq) fun r s' hq' => ?_))
  cases r with
  | error e => exact hx pins σ _ _ e s' I2 hq'
  | ok fl =>
    cases fl with
    | ret u =>
      obtain ⟨v, H', I3, rv, ev, q3⟩ := I2.after hq'
      subst ev
      exact ⟨rv, ⟨V.ref (s.heap.objs.size + 1), H', I3, rfl, q3⟩⟩
    | next => exact False.elim hq'
    | brk => exact False.elim hq'
    | cont => exact False.elim hq'
end

/-! ### keywords -/
section
variable {X : Cx} {CX : CXT} {k : Nat} {f C : Addr} {fd : FuncData} {ps ks : List Str} {sp : Sp} {E : XK} {x m : Str} {p pos apos kpos : Pos} {e o : Expr} {es : List Expr} {kws : List Keyword} {te ta : TE} {t tk : TA} {nm : Option Str}
/-- how a call with keywords binds: g puts the positional values us and the keywords' values ws (names ks) in the parameters' order, defaults among them -/
structure KBinds (K : PySem.W.Frag) (fd : FuncData) (ps ks : List Str) (g : List Value → List Value → List Value) (gV : List V → List V → List V) : Prop where
  to : ∀ (s : Shared) (us ws : List Value), K.In s.heap → (g us ws).length = ps.length → BindsTo s fd ⟨us, ks.zip ws⟩ (ps.zip (g us ws))
  rel : ∀ {vs : List V} {us : List Value} {zs : List V} {ws : List Value}, Vals vs us → Vals zs ws → Vals (gV vs zs) (g us ws)
variable {g : List Value → List Value → List Value} {gV : List V → List V → List V}
end

/-! ### a def's body keeps its promise -/
/-- names: the parameters first -/
structure FnScope (N P : List Str) (sc : Scope) : Prop where
  kind : sc.kind = .function
  co : sc.isCoroutine = false
  gen : sc.isGenerator = false
  nd : N.Nodup
  pre : N.take P.length = P
  par : ∀ x ∈ P, sc.names.lookup x = some .local ∨ sc.names.lookup x = some .cell
  nofree : ∀ y ∈ sc.names, y.2 ≠ .free

theorem bindL_out {kindOf : Str → Option NameKind} {x : Str} : ∀ {binds : List (Str × Value)} {m : Str → Option Value}, (∀ v, (x, v) ∉ binds) → bindL kindOf binds m x = m x
  | [], _, _ => rfl
  | (n, v) :: r, m, h => by
    unfold bindL
    rw [bindL_out fun w hw => h w (List.mem_cons_of_mem _ hw)]
    split
    · have : x ≠ n := by rintro rfl; exact h v List.mem_cons_self
      simp [this]
    · rfl
theorem bindC_out {kindOf : Str → Option NameKind} {x : Str} : ∀ {binds : List (Str × Value)} {m : Str → Option Value}, (∀ v, (x, v) ∉ binds) → bindC kindOf binds m x = m x
  | [], _, _ => rfl
  | (n, v) :: r, m, h => by
    unfold bindC
    rw [bindC_out fun w hw => h w (List.mem_cons_of_mem _ hw)]
    split
    · rfl
    · have : x ≠ n := by rintro rfl; exact h v List.mem_cons_self
      simp [this]
theorem bindL_get {kindOf : Str → Option NameKind} {x : Str} {v : Value} : ∀ {P : List Str} {vs : List Value} {i : Nat} {m : Str → Option Value}, P.Nodup → P[i]? = some x → vs[i]? = some v → kindOf x = some .local →
    bindL kindOf (P.zip vs) m x = some v
  | [], _, _, _, _, h, _, _ => by simp at h
  | _ :: _, [], _, _, _, _, h, _ => by simp at h
  | p :: P, w :: vs, 0, m, nd, h1, h2, hk => by
    simp at h1 h2; subst h1; subst h2
    show bindL kindOf ((p, w) :: P.zip vs) m p = _
    unfold bindL
    rw [bindL_out fun v hv => (List.nodup_cons.mp nd).1 (List.of_mem_zip hv).1, if_pos hk]
    simp
  | p :: P, w :: vs, i + 1, m, nd, h1, h2, hk => by
    show bindL kindOf ((p, w) :: P.zip vs) m x = _
    unfold bindL
    exact bindL_get (i := i) (List.nodup_cons.mp nd).2 (by simpa using h1) (by simpa using h2) hk
theorem bindC_get {kindOf : Str → Option NameKind} {x : Str} {v : Value} : ∀ {P : List Str} {vs : List Value} {i : Nat} {m : Str → Option Value}, P.Nodup → P[i]? = some x → vs[i]? = some v → kindOf x ≠ some .local →
    bindC kindOf (P.zip vs) m x = some v
  | [], _, _, _, _, h, _, _ => by simp at h
  | _ :: _, [], _, _, _, _, h, _ => by simp at h
  | p :: P, w :: vs, 0, m, nd, h1, h2, hk => by
    simp at h1 h2; subst h1; subst h2
    show bindC kindOf ((p, w) :: P.zip vs) m p = _
    unfold bindC
    rw [bindC_out fun v hv => (List.nodup_cons.mp nd).1 (List.of_mem_zip hv).1, if_neg hk]
    simp
  | p :: P, w :: vs, i + 1, m, nd, h1, h2, hk => by
    show bindC kindOf ((p, w) :: P.zip vs) m x = _
    unfold bindC
    exact bindC_get (i := i) (List.nodup_cons.mp nd).2 (by simpa using h1) (by simpa using h2) hk

/-- the names' values at the entry -/
def start (N : List Str) (vs : List V) : St := vs.map some ++ List.replicate (N.length - vs.length) none

/-- the context of a def's body, at its entry; an exception leaves the frame, then lies as CX says -/
def cxOf (CX : CXT) (P : Program) (w : World) (K : PySem.W.Frag) (mg : Str → Option Value) (base : Heap) (N : List Str) (qual : Str) (scope : Scope) (f : Addr) (cd : Value) (A : Around) (outer : List Env) (s : Shared) (H : Hp) (E : XK) : Cx where
  prog := P
  w := w
  K := K
  mg := mg
  base := base
  A := A.deeper (envOfC qual scope s.heap.objs.size f cd)
  N := N
  s₀ := s
  H₀ := H
  env := envOfC qual scope s.heap.objs.size f cd
  outer := outer
  stack := envOfC qual scope s.heap.objs.size f cd :: outer
  ex := []
  calm := true
  fn := fun _ => true
  pn := []
  xe := fun e s' => wpAny (model P w) (A.deeper (envOfC qual scope s.heap.objs.size f cd)) (leaving (envOfC qual scope s.heap.objs.size f cd) e) (fun _ s'' => CX outer H s E e s'') (fun e' s'' => CX outer H s E e' s'') s'

theorem cell_has {sc : Scope} {n : Nat} {x : Str} (h : sc.names.lookup x = some .cell) : ∃ c, (cellsFrom n sc.names []).lookup x = some c := by
  have q := PySem.W.cellsFrom_some sc.names n [] (.inl h)
  exact Option.isSome_iff_exists.mp q

theorem inv_start {CX : CXT} {P : Program} {w : World} {K : PySem.W.Frag} {mg : Str → Option Value} {base : Heap} {N ps : List Str} {qual : Str} {scope : Scope} {f : Addr} {cd : Value} {A : Around} {outer : List Env} {s s1 : Shared} {H : Hp} {E : XK} {us : List Value} {vs : List V}
    (S : FnScope N ps scope) (hd : A.handled = none) (e0 : Env0 P w K mg base A outer s H) (hl : vs.length = ps.length) (r : Vals vs us)
    (x : InCallC s s.heap.objs.size (bindL (envOfC qual scope s.heap.objs.size f cd).kindOf (ps.zip us) fun _ => none) (cellsFrom (s.heap.objs.size + 1) scope.names []) (bindC (envOfC qual scope s.heap.objs.size f cd).kindOf (ps.zip us) fun _ => none) s1) :
    Inv (cxOf CX P w K mg base N qual scope f cd A outer s H E) [] (start N vs) H s1 := by
  have hpl : ps.length ≤ N.length := by have := congrArg List.length S.pre; rw [List.length_take] at this; omega
  obtain ⟨h1, tk, rfl, hk⟩ := x.done
  have noA : ∀ b : Addr, b ∉ (cxOf CX P w K mg base N qual scope f cd A outer s H E).ex := fun b z => absurd (show b ∈ ([] : List Addr) from z) (by simp)
  refine ⟨⟨e0.mod, S.kind, rfl, rfl, Nat.le_refl _, fun y z c h1 h2 => ?_, fun y hy => ?_, fun y c _ h => ?_, fun _ => hd, Around.frames_deeper e0.frames, .inr ⟨rfl, rfl⟩, fun b z => absurd z (noA b), e0.bs, e0.bsz, fun b _ _ => noA b, fun b z => absurd z (noA b), e0.funs, e0.frf⟩,
    rfl, e0.bare, Un.kept hk, ⟨_, x.toInCall.ns, fun i y v h1 h2 h3 => ?_⟩, fun y c h => ⟨_, x.cell y c h⟩, e0.hok.fresh (Nat.le_refl _), fun y c h => ?_, fun p hp => absurd (show p ∈ ([] : List (Addr × Obj)) from hp) (by simp), e0.hok.kept hk, ?_⟩
  · exact name_of_addr x.apart (PySem.mem_of_lookup h1) (PySem.mem_of_lookup h2)
  · have hy : scope.names.lookup y = some .cell ∨ scope.names.lookup y = some .free := hy
    rcases hy with hy | hy
    · exact cell_has hy
    · exact absurd rfl (S.nofree _ (PySem.mem_of_lookup hy))
  · exact Nat.le_of_lt (x.above y c (PySem.mem_of_lookup h))
  · have hi : i < vs.length := by
      unfold start at h2
      by_cases hi : i < vs.length
      · exact hi
      · rw [List.getElem?_append_right (by simpa using hi)] at h2
        rw [List.getElem?_replicate] at h2
        split at h2 <;> cases h2
    have ha : vs[i]? = some v := by
      unfold start at h2
      rw [List.getElem?_append_left (by simpa using hi), List.getElem?_map] at h2
      cases e : vs[i]? with
      | none => rw [e] at h2; cases h2
      | some a => rw [e] at h2; cases h2; rfl
    obtain ⟨u, hu, rv⟩ := r.get ha
    have hp : ps[i]? = some y := by
      rw [← S.pre, List.getElem?_take_of_lt (by omega)]; exact h1
    have ndP : ps.Nodup := by rw [← S.pre]; exact S.nd.sublist (List.take_sublist _ _)
    refine ⟨u, rv, ?_⟩
    rcases S.par y (List.mem_of_getElem? hp) with k | k
    · exact .inl ⟨k, bindL_get ndP hp hu k⟩
    · obtain ⟨c, e⟩ := cell_has (n := s.heap.objs.size + 1) k
      refine .inr ⟨.inl k, c, e, ?_⟩
      have q := x.cell y c e
      rw [bindC_get ndP hp hu (by show scope.names.lookup y ≠ _; rw [k]; decide)] at q
      exact q
  · exact e0.hok.fresh (Nat.le_of_lt (x.above y c (PySem.mem_of_lookup h)))
  · unfold start
    show _ = N.length
    rw [List.length_append, List.length_map, List.length_replicate]
    omega

/-- THE RULE: a def (or a method) of the text, by its body. The body's reading t is chosen for each entry; it is run at the parameters' values -/
theorem fn_of {CX : CXT} {P : Program} {w : World} {K : PySem.W.Frag} {mg : Str → Option Value} {base : Heap} {k : Nat} {f : Addr} {name qual : Str} {params : Arguments} {body : List Stmt} {scope : Scope} {dV kV doc pm cdv ct oc : Value} {an od : Option Addr}
    {osl : Array (Option Value)} {N ps : List Str} {sp : Sp} (lk : K.lookup f = some ⟨oc, od, .func (PySem.W.fnOf name qual params body scope dV kV doc pm an cdv ct), osl⟩) (hcd : PySem.W.codeIn K cdv qual = true) (S : FnScope N ps scope)
    (len : ∀ vs H Q E, sp vs H Q E → vs.length = ps.length)
    (hbody : ∀ (A : Around) (outer : List Env) (s : Shared) (H : Hp) (vs : List V) (Q : VK) (E : XK), Room k (A.deeper (envOfC qual scope s.heap.objs.size f cdv)) → sp vs H Q E →
      ∃ t, PSs (cxOf CX P w K mg base N qual scope f cdv A outer s H E) body t ∧ t { nx := fun _ H' => Q .non H', rt := Q } (start N vs) H) :
    FnOk P w K mg base CX (k + 1) f (PySem.W.fnOf name qual params body scope dV kV doc pm an cdv ct) ps sp := by
  refine ⟨len, fun A outer s H args us vs Q E hr e0 hb r hsp => ?_⟩
  have hl := len _ _ _ _ hsp
  have KX : K.In s.heap := e0.mod.kin.keeps fun b o e => (e0.bs b o e).1
  have lim : s.heap.NoLimit := e0.mod.nolimit.keeps fun b o e => (e0.bs b o e).1
  have hkind : ∀ y ∈ ps.zip us, scope.names.lookup y.1 = some .local ∨ (scope.names.lookup y.1 = some .cell ∧ ((cellsFrom (s.heap.objs.size + 1) scope.names []).lookup y.1).isSome = true) := fun ⟨n, v⟩ hy => by
    rcases S.par n (List.of_mem_zip hy).1 with q | q
    · exact .inl q
    · exact .inr ⟨q, PySem.W.cellsFrom_some _ _ _ (.inl q)⟩
  refine codeAny_call_function hr.depth (KX _ _ lk) rfl S.co S.gen rfl (PySem.W.codeRec_of KX hcd) (hb _ _ _ _ ?_)
  refine wpAny_newFunctionEnv_cells S.kind hkind fun env he s1 x => ?_
  subst he
  refine ⟨lim.keeps x.toInCall.keep, codeAny_func ?_⟩
  obtain ⟨t, ht, hq⟩ := hbody A outer s H vs Q E (hr.deeper _) hsp
  have I : Inv (cxOf CX P w K mg base N qual scope f cdv A outer s H E) [] (start N vs) H s1 := inv_start S hr.hd e0 hl r x
  refine wpAny_mono (ht [] s1 (start N vs) H _ I hq) (fun fl s' hs => ?_) fun e s' hs => hs
  have fin : ∀ {σ' : St} {H' : Hp} {v : V} {u : Value}, Inv (cxOf CX P w K mg base N qual scope f cdv A outer s H E) [] σ' H' s' → RelV v u → Q v H' → CE outer P w H s Q u s' :=
    fun {σ' H' v u} J rv q => ⟨v, H', J.os, J.bare, J.base, J.hok, rv, q⟩
  cases fl with
  | ret u =>
    obtain ⟨v, σ', H', J, rv, q⟩ := hs
    exact fin J rv q
  | next =>
    obtain ⟨σ', H', J, q⟩ := hs
    exact fin (v := V.non) (u := Value.none) J rfl q
  | brk =>
    obtain ⟨_, _, _, q⟩ := hs
    exact False.elim q
  | cont =>
    obtain ⟨_, _, _, q⟩ := hs
    exact False.elim q
end L2

namespace L2
open PySem PySem.Spec PyProof.Rows
section
variable {X : Cx} {x : Str} {p pos : Pos} {e : Expr} {es : List Expr} {t : TA} {id T : String} {r : List V → Hp → VK → Prop}

def tCB (r : List V → Hp → VK → Prop) (t : TA) : TE := fun σ H Q => t σ H fun vs H1 => r vs H1 Q
/-- f(e, ..), f a built-in function -/
theorem pe_callB (hc : CallR X (.builtin id) r) (hg : Gl X x) (hm : X.mg x = none) (hv : bootBuiltins x = some (.builtin id)) (ha : PA X (e :: es) t) (hn : x ≠ "__name__" := by decide) (hdb : (x == ("__debug__" : Str)) = false := by decide)
    (he : starEach (e :: es) X.env = (false, eval e X.env) :: starEach es X.env := by rfl) (hpl : (backTo pos (starEach es X.env)).any (·.1) = false := by rfl) : PE X (.Call (.Name x p) (e :: es) [] pos) (tCB r t) := by
  intro pins s σ H Q I h
  refine wpAny_Call_Name_kw (ld_blt I hg hm hv ?_ hn hdb)
  exact PyProof.Rows.callWith_builtin1 (thn (ha pos pins s σ H _ I h) fun us s1 ⟨vs, H1, I1, r1, q1⟩ => hc pins s1 σ H1 vs us Q I1 r1 q1) he hpl
/-- T(e, ..), T a built-in type -/
theorem pe_callTy (hc : CallR X (.type T) r) (hg : Gl X x) (hm : X.mg x = none) (hv : bootBuiltins x = some (.type T)) (ha : PA X (e :: es) t) (hn : x ≠ "__name__" := by decide) (hdb : (x == ("__debug__" : Str)) = false := by decide)
    (he : starEach (e :: es) X.env = (false, eval e X.env) :: starEach es X.env := by rfl) (hpl : (backTo pos (starEach es X.env)).any (·.1) = false := by rfl) : PE X (.Call (.Name x p) (e :: es) [] pos) (tCB r t) := by
  intro pins s σ H Q I h
  refine wpAny_Call_Name_kw (ld_blt I hg hm hv ?_ hn hdb)
  exact PyProof.Rows.callWith_type1 (thn (ha pos pins s σ H _ I h) fun us s1 ⟨vs, H1, I1, r1, q1⟩ => hc pins s1 σ H1 vs us Q I1 r1 q1) he hpl
end
end L2

namespace HT
open PySem PyProof.Rows

section
open PySem.SeqAt
open PySem.AutoSeq1 (wpAny_loadPart')
open PySem.MeetsSeq PySem.MeetsSeq2 PySem.MeetsSeq3

end

section
variable {prog : Program} {w : World} {A : Around} {E : Value → Shared → Prop} {s : Shared}

/-! ### t[a:b], not the whole -/
/-- a slice's bound as a place among n (d where it is left out) -/
def sIx (n d : Nat) : Option Int → Nat
  | none => d
  | some v => if v < 0 then (v + (n : Int)).toNat else min v.toNat n
theorem sIx_none (n d : Nat) : sIx n d none = d := rfl
theorem sIx_nat (n d k : Nat) : sIx n d (some (k : Int)) = min k n := by
  show (if (k : Int) < 0 then ((k : Int) + (n : Int)).toNat else min (k : Int).toNat n) = min k n
  rw [if_neg (by omega), Int.toNat_natCast]
theorem sIx_le (n d : Nat) (hd : d ≤ n) (o : Option Int) : sIx n d o ≤ n := by
  cases o with
  | none => exact hd
  | some v =>
    show (if v < 0 then (v + (n : Int)).toNat else min v.toNat n) ≤ n
    by_cases hv : v < 0
    · rw [if_pos hv]; omega
    · rw [if_neg hv]; exact Nat.min_le_right _ _
theorem clip_eq (v : Int) (n d : Nat) : (if v < 0 then max (v + (n : Int)) 0 else min v (n : Int)) = ((sIx n d (some v) : Nat) : Int) := by
  show (if v < 0 then max (v + (n : Int)) 0 else min v (n : Int)) = (((if v < 0 then (v + (n : Int)).toNat else min v.toNat n) : Nat) : Int)
  by_cases hv : v < 0
  · simp only [if_pos hv]; omega
  · simp only [if_neg hv]; omega
theorem adjust_gen (lo hi : Option Int) (n : Nat) : Builtin.Slice.sliceAdjust lo hi 1 (n : Int) = (((sIx n 0 lo : Nat) : Int), ((sIx n n hi : Nat) : Int)) := by
  have h1 : ¬ ((1 : Int) < 0) := by omega
  unfold Builtin.Slice.sliceAdjust
  simp only [h1, if_false]
  refine Prod.ext ?_ ?_
  · cases lo with
    | none => rfl
    | some v => exact clip_eq v n 0
  · cases hi with
    | none => rfl
    | some v => exact clip_eq v n n
theorem places_gen (i j : Nat) : Builtin.Slice.slicePlaces (i : Int) (j : Int) 1 = j - i := by
  unfold Builtin.Slice.slicePlaces
  have h1 : (1 : Int) > 0 := by omega
  simp only [h1, if_true, Int.ediv_one]
  split <;> omega
theorem slicePart_ {v : Value} {o : Option Int} {Q : Option Int → Shared → Prop} (p : IsPart v o) (h : Q o s) : wpAny (model prog w) A (Builtin.Slice.slicePartIndex v) Q E s := by
  cases p with
  | none => exact slicePart_none h
  | int i t => exact slicePart_int h
theorem sliceApplied_gen {sl : Addr} {vl vu : Value} {lo hi : Option Int} {n : Nat} {Q : Int × Int × Nat → Shared → Prop} (hs : s.heap.IsSliceOf sl vl vu .none) (pl : IsPart vl lo) (pu : IsPart vu hi)
    (h : Q (((sIx n 0 lo : Nat) : Int), 1, sIx n n hi - sIx n 0 lo) s) : wpAny (model prog w) A (Builtin.Slice.sliceApplied (.ref sl) (pure (n : Int))) Q E s := by
  obtain ⟨os, hos, hcs, hds⟩ := id hs
  unfold Builtin.Slice.sliceApplied Builtin.Slice.sliceFields
  refine wpAny_bind (wpAny_bind (wpAny_field hos hds (x := vl) rfl (wpAny_bind (wpAny_field hos hds (x := vu) rfl (wpAny_bind (wpAny_field hos hds (x := .none) rfl (wpAny_pure ?_)))))))
  refine wpAny_bind (slicePart_none ?_)
  show wpAny _ _ (if ((1 : Int) == 0) = true then _ else _) _ _ s
  rw [if_neg (by decide)]
  refine wpAny_bind (slicePart_ pl (wpAny_bind (slicePart_ pu (wpAny_bind (wpAny_pure ?_)))))
  show wpAny _ _ (match Builtin.Slice.sliceAdjust lo hi 1 (n : Int) with | (lo, hi) => pure (lo, (1 : Int), Builtin.Slice.slicePlaces lo hi 1)) _ _ s
  rw [adjust_gen lo hi n]
  show wpAny _ _ (pure (((sIx n 0 lo : Nat) : Int), (1 : Int), Builtin.Slice.slicePlaces ((sIx n 0 lo : Nat) : Int) ((sIx n n hi : Nat) : Int) 1)) _ _ s
  rw [places_gen]
  exact wpAny_pure h
theorem pick_gen (xs : Array Value) (i k : Nat) : ((List.range k).filterMap fun (m : Nat) => xs[((i : Int) + (m : Int) * 1).toNat]?).toArray = ((xs.toList.drop i).take k).toArray := by
  have e : (fun (m : Nat) => xs[((i : Int) + (m : Int) * 1).toNat]?) = fun m => xs[i + m]? := by
    funext m
    have : ((i : Int) + (m : Int) * 1).toNat = i + m := by omega
    rw [this]
  rw [e]
  have := pick_run xs i k
  rw [List.filterMap_map] at this
  have e2 : ((fun x => xs[x]?) ∘ fun x => i + x) = fun m => xs[i + m]? := rfl
  rw [e2] at this
  rw [this]

theorem getItem_tuple_cut {t sl : Addr} {items : Array Value} {vl vu : Value} {lo hi : Option Int} {Q : Value → Shared → Prop} (ht : IsTup s.heap t items) (hs : s.heap.IsSliceOf sl vl vu .none) (pl : IsPart vl lo) (pu : IsPart vu hi)
    (hw : ¬ (sIx items.size 0 lo = 0 ∧ sIx items.size items.size hi = items.size))
    (h : Q (.ref s.heap.objs.size) { s with heap := s.heap.push { cls := .type "tuple", data := .seq ((items.toList.drop (sIx items.size 0 lo)).take (sIx items.size items.size hi - sIx items.size 0 lo)).toArray } })
    (hsz : items.size ≤ sizeLine) : wpAny (model prog w) A (getItem (.ref t) (.ref sl)) Q E s := by
  have htake : sizeOk (.seq ((items.toList.drop (sIx items.size 0 lo)).take (sIx items.size items.size hi - sIx items.size 0 lo)).toArray) := by
    show ((items.toList.drop (sIx items.size 0 lo)).take (sIx items.size items.size hi - sIx items.size 0 lo)).toArray.size ≤ sizeLine
    rw [List.size_toArray, List.length_take, List.length_drop, Array.length_toList]
    omega
  have hj : sIx items.size items.size hi ≤ items.size := sIx_le _ _ (Nat.le_refl _) hi
  obtain ⟨os, hos, hcs, hds⟩ := id hs
  have hTs : s.TypeIs (.ref sl) "slice" := ⟨os, hos, hcs⟩
  unfold getItem
  try with_reducible refine wpAny_holding ?_
  first | refine wpAny_bind (wpAny_pure ?_) | skip
  refine wpAny_bind (wpAny_sequenceKey ht.typeIs (by decide) ?_)
  refine wpAny_bind (wpAny_callSpecial?_slot (name := Str.ofString "__getitem__") ht.typeIs PyProof.Rows.slot_tuple_getitem
    (wpAny_call_entry PyProof.Rows.slot_tuple_getitem ht.typeIs entry_tuple_getitem ?_ (args_tuple_getitem _ _)))
  show wpAny _ _ (Builtin.Tuple.tupleItemsOf (.ref t) >>= _) _ _ s
  refine wpAny_bind (tupleItemsOf_ ht ?_)
  refine wpAny_bind (wpAny_typeOf hTs ?_)
  rw [if_pos (by decide)]
  refine wpAny_bind (sliceApplied_gen hs pl pu ?_)
  have hno : ¬ ((((sIx items.size 0 lo : Nat) : Int) == 0 && (1 : Int) == 1 && (sIx items.size items.size hi - sIx items.size 0 lo) == items.size) = true) := by
    intro q
    rw [Bool.and_eq_true, Bool.and_eq_true] at q
    have q1 : ((sIx items.size 0 lo : Nat) : Int) = 0 := eq_of_beq q.1.1
    have q2 : sIx items.size items.size hi - sIx items.size 0 lo = items.size := eq_of_beq q.2
    exact hw ⟨by omega, by omega⟩
  show wpAny _ _ (if (((sIx items.size 0 lo : Nat) : Int) == 0 && (1 : Int) == 1 && (sIx items.size items.size hi - sIx items.size 0 lo) == items.size) = true then _ else _) _ _ s
  rw [if_neg hno, pick_gen]
  first
    | exact wpAny_bind (m := Builtin.Tuple.tupleExact _) (wpAny_newObj_type (wpAny_pure ⟨_, rfl, wpAny_pure h⟩) htake)
    | exact wpAny_bind (m := Builtin.Tuple.tupleExact _) (wpAny_newObj_type (wpAny_bind (wpAny_pure (wpAny_pure ⟨_, rfl, wpAny_pure h⟩))) htake)
    | exact wpAny_bind (wpAny_bind (m := Builtin.Tuple.tupleExact _) (wpAny_newObj_type (wpAny_pure (wpAny_pure ⟨_, rfl, wpAny_pure h⟩)) htake))
    | exact wpAny_bind (wpAny_bind (m := Builtin.Tuple.tupleExact _) (wpAny_newObj_type (wpAny_pure ⟨_, rfl, wpAny_pure h⟩) htake))
end
end HT

namespace L2
open PySem PySem.Spec PyProof.Rows

/-! ### the parts of a slice -/
abbrev TO := St → Hp → (Option Int → Hp → Prop) → Prop
/-- a slice's part (left out, or an int) -/
def PO (X : Cx) (e : Option Expr) (t : TO) : Prop :=
  ∀ (pins : List (Addr × Obj)) (s : Shared) (σ : St) (H : Hp) (Q : Option Int → Hp → Prop), Inv X pins σ H s → t σ H Q →
    wpAny (model X.prog X.w) X.A (evalPart e X.env) (fun u s' => ∃ o H', Inv X pins σ H' s' ∧ IsPart u o ∧ Q o H') X.xe s
def tNoPart : TO := fun _ H Q => Q none H
def tPart (t : TE) : TO := fun σ H Q => t σ H fun x H1 => ∃ i, x = .int i ∧ Q (some i) H1

section
variable {X : Cx} {e : Expr} {te : TE} {lo hi : Option Expr} {tl th : TO} {pos p2 : Pos}

theorem po_none : PO X none tNoPart := by
  intro pins s σ H Q I h
  rw [evalPart_none]
  exact wpAny_pure ⟨none, H, I, .none, h⟩
theorem po_some (h : PE X e te) : PO X (some e) (tPart te) := by
  intro pins s σ H Q I hw
  rw [evalPart_some]
  refine thn (h pins s σ H _ I hw) fun u s1 ⟨x, H1, I1, r1, q1⟩ => ?_
  obtain ⟨i, rfl, q⟩ := q1
  obtain ⟨t, rfl⟩ := r1
  exact ⟨some i, H1, I1, .int i t, q⟩

/-- what a slice of a value is, by values: the slice object stands at sl -/
def SlR (X : Cx) (r : V → Option Int → Option Int → Hp → VK → Prop) : Prop :=
  ∀ (pins : List (Addr × Obj)) (s : Shared) (σ : St) (H : Hp) (x : V) (v vl vu : Value) (lo hi : Option Int) (sl : Addr) (Q : VK), Inv X pins σ H s → RelV x v → s.heap.IsSliceOf sl vl vu .none → IsPart vl lo → IsPart vu hi → r x lo hi H Q →
    ∃ T id, typeLookup (.type T) "__getitem__" = pure (some (.builtin id)) ∧ s.TypeIs v T ∧ wpAny (model X.prog X.w) X.A (getItem v (.ref sl)) (EP X pins σ Q) X.xe s
theorem SlR.or {r r' : V → Option Int → Option Int → Hp → VK → Prop} (h : SlR X r) (h' : SlR X r') : SlR X (fun x lo hi H Q => r x lo hi H Q ∨ r' x lo hi H Q) := by
  intro pins s σ H x v vl vu lo hi sl Q I rx hs pl pu q
  rcases q with q | q
  · exact h pins s σ H x v vl vu lo hi sl Q I rx hs pl pu q
  · exact h' pins s σ H x v vl vu lo hi sl Q I rx hs pl pu q
def tSl (r : V → Option Int → Option Int → Hp → VK → Prop) (te : TE) (tl th : TO) : TE := fun σ H Q => te σ H fun x H1 => tl σ H1 fun l H2 => th σ H2 fun u H3 => r x l u H3 Q
/-- a[lo:hi], any a -/
theorem pe_slice {r : V → Option Int → Option Int → Hp → VK → Prop} (hr : SlR X r) (he : PE X e te) (hl : PO X lo tl) (hu : PO X hi th) : PE X (.Subscript e (.Slice lo hi none p2) pos) (tSl r te tl th) := by
  intro pins s σ H Q I h
  refine Subscript_ (thn (he pins s σ H _ I h) fun v s1 ⟨x, H1, I1, r1, q1⟩ => ?_)
  refine wpAny_Slice (thn (hl pins s1 σ H1 _ I1 q1) fun vl s2 ⟨l, H2, I2, pl, q2⟩ => thn (hu pins s2 σ H2 _ I2 q2) fun vu s3 ⟨u, H3, I3, pu, q3⟩ => ?_)
  rw [evalPart_none]
  refine wpAny_pure ?_
  have I4 : Inv X pins σ H3 { s3 with heap := s3.heap.push { cls := .type "slice", data := .fields #[vl, vu, .none] } } := I3.kept (t' := s3.toks) fun b ob q => Heap.get?_push_of_some _ q
  obtain ⟨T, id, hT, ht, hg⟩ := hr pins { s3 with heap := s3.heap.push { cls := .type "slice", data := .fields #[vl, vu, .none] } } σ H3 x v vl vu l u s3.heap.objs.size Q I4 r1 (Heap.IsSliceOf.new ..) pl pu q3
  show wpAny (model X.prog X.w) X.A (subscriptTail e (.Slice lo hi none p2) v (.ref s3.heap.objs.size)) (EP X pins σ Q) X.xe { s3 with heap := s3.heap.push { cls := .type "slice", data := .fields #[vl, vu, .none] } }
  exact tail_any (ops := [.ref s3.heap.objs.size, v]) ht hT hg (by with_unfolding_all rfl)

/-- the items of xs[lo:hi] -/
def cutV (xs : List V) (lo hi : Option Int) : List V := (xs.drop (HT.sIx xs.length 0 lo)).take (HT.sIx xs.length xs.length hi - HT.sIx xs.length 0 lo)
theorem cutV_length (xs : List V) (lo hi : Option Int) : (cutV xs lo hi).length ≤ xs.length := by
  unfold cutV
  rw [List.length_take, List.length_drop]
  omega
/-- t[lo:hi], not the whole of it (the whole would be t itself) -/
def rSlT (K : PySem.W.Frag) : V → Option Int → Option Int → Hp → VK → Prop := fun x lo hi H Q => ∃ a xs, x = .ref a ∧ SqT K H a xs ∧
  ¬ (HT.sIx xs.length 0 lo = 0 ∧ HT.sIx xs.length xs.length hi = xs.length) ∧ ∀ p, H p = none → Q (.ref p) (upd H p (.tup (cutV xs lo hi)))
theorem sl_tup : SlR X (rSlT X.K) := by
  intro pins s σ H x v vl vu lo hi sl Q I rx hs pl pu h
  obtain ⟨a, xs, rfl, hx, hw, q⟩ := h
  cases rx
  obtain ⟨its, r, ht, hz⟩ := I.tuple hx
  have hlen : its.toArray.size = xs.length := by rw [List.size_toArray]; exact r.length.symm
  refine ⟨"tuple", _, PyProof.Rows.slot_tuple_getitem.lookup, ht.typeIs, ?_⟩
  refine HT.getItem_tuple_cut ht hs pl pu (by rw [hlen]; exact hw) ?_ (by rw [hlen]; exact hz)
  rw [hlen]
  refine ⟨.ref s.heap.objs.size, _, I.laid (t' := s.toks) (o := .tup (cutV xs lo hi)) (fun b ob q => Heap.get?_push_of_some _ q) (Nat.le_refl _) ?_, rfl, q _ (I.hok.fresh (Nat.le_refl _))⟩
  exact ⟨Nat.le_trans (cutV_length xs lo hi) hz, _, (r.drop (HT.sIx xs.length 0 lo)).take (HT.sIx xs.length xs.length hi - HT.sIx xs.length 0 lo), IsTup.new _ _⟩

/-! ### t < u, t + u -/
end
end L2

namespace L2
open PySem PySem.Spec PyProof.Rows

/-! ### places -/
/-- the place that an index of any sign means -/
def ixN (n : Nat) (i : Int) : Option Nat := if 0 ≤ i then (if i < n then some i.toNat else none) else if -(n : Int) ≤ i then some (i + n).toNat else none
def atI {α : Type} (xs : List α) (i : Int) : Option α := (ixN xs.length i).bind fun j => xs[j]?
theorem ixN_seq {n : Nat} {i : Int} {j : Nat} (h : ixN n i = some j) : seqIndex? i n = some j ∧ j < n ∧ -(n : Int) ≤ i ∧ i < n := by
  unfold ixN at h
  by_cases h0 : 0 ≤ i
  · rw [if_pos h0] at h
    by_cases h1 : i < n
    · rw [if_pos h1] at h
      have e : i.toNat = j := Option.some.inj h
      exact ⟨by rw [seqIndex_of h0 h1, e], by omega, by omega, h1⟩
    · rw [if_neg h1] at h; cases h
  · rw [if_neg h0] at h
    by_cases h1 : -(n : Int) ≤ i
    · rw [if_pos h1] at h
      have e : (i + n).toNat = j := Option.some.inj h
      exact ⟨by rw [seqIndex_neg (by omega) h1, e], by omega, h1, by omega⟩
    · rw [if_neg h1] at h; cases h
theorem atI_get {α : Type} {xs : List α} {i : Int} {v : α} (h : atI xs i = some v) : ∃ j, seqIndex? i xs.length = some j ∧ xs[j]? = some v ∧ j < xs.length ∧ -(xs.length : Int) ≤ i ∧ i < xs.length := by
  unfold atI at h
  cases e : ixN xs.length i with
  | none => rw [e] at h; cases h
  | some j =>
    rw [e] at h
    obtain ⟨h1, h2, h3, h4⟩ := ixN_seq e
    exact ⟨j, h1, h, h2, h3, h4⟩
theorem atI_nat {α : Type} {xs : List α} {j : Nat} {v : α} (h : xs[j]? = some v) : atI xs (j : Int) = some v := by
  have hj : j < xs.length := (List.getElem?_eq_some_iff.mp h).1
  have e : ixN xs.length (j : Int) = some j := by
    unfold ixN
    rw [if_pos (by omega), if_pos (by omega)]; simp
  unfold atI; rw [e]; exact h
/-! ### what may be subscripted -/
/-- what stands as an index of a plain subscript -/
def PlainIx (b : Expr) : Prop := ∀ o i, subscripted b false o i = operate [o, i] (getItem o i)
/-- a subscript by values -/
def IxR (X : Cx) (r : R2) : Prop :=
  ∀ (value slice : Expr) (pins : List (Addr × Obj)) (s : Shared) (σ : St) (H : Hp) (x y : V) (v u : Value) (Q : VK), Inv X pins σ H s → RelV x v → RelV y u → r x y H Q →
    subscripted slice false v u = operate [v, u] (getItem v u) → wpAny (model X.prog X.w) X.A (subscriptTail value slice v u) (EP X pins σ Q) X.xe s
/-- a call of a builtin's method by values: the receiver, the arguments -/
def MtR (X : Cx) (id : String) (r : V → List V → Hp → VK → Prop) : Prop :=
  ∀ (pins : List (Addr × Obj)) (s : Shared) (σ : St) (H : Hp) (x : V) (xs : List V) (v : Value) (us : List Value) (Q : VK), Inv X pins σ H s → RelV x v → Vals xs us → r x xs H Q →
    wpAny (model X.prog X.w) X.A (call (.builtin id) (v :: us)) (EP X pins σ Q) X.xe s
section
variable {X : Cx} {a b : Expr} {ta tb : TE} {pos : Pos}
theorem IxR.or {r r' : R2} (h : IxR X r) (h' : IxR X r') : IxR X (fun x y H Q => r x y H Q ∨ r' x y H Q) := by
  intro value slice pins s σ H x y v u Q I rx ry q hs
  rcases q with q | q
  · exact h value slice pins s σ H x y v u Q I rx ry q hs
  · exact h' value slice pins s σ H x y v u Q I rx ry q hs
theorem MtR.or {id : String} {r r' : V → List V → Hp → VK → Prop} (h : MtR X id r) (h' : MtR X id r') : MtR X id (fun x xs H Q => r x xs H Q ∨ r' x xs H Q) := by
  intro pins s σ H x xs v us Q I rx rs q
  rcases q with q | q
  · exact h pins s σ H x xs v us Q I rx rs q
  · exact h' pins s σ H x xs v us Q I rx rs q
/-- a[b] -/
theorem pe_ix {r : R2} (hr : IxR X r) (ha : PE X a ta) (hb : PE X b tb) (hs : PlainIx b) : PE X (.Subscript a b pos) (tOp r ta tb) := by
  intro pins s σ H Q I h
  exact Subscript_ (binT ha hb I h fun v u s2 x y H2 I2 rx ry q => hr a b pins s2 σ H2 x y v u Q I2 rx ry q (hs _ _))

def rIxL (K : PySem.W.Frag) : R2 := fun x y H Q => ∃ p xs i v, x = .ref p ∧ y = .int i ∧ SqL K H p xs ∧ atI xs i = some v ∧ Q v H
def rIxT (K : PySem.W.Frag) : R2 := fun x y H Q => ∃ p xs i v, x = .ref p ∧ y = .int i ∧ SqT K H p xs ∧ atI xs i = some v ∧ Q v H
def rIxS : R2 := fun x y H Q => ∃ z i c, x = .str z ∧ y = .int i ∧ z.length ≤ sizeLine ∧ atI z.cps.toList i = some c ∧ Q (.str ⟨#[c]⟩) H
theorem ix_list : IxR X (rIxL X.K) := by
  intro value slice pins s σ H x y v u Q I rx ry h hs
  obtain ⟨p, xs, i, z, rfl, rfl, hq, he, q⟩ := h
  cases rx
  obtain ⟨t, rfl⟩ := ry
  obtain ⟨its, r, pl, hz⟩ := I.list hq
  obtain ⟨j, h1, h2, h3, h4, h5⟩ := atI_get he
  obtain ⟨w, ew, rw'⟩ := r.get h2
  have hl := r.length
  have hn := line63
  have fin : EP X pins σ Q w s := ⟨z, H, I, rw', q⟩
  by_cases h0 : 0 ≤ i
  · have hj : i.toNat = j := by
      rw [seqIndex_of h0 h5] at h1
      exact Option.some.inj h1
    exact item_listR pl.isList h0 (by omega) (by rw [hj]; simpa using ew) fin hs
  · have hj : (i + (its.toArray.size : Int)).toNat = j := by
      rw [seqIndex_neg (by omega) h4] at h1
      rw [List.size_toArray, ← hl]
      exact Option.some.inj h1
    exact subscriptTail_builtinR (x := w) pl.isList.typeIs slot_list_getitem.lookup
      (wpAny_getItem_list_neg (Q := fun r s' => r = w ∧ EP X pins σ Q r s') pl.isList (by omega) (by rw [List.size_toArray] <;> omega) (by omega) (by rw [hj]; simpa using ew) ⟨rfl, fin⟩) hs
theorem ix_tup : IxR X (rIxT X.K) := by
  intro value slice pins s σ H x y v u Q I rx ry h hs
  obtain ⟨p, xs, i, z, rfl, rfl, hq, he, q⟩ := h
  cases rx
  obtain ⟨t, rfl⟩ := ry
  obtain ⟨its, r, pl, hz⟩ := I.tuple hq
  obtain ⟨j, h1, h2, h3, h4, h5⟩ := atI_get he
  obtain ⟨w, ew, rw'⟩ := r.get h2
  have hl := r.length
  have hn := line63
  have fin : EP X pins σ Q w s := ⟨z, H, I, rw', q⟩
  exact subscriptTail_builtinR (x := w) pl.typeIs slot_tuple_getitem.lookup
    (getItem_tuple (j := j) (Q := fun r s' => r = w ∧ EP X pins σ Q r s') pl (by omega) (by omega) (by rw [List.size_toArray, ← hl]; exact h1) (by simpa using ew) ⟨rfl, fin⟩) hs
theorem ix_str : IxR X rIxS := by
  intro value slice pins s σ H x y v u Q I rx ry h hs
  obtain ⟨z, i, c, rfl, rfl, hz, he, q⟩ := h
  obtain ⟨t, rfl⟩ := rx
  obtain ⟨t', rfl⟩ := ry
  obtain ⟨j, h1, h2, h3, h4, h5⟩ := atI_get he
  have hl : z.cps.toList.length = z.length := by simp [Str.length]
  rw [hl] at h1 h4 h5
  have hn := line63
  exact tail_any (typeIs_str s z t) slot_str_getitem.lookup (getItem_str (c := c) (by
    have e1 : decide (i < -(2 ^ 63 : Int)) = false := decide_eq_false (by omega)
    have e2 : decide (i ≥ 2 ^ 63) = false := decide_eq_false (by omega)
    rw [e1, e2, Bool.or_false]) (by rw [h1]; simpa using h2) ⟨.str ⟨#[c]⟩, H, I.tok _, ⟨_, rfl⟩, q⟩) hs
/-- list, tuple or str -/
def rIx (K : PySem.W.Frag) : R2 := fun x y H Q => rIxL K x y H Q ∨ rIxT K x y H Q ∨ rIxS x y H Q
theorem ix_seq : IxR X (rIx X.K) := ix_list.or (ix_tup.or ix_str)

/-! ### xs[i] = v, any sign -/
theorem Inv.lst {pins : List (Addr × Obj)} {σ : St} {H : Hp} {s : Shared} {p : Addr} {xs : List V} (I : Inv X pins σ H s) (h : H p = some (.lst xs)) :
    ∃ (its : List Value) (n : Nat), Vals xs its ∧ s.heap.get? p = some { cls := .type "list", data := .seq its.toArray n } ∧ xs.length ≤ sizeLine := by
  obtain ⟨z, its, n, r, e⟩ := I.hok p _ h
  exact ⟨its, n, r, e, z⟩
/-! ### slices -/
theorem slice_bounds (lo hi : Option Int) (n : Nat) : (sliceBounds lo hi none n).1 = ((HT.sIx n 0 lo : Nat) : Int) ∧ (sliceBounds lo hi none n).2.1 = ((HT.sIx n n hi : Nat) : Int) ∧ (sliceBounds lo hi none n).2.2 = 1 := by
  refine ⟨?_, ?_, rfl⟩
  · cases lo with
    | none => simp [sliceBounds, HT.sIx]
    | some i =>
      simp only [sliceBounds, HT.sIx, Option.getD_none, show (1 : Int) > 0 by decide, if_true]
      by_cases h : i < 0
      · simp only [h, if_true] <;> omega
      · simp only [h, if_false] <;> omega
  · cases hi with
    | none => simp [sliceBounds, HT.sIx]
    | some i =>
      simp only [sliceBounds, HT.sIx, Option.getD_none, show (1 : Int) > 0 by decide, if_true]
      by_cases h : i < 0
      · simp only [h, if_true] <;> omega
      · simp only [h, if_false] <;> omega
theorem slicePick_cut (its : List Value) (lo hi : Option Int) : slicePick its.toArray lo hi none = ((its.drop (HT.sIx its.length 0 lo)).take (HT.sIx its.length its.length hi - HT.sIx its.length 0 lo)).toArray := by
  obtain ⟨h1, h2, h3⟩ := slice_bounds lo hi its.toArray.size
  unfold slicePick
  rw [h1, h2, h3]
  simp only [sliceRange_one, pick_run, List.size_toArray] <;> rfl
/-- xs[lo:hi] of a list: a new list -/
def rSlL (K : PySem.W.Frag) : V → Option Int → Option Int → Hp → VK → Prop := fun x lo hi H Q => ∃ a xs, x = .ref a ∧ SqL K H a xs ∧ ∀ p, H p = none → Q (.ref p) (upd H p (.lst (cutV xs lo hi)))
theorem sl_list : SlR X (rSlL X.K) := by
  intro pins s σ H x v vl vu lo hi sl Q I rx hs pl pu h
  obtain ⟨a, xs, rfl, hx, q⟩ := h
  cases rx
  obtain ⟨its, r, ht, hz⟩ := I.list hx
  have hlen := r.length
  refine ⟨"list", _, slot_list_getitem.lookup, ht.isList.typeIs, ?_⟩
  refine wpAny_getItem_list_slice ht.isList hs pl pu .none (by simp) ?_ (by rw [List.size_toArray] <;> omega)
  rw [slicePick_cut, ← hlen]
  refine ⟨.ref s.heap.objs.size, _, I.laid (t' := s.toks) (o := .lst (cutV xs lo hi)) (fun b ob q => Heap.get?_push_of_some _ q) (Nat.le_refl _) ?_, rfl, q _ (I.hok.fresh (Nat.le_refl _))⟩
  exact ⟨Nat.le_trans (cutV_length xs lo hi) hz, _, 0, (r.drop (HT.sIx xs.length 0 lo)).take (HT.sIx xs.length xs.length hi - HT.sIx xs.length 0 lo), Heap.get?_push_size _ rfl⟩

/-! ### in, not in: flat items -/
def flatV : V → Bool
  | .non => true
  | .bl _ => true
  | .int _ => true
  | .str _ => true
  | _ => false
/-- == of flat values -/
def eqV : V → V → Bool
  | .non, .non => true
  | .bl a, .bl b => a == b
  | .bl a, .int b => (if a then 1 else 0) == b
  | .int a, .bl b => a == (if b then 1 else 0)
  | .int a, .int b => a == b
  | .str a, .str b => a == b
  | _, _ => false
theorem eqAt_V {A : Around} {s : Shared} {y x : V} {u v : Value} (ry : RelV y u) (rx : RelV x v) (fy : flatV y = true) (fx : flatV x = true) : SeqAt.EqAt A s u v (eqV y x) := by
  cases y with
  | non =>
    cases ry
    cases x with
    | non => cases rx; exact SeqAt.EqAt.same _
    | bl b => cases rx; exact SeqAt.EqAt.none_bool b
    | int b => obtain ⟨t, rfl⟩ := rx; exact SeqAt.EqAt.none_int b t
    | str b => obtain ⟨t, rfl⟩ := rx; exact SeqAt.EqAt.none_str b t
    | _ => exact absurd (show false = true from fx) Bool.false_ne_true
  | bl a =>
    cases ry
    cases x with
    | non => cases rx; exact SeqAt.EqAt.bool_none a
    | bl b => cases rx; exact SeqAt.EqAt.bool_bool a b
    | int b => obtain ⟨t, rfl⟩ := rx; exact SeqAt.EqAt.bool_int a b t
    | str b => obtain ⟨t, rfl⟩ := rx; exact SeqAt.EqAt.bool_str a b t
    | _ => exact absurd (show false = true from fx) Bool.false_ne_true
  | int a =>
    obtain ⟨t', rfl⟩ := ry
    cases x with
    | non => cases rx; exact SeqAt.EqAt.int_none a t'
    | bl b => cases rx; exact SeqAt.EqAt.int_bool a t' b
    | int b => obtain ⟨t, rfl⟩ := rx; exact SeqAt.EqAt.int_int a t' b t
    | str b => obtain ⟨t, rfl⟩ := rx; exact SeqAt.EqAt.int_str a t' b t
    | _ => exact absurd (show false = true from fx) Bool.false_ne_true
  | str a =>
    obtain ⟨t', rfl⟩ := ry
    cases x with
    | non => cases rx; exact SeqAt.EqAt.str_none a t'
    | bl b => cases rx; exact SeqAt.EqAt.str_bool a t' b
    | int b => obtain ⟨t, rfl⟩ := rx; exact SeqAt.EqAt.str_int a t' b t
    | str b => obtain ⟨t, rfl⟩ := rx; exact SeqAt.EqAt.str_str a t' b t
    | _ => exact absurd (show false = true from fx) Bool.false_ne_true
  | _ => exact absurd (show false = true from fy) Bool.false_ne_true
/-! ### len, list(x), tuple(x) of any list or tuple that is read -/
theorem call_len_seq : CallR X (.builtin "len") (fun xs H Q => ∃ p ys, xs = [.ref p] ∧ (SqL X.K H p ys ∨ SqT X.K H p ys) ∧ Q (.int ys.length) H) := by
  intro pins s σ H xs us Q I r h
  obtain ⟨p, ys, rfl, hq, q⟩ := h
  obtain ⟨u, rfl, rx⟩ := vals1 r
  cases rx
  have hn := line63
  rcases hq with hq | hq
  · obtain ⟨its, r', pl, hz⟩ := I.list hq
    have hlen := r'.length
    exact Calls.call_len_list pl.isList (by simp only [List.size_toArray] <;> omega) ⟨.int ys.length, H, I.tok _, ⟨s.toks + 1, by rw [List.size_toArray, hlen]⟩, q⟩
  · obtain ⟨its, r', pl, hz⟩ := I.tuple hq
    have hlen := r'.length
    exact len_tuple pl (by simp only [List.size_toArray] <;> omega) ⟨.int ys.length, H, I.tok _, ⟨s.toks + 1, by rw [List.size_toArray, hlen]⟩, q⟩
theorem call_len_str : CallR X (.builtin "len") (fun xs H Q => ∃ z, xs = [.str z] ∧ z.length ≤ sizeLine ∧ Q (.int z.length) H) := by
  intro pins s σ H xs us Q I r h
  obtain ⟨z, rfl, hz, q⟩ := h
  obtain ⟨u, rfl, t, rfl⟩ := vals1 r
  have hn := line63
  exact len_str (by omega) ⟨.int z.length, H, I.tok _, ⟨_, rfl⟩, q⟩
theorem CallR.or {f : Value} {r r' : List V → Hp → VK → Prop} (h : CallR X f r) (h' : CallR X f r') : CallR X f (fun xs H Q => r xs H Q ∨ r' xs H Q) := by
  intro pins s σ H xs us Q I rs q
  rcases q with q | q
  · exact h pins s σ H xs us Q I rs q
  · exact h' pins s σ H xs us Q I rs q
theorem call_list_of : CallR X (.type "list") (fun xs H Q => ∃ p ys, xs = [.ref p] ∧ (SqL X.K H p ys ∨ SqT X.K H p ys) ∧ ∀ l, H l = none → Q (.ref l) (upd H l (.lst ys))) := by
  intro pins s σ H xs us Q I r h
  obtain ⟨p, ys, rfl, hq, q⟩ := h
  obtain ⟨u, rfl, rx⟩ := vals1 r
  cases rx
  have fin : ∀ (its : List Value), Vals ys its → ys.length ≤ sizeLine → ∀ (h' : Heap) (c' : Nat), (∀ b o', s.heap.get? b = some o' → h'.get? b = some o') →
      h'.get? s.heap.objs.size = some { cls := .type "list", dict := none, data := .seq its.toArray c', slots := #[] } → EP X pins σ Q (.ref s.heap.objs.size) { s with heap := h' } := fun its r' hz h' c' kp e =>
    ⟨.ref s.heap.objs.size, _, I.laid (t' := s.toks) kp (Nat.le_refl _) (show ObjOk X.prog X.w _ h' _ (.lst ys) from ⟨hz, its, c', r', e⟩), rfl, q _ (I.hok.fresh (Nat.le_refl _))⟩
  rcases hq with hq | hq
  · obtain ⟨its, r', pl, hz⟩ := I.list hq
    have hlen := r'.length
    obtain ⟨o, ho, hc, n, hd⟩ := pl.isList
    exact call_list_seq p (.inl rfl) ho hc hd (fun h' c' kp e => fin its r' hz h' c' kp e) (by simp only [List.size_toArray] <;> omega)
  · obtain ⟨its, r', pl, hz⟩ := I.tuple hq
    have hlen := r'.length
    obtain ⟨o, ho, hc, n, hd⟩ := pl
    exact call_list_seq p (.inr rfl) ho hc hd (fun h' c' kp e => fin its r' hz h' c' kp e) (by simp only [List.size_toArray] <;> omega)
/-! ### the call of a builtin's method: o.m(..) -/
/-- the value is of that builtin type -/
def tyV (K : PySem.W.Frag) (T : String) (x : V) (H : Hp) : Prop := match x with
  | .str _ => T = "str"
  | .int _ => T = "int"
  | .ref p => (T = "list" ∧ ∃ xs, SqL K H p xs) ∨ (T = "tuple" ∧ ∃ o, K.lookup p = some o ∧ o.cls = .type "tuple" ∧ o.dict = none) ∨
      (T = "dict" ∧ ((∃ kvs, H p = some (.dK kvs)) ∨ ∃ kvs, H p = some (.dT kvs))) ∨ (T = "set" ∧ ∃ S n, H p = some (.set S n))
  | _ => False
theorem tyV_is {pins : List (Addr × Obj)} {σ : St} {H : Hp} {s : Shared} {T : String} {x : V} {v : Value} (I : Inv X pins σ H s) (r : RelV x v) (ty : tyV X.K T x H) :
    s.TypeIs v T ∧ ∀ a, v = .ref a → ∃ ob, s.heap.get? a = some ob ∧ ob.dict = none := by
  cases x with
  | str z =>
    obtain ⟨t, rfl⟩ := r
    cases (show T = "str" from ty)
    exact ⟨typeIs_str s z t, fun _ e => nomatch e⟩
  | int i =>
    obtain ⟨t, rfl⟩ := r
    cases (show T = "int" from ty)
    exact ⟨typeIs_int s i t, fun _ e => nomatch e⟩
  | ref p =>
    cases r
    rcases ty with ⟨rfl, xs, hq⟩ | ⟨rfl, o, hk, hc, hd⟩ | ⟨rfl, hk⟩ | ⟨rfl, S, n, hk⟩
    · obtain ⟨its, _, pl, _⟩ := I.list hq
      refine ⟨pl.isList.typeIs, fun a e => ?_⟩
      cases e
      obtain ⟨o, n, e, c, hd, _⟩ := pl
      exact ⟨o, e, hd⟩
    · refine ⟨⟨o, I.kIn p o hk, hc⟩, fun a e => ?_⟩
      cases e
      exact ⟨o, I.kIn _ o hk, hd⟩
    · have z : ∃ o, s.heap.get? p = some o ∧ o.ExactDict := by
        rcases hk with ⟨kvs, hk⟩ | ⟨kvs, hk⟩
        · obtain ⟨_, _, _, _, o, _, _, e, ex, _⟩ := I.hok p _ hk
          exact ⟨o, e, ex⟩
        · obtain ⟨_, _, _, _, o, _, _, e, ex, _⟩ := I.hok p _ hk
          exact ⟨o, e, ex⟩
      obtain ⟨o, e, ex⟩ := z
      refine ⟨⟨o, e, ex.1⟩, fun a e2 => ?_⟩
      cases e2
      exact ⟨o, e, ex.2.1⟩
    · obtain ⟨o, _, _, _, e, ex, _⟩ := I.hok p _ hk
      refine ⟨⟨o, e, ex.1⟩, fun a e2 => ?_⟩
      cases e2
      exact ⟨o, e, ex.2.1⟩
  | _ => exact False.elim ty
def tBM (K : PySem.W.Frag) (T : String) (r : V → List V → Hp → VK → Prop) (to : TE) (t : TA) : TE := fun σ H Q => to σ H fun x H1 => tyV K T x H1 ∧ t σ H1 fun xs H2 => r x xs H2 Q
variable {o e : Expr} {es : List Expr} {to : TE} {t : TA} {name : Str} {apos cpos : Pos} {T id : String} {r : V → List V → Hp → VK → Prop}
theorem pe_bm (pa : PlainAttrs T) (slot : Slot T name id) (hty : typeOf (.builtin id) = pure (.type "method_descriptor")) (hm : MtR X id r) (ho : PE X o to) (ha : PA X (e :: es) t)
    (hbase : attributeBase o name X.env (eval o X.env) = eval o X.env := by rfl)
    (hfew : ((backTo cpos (starEach (e :: es) X.env)).all (fun x => !x.1) && (backToKw cpos (keywordEach [] X.env)).all (fun x => x.1.isSome)
      && decide ((e :: es).length + ([] : List Keyword).length + (if ([] : List Keyword).isEmpty then 0 else 1) < 30)) = true := by rfl)
    (hline : (apos.endLine == cpos.line) = true := by rfl) (hs : starEach (e :: es) X.env = (false, eval e X.env) :: starEach es X.env := by rfl) (hplain : (backTo cpos (starEach es X.env)).any (·.1) = false := by rfl) :
    PE X (.Call (.Attribute o name apos) (e :: es) [] cpos) (tBM X.K T r to t) := by
  intro pins s σ H Q I h
  refine wpAny_Call_method_late hbase hfew hline rfl (thn (ho pins s σ H _ I h) fun v s1 ⟨x, H1, I1, r1, ty, q1⟩ => ?_)
  obtain ⟨h1, h2⟩ := tyV_is I1 r1 ty
  refine ⟨T, id, pa, slot, hty, h1, h2, ?_⟩
  have hA := ha cpos pins s1 σ H1 _ I1 q1
  rw [hs] at hA ⊢
  refine Calls.callWith_builtin (by show (false || (backTo cpos (starEach es X.env)).any (·.1)) = false; rw [hplain] <;> rfl) (Calls.evalArgs_plain ?_)
  exact thn hA fun us s2 ⟨vs, H2, I2, r2, q2⟩ => hm pins s2 σ H2 x vs v us Q I2 r1 r2 q2
/- xs.append(e), list.index on a module's tuple .. are MtR facts of 06m -/
end
end L2

namespace L2
open PySem PySem.Spec PyProof.Rows

def MtM (X : Cx) (id : String) (r : V → List V → Hp → VK → Prop) : Prop :=
  ∀ (pins : List (Addr × Obj)) (s : Shared) (σ : St) (H : Hp) (x : V) (xs : List V) (v : Value) (us : List Value) (Q : VK), Inv X pins σ H s → RelV x v → Vals xs us → r x xs H Q →
    wpAny (model X.prog X.w) X.A (call (.builtin id) (v :: us)) (EP X pins σ Q) X.xe s

/-! ### lists of values -/
theorem Vals.one : ∀ {x : V} {us : List Value}, Vals [x] us → ∃ u, us = [u] ∧ RelV x u
  | _, _, .cons r .nil => ⟨_, rfl, r⟩
theorem Vals.two : ∀ {x y : V} {us : List Value}, Vals [x, y] us → ∃ u v, us = [u, v] ∧ RelV x u ∧ RelV y v
  | _, _, _, .cons r (.cons q .nil) => ⟨_, _, rfl, r, q⟩
theorem Vals.zero : ∀ {us : List Value}, Vals [] us → us = []
  | _, .nil => rfl
section
variable {X : Cx} {pins : List (Addr × Obj)} {σ : St} {H : Hp} {s : Shared} {l b : Addr} {xs ys zs : List V}

/-! ### the two steps: a tracked list is rewritten, a new list is laid -/
theorem Inv.lset {its its' : List Value} {n : Nat} {f : Array Value → Array Value} {t' : Nat} (I : Inv X pins σ H s) (hH : H l = some (.lst xs))
    (e : s.heap.get? l = some { cls := .type "list", data := .seq its.toArray n }) (hf : f its.toArray = its'.toArray) (hv : Vals ys its') (hz : ys.length ≤ sizeLine) :
    Inv X pins σ (upd H l (.lst ys)) { s with heap := s.heap.update l (Obj.mapSeq f), toks := t' } := by
  have q := PySem.IsL.update e f
  rw [hf] at q
  refine I.write (x := l) (e := l) (by rw [hH]; exact trivial) (.inl rfl) (fun b' u hb hu => (Heap.get?_update_other s.heap (Obj.mapSeq f) (Ne.symm hb)).trans hu) ⟨_, q⟩ ?_
  exact ⟨hz, its', _, hv, q⟩
theorem Inv.lnew {its : List Value} {t' : Nat} (I : Inv X pins σ H s) (hv : Vals ys its) (hz : ys.length ≤ sizeLine) :
    Inv X pins σ (upd H s.heap.objs.size (.lst ys)) { s with heap := s.heap.push { cls := .type "list", data := .seq its.toArray }, toks := t' } :=
  I.laid (fun _ _ q => Heap.get?_push_of_some _ q) (Nat.le_refl _) ⟨hz, its, 0, hv, Heap.get?_push_size _ rfl⟩
theorem Inv.fresh (I : Inv X pins σ H s) : H s.heap.objs.size = none := I.hok.fresh (Nat.le_refl _)
theorem Inv.lstM (I : Inv X pins σ H s) (hH : H l = some (.lst xs)) : xs.length ≤ sizeLine ∧ ∃ (its : List Value) (n : Nat), Vals xs its ∧ xs.length = its.length ∧ s.heap.get? l = some { cls := .type "list", data := .seq its.toArray n } := by
  obtain ⟨z, its, n, r, e⟩ := I.hok l _ hH
  exact ⟨z, its, n, r, r.length, e⟩

end

section
variable {X : Cx}

/-! ### methods -/
def rAppend : V → List V → Hp → VK → Prop := fun x vs H Q => ∃ l xs y, x = .ref l ∧ vs = [y] ∧ H l = some (.lst xs) ∧ xs.length < sizeLine ∧ Q .non (upd H l (.lst (xs ++ [y])))
theorem mt_append : MtM X "list.append" rAppend := by
  intro pins s σ H x vs v us Q I rx rv h
  obtain ⟨l, xs, y, rfl, rfl, hH, hz, q⟩ := h
  cases rx
  obtain ⟨u, rfl, ru⟩ := rv.one
  obtain ⟨z, its, n, r, hl, e⟩ := I.lstM hH
  refine call_meets F.slot_list_append ⟨_, e, rfl⟩ F.entry_list_append (F.args_list_append_2 _ _) (PySem.list_append l its.toArray n u (by rw [List.size_toArray]; omega)) ⟨e, ?_⟩
  refine ⟨.non, _, I.lset (its' := its ++ [u]) hH e (by simp) (r.append (.cons ru .nil)) ?_, rfl, q⟩
  rw [List.length_append, List.length_singleton]
  omega

/-! ### list + list, list += list, list * int -/
def rCat : R2 := fun x y H Q => ∃ l b xs zs, x = .ref l ∧ y = .ref b ∧ H l = some (.lst xs) ∧ H b = some (.lst zs) ∧ xs.length + zs.length ≤ sizeLine ∧ ∀ p, H p = none → Q (.ref p) (upd H p (.lst (xs ++ zs)))
theorem op_cat : OpR X (binaryOp .Add) rCat := by
  intro pins s σ H x y v u Q I rx ry h
  obtain ⟨l, b, xs, zs, rfl, rfl, hH, hB, hz, q⟩ := h
  cases rx
  cases ry
  obtain ⟨z, its, n, r, hl, e⟩ := I.lstM hH
  obtain ⟨z2, its2, n2, r2, hl2, e2⟩ := I.lstM hB
  refine PySem.P.add_list e e2 ?_ (by rw [List.size_toArray, List.size_toArray]; omega)
  have ea : its.toArray ++ its2.toArray = (its ++ its2).toArray := by simp
  rw [ea]
  exact ⟨.ref _, _, I.lnew (t' := s.toks) (r.append r2) (by rw [List.length_append]; omega), rfl, q _ I.fresh⟩
/-! ### del xs[i] -/
end

/-! ### xs[a:b] = ys -/
section
variable {prog : Program} {w : World} {A : Around} {E : Value → Shared → Prop} {s : Shared}
end

section
variable {X : Cx}
end
end L2

namespace L2
open PySem PySem.Spec PyProof.Rows

/-! ### lists of pairs as tables -/
section
variable {κ : Type} [DecidableEq κ]
def valV (kvs : List (κ × V)) (k : κ) : Option V := (kvs.find? fun kv => decide (kv.1 = k)).map (·.2)
/-- in its place, or at the end -/
def putK (kvs : List (κ × V)) (k : κ) (v : V) : List (κ × V) :=
  if (kvs.any fun kv => decide (kv.1 = k)) = true then kvs.map (fun kv => if kv.1 = k then (kv.1, v) else kv) else kvs ++ [(k, v)]
def dropK (kvs : List (κ × V)) (k : κ) : List (κ × V) := kvs.filter fun kv => decide (kv.1 ≠ k)

theorem valV_pos {p : κ × V} {r : List (κ × V)} {k : κ} (e : p.1 = k) : valV (p :: r) k = some p.2 := by simp [valV, List.find?_cons, e]
theorem valV_neg {p : κ × V} {r : List (κ × V)} {k : κ} (e : ¬ p.1 = k) : valV (p :: r) k = valV r k := by simp [valV, List.find?_cons, e]
theorem valV_any (k : κ) : ∀ kvs : List (κ × V), (kvs.any fun kv => decide (kv.1 = k)) = (valV kvs k).isSome
  | [] => rfl
  | p :: r => by
    rw [List.any_cons]
    by_cases e : p.1 = k
    · simp only [valV_pos e, decide_eq_true e, Bool.true_or, Option.isSome_some]
    · rw [valV_neg e, decide_eq_false e, Bool.false_or]; exact valV_any k r
theorem valV_map (k j : κ) (y : V) : ∀ kvs : List (κ × V), valV (kvs.map fun kv => if kv.1 = k then (kv.1, y) else kv) j = (valV kvs j).map fun x => if j = k then y else x
  | [] => rfl
  | p :: r => by
    have ih := valV_map k j y r
    rw [List.map_cons]
    by_cases h : p.1 = k
    · rw [if_pos h]
      by_cases e : p.1 = j
      · rw [valV_pos (p := (p.1, y)) e, valV_pos e, Option.map_some, if_pos (e.symm.trans h)]
      · rw [valV_neg (p := (p.1, y)) e, valV_neg e, ih]
    · rw [if_neg h]
      by_cases e : p.1 = j
      · rw [valV_pos (p := p) e, valV_pos e, Option.map_some, if_neg (fun z => h (e.trans z))]
      · rw [valV_neg (p := p) e, valV_neg e, ih]
theorem valV_snoc (k j : κ) (y : V) : ∀ kvs : List (κ × V), valV kvs k = none → valV (kvs ++ [(k, y)]) j = if j = k then some y else valV kvs j
  | [], _ => by
    by_cases e : k = j
    · rw [if_pos e.symm]; exact valV_pos (p := (k, y)) e
    · rw [if_neg (fun z => e z.symm)]; exact valV_neg (p := (k, y)) e
  | p :: r, hn => by
    rw [List.cons_append]
    have hk : ¬ p.1 = k := fun z => by rw [valV_pos z] at hn; cases hn
    rw [valV_neg hk] at hn
    have ih := valV_snoc k j y r hn
    by_cases e : p.1 = j
    · rw [valV_pos e, valV_pos e, if_neg (fun z => hk (e.trans z))]
    · rw [valV_neg e, valV_neg e, ih]
theorem valV_put (kvs : List (κ × V)) (k j : κ) (y : V) : valV (putK kvs k y) j = if j = k then some y else valV kvs j := by
  unfold putK
  by_cases a : (kvs.any fun kv => decide (kv.1 = k)) = true
  · rw [if_pos a, valV_map]
    rw [valV_any] at a
    by_cases e : j = k
    · obtain ⟨x, hx⟩ := Option.isSome_iff_exists.mp a
      rw [if_pos e, e, hx, Option.map_some, if_pos rfl]
    · rw [if_neg e]
      cases valV kvs j with
      | none => rfl
      | some x => rw [Option.map_some, if_neg e]
  · rw [if_neg a]
    refine valV_snoc k j y kvs ?_
    rw [valV_any] at a
    cases q : valV kvs k with
    | none => rfl
    | some x => rw [q] at a; exact (a rfl).elim
theorem length_putK (kvs : List (κ × V)) (k : κ) (v : V) : (putK kvs k v).length ≤ kvs.length + 1 := by
  unfold putK
  split
  · rw [List.length_map]; omega
  · rw [List.length_append, List.length_cons, List.length_nil]; omega
theorem RelO.isSome_eq {o : Option V} {u : Option Value} (r : RelO o u) : o.isSome = u.isSome := by
  cases o with
  | none => cases u with
    | none => rfl
    | some _ => exact (show False from r).elim
  | some _ => cases u with
    | none => exact (show False from r).elim
    | some _ => rfl
theorem RelO.getD {o : Option V} {u : Option Value} {d : V} {d' : Value} (r : RelO o u) (rd : RelV d d') : RelV (o.getD d) (u.getD d') := by
  cases o with
  | none => cases u with
    | none => exact rd
    | some _ => exact (show False from r).elim
  | some _ => cases u with
    | none => exact (show False from r).elim
    | some _ => exact r

/-- raw tables of the same keys -/
theorem KV.val {kvs : List (κ × V)} {vs : List (κ × Value)} (r : KV kvs vs) (k : κ) : RelO (valV kvs k) (valueAt vs k) := by
  unfold KV at r
  induction r with
  | nil => exact True.intro
  | @cons p q ps qs h t ih =>
    obtain ⟨h1, h2⟩ := h
    by_cases e : p.1 = k
    · have e' : q.1 = k := h1.symm.trans e
      have b : valueAt (q :: qs) k = some q.2 := by simp [valueAt, List.find?_cons, e']
      rw [valV_pos e, b]; exact h2
    · have e' : ¬ q.1 = k := fun z => e (h1.trans z)
      have b : valueAt (q :: qs) k = valueAt qs k := by simp [valueAt, List.find?_cons, e']
      rw [valV_neg e, b]; exact ih
theorem KV.any {kvs : List (κ × V)} {vs : List (κ × Value)} (r : KV kvs vs) (k : κ) : (kvs.any fun kv => decide (kv.1 = k)) = vs.any fun kv => decide (kv.1 = k) := by
  unfold KV at r
  induction r with
  | nil => rfl
  | cons h t ih => rw [List.any_cons, List.any_cons, ih, h.1]
theorem KV.repl {kvs : List (κ × V)} {vs : List (κ × Value)} (r : KV kvs vs) (k : κ) {y : V} {u : Value} (ry : RelV y u) :
    KV (kvs.map fun kv => if kv.1 = k then (kv.1, y) else kv) (vs.map fun kv => if kv.1 = k then (kv.1, u) else kv) := by
  unfold KV at r ⊢
  induction r with
  | nil => exact .nil
  | @cons p q ps qs h t ih =>
    rw [List.map_cons, List.map_cons]
    refine .cons ?_ ih
    obtain ⟨h1, h2⟩ := h
    by_cases e : p.1 = k
    · rw [if_pos e, if_pos (h1.symm.trans e)]; exact ⟨h1, ry⟩
    · rw [if_neg e, if_neg (fun z => e (h1.trans z))]; exact ⟨h1, h2⟩
theorem KV.put {kvs : List (κ × V)} {vs : List (κ × Value)} (r : KV kvs vs) (k : κ) {y : V} {u : Value} (ry : RelV y u) : KV (putK kvs k y) (stored vs k u) := by
  unfold putK stored
  rw [r.any k]
  by_cases e : (vs.any fun kv => decide (kv.1 = k)) = true
  · rw [if_pos e, if_pos e]; exact r.repl k ry
  · rw [if_neg e, if_neg e]; exact Paired.snoc r ⟨rfl, ry⟩
theorem KV.drop {kvs : List (κ × V)} {vs : List (κ × Value)} (r : KV kvs vs) (k : κ) : KV (dropK kvs k) (without vs k) := by
  unfold KV at r ⊢
  unfold dropK without
  induction r with
  | nil => exact .nil
  | @cons p q ps qs h t ih =>
    obtain ⟨h1, h2⟩ := h
    rw [List.filter_cons, List.filter_cons]
    by_cases e : p.1 = k
    · have a : ¬ decide (p.1 ≠ k) = true := by simp [e]
      have b : ¬ decide (q.1 ≠ k) = true := by simp [h1.symm.trans e]
      rw [if_neg a, if_neg b]; exact ih
    · have e' : ¬ q.1 = k := fun z => e (h1.trans z)
      have a : decide (p.1 ≠ k) = true := by simp [e]
      have b : decide (q.1 ≠ k) = true := by simp [e']
      rw [if_pos a, if_pos b]; exact .cons ⟨h1, h2⟩ ih
theorem KV.keys {kvs : List (κ × V)} {vs : List (κ × Value)} (r : KV kvs vs) : kvs.map (·.1) = vs.map (·.1) := by
  unfold KV at r
  induction r with
  | nil => rfl
  | cons h t ih => rw [List.map_cons, List.map_cons, ih, h.1]
theorem KV.length {kvs : List (κ × V)} {vs : List (κ × Value)} (r : KV kvs vs) : kvs.length = vs.length := Paired.length r
end


/-! ### a tracked dict, its keys ints and texts or tuples of these -/
theorem kV_is {P : Program} {w : World} {k : Key} {u : Value} (r : RelV (kV k) u) : (mixKind P w).is k u = true := by
  cases k with
  | inl i => obtain ⟨t, e⟩ := (show ∃ t, u = Value.int i t from r); subst e; exact mixKind_int P w i t
  | inr x => obtain ⟨t, e⟩ := (show ∃ t, u = Value.str x t from r); subst e; exact mixKind_str P w x t
theorem items_are {P : Program} {w : World} : ∀ {ks : List Key} {us : List Value}, Vals (ks.map kV) us → ItemsAre (mixKind P w) ks us
  | [], _, r => by rw [List.map_nil] at r; cases r; exact .nil
  | k :: ks, _, r => by
    rw [List.map_cons] at r
    cases r with
    | cons h t => exact .cons (kV_is h) (items_are t)

/-- raw entries of a dict with tuple keys -/
abbrev KT (H : Hp) : List (List Key × V) → List (List Key × Addr × Value) → Prop := Paired fun p q => p.1 = q.1 ∧ H q.2.1 = some (.tup (p.1.map kV)) ∧ RelV p.2 q.2.2
theorem KT.val {H : Hp} {kvs : List (List Key × V)} {xs : List (List Key × Addr × Value)} (r : KT H kvs xs) (k : List Key) : RelO (valV kvs k) ((atKey xs k).map (·.2)) := by
  induction r with
  | nil => exact True.intro
  | @cons p q ps qs h t ih =>
    obtain ⟨h1, _, h2⟩ := h
    by_cases e : p.1 = k
    · have e' : q.1 = k := h1.symm.trans e
      have b : atKey (q :: qs) k = some q.2 := by simp [atKey, List.find?_cons, e']
      rw [valV_pos e, b]; exact h2
    · have e' : ¬ q.1 = k := fun z => e (h1.trans z)
      have b : atKey (q :: qs) k = atKey qs k := by simp [atKey, List.find?_cons, e']
      rw [valV_neg e, b]; exact ih
theorem KT.repl {H : Hp} {kvs : List (List Key × V)} {xs : List (List Key × Addr × Value)} (r : KT H kvs xs) (k : List Key) {y : V} {u : Value} (ry : RelV y u) :
    KT H (kvs.map fun kv => if kv.1 = k then (kv.1, y) else kv) (xs.map (putAt k u)) := by
  induction r with
  | nil => exact .nil
  | @cons p q ps qs h t ih =>
    rw [List.map_cons, List.map_cons]
    refine .cons ?_ ih
    obtain ⟨h1, h2, h3⟩ := h
    unfold putAt
    by_cases e : p.1 = k
    · rw [if_pos e, if_pos (h1.symm.trans e)]; exact ⟨h1, h2, ry⟩
    · rw [if_neg e, if_neg (fun z => e (h1.trans z))]; exact ⟨h1, h2, h3⟩
theorem KT.put {H : Hp} {kvs : List (List Key × V)} {xs : List (List Key × Addr × Value)} (r : KT H kvs xs) (k : List Key) {b : Addr} {y : V} {u : Value} (hb : H b = some (.tup (k.map kV))) (ry : RelV y u) :
    KT H (putK kvs k y) (storedH xs k b u) := by
  have e : (kvs.any fun kv => decide (kv.1 = k)) = (atKey xs k).isSome := by
    rw [valV_any, (r.val k).isSome_eq, Option.isSome_map]
  unfold putK storedH
  rw [e]
  by_cases q : (atKey xs k).isSome = true
  · rw [if_pos q, if_pos q]; exact r.repl k ry
  · rw [if_neg q, if_neg q]; exact Paired.snoc r ⟨rfl, hb, ry⟩
theorem KT.keeps {H H' : Hp} {kvs : List (List Key × V)} {xs : List (List Key × Addr × Value)} (r : KT H kvs xs) (ht : ∀ b ys, H b = some (.tup ys) → H' b = some (.tup ys)) : KT H' kvs xs :=
  Paired.mapP r fun _ _ z => ⟨z.1, ht _ _ z.2.1, z.2.2⟩

section
variable {P : Program} {w : World} {H : Hp} {h : Heap} {a : Addr}
theorem rd_of {u : HO} (ok : HOk P w H h) (e : Rd H a u) : ObjOk P w H h a u := e.ok ok
theorem dk_rd {kvs : List (Key × V)} (ok : HOk P w H h) (e : Rd H a (.dK kvs)) : kvs.length ≤ sizeLine ∧ (a == sysModules) = false ∧ ∃ vs, KV kvs vs ∧ h.DictOf (mixKind P w) a vs :=
  show ObjOk P w H h a (.dK kvs) from rd_of ok e
theorem dk_of {kvs : List (Key × V)} (ok : HOk P w H h) (e : H a = some (.dK kvs)) : kvs.length ≤ sizeLine ∧ (a == sysModules) = false ∧ ∃ vs, KV kvs vs ∧ h.DictOf (mixKind P w) a vs := dk_rd ok (.inl e)
/-- a tracked tuple of ints and texts is a key -/
theorem key_of {ks : List Key} (ok : HOk P w H h) (e : H a = some (.tup (ks.map kV))) : (tupleKind (mixKind P w)).is h ks a := by
  obtain ⟨_, its, r, o, h1, h2, n, h3⟩ := (show ObjOk P w H h a (.tup (ks.map kV)) from ok a _ e)
  exact ⟨o, its.toArray, n, h1, h2, h3, by simpa using items_are r⟩
theorem dt_rd {kvs : List (List Key × V)} (ok : HOk P w H h) (e : Rd H a (.dT kvs)) : kvs.length ≤ sizeLine ∧ (a == sysModules) = false ∧
    ∃ xs, KT H kvs xs ∧ h.DictOfH (tupleKind (mixKind P w)) a xs := by
  obtain ⟨z, y, xs, r, o, es, ep, h1, h2, h3, h4, h5⟩ := (show ObjOk P w H h a (.dT kvs) from rd_of ok e)
  refine ⟨z, y, xs, r, o, es, ep, h1, h2, h3, h4, fun x hx => ?_, h5⟩
  have all : ∀ {l : List (List Key × V)} {m : List (List Key × Addr × Value)}, KT H l m → ∀ x ∈ m, (tupleKind (mixKind P w)).is h x.1 x.2.1 := by
    intro l m q
    induction q with
    | nil => intro x hx; exact nomatch hx
    | @cons p q ps qs hq t ih =>
      intro x hx
      rcases List.mem_cons.mp hx with e | hx
      · subst e
        exact key_of ok (by rw [← hq.1]; exact hq.2.1)
      · exact ih x hx
  exact all r x hx
theorem dt_of {kvs : List (List Key × V)} (ok : HOk P w H h) (e : H a = some (.dT kvs)) : kvs.length ≤ sizeLine ∧ (a == sysModules) = false ∧
    ∃ xs, KT H kvs xs ∧ h.DictOfH (tupleKind (mixKind P w)) a xs := dt_rd ok (.inl e)
end

/-- what the dict at a holds at the key y -/
def DGet (H : Hp) (a : Addr) (y : V) (r : Option V) : Prop :=
  (∃ kvs k, Rd H a (.dK kvs) ∧ y = kV k ∧ r = valV kvs k) ∨ ∃ kvs k b, Rd H a (.dT kvs) ∧ y = .ref b ∧ H b = some (.tup (k.map kV)) ∧ r = valV kvs k
/-- the heap behind a[y] = v -/
def DPut (H : Hp) (a : Addr) (y v : V) (H' : Hp) : Prop :=
  (∃ kvs k, H a = some (.dK kvs) ∧ y = kV k ∧ kvs.length < sizeLine ∧ H' = upd H a (.dK (putK kvs k v))) ∨
  ∃ kvs k b, H a = some (.dT kvs) ∧ y = .ref b ∧ H b = some (.tup (k.map kV)) ∧ kvs.length < sizeLine ∧ H' = upd H a (.dT (putK kvs k v))
theorem DGet.k {H : Hp} {a : Addr} {kvs : List (Key × V)} {k : Key} (e : H a = some (.dK kvs)) : DGet H a (kV k) (valV kvs k) := .inl ⟨kvs, k, .inl e, rfl, rfl⟩
theorem DGet.t {H : Hp} {a b : Addr} {kvs : List (List Key × V)} {k : List Key} (e : H a = some (.dT kvs)) (eb : H b = some (.tup (k.map kV))) : DGet H a (.ref b) (valV kvs k) := .inr ⟨kvs, k, b, .inl e, rfl, eb, rfl⟩
theorem DPut.k {H : Hp} {a : Addr} {kvs : List (Key × V)} {k : Key} {v : V} (e : H a = some (.dK kvs)) (hl : kvs.length < sizeLine) : DPut H a (kV k) v (upd H a (.dK (putK kvs k v))) := .inl ⟨kvs, k, e, rfl, hl, rfl⟩
theorem DPut.t {H : Hp} {a b : Addr} {kvs : List (List Key × V)} {k : List Key} {v : V} (e : H a = some (.dT kvs)) (eb : H b = some (.tup (k.map kV))) (hl : kvs.length < sizeLine) :
    DPut H a (.ref b) v (upd H a (.dT (putK kvs k v))) := .inr ⟨kvs, k, b, e, rfl, eb, hl, rfl⟩


section
variable {X : Cx} {pins : List (Addr × Obj)} {σ : St} {H : Hp} {s : Shared} {a : Addr} {y v : V} {u r : Value} {o : Option V} {A : Around} {E : Value → Shared → Prop}

theorem Inv.big (I : Inv X pins σ H s) : sysModules < s.heap.objs.size := by
  have h : mainGlobals < s.heap.objs.size := (I.mod.glob.keeps I.bk).lt
  exact Nat.lt_trans (by decide) h

/-- a dict's object is replaced -/
theorem d_write {h' : Heap} {t' : Nat} {ob : HO} (I : Inv X pins σ H s) (mu : Mut (H a)) (hs : Heap.SameBut a s.heap h') (he : ∃ q, h'.get? a = some q) (new : ObjOk X.prog X.w (upd H a ob) h' a ob) :
    Inv X pins σ (upd H a ob) { s with heap := h', toks := t' } :=
  I.write (x := a) (e := a) mu (.inl rfl) (fun b q hb z => (hs.2 b hb).trans z) he new
theorem dk_new {P : Program} {w : World} {H' : Hp} {h' : Heap} {kvs : List (Key × V)} {vs : List (Key × Value)} (z : kvs.length ≤ sizeLine) (hd : (a == sysModules) = false) (rel : KV kvs vs) (dd : h'.DictOf (mixKind P w) a vs) :
    ObjOk P w H' h' a (.dK kvs) := ⟨z, hd, vs, rel, dd⟩
/-- d[y] = v -/
theorem d_setItem {H' : Hp} {Q : Unit → Shared → Prop} (hu : A.units + 1 < cLine) (I : Inv X pins σ H s) (g : DPut H a y v H') (ry : RelV y u) (rv : RelV v r) (h : ∀ s', Inv X pins σ H' s' → Q () s') :
    wpAny (model X.prog X.w) A (setItem (.ref a) u r) Q E s := by
  rcases g with ⟨kvs, k, e, ey, l, eH⟩ | ⟨kvs, k, b, e, ey, eb, l, eH⟩
  · subst ey eH
    obtain ⟨z, hd, vs, rel, dd⟩ := dk_of I.hok e
    have hz : vs.length ≤ sizeLine := by rw [← rel.length]; exact z
    have hl : (putK kvs k v).length ≤ sizeLine := by have := length_putK kvs k v; omega
    refine wpAny_setItem_pairs (hsz := hz) (kV_is ry) dd fun h' dd' hs => h _ ?_
    have he : ∃ q, h'.get? a = some q := let ⟨q, _, _, hq, _⟩ := dd'; ⟨q, hq⟩
    exact d_write I (by rw [e]; exact True.intro) hs he (dk_new hl hd (rel.put k rv) dd')
  · subst ey eH
    cases (show u = Value.ref b from ry)
    obtain ⟨z, hd, xs, rel, dd⟩ := dt_of I.hok e
    have hz : xs.length ≤ sizeLine := by rw [← Paired.length rel]; exact z
    have hl : (putK kvs k v).length ≤ sizeLine := by have := length_putK kvs k v; omega
    refine wpAny_setItem_heap (hsz := hz) (tupleKind_room_in1 hu) (key_of I.hok eb) dd fun h' dd' hs => h _ ?_
    obtain ⟨q, es, ep, hq, h2, h3, h4, _, h5⟩ := dd'
    refine d_write I (by rw [e]; exact True.intro) hs ⟨q, hq⟩ ⟨hl, hd, _, (rel.put k eb rv).keeps fun c ys ec => ?_, q, es, ep, hq, h2, h3, h4, h5⟩
    rw [upd_ne (ne_of ec e (fun z => nomatch z))]
    exact ec
end

section
variable {X : Cx} {pins : List (Addr × Obj)} {σ : St} {H : Hp} {s : Shared} {a : Addr} {kvs : List (Key × V)} {k : Key} {u : Value} {A : Around} {E : Value → Shared → Prop}
end


/-! ### readings and rules -/
section
variable {X : Cx} {o i e value : Expr} {pos pos' tpos : Pos} {td ty tv : TE}
end


/-! ### displays -/
theorem dk_empty {P : Program} {w : World} {H : Hp} (h : Heap) (hb : sysModules < h.objs.size) : ObjOk P w H (h.push { cls := .type "dict", data := .dict #[] }) h.objs.size (.dK []) :=
  ⟨Nat.zero_le _, beq_eq_false_iff_ne.mpr (Ne.symm (Nat.ne_of_lt hb)), [], .nil, Heap.DictOf.new h⟩
/-- {}, to be a dict of the kind that is wanted -/
def tDNewK : TE := fun _ H Q => ∀ p, H p = none → Q (.ref p) (upd H p (.dK []))
section
variable {X : Cx} {pos : Pos}
theorem pe_dnewK : PE X (.Dict [] [] pos) tDNewK := fun pins s σ H Q I h =>
  wpAny_Dict_empty ⟨.ref s.heap.objs.size, _, I.laid (a := s.heap.objs.size) (o := .dK []) (t' := s.toks) (fun _ _ q => Heap.get?_push_of_some _ q) (Nat.le_refl _) (dk_empty s.heap I.big), rfl, h _ (I.hok.fresh (Nat.le_refl _))⟩
end

/-- the pairs of a display, from the left -/
def tPairs : List (TE × TE) → St → Hp → (List (V × V) → Hp → Prop) → Prop
  | [], _, H, Q => Q [] H
  | (tk, tv) :: r, σ, H, Q => tk σ H fun x H1 => tv σ H1 fun y H2 => tPairs r σ H2 fun ps H3 => Q ((x, y) :: ps) H3
abbrev VV : List (V × V) → List (Value × Value) → Prop := Paired fun p q => RelV p.1 q.1 ∧ RelV p.2 q.2
def PPs (X : Cx) (pos : Pos) (keys : List (Option Expr)) (values : List Expr) (trs : List (TE × TE)) : Prop :=
  ∀ (pins : List (Addr × Obj)) (s : Shared) (σ : St) (H : Hp) (Q : List (V × V) → Hp → Prop), Inv X pins σ H s → tPairs trs σ H Q →
    wpAny (model X.prog X.w) X.A (evalPairs (pairTrees keys values X.env pos)) (fun vs s' => ∃ ps H', Inv X pins σ H' s' ∧ VV ps vs ∧ Q ps H') X.xe s
/-! ### methods -/
/-- a method call o.m(e) of a built-in, with one argument: what must be seen of the text -/
structure M1 (X : Cx) (o : Expr) (m : Str) (apos : Pos) (e : Expr) (cpos : Pos) : Prop where
  base : attributeBase o m X.env (eval o X.env) = eval o X.env
  few : ((backTo cpos (starEach [e] X.env)).all (fun x => !x.1) && (backToKw cpos (keywordEach [] X.env)).all (fun x => x.1.isSome)
    && decide (([e] : List Expr).length + ([] : List Keyword).length + (if ([] : List Keyword).isEmpty then 0 else 1) < 30)) = true
  line : (apos.endLine == cpos.line) = true
  trees : backTo cpos (starEach [e] X.env) = [(false, eval e X.env)]
structure M2 (X : Cx) (o : Expr) (m : Str) (apos : Pos) (e f : Expr) (cpos : Pos) : Prop where
  base : attributeBase o m X.env (eval o X.env) = eval o X.env
  few : ((backTo cpos (starEach [e, f] X.env)).all (fun x => !x.1) && (backToKw cpos (keywordEach [] X.env)).all (fun x => x.1.isSome)
    && decide (([e, f] : List Expr).length + ([] : List Keyword).length + (if ([] : List Keyword).isEmpty then 0 else 1) < 30)) = true
  line : (apos.endLine == cpos.line) = true
  trees : backTo cpos (starEach [e, f] X.env) = [(false, eval e X.env), (false, eval f X.env)]

/-- a is a dict, whatever its keys -/
def IsD (H : Hp) (a : Addr) : Prop := (∃ kvs, Rd H a (.dK kvs)) ∨ ∃ kvs, Rd H a (.dT kvs)
theorem isD_at {X : Cx} {pins : List (Addr × Obj)} {σ : St} {H : Hp} {s : Shared} {a : Addr} (I : Inv X pins σ H s) (d : IsD H a) :
    s.TypeIs (.ref a) "dict" ∧ (∀ b, Value.ref a = .ref b → ∃ ob, s.heap.get? b = some ob ∧ ob.dict = none) ∧ (a == sysModules) = false := by
  rcases d with ⟨kvs, e⟩ | ⟨kvs, e⟩
  · obtain ⟨_, hd, vs, _, dd⟩ := dk_rd I.hok e
    refine ⟨dd.typeIs, fun b q => ?_, hd⟩
    cases q
    obtain ⟨ob, _, _, h1, h2, _⟩ := dd
    exact ⟨ob, h1, h2.2.1⟩
  · obtain ⟨_, hd, xs, _, dd⟩ := dt_rd I.hok e
    refine ⟨dd.typeIs, fun b q => ?_, hd⟩
    cases q
    obtain ⟨ob, _, _, h1, h2, _⟩ := dd
    exact ⟨ob, h1, h2.2.1⟩

section
variable {X : Cx} {pins : List (Addr × Obj)} {σ : St} {H : Hp} {s : Shared} {a : Addr} {y d : V} {u r : Value} {o : Option V} {A : Around} {E : Value → Shared → Prop}
/-- d.get(y) -/
theorem d_get1 {Q : Value → Shared → Prop} (hu : A.units + 1 < cLine) (I : Inv X pins σ H s) (g : DGet H a y o) (ry : RelV y u) (h : ∀ w' s', Inv X pins σ H s' → RelV (o.getD .non) w' → Q w' s') :
    wpAny (model X.prog X.w) A (call (.builtin "dict.get") [.ref a, u]) Q E s := by
  rcases g with ⟨kvs, k, e, ey, l⟩ | ⟨kvs, k, b, e, ey, eb, l⟩
  · subst ey
    obtain ⟨z, hd, vs, rel, dd⟩ := dk_rd I.hok e
    refine call_meetsIn PySem.F.slot_dict_get dd.typeIs PySem.F.entry_dict_get (PySem.F.args_dict_get_2 _ _) (meets_dict_get (mixKind X.prog X.w) a (kV_is ry) hd) ⟨_, dd.mapOf, h _ _ (I.tok _) ?_⟩
    rw [l]
    exact (rel.val k).getD rfl
  · subst ey
    cases (show u = Value.ref b from ry)
    obtain ⟨z, hd, xs, rel, dd⟩ := dt_rd I.hok e
    refine call_meetsIn PySem.F.slot_dict_get dd.typeIs PySem.F.entry_dict_get (PySem.F.args_dict_get_2 _ _) (meetsH_dict_get (tupleKind (mixKind X.prog X.w)) a b hd) ⟨tupleKind_room_in1 hu, k, xs, key_of I.hok eb, dd, h _ _ (I.tok _) ?_⟩
    rw [l]
    exact (rel.val k).getD rfl
/-- d.get(y, x) -/
theorem d_get2 {Q : Value → Shared → Prop} (hu : A.units + 1 < cLine) (I : Inv X pins σ H s) (g : DGet H a y o) (ry : RelV y u) (rd : RelV d r) (h : ∀ w' s', Inv X pins σ H s' → RelV (o.getD d) w' → Q w' s') :
    wpAny (model X.prog X.w) A (call (.builtin "dict.get") [.ref a, u, r]) Q E s := by
  rcases g with ⟨kvs, k, e, ey, l⟩ | ⟨kvs, k, b, e, ey, eb, l⟩
  · subst ey
    obtain ⟨z, hd, vs, rel, dd⟩ := dk_rd I.hok e
    refine call_meetsIn PySem.F.slot_dict_get dd.typeIs PySem.F.entry_dict_get (PySem.F.args_dict_get_3 _ _ _) (meets_dict_get_default (mixKind X.prog X.w) a (kV_is ry) hd r) ⟨_, dd.mapOf, h _ _ (I.tok _) ?_⟩
    rw [l]
    exact (rel.val k).getD rd
  · subst ey
    cases (show u = Value.ref b from ry)
    obtain ⟨z, hd, xs, rel, dd⟩ := dt_rd I.hok e
    refine call_meetsIn PySem.F.slot_dict_get dd.typeIs PySem.F.entry_dict_get (PySem.F.args_dict_get_3 _ _ _) (meetsH_dict_get_default (tupleKind (mixKind X.prog X.w)) a b hd r) ⟨tupleKind_room_in1 hu, k, xs, key_of I.hok eb, dd, h _ _ (I.tok _) ?_⟩
    rw [l]
    exact (rel.val k).getD rd
end

def tDGet1 (td ty : TE) : TE := fun σ H Q => td σ H fun x H1 => ∃ a, x = .ref a ∧ IsD H1 a ∧ ty σ H1 fun y H2 => ∃ o, DGet H2 a y o ∧ Q (o.getD .non) H2
def tDGet2 (td ty tx : TE) : TE := fun σ H Q => td σ H fun x H1 => ∃ a, x = .ref a ∧ IsD H1 a ∧ ty σ H1 fun y H2 => tx σ H2 fun z H3 => ∃ o, DGet H3 a y o ∧ Q (o.getD z) H3
section
variable {X : Cx} {o e f : Expr} {apos cpos : Pos} {td ty tx : TE}
theorem pe_dget1 (hu : X.A.units + 1 < cLine) (ho : PE X o td) (he : PE X e ty) (m : M1 X o "get" apos e cpos) : PE X (.Call (.Attribute o "get" apos) [e] [] cpos) (tDGet1 td ty) := by
  intro pins s σ H Q I h
  refine wpAny_Call_method m.base m.few m.line PySem.F.plainAttrs_dict PySem.F.slot_dict_get PySem.F.type_dict_get (thn (ho pins s σ H _ I h) fun u s1 ⟨x, H1, I1, rx, a, ex, d, q1⟩ => ?_)
  subst ex
  obtain rfl : u = Value.ref a := rx
  obtain ⟨t1, t2, _⟩ := isD_at I1 d
  refine ⟨t1, t2, ?_⟩
  rw [m.trees]
  refine Calls.callWith_builtin rfl (Calls.evalArgs_plain (Calls.spliced_cons (thn (he pins s1 σ H1 _ I1 q1) fun iv s2 ⟨y, H2, I2, ry, ov, g, q2⟩ => Calls.spliced_nil ?_)))
  exact d_get1 hu I2 g ry fun w' s3 I3 rw' => ⟨_, H2, I3, rw', q2⟩
theorem pe_dget2 (hu : X.A.units + 1 < cLine) (ho : PE X o td) (he : PE X e ty) (hf : PE X f tx) (m : M2 X o "get" apos e f cpos) : PE X (.Call (.Attribute o "get" apos) [e, f] [] cpos) (tDGet2 td ty tx) := by
  intro pins s σ H Q I h
  refine wpAny_Call_method m.base m.few m.line PySem.F.plainAttrs_dict PySem.F.slot_dict_get PySem.F.type_dict_get (thn (ho pins s σ H _ I h) fun u s1 ⟨x, H1, I1, rx, a, ex, d, q1⟩ => ?_)
  subst ex
  obtain rfl : u = Value.ref a := rx
  obtain ⟨t1, t2, _⟩ := isD_at I1 d
  refine ⟨t1, t2, ?_⟩
  rw [m.trees]
  refine Calls.callWith_builtin rfl (Calls.evalArgs_plain (Calls.spliced_cons (thn (he pins s1 σ H1 _ I1 q1) fun iv s2 ⟨y, H2, I2, ry, q2⟩ =>
    Calls.spliced_cons (thn (hf pins s2 σ H2 _ I2 q2) fun fv s3 ⟨z, H3, I3, rz, ov, g, q3⟩ => Calls.spliced_nil ?_))))
  exact d_get2 hu I3 g ry rz fun w' s4 I4 rw' => ⟨_, H3, I4, rw', q3⟩
end

/-! ### dict(d): a copy -/
section
variable {X : Cx} {pins : List (Addr × Obj)} {σ : St} {H : Hp} {s : Shared} {a : Addr} {kvs : List (Key × V)} {A : Around} {E : Value → Shared → Prop}
end


section
variable {X : Cx} {pins : List (Addr × Obj)} {σ : St} {H : Hp} {s : Shared} {a : Addr} {y : V} {u : Value} {A : Around} {E : Value → Shared → Prop}
end
end L2

namespace Att
open PySem PySem.W PySem.Calls PyProof.Rows

/-! ### the script -/
theorem ints_of_wellAll {P : Params} {h : Heap} : ∀ (ns : List Int) (vs : List Value), WellAll P h vs (ns.map WData.int) → IntsAre vs ns := by
  intro ns
  induction ns with
  | nil =>
    intro vs w
    rw [List.map_nil] at w
    cases w
    exact .nil
  | cons n ns ih =>
    intro vs w
    rw [List.map_cons] at w
    cases w with
    | cons a b =>
      cases a
      exact .cons _ _ (ih _ b)

theorem script_of {l : OpenLaw} {n : Nat} (hn : l.most = some n) {P : Params} {h : Heap} {args : List WData} {vals : List Value}
    (hpre : l.row.toRowW.claim.pre args = true) (hwl : WellAll P h vals args) :
    ∃ a vs ns, vals = [Value.ref a] ∧ args = [WData.list (ns.map WData.int)] ∧ h.get? a = some { cls := .type "list", data := .seq vs.toArray } ∧ IntsAre vs ns ∧ ns.length ≤ n := by
  have hsh : WShape.hasAll [] args [.list .int] = true := (pre_splitW hpre).1
  have hc : l.pre.holds [] { args := args } = true := (pre_splitW hpre).2
  obtain ⟨d, r, rfl, h1, h2⟩ := hasAllW_cons hsh
  obtain rfl := hasAllW_nil h2
  obtain ⟨xs, rfl, h3⟩ := hasW_list h1
  obtain ⟨ns, rfl⟩ := items_int h3
  have hlen : ns.length ≤ n := by
    unfold OpenLaw.pre at hc
    have h4 : (WTm.not (.lt (.lit (.int (n : Int))) (.len (.arg 0)))).holds [] { args := [.list (ns.map .int)] } = true := by
      have h4 := (holds_andW hc).1
      rw [hn] at h4
      exact h4
    have h5 := condW_of h4 (w_not (w_lt w_lit (w_len_list (w_arg rfl))))
    rw [List.length_map] at h5
    refine Nat.le_of_not_lt fun q => ?_
    have q' : (n : Int) < ((ns.length : Nat) : Int) := by omega
    first
      | (rw [decide_eq_true q'] at h5; exact absurd h5 (by decide))
      | (simp at h5; omega)
  cases hwl with
  | cons w1 w2 =>
    cases w2
    cases w1 with
    | list ho hall => exact ⟨_, _, ns, rfl, rfl, ho, ints_of_wellAll ns _ hall, hlen⟩

theorem post_true (l : OpenLaw) (args : List WData) : l.row.toRowW.claim.post args (.bool true) args = true :=
  postW_of (r := l.row.toRowW) (X := (true == true))
    (show WShape.has [] (.bool true) .bool = true by first | rfl | decide | simp [WShape.has, WShape.arms, WShape.armsAll])
    (show (WTm.eq .res (.lit (.bool true))).value [] { args := args, res := some (.bool true), after := args } = some (.bool (true == true)) from w_eq_bool (w_res rfl) w_lit) rfl

/-! ### the attachment: holds_open's last premise (the goal 'hc' behind k_head) from a wpAny of the law's body -/
/-- the same from a codeAny of the CALL (for a layer whose function contracts speak of calls) -/
theorem attach_call {l : OpenLaw} {n : Nat} {q : Program} {loose : List Str} {XP : (Str → Option Value) → Heap → Prop} {YP : World → Heap → Prop} {d : DefRec}
    (hn : l.most = some n) (hdf : d.params.defaults = [])
    (call : ∀ (w : World) (s₀ s₁ : Shared) (mg mb : Str → Option Value) (fa : Addr) (o : Obj) (pm cd doc : Value) (a : Addr) (vs : List Value) (ns : List Int),
      Ground q loose [] XP w s₀ mg mb s₁.heap → YP w s₁.heap →
      s₁.heap.get? fa = some o → o.data = .func (docDef d.name d.params d.body d.scope pm cd doc) → s₁.heap.CodeRec cd d.name → mg d.name = some (.ref fa) →
      s₁.heap.get? a = some { cls := .type "list", data := .seq vs.toArray } → IntsAre vs ns → ns.length ≤ n → s₁.gens = #[] →
      codeAny (model l.prog w) callerA (.call (.ref fa) ⟨[.ref a], []⟩) (fun r s' => r = .ok (.ret (.bool true)) ∧ OldK s₁.heap s'.heap ∧ s'.os = s₁.os ∧ AllBare s'.gens) s₁) :
    WalkO q loose XP YP l.row.toRowW d [] (fun f vs => PySem.call f vs) := by
  intro w s₀ s₁ mg mb G Y fa o pm cd doc dV kV ho hd hcd hD hmg hg args vals as hpre hlay hrd hwl hlo
  obtain rfl : dV = .none := Dflts.none hD hdf
  obtain rfl : kV = .none := Dflts.noKw hD
  obtain ⟨a, vs, ns, rfl, rfl, hobj, hints, hlen⟩ := script_of hn hpre hwl
  refine enter_call (codeAny_mono (call w s₀ s₁ mg mb fa o pm cd doc a vs ns G Y ho (fd_plain hd) hcd hmg hobj hints hlen hg) fun r s' hq => ?_)
  obtain ⟨rfl, h2, h3, h4⟩ := hq
  exact ⟨.inl ⟨.bool true, .bool true, [], rfl, fun _ => rfl, .bool true, post_true l _, fun _ => ⟨List.Pairwise.nil, fun _ hm => (nomatch hm)⟩⟩, h2, h3, h4⟩

/-! ### rules over ANY heap (no ledger) from facts about the written part K: the library's own take a ledger (News) for what they write -/
section
variable {prog : Program} {w : World} {A : Around} {E : Value → Shared → Prop} {s : Shared} {K : Frag}

/-! the whole heap as the ledger: makes every rule that writes through a ledger a rule over any heap -/
end
end Att

namespace L2
open PySem PySem.Spec PyProof.Rows

theorem vals_ints : ∀ {vs : List Value} {ns : List Int}, IntsAre vs ns → Vals (ns.map V.int) vs
  | _, _, .nil => .nil
  | _, _, .cons n t h => .cons ⟨t, rfl⟩ (vals_ints h)

/-- nothing is tracked but the script, known to the object (or it is an object of the module) -/
def Only (H : Hp) : Prop := ∀ b, H b = none ∨ ∃ o xs, H b = some (.frz o (.lst xs))

/-- THE HEAD: the law's promise, at the heap behind the top. F, the promise of the law's def, may use that base is part of the heap (so K.In base, base.Ns mainGlobals mg stand in Mod) -/
theorem law_call {P : Program} {w : World} {K : PySem.W.Frag} {mg mb : Str → Option Value} {CX : CXT} {k : Nat} {fa a : Addr} {fd : FuncData} {x : Str} {sp : Sp} {s₁ : Shared} {vs : List Value} {ns : List Int}
    (KX : K.In s₁.heap) (hns : s₁.heap.Ns mainGlobals mg) (hb : s₁.heap.Ns builtinsNs mb) (hbb : ∀ x : Str, x ≠ "__name__" → mb x = bootBuiltins x) (hlim : s₁.heap.NoLimit) (hg : s₁.gens = #[])
    (ha : s₁.heap.get? a = some { cls := .type "list", data := .seq vs.toArray }) (hi : IntsAre vs ns) (hl : ns.length ≤ sizeLine) (hr : Room k callerA)
    (F : ∀ base : Heap, K.In base → base.Ns mainGlobals mg → FnOk P w K mg base CX k fa fd [x] sp) (hbind : ∀ (s : Shared) (u : Value), BindsTo s fd ⟨[u], []⟩ [(x, u)])
    (hsp : ∀ H : Hp, Only H → SqL K H a (ns.map V.int) → sp [.ref a] H (fun v _ => v = .bl true) fun _ _ _ => False)
    (hCX : ∀ H e s', CX [] H s₁ (fun _ _ _ => False) e s' → False) :
    codeAny (model P w) callerA (.call (.ref fa) ⟨[.ref a], []⟩) (fun r s' => r = .ok (.ret (.bool true)) ∧ OldK s₁.heap s'.heap ∧ s'.os = s₁.os ∧ AllBare s'.gens) s₁ := by
  have rv := vals_ints hi
  have lenV := hi.length
  -- from an abstract heap in which nothing but the script may be tracked
  have core : ∀ H : Hp, Only H → SqL K H a (ns.map V.int) → HOk P w H s₁.heap → (∀ b, H b ≠ none → b = a) → (H a ≠ none → K.lookup a = none) →
      codeAny (model P w) callerA (.call (.ref fa) ⟨[.ref a], []⟩) (fun r s' => r = .ok (.ret (.bool true)) ∧ OldK s₁.heap s'.heap ∧ s'.os = s₁.os ∧ AllBare s'.gens) s₁ := by
    intro H hO hS hok hA hK
    have base_of : ∀ {b : Addr} {o : Obj}, s₁.heap.get? b = some o → H b = none → (hidT s₁.heap H).get? b = some o := fun e n => hidT_get e n
    have noA : ∀ {b : Addr} {o : Obj} {es : Array DictEntry} {ep : Nat}, s₁.heap.get? b = some o → o.data = .dict es ep → H b = none := fun {b o es ep} e d => by
      cases q : H b with
      | none => rfl
      | some u =>
        have e' : b = a := hA b (by rw [q]; simp)
        subst e'
        rw [ha] at e; cases e
        have d' : Data.seq vs.toArray _ = Data.dict es ep := d
        cases d'
    have nsK : ∀ {b : Addr} {m : Str → Option Value}, s₁.heap.Ns b m → (hidT s₁.heap H).Ns b m := fun {b m} ⟨o, es, ep, e, d, r⟩ => ⟨o, es, ep, base_of e (noA e d), d, r⟩
    have hKb : K.In (hidT s₁.heap H) := fun b o e => base_of (KX b o e) (by
      cases q : H b with
      | none => rfl
      | some u =>
        have e' : b = a := hA b (by rw [q]; simp)
        subst e'
        rw [hK (by rw [q]; simp)] at e; cases e)
    have hM : Mod K mg (hidT s₁.heap H) := ⟨hKb, nsK hns, ⟨mb, nsK hb, hbb⟩, let ⟨mc, h1, h2⟩ := hlim; ⟨mc, nsK h1, h2⟩⟩
    have e0 : Env0 P w K mg (hidT s₁.heap H) callerA [] s₁ H := ⟨rfl, hM, fun b o e => of_hidT e, Nat.le_of_eq (hidT_size _ _), trivial, fun b hb => absurd (show b ∈ ([] : List Addr) from hb) (by simp), hok, .of_eq hg⟩
    refine codeAny_mono ((F _ hKb (nsK hns)).run callerA [] s₁ H ⟨[.ref a], []⟩ [.ref a] [.ref a] _ _ hr e0 (hbind s₁ (.ref a)) (.cons rfl .nil) (hsp H hO hS)) fun r s' h => ?_
    cases r with
    | error e => exact (hCX H e s' h).elim
    | ok fl =>
      cases fl with
      | next => exact False.elim h
      | brk => exact False.elim h
      | cont => exact False.elim h
      | ret u =>
        obtain ⟨v, H', os, bare, un, hok', r', q⟩ := h
        have q' : v = .bl true := q
        subst q'
        obtain rfl : u = Value.bool true := r'
        refine ⟨rfl, OldK.of_keep fun b o e => ?_, os, bare⟩
        cases q : H b with
        | none => exact un.keep b o e q (by intro z; exact absurd (show b ∈ ([] : List Addr) from z) (by simp)) (by simp)
        | some u =>
          rcases hO b with z | ⟨ob, xs, z⟩
          · rw [q] at z; cases z
          · have z2 := un.frzs b ob _ z
            obtain ⟨e1, _⟩ := hok b _ z
            obtain ⟨e2, _⟩ := hok' b _ z2
            rw [e] at e1; cases e1
            exact e2
  cases hk : K.lookup a with
  | some o =>
    -- the script is one of the module's own objects
    have e := KX a o hk
    rw [ha] at e
    cases e
    refine core (fun _ => none) (fun _ => .inl rfl) (.inr ⟨_, vs.toArray, _, hk, rfl, rfl, rfl, by rw [List.size_toArray, lenV]; exact hl, by simpa using rv⟩) (fun b u z => by have z' : (none : Option HO) = some u := z; cases z') (fun b z => absurd rfl z) fun z => absurd rfl z
  | none =>
    refine core (fun b => if b = a then some (.frz { cls := .type "list", data := .seq vs.toArray } (.lst (ns.map V.int))) else none) (fun b => ?_) (.inl (.inr ⟨{ cls := .type "list", data := .seq vs.toArray }, if_pos rfl⟩)) (fun b u z => ?_) (fun b z => ?_) fun _ => hk
    · by_cases hb : b = a
      · exact .inr ⟨_, _, if_pos hb⟩
      · exact .inl (if_neg hb)
    · by_cases hb : b = a
      · have z' := (if_pos hb).symm.trans z
        cases z'
        subst hb
        exact ⟨ha, by rw [List.length_map]; exact hl, vs, _, rv, ha⟩
      · have z' := (if_neg hb).symm.trans z
        cases z'
    · by_cases hb : b = a
      · exact hb
      · exact absurd (if_neg hb) z
end L2

namespace L2
open PySem PySem.Spec PyProof.Rows

abbrev KOf {K : PySem.W.Frag} {h : Heap} (_ : K.In h) : PySem.W.Frag := K

/-- the goal that k_head leaves (case hc), from the law's promise. F gives the function object fd (K's own) once, then the promise over every base -/
theorem walk_of {l : PySem.W.OpenLaw} {n k : Nat} {q : Program} {loose : List Str} {XP : (Str → Option Value) → Heap → Prop} {YP : World → Heap → Prop} {d : DefRec} {K : Params → PySem.W.Frag} {CX : World → CXT} {sp : World → Sp} {x : Str}
    (hn : l.most = some n) (hn2 : n ≤ sizeLine) (hdf : d.params.defaults = []) (hr : Room k callerA)
    (hY : ∀ (w : World) (h : Heap), YP w h → (K w.params).In h)
    (F : ∀ (w : World) (mg : Str → Option Value) (fa : Addr) (h : Heap), (K w.params).In h → h.Ns mainGlobals mg → mg d.name = some (.ref fa) →
      ∃ fd : FuncData, (∀ (s : Shared) (u : Value), BindsTo s fd ⟨[u], []⟩ [(x, u)]) ∧
        ∀ base : Heap, (K w.params).In base → base.Ns mainGlobals mg → FnOk l.prog w (K w.params) mg base (CX w) k fa fd [x] (sp w))
    (hsp : ∀ (w : World) (H : Hp) (a : Addr) (ns : List Int), ns.length ≤ n → Only H → SqL (K w.params) H a (ns.map V.int) → sp w [.ref a] H (fun v _ => v = .bl true) fun _ _ _ => False)
    (hCX : ∀ (w : World) (H : Hp) (s : Shared) (e : Value) (s' : Shared), CX w [] H s (fun _ _ _ => False) e s' → False) :
    PySem.W.WalkO q loose XP YP l.row.toRowW d [] (fun f vs => PySem.call f vs) := by
  refine Att.attach_call hn hdf fun w s₀ s₁ mg mb fa o pm cd doc a vs ns G Y ho hd hcd hmg hobj hints hlen hg => ?_
  have KX := hY w _ Y
  obtain ⟨fd, hb, hF⟩ := F w mg fa _ KX G.T.g hmg
  exact law_call KX G.T.g G.T.b G.T.builtins G.T.nolimit hg hobj hints (Nat.le_trans hlen hn2) hr hF hb (fun H hO hS => hsp w H a ns hlen hO hS) fun H e s' => hCX w H s₁ e s'
end L2

/- THE LAST THEOREM (shape; LID, My.* are yours):
   My.Adr: a structure of the addresses that your layer names (classes, functions); My.Txt K t: a structure (Prop) of the equations over K;
   My.txt_mk : {K} {implicit addresses ..} (e1 : nsIn K mainGlobals "law" = some (some (.ref f))) (e2 : K.lookup f = some ⟨oc, od, .func (fnOf "law" "law" params body scope dV kV doc pm an cdv ct), sl⟩) (e3 : codeIn K cdv "law" = true) .. : ∃ t, My.Txt K t

set_option maxRecDepth 100000 in
set_option maxHeartbeats 0 in
theorem PySem.Challenge.cw_LID_holds : PySem.Challenge.rw_LID.Holds := by
  w_on; o_law; k_head; (case hw => w_witness2)
  k_fill
  refine L2.walk_of (l := PySem.Challenge.rw_LID) (n := 63) (k := 40) (x := "script") (CX := fun w => ..) (sp := fun _ => My.sp_law) rfl (by decide) rfl ⟨rfl, by decide, by decide⟩ (fun w h Y => PySem.W.kIn_of Y) ?F ?S ?C
  case F =>
    intro w mg fa h KX G hmg
    have T : ∃ t, My.Txt (L2.KOf KX) t := by
      dsimp only [L2.KOf]                          -- K must stand as «<heap const> w.params» for k_is
      refine' My.txt_mk ?e1 ?e2 ?e3 ..
      (case e1 => PySem.W.k_is)                    -- in the order: a name -> its address -> its object -> its parts
      (case e2 => PySem.W.k_is)
      ..
    obtain ⟨t, T⟩ := T
    have e0 := hmg.symm.trans (PySem.W.mg_of KX G T.law)
    cases e0                                       -- fa is the law's own address
    exact ⟨_, fun s u => .of_eq rfl, fun base kb nb => My.law_fn T kb nb⟩     -- if «.of_eq rfl» comes too early: refine' ⟨_, ?b, fun base kb nb => My.law_fn T kb nb⟩; exact fun s u => .of_eq rfl
  case S => exact fun w H a ns hl hO hS => ..
  case C => exact ..
(the tactic k_is has no namespace: write k_is) -/

/-! SHORT WORDS over the layer: a def of the text, its body, what a loop and a test want. -/
namespace L2
open PySem PySem.Spec PyProof.Rows

/-! ### the text by places -/




/-! ### no exception leaves a def -/
abbrev CX0 : CXT := fun _ _ _ _ _ _ => False
abbrev E0 : XK := fun _ _ _ => False
theorem pass0 {X : Cx} : Passes CX0 X E0 := fun _ _ _ _ _ _ _ h => h.elim

/-! ### a def (or method) of the text as it stands behind the top -/
structure Fun (K : PySem.W.Frag) (x qual : Str) (st : Stmt) (f : Addr) (fd : FuncData) : Prop where
  ex : ∃ (oc : Value) (od : Option Addr) (kV doc pm : Value) (an : Option Addr) (cdv ct : Value) (osl : Array (Option Value)),
    fd = PySem.W.fnOf x qual (defArgs st) (defBody st) (defScope st) .none kV doc pm an cdv ct ∧ K.lookup f = some ⟨oc, od, .func fd, osl⟩ ∧ PySem.W.codeIn K cdv qual = true
  kp : PySem.W.keepIn K (.ref f) = true
section
variable {P : Program} {w : World} {K : PySem.W.Frag} {mg : Str → Option Value} {base : Heap}
/-- THE RULE for a def: its body as a term of rules, and the reading of that term -/
theorem Fun.ok {x qual : Str} {st : Stmt} {f : Addr} {fd : FuncData} {N ps : List Str} {k : Nat} {sp : Sp} (F : Fun K x qual st f fd) (S : FnScope N ps (defScope st)) (len : ∀ vs H Q E, sp vs H Q E → vs.length = ps.length)
    (hbody : ∀ (cdv : Value) (A : Around) (outer : List Env) (s : Shared) (H : Hp) (vs : List V) (Q : VK) (E : XK), Room k (A.deeper (envOfC qual (defScope st) s.heap.objs.size f cdv)) → sp vs H Q E →
      ∃ t, PSs (cxOf CX0 P w K mg base N qual (defScope st) f cdv A outer s H E).nox (defBody st) t ∧ t { nx := fun _ H' => Q .non H', rt := Q } (start N vs) H) : FnOk P w K mg base CX0 (k + 1) f fd ps sp := by
  obtain ⟨oc, od, kV, doc, pm, an, cdv, ct, osl, rfl, lk, hcd⟩ := F.ex
  refine fn_of lk hcd S len fun A outer s H vs Q E hr hsp => ?_
  obtain ⟨t, h, q⟩ := hbody cdv A outer s H vs Q E hr hsp
  exact ⟨t, h.nox, q⟩
/-- how its arguments bind (no defaults): h is «fun _ _ _ _ _ _ us hl => match us, hl with | [_, _], _ => rfl», one _ a parameter -/
theorem Fun.binds {x qual : Str} {st : Stmt} {f : Addr} {fd : FuncData} {ps : List Str} (F : Fun K x qual st f fd)
    (h : ∀ (kV doc pm : Value) (an : Option Addr) (cdv ct : Value) (us : List Value), us.length = ps.length → bindArgs (PySem.W.fnOf x qual (defArgs st) (defBody st) (defScope st) .none kV doc pm an cdv ct) ⟨us, []⟩ = pure (ps.zip us)) : Binds K fd ps [] := by
  obtain ⟨oc, od, kV, doc, pm, an, cdv, ct, osl, rfl, lk, hcd⟩ := F.ex
  exact .all (h kV doc pm an cdv ct)
theorem fun_mk {x qual : Str} {st : Stmt} {f : Addr} {oc : Value} {od an : Option Addr} {osl : Array (Option Value)} {kV doc pm cdv ct : Value} (l : K.lookup f = some ⟨oc, od, .func (PySem.W.fnOf x qual (defArgs st) (defBody st) (defScope st) .none kV doc pm an cdv ct), osl⟩)
    (c : PySem.W.codeIn K cdv qual = true) (k : PySem.W.keepIn K (.ref f) = true) : Fun K x qual st f (PySem.W.fnOf x qual (defArgs st) (defBody st) (defScope st) .none kV doc pm an cdv ct) := ⟨⟨oc, od, kV, doc, pm, an, cdv, ct, osl, rfl, l, c⟩, k⟩
end
theorem hu_of {A : Around} {k : Nat} (hr : Room k A) : A.units + 1 < cLine := Nat.lt_of_le_of_lt (Nat.add_le_add_left (by decide : 1 ≤ 64) _) hr.units
/-! ### expressions in short: the name that stands in the i-th slot -/
section
variable {X : Cx}
theorem pv (i : Nat) {x : Str} {pos : Pos} (hN : X.N[i]? = some x := by rfl) (hv : Vis X.env.scope x := by first | exact Or.inl rfl | exact Or.inr (Or.inl rfl) | exact Or.inr (Or.inr rfl)) (hd : (x == ("__debug__" : Str)) = false := by decide)
    (hcd : (x == ("__classdict__" : Str)) = false := by decide) : PE X (.Name x pos) (tVar i) := pe_var hN hv hd hcd
end

/-! ### tests -/
theorem ite2 {c A B : Prop} [Decidable c] (h1 : c → A) (h2 : ¬ c → B) : if c then A else B := by
  by_cases h : c
  · rw [if_pos h]
    exact h1 h
  · rw [if_neg h]
    exact h2 h
/-! ### heaps -/
/-- all that was tracked is as it was -/
def Same (H H' : Hp) : Prop := ∀ b o, H b = some o → H' b = some o
theorem Same.refl (H : Hp) : Same H H := fun _ _ h => h
theorem Same.trans {H H1 H2 : Hp} (a : Same H H1) (b : Same H1 H2) : Same H H2 := fun c o h => b c o (a c o h)
theorem Same.free {H H' : Hp} (e : Same H H') {l : Addr} (h : H' l = Option.none) : H l = Option.none := by
  cases q : H l with
  | none => rfl
  | some o =>
    rw [e l o q] at h
    cases h
theorem Same.seq {K : PySem.W.Frag} {H H' : Hp} {a : Addr} {xs : List V} (e : Same H H') (h : SqL K H a xs) : SqL K H' a xs := by
  rcases h with (h | ⟨o, h⟩) | h
  · exact .inl (.inl (e _ _ h))
  · exact .inl (.inr ⟨o, e _ _ h⟩)
  · exact .inr h

/-! ### len of a dict -/
/-! ### a dict's pairs: keys that differ -/
section
variable {κ : Type} [DecidableEq κ]
end
end L2

set_option Elab.async false
set_option linter.all false
set_option maxRecDepth 100000
namespace L2
open PySem PySem.Spec PyProof.Rows

/-! ### a list comprehension of one clause: the block's closure -/
def closOf (cells : List (Str × Addr)) : List (Str × NameKind) → List (Str × Addr) → List (Str × Addr)
  | [], acc => acc
  | (n, k) :: r, acc => closOf cells r (if k == .free then (n, (cells.lookup n).getD 0) :: acc else acc)
theorem clos_for {env : Env} {f : (Str × NameKind) → List (Str × Addr) → Sem (ForInStep (List (Str × Addr)))}
    (hf : ∀ n k cs, f (n, k) cs = if (k == NameKind.free) = true then (cellOf env n >>= fun c => pure (ForInStep.yield ((n, c) :: cs))) else pure (ForInStep.yield cs)) :
    ∀ (names : List (Str × NameKind)) (acc : List (Str × Addr)), (∀ x ∈ names, x.2 = .free → ∃ c, env.cells.lookup x.1 = some c) →
    forIn names acc f = (pure (closOf env.cells names acc) : Sem _)
  | [], acc, _ => rfl
  | (n, k) :: r, acc, h => by
    rw [List.forIn_cons, hf]
    have ih := fun acc => clos_for hf r acc fun x hx => h x (List.mem_cons_of_mem _ hx)
    by_cases hk : (k == NameKind.free) = true
    · rw [if_pos hk]
      obtain ⟨c, hc⟩ := h (n, k) List.mem_cons_self (by simpa using hk)
      have e : cellOf env n = pure c := by unfold cellOf; rw [hc]
      rw [e, pure_bind, pure_bind]
      show forIn r ((n, c) :: acc) f = _
      rw [ih]
      show _ = pure (closOf env.cells r (if (k == NameKind.free) = true then (n, (env.cells.lookup n).getD 0) :: acc else acc))
      rw [if_pos hk, hc]; rfl
    · rw [if_neg hk, pure_bind]
      show forIn r acc f = _
      rw [ih]
      show _ = pure (closOf env.cells r (if (k == NameKind.free) = true then (n, (env.cells.lookup n).getD 0) :: acc else acc))
      rw [if_neg hk]
theorem closureFor_eq {env : Env} {scope : Scope} (h : ∀ x ∈ scope.names, x.2 = .free → ∃ c, env.cells.lookup x.1 = some c) : closureFor scope env = pure (closOf env.cells scope.names []) := by
  unfold closureFor
  show (forIn scope.names ([] : List (Str × Addr)) _ >>= fun cs => pure cs) = _
  rw [clos_for (env := env) (fun n k cs => ?_) _ _ h]
  · rfl
  · rfl
theorem closOf_some {cells : List (Str × Addr)} : ∀ {names : List (Str × NameKind)} {acc : List (Str × Addr)} {x : Str} {c : Addr}, (∀ y ∈ names, y.2 = .free → ∃ c, cells.lookup y.1 = some c) →
    (∀ y c, acc.lookup y = some c → cells.lookup y = some c) → (closOf cells names acc).lookup x = some c → cells.lookup x = some c
  | [], acc, x, c, _, ha, h => ha x c h
  | (n, k) :: r, acc, x, c, hn, ha, h => by
    refine closOf_some (names := r) (fun y hy => hn y (List.mem_cons_of_mem _ hy)) ?_ h
    intro y d hy
    by_cases hk : (k == NameKind.free) = true
    · rw [if_pos hk] at hy
      obtain ⟨e, he⟩ := hn (n, k) List.mem_cons_self (by simpa using hk)
      have he' : cells.lookup n = some e := he
      rw [List.lookup_cons] at hy
      by_cases hyn : (y == n) = true
      · rw [hyn] at hy
        have hy' : (cells.lookup n).getD 0 = d := Option.some.inj hy
        rw [he'] at hy'
        have e1 : y = n := by simpa using hyn
        rw [e1, he', ← hy']; rfl
      · have hf : (y == n) = false := by simpa using hyn
        rw [hf] at hy
        exact ha y d hy
    · rw [if_neg hk] at hy
      exact ha y d hy
theorem closOf_acc {cells : List (Str × Addr)} : ∀ {names : List (Str × NameKind)} {acc : List (Str × Addr)} {x : Str}, (∃ c, acc.lookup x = some c) → ∃ c, (closOf cells names acc).lookup x = some c
  | [], _, _, h => h
  | (n, k) :: r, acc, x, h => by
    refine closOf_acc (names := r) ?_
    by_cases hk : (k == NameKind.free) = true
    · rw [if_pos hk, List.lookup_cons]
      cases hx : (x == n) with
      | true => exact ⟨_, rfl⟩
      | false => exact h
    · rw [if_neg hk]; exact h
theorem closOf_has {cells : List (Str × Addr)} : ∀ {names : List (Str × NameKind)} {acc : List (Str × Addr)} {x : Str}, (x, NameKind.free) ∈ names → ∃ c, (closOf cells names acc).lookup x = some c
  | (n, k) :: r, acc, x, h => by
    rcases List.mem_cons.mp h with e | h
    · have e1 : x = n := congrArg (·.1) e
      have e2 : NameKind.free = k := congrArg (·.2) e
      subst e1 e2
      refine closOf_acc (names := r) ?_
      rw [if_pos (by rfl), List.lookup_cons]
      rw [beq_self_eq_true]
      exact ⟨_, rfl⟩
    · exact closOf_has (names := r) h
/-- a name of the block that is no local is one of its free ones -/
theorem relabel_free {env : Env} : ∀ {names : List (Str × NameKind)} {x : Str} {k : NameKind}, (∀ y ∈ names, y.2 ≠ .cell) →
    (names.map fun (n, k) => if (k == NameKind.free && env.scope.kind == .function && env.kindOf n == some .cell) then (n, NameKind.cell) else (n, k)).lookup x = some k → (k = .cell ∨ k = .free) → (x, NameKind.free) ∈ names
  | [], _, _, _, h, _ => by simp at h
  | (n, k0) :: r, x, k, hc, h, hk => by
    have ih := @relabel_free env r x k (fun y hy => hc y (List.mem_cons_of_mem _ hy))
    rw [List.map_cons] at h
    by_cases hf : (k0 == NameKind.free && env.scope.kind == .function && env.kindOf n == some .cell) = true
    · have hk0 : k0 = .free := by
        have : (k0 == NameKind.free) = true := by
          rw [Bool.and_eq_true, Bool.and_eq_true] at hf; exact hf.1.1
        simpa using this
      dsimp only at h
      rw [if_pos hf, List.lookup_cons] at h
      cases hx : (x == n) with
      | true =>
        have : x = n := by simpa using hx
        rw [this, hk0]; exact List.mem_cons_self
      | false => rw [hx] at h; exact List.mem_cons_of_mem _ (ih h hk)
    · dsimp only at h
      rw [if_neg hf, List.lookup_cons] at h
      cases hx : (x == n) with
      | true =>
        rw [hx] at h
        have e : k0 = k := Option.some.inj h
        have : x = n := by simpa using hx
        rcases hk with z | z
        · exact absurd (e.trans z) (hc (n, k0) List.mem_cons_self)
        · rw [this, e, z]; exact List.mem_cons_self
      | false => rw [hx] at h; exact List.mem_cons_of_mem _ (ih h hk)

/-! ### the block's context -/
def cxComp (X : Cx) (N0 T : List Str) (scope : Scope) (C : Addr) (fp : List Addr) (s : Shared) (H : Hp) : Cx :=
  { X with N := N0 ++ T, s₀ := s, H₀ := H, env := compEnvC scope (closOf X.env.cells scope.names []) C X.env, outer := X.stack, stack := X.stack, ex := fp, fn := fun _ => false, pn := [], xe := fun _ _ => False }
/-- what the scope of a block must be: no cells of its own, its free names are the def's cells, its locals are none of the tracked names -/
structure CompScope (X : Cx) (N0 T : List Str) (scope : Scope) : Prop where
  kind : scope.kind = .function
  nocell : ∀ y ∈ scope.names, y.2 ≠ .cell
  names : ∀ y ∈ scope.names, y.2 = .local → scope.names.lookup y.1 = some .local
  free : ∀ y ∈ scope.names, y.2 = .free → X.env.kindOf y.1 = some .cell ∨ X.env.kindOf y.1 = some .free
  apart : ∀ y ∈ scope.names, y.2 = .local → y.1 ∉ N0
  len0 : N0.length = X.N.length
  same : ∀ (i : Nat) (x : Str) (k : NameKind), N0[i]? = some x → (x, k) ∈ scope.names → X.N[i]? = some x
/-- a loop of one clause, with what is done ahead of the store -/
theorem codeAny_compLoop_go {prog : Program} {w : World} {A : Around} {R : Result → Shared → Prop} {s : Shared} {elt target iter : Expr} {ifs : List Expr} {scope : Scope} {pos : Pos} {it acc : Value} {env : Env} (I : Nat → Shared → Prop)
    (turn : ∀ n s, I n s → wpAny (model prog w) A (pyNext it) (fun r s₁ => match r with
      | none => R (.ok .next) s₁
      | some v => wpAny (model prog w) A (letOwnedTupleGo target it v) (fun _ s₀ => wpAny (model prog w) A (assign target env v) (fun _ s₂ =>
          wpAny (model prog w) A (forIn ifs true fun c r => if r = true then do let ok ← isTrue c env (eval c env); pure (ForInStep.yield ok) else pure (ForInStep.yield r)) (fun ok s₃ =>
            if ok = true then wpAny (model prog w) A (eval elt env) (fun x s₄ =>
              wpAny (model prog w) A (call (.builtin "list.append") [acc, x]) (fun _ s₅ => ∃ m, m < n ∧ I m s₅) (fun _ _ => False) s₄) (fun _ _ => False) s₃
            else ∃ m, m < n ∧ I m s₃) (fun _ _ => False) s₂) (fun _ _ => False) s₀) (fun _ _ => False) s₁) (fun _ _ => False) s)
    (n : Nat) (h : I n s) :
    codeAny (model prog w) A (.compLoop (.ListComp elt [⟨target, iter, ifs, 0⟩] scope pos) 0 it acc env) R s := by
  refine codeAny_loop rfl I (fun n s hI => ?_) n h
  show wpAny _ A ((compTurn (.ListComp elt [⟨target, iter, ifs, 0⟩] scope pos) 0 it acc env).onRaise (fun x => do noteFrame x env; theTreesLotGoes x)) _ _ s
  refine wpAny_noted ?_
  rw [compTurn_list]
  refine wpAny_bind (wpAny_standAt (wpAny_bind (wpAny_mono (turn n s hI) (fun r s₁ h₁ => ?_) fun _ _ h' => h'.elim)))
  cases r with
  | none => exact wpAny_pure h₁
  | some v =>
    refine wpAny_bind (wpAny_mono h₁ (fun _ s₀ h₀ => ?_) fun _ _ h' => h'.elim)
    refine wpAny_bind (wpAny_mono h₀ (fun _ s₂ h₂ => wpAny_bind (wpAny_mono h₂ (fun ok s₃ h₃ => ?_) fun _ _ h' => h'.elim)) fun _ _ h' => h'.elim)
    cases ok with
    | false => exact wpAny_pure ⟨rfl, h₃⟩
    | true =>
      exact wpAny_bind (wpAny_bind (wpAny_mono h₃ (fun x s₄ h₄ => wpAny_bind (wpAny_mono h₄ (fun _ s₅ h₅ => wpAny_pure (wpAny_pure ⟨rfl, h₅⟩)) fun _ _ h' => h'.elim)) fun _ _ h' => h'.elim))

/-- tests of a clause: none, or one -/
def PIfs (X : Cx) (ifs : List Expr) (tc : TT) : Prop :=
  ∀ (pins : List (Addr × Obj)) (s : Shared) (σ : St) (H : Hp) (Q : Bool → Hp → Prop), Inv X pins σ H s → tc σ H Q →
    wpAny (model X.prog X.w) X.A (forIn ifs true fun c r => if r = true then do let ok ← isTrue c X.env (eval c X.env); pure (ForInStep.yield ok) else pure (ForInStep.yield r)) (TP X pins σ Q) X.xe s
def tYes : TT := fun _ H Q => Q true H
theorem pifs_nil {X : Cx} : PIfs X [] tYes := fun _ _ _ H _ I h => wpAny_tests_nil ⟨H, I, h⟩
/-- a target that stores into the slots from n on alone -/
def GFr (g : TG) (n : Nat) : Prop := ∀ x σ H Q, g x σ H Q → g x σ H fun σ' H' => Q σ' H' ∧ σ'.length = σ.length ∧ ∀ k, k < n → σ'[k]? = σ[k]?
theorem gfr_name {i n : Nat} (h : n ≤ i) : GFr (gName i) n := fun x σ H Q q => ⟨q, by simp, fun k hk => by rw [List.getElem?_set_ne (by omega)]⟩
/-- the turns of a comprehension over J, its list at D: W by the turn, a measure, the items so far -/
def compW (J : It) (g : TG) (tc : TT) (te : TE) (nT : Nat) (σ : St) (D : Addr) (Q : VK) (H : Hp) : Prop :=
  ∃ W : Nat → Nat → List V → Hp → Prop, (∃ m, W 0 m [] H) ∧ ∀ i m ys H2, W i m ys H2 →
    (J.stop i H2 ∧ Q (.ref D) H2) ∨ (J.go i H2 ∧ ∀ x H', J.yld i H2 x H' → g x (σ ++ List.replicate nT none) H' fun σ2 H3 => tc σ2 H3 fun b H4 =>
      if b = true then te σ2 H4 fun y H5 => H5 D = some (.lst ys) ∧ ys.length < sizeLine ∧ ∃ m', m' < m ∧ W (i + 1) m' (ys ++ [y]) (upd H5 D (.lst (ys ++ [y]))) else ∃ m', m' < m ∧ W (i + 1) m' ys H4)
def tComp (wi : TI) (g : TG) (tc : TT) (te : TE) (nT : Nat) : TE := fun σ H Q => wi σ H fun J H1 => ∀ D, H1 D = none → compW J g tc te nT σ D Q (upd H1 D (.lst []))

theorem HOk.sameBut {P : Program} {w : World} {H : Hp} {h h' : Heap} {C : Addr} (x : HOk P w H h) (hs : Heap.SameBut C h h') (hC : H C = none) : HOk P w H h' := fun a o e =>
  (x a o e).stay (fun b u hb q => (hs.2 b (by
    rintro rfl
    rcases hb with z | z
    · rw [z] at hC; rw [hC] at e; cases e
    · rw [hC] at z; cases z)).trans q) (fun _ q => q) fun _ _ q => q

section
variable {X : Cx} {N0 T : List Str} {scope : Scope} {tg elt iter : Expr} {ifs : List Expr} {pos : Pos} {wi : TI} {g : TG} {tc : TT} {te : TE}

theorem comp_core {pins : List (Addr × Obj)} {σ : St} {H : Hp} {s : Shared} {E : Value → Shared → Prop} {it : Addr} {fp : List Addr} {tn : Nat → Heap → Prop} {J : It} {Q : VK} {RR : Value → Addr → Result → Shared → Prop}
    (S : CompScope X N0 T scope) (hc : X.calm = true)
    (hg : ∀ C fp s H, PG (cxComp X N0 T scope C fp s H) tg g) (hfr : GFr g X.N.length) (hi : ∀ C fp s H, PIfs (cxComp X N0 T scope C fp s H) ifs tc) (he : ∀ C fp s H, PE (cxComp X N0 T scope C fp s H) elt te)
    (I : Inv X pins σ H s) (Tn : Turn X.prog X.w X.K tg J fp it tn) (st : tn 0 s.heap) (hf : ∀ b ∈ fp, FpOk X pins H b)
    (h : ∀ D, H D = none → compW J g tc te T.length σ D Q (upd H D (.lst [])))
    (hRR : ∀ D C s' H' m, s'.heap.Ns C m → H' C = none → C ≠ X.env.locals → (∀ x c, X.env.cells.lookup x = some c → c ≠ C) → (∀ p ∈ X.pn ++ pins, p.1 ≠ C) → X.s₀.heap.objs.size ≤ C → Inv X pins σ H' s' →
      (∀ h', Heap.SameBut C s'.heap h' → Inv X pins σ H' { s' with heap := h' }) → Q (.ref D) H' → RR (.ref D) C (.ok .next) s') :
    wpAny (model X.prog X.w) X.A (newList []) (fun acc s₃ => wpAny (model X.prog X.w) X.A (newFunctionEnv scope X.env.globals (closOf X.env.cells scope.names []) [] X.env.qual none .none (some X.env)) (fun cenv s₄ =>
      codeAny (model X.prog X.w) X.A (.compStart (.ListComp elt [⟨tg, iter, ifs, 0⟩] scope pos) 0 (.ref it) acc { cenv with scope := relabel scope X.env }) (RR acc cenv.locals) s₄) E s₃) E s := by
  refine wpAny_newObj_type (wpAny_newFunctionEnv S.nocell (by intro y hy; simp at hy) (fun h₁ hns₁ hsb₁ => ?_) S.kind)
  dsimp only at hns₁ hsb₁ ⊢
  generalize hH2 : s.heap.push { cls := .type "list", dict := none, data := .seq ([] : List Value).toArray } = P2 at hns₁ hsb₁ ⊢
  have hC : P2.objs.size = s.heap.objs.size + 1 := by rw [← hH2, Heap.size_push]
  -- the new list D, the block's names C
  obtain ⟨D, hD⟩ : ∃ D : Nat, D = s.heap.objs.size := ⟨_, rfl⟩
  obtain ⟨C, hCC⟩ : ∃ C : Nat, C = P2.objs.size := ⟨_, rfl⟩
  rw [← hCC] at hns₁ hsb₁ hC ⊢
  rw [← hD] at hC ⊢
  have hDC : D ≠ C := by omega
  have hDlt : D < C := by omega
  have neD : ∀ b o, s.heap.get? b = some o → b ≠ D := fun b o e => hD ▸ Nat.ne_of_lt (Heap.lt_size e)
  have neC : ∀ b o, s.heap.get? b = some o → b ≠ C := fun b o e => Nat.ne_of_lt (Nat.lt_trans (hD ▸ Heap.lt_size e) hDlt)
  have old : ∀ b o, s.heap.get? b = some o → h₁.get? b = some o := fun b o e => hsb₁.extBut b o (neC b o e) (Heap.get?_push_of_some _ (hH2 ▸ Heap.get?_push_of_some _ e))
  have hHD : H D = none := I.hok.fresh (by omega)
  have hHC : H C = none := I.hok.fresh (by omega)
  have dat : h₁.get? D = some { cls := .type "list", data := .seq ([] : List Value).toArray 0 } := by
    refine hsb₁.extBut _ _ hDC (Heap.get?_push_of_some _ ?_)
    rw [← hH2, hD]
    exact Heap.get?_push_size _ rfl
  -- the block's context stands
  have hcl : ∀ x c, (closOf X.env.cells scope.names []).lookup x = some c → X.env.cells.lookup x = some c := fun x c e =>
    closOf_some (fun y hy hk => I.ok.has y.1 (S.free y hy hk)) (fun y c z => by simp at z) e
  have okC : (cxComp X N0 T scope C fp s H).Ok := by
    refine ⟨I.ok.mod, ?_, I.ok.glob, I.ok.blt, ?_, fun x y c e1 e2 => I.ok.inj x y c (hcl x c e1) (hcl y c e2), fun x hx => ?_, fun x c z _ => (by cases z), I.ok.hd, I.ok.frames, .inl rfl, fun b hb => ⟨?_, fun x c e => (hf b hb).2.2.2.2.1 x c (hcl x c e)⟩,
      I.bs, ?_, fun b o e hb => ?_, fun b hb z => ?_, I.stack, I.stkFree⟩
    · show (relabel scope X.env).kind = .function
      exact S.kind
    · show s.heap.objs.size ≤ C
      omega
    · have hx' : (relabel scope X.env).names.lookup x = some .cell ∨ (relabel scope X.env).names.lookup x = some .free := hx
      have m : (x, NameKind.free) ∈ scope.names := by
        rcases hx' with z | z
        · exact relabel_free S.nocell z (.inl rfl)
        · exact relabel_free S.nocell z (.inr rfl)
      exact closOf_has m
    · show b ≠ C
      obtain ⟨o, e, _⟩ := Tn.obj 0 _ st b hb
      exact neC b o e
    · exact Nat.le_trans I.ok.bsz I.sz
    · obtain ⟨_, _, _, z, _⟩ := hf b hb
      rcases z with z | z
      · exact I.ok.noex b o e z
      · exact absurd (Nat.lt_of_lt_of_le (Nat.lt_of_lt_of_le (Heap.lt_size e) I.ok.bsz) z) (Nat.lt_irrefl _)
    · obtain ⟨_, z1, z2, _⟩ := hf b hb
      rcases List.mem_cons.mp (I.stkSub b z) with q | q
      · exact z1 q
      · exact z2 q
  have I1 : Inv (cxComp X N0 T scope C fp s H) [] (σ ++ List.replicate T.length none) (upd H D (.lst [])) { s with heap := h₁, toks := s.toks + ([] : List (Str × Value)).length } := by
    refine ⟨okC, rfl, I.bare, Un.laid (h := s.heap) old (by omega) hHD, ⟨_, hns₁, fun i x v e1 e2 e3 => ?_⟩, fun x c e => ?_, ?_, fun x c e => ?_, fun p hp => (by simp [cxComp] at hp), I.hok.laid old (by omega) ?_, ?_⟩
    · have e1' : (N0 ++ T)[i]? = some x := e1
      have hl := I.len
      have hl0 := S.len0
      have hi : i < σ.length := by
        rcases Nat.lt_or_ge i σ.length with z | z
        · exact z
        · rw [List.getElem?_append_right z] at e2
          rw [List.getElem?_replicate] at e2
          split at e2 <;> cases e2
      rw [List.getElem?_append_left hi] at e2
      rw [List.getElem?_append_left (by omega)] at e1'
      have hxN : x ∈ N0 := List.mem_of_getElem? e1'
      have e3' : (relabel scope X.env).names.lookup x = some .local ∨ (relabel scope X.env).names.lookup x = some .cell ∨ (relabel scope X.env).names.lookup x = some .free := e3
      have fr : (relabel scope X.env).names.lookup x = some .cell ∨ (relabel scope X.env).names.lookup x = some .free := by
        rcases e3' with z | z | z
        · exfalso
          -- a local of the block is no tracked name
          have key : ∀ (names : List (Str × NameKind)), (names.map fun (n, k) => if (k == NameKind.free && X.env.scope.kind == .function && X.env.kindOf n == some .cell) then (n, NameKind.cell) else (n, k)).lookup x = some .local → (x, NameKind.local) ∈ names := by
            intro names
            induction names with
            | nil => intro z; simp at z
            | cons y r ih =>
              obtain ⟨n, k⟩ := y
              intro z
              rw [List.map_cons] at z
              dsimp only at z
              by_cases hfk : (k == NameKind.free && X.env.scope.kind == .function && X.env.kindOf n == some .cell) = true
              · rw [if_pos hfk, List.lookup_cons] at z
                cases hx : (x == n) with
                | true => rw [hx] at z; cases z
                | false => rw [hx] at z; exact List.mem_cons_of_mem _ (ih z)
              · rw [if_neg hfk, List.lookup_cons] at z
                cases hx : (x == n) with
                | true =>
                  rw [hx] at z
                  have ek : k = .local := Option.some.inj z
                  have en : x = n := by simpa using hx
                  rw [ek, en]; exact List.mem_cons_self
                | false => rw [hx] at z; exact List.mem_cons_of_mem _ (ih z)
          exact S.apart (x, .local) (key _ z) rfl hxN
        · exact .inl z
        · exact .inr z
      have m : (x, NameKind.free) ∈ scope.names := by
        rcases fr with z | z
        · exact relabel_free S.nocell z (.inl rfl)
        · exact relabel_free S.nocell z (.inr rfl)
      have kX := S.free _ m rfl
      obtain ⟨mm, hn, hl'⟩ := I.loc
      obtain ⟨u, r, lk⟩ := hl' i x v (S.same i x _ e1' m) e2 (.inr kX)
      refine ⟨u, r, .inr ⟨fr, ?_⟩⟩
      rcases lk with ⟨z, _⟩ | ⟨_, c, ec, cc⟩
      · rcases kX with q | q
        · rw [q] at z; cases z
        · rw [q] at z; cases z
      · obtain ⟨c', ec'⟩ := closOf_has (cells := X.env.cells) (acc := []) m
        have := hcl x c' ec'
        rw [ec] at this; cases this
        exact ⟨c, ec', cc.keeps old⟩
    · obtain ⟨v, z⟩ := I.cell x c (hcl x c e)
      exact ⟨v, z.keeps old⟩
    · show upd H D (.lst []) C = none
      rw [upd_ne (Ne.symm hDC)]; exact hHC
    · have q := I.freeC x c (hcl x c e)
      obtain ⟨v, o, z, _⟩ := I.cell x c (hcl x c e)
      rw [upd_ne (neD c o z)]; exact q
    · exact ⟨Nat.zero_le _, [], 0, .nil, dat⟩
    · show (σ ++ List.replicate T.length none).length = (N0 ++ T).length
      rw [List.length_append, List.length_append, List.length_replicate, I.len, S.len0]
  have st1 : tn 0 h₁ := Tn.keep _ _ _ st fun b _ o e => old b o e
  have fp1 : ∀ {H' : Hp}, (∀ b ∈ fp, H' b = none) → ∀ b ∈ fp, FpOk (cxComp X N0 T scope C fp s H) [] H' b := fun hn b hb =>
    ⟨hn b hb, (okC.exf b hb).1, okC.exfs b hb, .inl hb, (okC.exf b hb).2, fun p hp => (by simp [cxComp] at hp)⟩
  have fp0 : ∀ b ∈ fp, upd H D (.lst []) b = none := fun b hb => by
    obtain ⟨o, e, _⟩ := Tn.obj 0 _ st b hb
    rw [upd_ne (neD b o e)]; exact (hf b hb).1
  obtain ⟨W, ⟨m0, w0⟩, turn⟩ := h D hHD
  have loop : ∀ s₃ : Shared, s₃ = { s with heap := h₁, toks := s.toks + ([] : List (Str × Value)).length } →
      codeAny (model X.prog X.w) X.A (.compLoop (.ListComp elt [⟨tg, iter, ifs, 0⟩] scope pos) 0 (.ref it) (.ref D) (compEnvC scope (closOf X.env.cells scope.names []) C X.env)) (RR (.ref D) C) s₃ := by
    rintro s₃ rfl
    refine codeAny_compLoop_go (fun n s' => ∃ i H' ys, Inv (cxComp X N0 T scope C fp s H) [] (σ ++ List.replicate T.length none) H' s' ∧ tn i s'.heap ∧ (∀ b ∈ fp, H' b = none) ∧ W i n ys H') ?_ m0 ⟨0, _, [], I1, st1, fp0, w0⟩
    rintro n s3 ⟨i, H3, ys, I3, st3, fr3, w3⟩
    rcases turn i n ys H3 w3 with ⟨stop, qn⟩ | ⟨go, step⟩
    · refine thn (Tn.done (cxComp X N0 T scope C fp s H) rfl rfl rfl hc i [] s3 _ H3 (fun _ _ => False) I3 (fp1 fr3) st3 stop) fun r s4 ⟨hr, I4⟩ => ?_
      subst hr
      obtain ⟨m, hm, _⟩ := I4.loc
      have hch : ∀ b ∈ fp, (b ∈ X.ex ∨ X.s₀.heap.objs.size ≤ b) ∧ b ≠ X.env.locals ∧ (∀ x c, X.env.cells.lookup x = some c → c ≠ b) ∧ ∀ p ∈ X.pn ++ pins, p.1 ≠ b := fun b hb =>
        ⟨(hf b hb).2.2.2.1, (hf b hb).2.1, (hf b hb).2.2.2.2.1, (hf b hb).2.2.2.2.2⟩
      have u4 : Un (frs X.stack) fp H H3 s.heap s4.heap := I4.base
      refine hRR D C s4 H3 m hm I4.free (Ne.symm (Nat.ne_of_lt (Nat.lt_trans (hD ▸ I.lt) hDlt))) (fun x c e => ?_) (fun p hp => ?_) (Nat.le_trans (hD ▸ I.sz) (Nat.le_of_lt hDlt)) (I.call' (ch := fp) I4.os u4 I4.hok I4.bare hch) (fun h' hs' => ?_) qn
      · obtain ⟨v, o, q, _⟩ := I.cell x c e
        exact neC c o q
      · exact neC _ _ (I.pin p hp).1
      · refine I.call' (ch := fp) (s' := { s4 with heap := h' }) I4.os ⟨fun b o q n' hb hx => (hs'.2 b (neC b o q)).trans (u4.keep b o q n' hb hx), fun b o q n' hb hx => ?_, u4.free, fun b o q hx => ?_, u4.tups, u4.frzs, u4.tbls⟩ (I4.hok.sameBut hs' I4.free) I4.bare hch
        · obtain ⟨sl, e⟩ := u4.slot b o q n' hb hx
          exact ⟨sl, (hs'.2 b (neC b o q)).trans e⟩
        · obtain ⟨o', e⟩ := u4.there b o q hx
          exact ⟨o', (hs'.2 b (neC b o q)).trans e⟩
    · refine thn (Tn.item (cxComp X N0 T scope C fp s H) rfl rfl rfl hc i [] s3 _ H3 (fun _ _ => False) I3 (fp1 fr3) st3 go) fun r s4 ⟨u, hr, h4⟩ => ?_
      subst hr
      refine thn h4 fun _ s5 ⟨x, H5, I5, r5, y5, st5, fr5⟩ => ?_
      have I5' := I5.pinned (fp1 fr5) (Tn.obj _ _ st5)
      refine thn (hg C fp s H _ s5 _ H5 x u _ I5' r5 (hfr _ _ _ _ (step x H5 y5))) fun _ s6 ⟨σ6, H6, I6, q6, l6, k6⟩ => ?_
      have back : ∀ {H7 : Hp} {s7 : Shared}, Inv (cxComp X N0 T scope C fp s H) ([] ++ pinsAt fp s5.heap) σ6 H7 s7 → (∀ {m' : Nat} {zs : List V}, m' < n → W (i + 1) m' zs H7 → ∃ m, m < n ∧ ∃ i H' ys, Inv (cxComp X N0 T scope C fp s H) [] (σ ++ List.replicate T.length none) H' s7 ∧ tn i s7.heap ∧ (∀ b ∈ fp, H' b = none) ∧ W i m ys H') := fun {H7 s7} I7 {m' zs} hm w7 => by
        refine ⟨m', hm, i + 1, H7, zs, I7.unpinned.weak (by rw [l6]) (fun j v e => ?_), Tn.keep _ _ _ st5 fun b hb o e => (I7.pin (b, o) (List.mem_append_right _ (List.mem_append_right _ (mem_pinsAt hb e)))).1, fun b hb => ?_, w7⟩
        · have hj : j < σ.length := by
            rcases Nat.lt_or_ge j σ.length with z | z
            · exact z
            · rw [List.getElem?_append_right z, List.getElem?_replicate] at e
              split at e <;> cases e
          rw [k6 j (by rw [← I.len]; exact hj)]
          exact e
        · obtain ⟨o, e, d⟩ := Tn.obj _ _ st5 b hb
          exact (I7.pin (b, o) (List.mem_append_right _ (List.mem_append_right _ (mem_pinsAt hb e)))).2.1
      refine thn (hi C fp s H _ s6 σ6 H6 _ I6 q6) fun b s7 ⟨H7, I7, q7⟩ => ?_
      cases b with
      | false =>
        obtain ⟨m', hm, w7⟩ := (show ∃ m', m' < n ∧ W (i + 1) m' ys H7 from by simpa using q7)
        exact back I7 hm w7
      | true =>
        rw [if_pos rfl] at q7
        refine thn (he C fp s H _ s7 σ6 H7 _ I7 q7) fun v s8 ⟨y, H8, I8, r8, hD8, hz, m', hm, w8⟩ => ?_
        refine thn (mt_append (X := cxComp X N0 T scope C fp s H) _ s8 σ6 H8 (.ref D) [y] (.ref D) [v] (fun _ H9 => H9 = upd H8 D (.lst (ys ++ [y]))) I8 rfl (.cons r8 .nil) ⟨D, ys, y, rfl, rfl, hD8, hz, rfl⟩) fun v9 s9 ⟨y9, H9, I9, _, e9⟩ => ?_
        subst e9
        exact back I9 hm w8
  exact codeAny_compStart_list (loop _ rfl) (Tn.self X.A 0 _ _ _ st1 (loop _ rfl))

/-- [elt for tg in iter] -/
theorem pe_comp (S : CompScope X N0 T scope) (hc : X.calm = true) (hI : PI X tg iter wi)
    (hg : ∀ C fp s H, PG (cxComp X N0 T scope C fp s H) tg g) (hfr : GFr g X.N.length) (hi : ∀ C fp s H, PIfs (cxComp X N0 T scope C fp s H) ifs tc) (he : ∀ C fp s H, PE (cxComp X N0 T scope C fp s H) elt te)
    (hs : ∀ x, foldedSetIterable iter X.env x = pure x := by intro _; rfl) : PE X (.ListComp elt [⟨tg, iter, ifs, 0⟩] scope pos) (tComp wi g tc te T.length) := by
  intro pins s σ H Q I h
  rw [eval_ListComp]
  refine wpAny_comprehension_free (use := none) rfl hs (closureFor_eq fun x hx hk => I.ok.has x.1 (S.free x hx hk)) S.kind S.names (thn (hI pins s σ H _ I h) fun v s1 h1 => thn h1 fun itv s2 h2 => ?_)
  obtain ⟨it, fp, tn, J, H2, e, I2, Tn, st2, f2, q2⟩ := h2
  subst e
  refine comp_core (RR := fun acc C => compPost (model X.prog X.w) X.A X.xe none (EP X pins σ Q) acc C) S hc hg hfr hi he I2 Tn st2 f2 q2 ?_
  intro D C s' H' m hn hC hL hcells hpins hfresh I' hI' q
  exact ⟨m, hn, fun h' hs' => ⟨.ref D, H', hI' h' hs', rfl, q⟩⟩

/-- x = [elt for tg in iter] -/
theorem ps_setcomp {i : Nat} {x : Str} {pos' spos : Pos} (S : CompScope X N0 T scope) (hc : X.calm = true) (hN : X.N.Nodup) (hi' : X.N[i]? = some x) (hx : X.env.scope.names.lookup x = some .local) (hI : PI X tg iter wi)
    (hg : ∀ C fp s H, PG (cxComp X N0 T scope C fp s H) tg g) (hfr : GFr g X.N.length) (hi : ∀ C fp s H, PIfs (cxComp X N0 T scope C fp s H) ifs tc) (he : ∀ C fp s H, PE (cxComp X N0 T scope C fp s H) elt te)
    (hsw : swapsWith (.ListComp elt [⟨tg, iter, ifs, 0⟩] scope pos) (some (.Name x pos')) spos.line X.env = pure true := by rfl)
    (hs : ∀ x, foldedSetIterable iter X.env x = pure x := by intro _; rfl) : PS X (.Assign [.Name x pos'] (.ListComp elt [⟨tg, iter, ifs, 0⟩] scope pos) spos) (tAsg (tComp wi g tc te T.length) (gName i)) := by
  intro pins s σ H D I h
  rw [exec_Assign_Name_used _ _ _ _ hsw]
  refine wpAny_bind (wpAny_standAt (wpAny_bind ?_))
  show wpAny _ X.A (do let _ ← comprehension (.ListComp elt [⟨tg, iter, ifs, 0⟩] scope pos) scope X.env _ (newList []) false (eval iter X.env) (some (assign (.Name x pos') X.env))) _ _ s
  refine wpAny_bind (wpAny_mono (wpAny_comprehension_free (use := some (assign (.Name x pos') X.env)) (Q := fun _ s' => SP X pins D .next s') rfl hs (closureFor_eq fun x hx hk => I.ok.has x.1 (S.free x hx hk)) S.kind S.names
    (thn (hI pins s σ H _ I h) fun v s1 h1 => thn h1 fun itv s2 h2 => ?_)) (fun _ s' hq => wpAny_pure (wpAny_pure hq)) fun _ _ e => e)
  obtain ⟨it, fp, tn, J, H2, e, I2, Tn, st2, f2, q2⟩ := h2
  subst e
  refine comp_core (RR := fun acc C => compPost (model X.prog X.w) X.A X.xe (some (assign (.Name x pos') X.env)) (fun _ s' => SP X pins D .next s') acc C) S hc hg hfr hi he I2 Tn st2 f2 q2 ?_
  intro L C s' H' m hn hC hL hcells hpins hfresh I' hI' q
  show wpAny _ X.A (assign (.Name x pos') X.env (.ref L)) _ _ _
  refine wpAny_assign_Name (store_ok2 (v := .ref L) I' hN hi' (.inl hx) rfl (fun s'' I'' ⟨a, hsa, ha⟩ => ?_) (.inr hx))
  have hCa : C ≠ a := by
    rintro rfl
    rcases ha with z | z
    · exact hL z
    · exact hcells x C z rfl
  refine ⟨m, hn.sameBut hsa hCa, fun h' hs' => ?_⟩
  exact ⟨σ.set i (some (.ref L)), H', I''.turned (t' := s''.toks) (fun b o hb e => (hs'.2 b hb).trans e) hC hL (.inr hfresh) hcells hpins, q⟩
end
end L2

set_option Elab.async false
set_option linter.all false
set_option maxRecDepth 100000
namespace L2
open PySem PySem.Spec PyProof.Rows

/-! ### items of a list of values, the other way about -/
theorem Vals.of : ∀ {xs : List V} {us : List Value} {i : Nat} {u : Value}, Vals xs us → us[i]? = some u → ∃ x, xs[i]? = some x ∧ RelV x u
  | _, _, 0, u, .cons r _, e => ⟨_, rfl, by simp at e; subst e; exact r⟩
  | _, _, i + 1, u, .cons _ rr, e => by
    obtain ⟨x, hx, r⟩ := Vals.of (i := i) rr (by simpa using e)
    exact ⟨x, by simpa using hx, r⟩
theorem vals_strs : ∀ {ss : List Str} {us : List Value}, Vals (ss.map V.str) us → StrsAre us ss
  | [], _, .nil => .nil
  | s :: ss, _, .cons r rr => by
    obtain ⟨t, rfl⟩ := r
    exact .cons s t (vals_strs rr)
/-! ### all, any of a list of bools -/
section
variable {X : Cx}
/-! ### isinstance -/
/-- the built-in type that a value is of -/
def tyName (H : Hp) : V → Option String
  | .non => some "NoneType"
  | .bl _ => some "bool"
  | .int _ => some "int"
  | .str _ => some "str"
  | .ref a => match H a with
    | some (.lst _) => some "list"
    | some (.frz _ (.lst _)) => some "list"
    | some (.tup _) => some "tuple"
    | some (.dK _) => some "dict"
    | some (.dT _) => some "dict"
    | _ => none
  | _ => none
theorem tyOf_name {K : PySem.W.Frag} {H : Hp} : ∀ {x : V} {T : String}, tyName H x = some T → TyOf K H x (.type T)
  | .non, T, h => by cases h; exact .non
  | .bl b, T, h => by cases h; exact .bl b
  | .int i, T, h => by cases h; exact .int i
  | .str y, T, h => by cases h; exact .str y
  | .byt _, T, h => by cases h
  | .flt _, T, h => by cases h
  | .ty _, T, h => by cases h
  | .ref a, T, h => by
    cases e : H a with
    | none => simp [tyName, e] at h
    | some o =>
      cases o with
      | lst xs => simp [tyName, e] at h; subst h; exact .lst e
      | tup xs => simp [tyName, e] at h; subst h; exact .tup e
      | dK xs => simp [tyName, e] at h; subst h; exact .dK e
      | dT xs => simp [tyName, e] at h; subst h; exact .dT e
      | frz ob u =>
        cases u with
        | lst xs => simp [tyName, e] at h; subst h; exact .frz e
        | _ => simp [tyName, e] at h
      | _ => simp [tyName, e] at h
def isT (T C : String) : Bool := T == C || (T == "bool" && C == "int")
theorem kit_name (K : PySem.W.Frag) {T C : String} (hT : T ∈ ["NoneType", "bool", "int", "str", "list", "tuple", "dict"]) (hC : C ∈ ["bool", "int", "str", "list", "tuple"]) : PySem.W.kitOne K (.type T) (.type C) = some (isT T C) := by
  simp only [List.mem_cons, List.mem_nil_iff, or_false] at hT hC
  rcases hT with rfl | rfl | rfl | rfl | rfl | rfl | rfl <;> rcases hC with rfl | rfl | rfl | rfl | rfl <;> (with_unfolding_all rfl)
theorem tyName_mem {H : Hp} {x : V} {T : String} (h : tyName H x = some T) : T ∈ ["NoneType", "bool", "int", "str", "list", "tuple", "dict"] := by
  cases x with
  | ref a =>
    cases e : H a with
    | none => simp [tyName, e] at h
    | some o =>
      cases o with
      | frz ob u => cases u <;> simp [tyName, e] at h <;> subst h <;> decide
      | _ => simp [tyName, e] at h <;> subst h <;> decide
  | _ => first | (cases h; decide) | cases h
def rIsT : List V → Hp → VK → Prop := fun xs H Q => ∃ (x : V) (T C : String), xs = [x, .ty C] ∧ tyName H x = some T ∧ C ∈ ["bool", "int", "str", "list", "tuple"] ∧ Q (.bl (isT T C)) H
theorem rIsT_at {H : Hp} {Q : VK} (x : V) (C : String) : rIsT [x, .ty C] H Q = ∃ T, tyName H x = some T ∧ C ∈ ["bool", "int", "str", "list", "tuple"] ∧ Q (.bl (isT T C)) H :=
  propext ⟨fun ⟨_, T, _, e, q⟩ => by cases e; exact ⟨T, q⟩, fun ⟨T, q⟩ => ⟨x, T, C, rfl, q⟩⟩
theorem call_isT : CallR X (.builtin "isinstance") rIsT := by
  intro pins s σ H xs us Q I r h
  obtain ⟨x, T, C, rfl, hT, hC, q⟩ := h
  obtain ⟨u, w', rfl, ru, rw'⟩ := vals2 r
  cases rw'
  exact isinst_ok I ru (tyOf_name hT) (kit_name X.K (tyName_mem hT) hC) fun tk => ⟨.bl (isT T C), H, I.tok tk, rfl, q⟩

/-! ### sep.join(texts) -/
def rJoin (K : PySem.W.Frag) : V → List V → Hp → VK → Prop := fun x vs H Q => ∃ (sep : Str) (p : Addr) (ss : List Str), x = .str sep ∧ vs = [.ref p] ∧ SqL K H p (ss.map V.str) ∧ (ss.map (·.length)).sum + ss.length * sep.length ≤ 16777216 ∧ Q (.str (Txt.join sep ss)) H
theorem mt_join : MtR X "str.join" (rJoin X.K) := by
  intro pins s σ H x xs v us Q I rx r h
  obtain ⟨sep, p, ss, rfl, rfl, hq, hz, q⟩ := h
  obtain ⟨t, rfl⟩ := rx
  obtain ⟨u, rfl, ru⟩ := vals1 r
  cases ru
  obtain ⟨its, rv, pl, _⟩ := I.list hq
  exact join_list pl.isList (by simpa using vals_strs rv) hz fun t' k => ⟨.str (Txt.join sep ss), H, I.tok k, ⟨t', rfl⟩, q⟩

/-! ### a loop over a text's signs -/
end

/-! ### the turns of a comprehension, of a loop, over what is walked -/
/-- a for's turns -/
def forW (J : It) (g : TG) (tb : TS) (D : Ends) (σ : St) (H : Hp) : Prop := ∃ W : Nat → Nat → St → Hp → Prop, (∃ m, W 0 m σ H) ∧ ∀ i m σ H, W i m σ H →
  (J.stop i H ∧ D.nx σ H) ∨ (J.go i H ∧ ∃ N : St → Hp → Prop, (∀ σ' H', N σ' H' → ∃ m', m' < m ∧ W (i + 1) m' σ' H') ∧ ∀ x H', J.yld i H x H' → g x σ H' fun σ2 H2 => tb { D with nx := N, ct := N, bk := D.nx } σ2 H2)
theorem tFor_at (wi : TI) (g : TG) (tb : TS) (D : Ends) (σ : St) (H : Hp) : tFor wi g tb D σ H = wi σ H fun J H1 => forW J g tb D σ H1 := rfl
/-- n turns; what is yielded at the i-th by this heap -/
theorem forW_by {J : It} {g : TG} {tb : TS} {D : Ends} {σ : St} {H : Hp} (n : Nat) (Pv : Nat → St → Hp → Prop) (h0 : Pv 0 σ H) (hgo : ∀ i σ H, i < n → Pv i σ H → J.go i H) (hst : ∀ σ H, Pv n σ H → J.stop n H)
    (hs : ∀ i σ H x H', i < n → Pv i σ H → J.yld i H x H' → g x σ H' fun σ2 H2 => tb { D with nx := Pv (i + 1), ct := Pv (i + 1), bk := D.nx } σ2 H2) (hd : ∀ σ H, Pv n σ H → D.nx σ H) : forW J g tb D σ H := by
  refine ⟨fun i m σ H => m = n - i ∧ i ≤ n ∧ Pv i σ H, ⟨n, by simp, Nat.zero_le _, h0⟩, ?_⟩
  rintro i m σ H ⟨rfl, hi, p⟩
  by_cases hlt : i < n
  · exact .inr ⟨hgo i σ H hlt p, Pv (i + 1), fun σ' H' p' => ⟨n - (i + 1), by omega, rfl, hlt, p'⟩, fun x H' y => hs i σ H x H' hlt p y⟩
  · have e : i = n := by omega
    subst e
    exact .inl ⟨hst σ H p, hd σ H p⟩
theorem forW_list {K : PySem.W.Frag} {a : Addr} {xs : List V} {g : TG} {tb : TS} {D : Ends} {σ : St} {H : Hp} (Pv : Nat → St → Hp → Prop) (h0 : Pv 0 σ H) (hl : ∀ i σ H, i ≤ xs.length → Pv i σ H → SqL K H a xs)
    (hs : ∀ i x σ H, xs[i]? = some x → Pv i σ H → g x σ H fun σ2 H2 => tb { D with nx := Pv (i + 1), ct := Pv (i + 1), bk := D.nx } σ2 H2) (hd : ∀ σ H, Pv xs.length σ H → D.nx σ H) : forW (Itl K a) g tb D σ H :=
  for_list Pv h0 hl hs hd
theorem forW_range {lo : Int} {n : Nat} {g : TG} {tb : TS} {D : Ends} {σ : St} {H : Hp} (Pv : Nat → St → Hp → Prop) (h0 : Pv 0 σ H)
    (hs : ∀ i σ H, i < n → Pv i σ H → g (.int (lo + i)) σ H fun σ2 H2 => tb { D with nx := Pv (i + 1), ct := Pv (i + 1), bk := D.nx } σ2 H2) (hd : ∀ σ H, Pv n σ H → D.nx σ H) : forW (Itr lo n) g tb D σ H :=
  for_range Pv h0 hs hd
/-- behind the i-th item y of n: it goes onto the list at D -/
def CStep (n i : Nat) (Pv : Nat → List V → Hp → Prop) (D : Addr) (ys : List V) (y : V) (H : Hp) : Prop :=
  H D = some (.lst ys) ∧ ys.length < sizeLine ∧ ∃ m', m' < n - i ∧ (m' = n - (i + 1) ∧ i + 1 ≤ n ∧ Pv (i + 1) (ys ++ [y]) (upd H D (.lst (ys ++ [y]))))
theorem cstep {n i : Nat} {Pv : Nat → List V → Hp → Prop} {D : Addr} {ys : List V} {y : V} {H : Hp} (hi : i < n) (hlen : ys.length = i) (hz : n ≤ sizeLine) (h1 : H D = some (.lst ys)) (h2 : Pv (i + 1) (ys ++ [y]) (upd H D (.lst (ys ++ [y])))) : CStep n i Pv D ys y H :=
  ⟨h1, by omega, n - (i + 1), by omega, rfl, hi, h2⟩
def compK (n i : Nat) (Pv : Nat → List V → Hp → Prop) (D : Addr) (ys : List V) (te : TE) (σ : St) (H : Hp) : Prop :=
  if true = true then te σ H (CStep n i Pv D ys) else ∃ m', m' < n - i ∧ (m' = n - (i + 1) ∧ i + 1 ≤ n ∧ Pv (i + 1) ys H)
theorem compK_at {n i : Nat} {Pv : Nat → List V → Hp → Prop} {D : Addr} {ys : List V} {te : TE} {σ : St} {H : Hp} : compK n i Pv D ys te σ H = te σ H (CStep n i Pv D ys) := by
  unfold compK; rw [if_pos rfl]
/-- a comprehension without a test: n turns -/
theorem compW_by {J : It} {g : TG} {te : TE} {nT : Nat} {σ : St} {D : Addr} {Q : VK} {H : Hp} (n : Nat) (Pv : Nat → List V → Hp → Prop) (h0 : Pv 0 [] H) (hgo : ∀ i ys H, i < n → Pv i ys H → J.go i H) (hst : ∀ ys H, Pv n ys H → J.stop n H)
    (hs : ∀ i ys H x H', i < n → Pv i ys H → J.yld i H x H' → g x (σ ++ List.replicate nT none) H' (compK n i Pv D ys te))
    (hd : ∀ ys H, Pv n ys H → Q (.ref D) H) : compW J g tYes te nT σ D Q H := by
  refine ⟨fun i m ys H => m = n - i ∧ i ≤ n ∧ Pv i ys H, ⟨n, by simp, Nat.zero_le _, h0⟩, ?_⟩
  rintro i m ys H ⟨rfl, hi, p⟩
  by_cases hlt : i < n
  · exact .inr ⟨hgo i ys H hlt p, fun x H' y => hs i ys H x H' hlt p y⟩
  · have e : i = n := by omega
    subst e
    exact .inl ⟨hst ys H p, hd ys H p⟩
theorem compW_list {K : PySem.W.Frag} {a : Addr} {xs : List V} {g : TG} {te : TE} {nT : Nat} {σ : St} {D : Addr} {Q : VK} {H : Hp} (Pv : Nat → List V → Hp → Prop) (h0 : Pv 0 [] H) (hl : ∀ i ys H, i ≤ xs.length → Pv i ys H → SqL K H a xs)
    (hs : ∀ i ys H x, xs[i]? = some x → i < xs.length → Pv i ys H → g x (σ ++ List.replicate nT none) H (compK xs.length i Pv D ys te))
    (hd : ∀ ys H, Pv xs.length ys H → Q (.ref D) H) : compW (Itl K a) g tYes te nT σ D Q H := by
  refine compW_by xs.length Pv h0 (fun i ys H hi p => ⟨xs, xs[i], hl i ys H (Nat.le_of_lt hi) p, by simp [hi]⟩) (fun ys H p => ⟨xs, hl _ ys H (Nat.le_refl _) p, Nat.le_refl _⟩) (fun i ys H x H' hi p yl => ?_) hd
  obtain ⟨rfl, y⟩ := yl
  exact hs i ys _ x (y xs (hl i ys _ (Nat.le_of_lt hi) p)) hi p
theorem compW_range {lo : Int} {n : Nat} {g : TG} {te : TE} {nT : Nat} {σ : St} {D : Addr} {Q : VK} {H : Hp} (Pv : Nat → List V → Hp → Prop) (h0 : Pv 0 [] H)
    (hs : ∀ i ys H, i < n → Pv i ys H → g (.int (lo + i)) (σ ++ List.replicate nT none) H (compK n i Pv D ys te))
    (hd : ∀ ys H, Pv n ys H → Q (.ref D) H) : compW (Itr lo n) g tYes te nT σ D Q H := by
  refine compW_by n Pv h0 (fun i ys H hi p => hi) (fun ys H p => Nat.le_refl _) (fun i ys H x H' hi p yl => ?_) hd
  obtain ⟨rfl, rfl⟩ := yl
  exact hs i ys _ hi p
end L2

set_option Elab.async false
set_option linter.all false
set_option maxRecDepth 100000
namespace L2
open PySem PySem.Spec PyProof.Rows

/-! ### readings, applied -/
/-- the rest of a block, not yet read -/
def Rest (u : TS) (D : Ends) (σ : St) (H : Hp) : Prop := u D σ H
section
variable {D : Ends} {σ : St} {H : Hp} {Q : VK} {B : Bool → Hp → Prop} {L : List V → Hp → Prop} {R : It → Hp → Prop} {G : St → Hp → Prop}
theorem tSeq_at (t u : TS) : tSeq t u D σ H = t { D with nx := Rest u D } σ H := rfl
theorem rest_at (u : TS) : Rest u D σ H = u D σ H := rfl
theorem tNext_at : tNext D σ H = D.nx σ H := rfl
theorem tIfS_at (c : TT) (t u : TS) : tIfS c t u D σ H = c σ H fun b H1 => if b = true then t D σ H1 else u D σ H1 := rfl
theorem tRet_at (t : TE) : tRet t D σ H = t σ H D.rt := rfl
theorem tRetN_at : tRetN D σ H = D.rt .non H := rfl
theorem tDrop_at (t : TE) : tDrop t D σ H = t σ H fun _ H1 => D.nx σ H1 := rfl
theorem tAsg_at (t : TE) (g : TG) : tAsg t g D σ H = t σ H fun x H1 => g x σ H1 D.nx := rfl
theorem gName_at (i : Nat) (v : V) : gName i v σ H G = G (σ.set i (some v)) H := rfl
theorem gNil_at (vs : List V) : gNil vs σ H G = (vs = [] ∧ G σ H) := rfl
theorem gCons_at (t : TG) (u : TGs) (vs : List V) : gCons t u vs σ H G = ∃ v r, vs = v :: r ∧ t v σ H fun σ' H' => u r σ' H' G := rfl
theorem gTup_at (K : PySem.W.Frag) (n : Nat) (t : TGs) (v : V) : gTup K n t v σ H G = ∃ a xs, v = .ref a ∧ SqT K H a xs ∧ xs.length = n ∧ t xs σ H G := rfl
theorem gSub_at (to ti : TE) (t : TSet) (v : V) : gSub to ti t v σ H G = to σ H fun o H1 => ti σ H1 fun i H2 => t o i v H2 fun H3 => G σ H3 := rfl
theorem tVar_at (i : Nat) : tVar i σ H Q = ∃ v, σ[i]? = some (some v) ∧ Q v H := rfl
theorem tC_at (v : V) : tC v σ H Q = Q v H := rfl
theorem tOp_at (r : R2) (ta tb : TE) : tOp r ta tb σ H Q = ta σ H fun x H1 => tb σ H1 fun y H2 => r x y H2 Q := rfl
theorem tUn_at (r : V → Hp → VK → Prop) (ta : TE) : tUn r ta σ H Q = ta σ H fun x H1 => r x H1 Q := rfl
theorem tTest_at (t : TE) : tTest t σ H B = t σ H fun x H' => ∃ k, x = .bl k ∧ B k H' := rfl
theorem tB_at (t : TE) : tB t σ H B = t σ H fun x H' => ∃ k, x = .bl k ∧ B k H' := rfl
theorem tAnd_at (t u : TT) : tAnd t u σ H B = t σ H fun c H1 => if c = true then u σ H1 B else B false H1 := rfl
theorem tOr_at (t u : TT) : tOr t u σ H B = t σ H fun c H1 => if c = true then B true H1 else u σ H1 B := rfl
theorem tNot_at (t : TT) : tNot t σ H B = t σ H fun c H1 => B (!c) H1 := rfl
theorem tAndV_at (ta tb : TE) : tAndV ta tb σ H Q = ta σ H fun x H1 => ∃ c, x = .bl c ∧ if c = true then tb σ H1 Q else Q (.bl false) H1 := rfl
theorem tNotV_at (ta : TE) : tNotV ta σ H Q = ta σ H fun x H1 => ∃ c, x = .bl c ∧ Q (.bl (!c)) H1 := rfl
theorem tIf_at (t : TT) (ta tb : TE) : tIf t ta tb σ H Q = t σ H fun c H1 => if c = true then ta σ H1 Q else tb σ H1 Q := rfl
theorem tCB_at (r : List V → Hp → VK → Prop) (t : TA) : tCB r t σ H Q = t σ H fun vs H1 => r vs H1 Q := rfl
theorem tCons_at (ta : TE) (tr : TA) : tCons ta tr σ H L = ta σ H fun x H1 => tr σ H1 fun xs H2 => L (x :: xs) H2 := rfl
theorem tNil_at : tNil σ H L = L [] H := rfl
theorem tTup_at (t : TA) : tTup t σ H Q = t σ H fun xs H1 => xs.length ≤ sizeLine ∧ ∀ p, H1 p = none → Q (.ref p) (upd H1 p (.tup xs)) := rfl
theorem tLst_at (t : TA) : tLst t σ H Q = t σ H fun xs H1 => xs.length ≤ sizeLine ∧ ∀ p, H1 p = none → Q (.ref p) (upd H1 p (.lst xs)) := rfl
theorem tCall_at (sp : Sp) (dvs : List V) (E : XK) (t : TA) : tCall sp dvs E t σ H Q = t σ H fun vs H1 => sp (vs ++ dvs) H1 Q E := rfl
theorem tBM_at (K : PySem.W.Frag) (T : String) (r : V → List V → Hp → VK → Prop) (to : TE) (t : TA) : tBM K T r to t σ H Q = to σ H fun x H1 => tyV K T x H1 ∧ t σ H1 fun xs H2 => r x xs H2 Q := rfl
theorem tSl_at (r : V → Option Int → Option Int → Hp → VK → Prop) (te : TE) (tl th : TO) : tSl r te tl th σ H Q = te σ H fun x H1 => tl σ H1 fun l H2 => th σ H2 fun u H3 => r x l u H3 Q := rfl
theorem tPart_at (t : TE) (O : Option Int → Hp → Prop) : tPart t σ H O = t σ H fun x H1 => ∃ i, x = .int i ∧ O (some i) H1 := rfl
theorem tNoPart_at (O : Option Int → Hp → Prop) : tNoPart σ H O = O none H := rfl
theorem tComp_at (wi : TI) (g : TG) (tc : TT) (te : TE) (nT : Nat) : tComp wi g tc te nT σ H Q = wi σ H fun J H1 => ∀ D, H1 D = none → compW J g tc te nT σ D Q (upd H1 D (.lst [])) := rfl
theorem tYes_at : tYes σ H B = B true H := rfl
theorem iList_at (K : PySem.W.Frag) (tl : TE) : iList K tl σ H R = tl σ H fun x H1 => ∃ a, x = .ref a ∧ (∃ xs, SqL K H1 a xs) ∧ R (Itl K a) H1 := rfl
theorem iRng1_at (ta : TA) : iRng1 ta σ H R = ta σ H fun vs H1 => ∃ j : Int, vs = [.int j] ∧ -(2 ^ 62) ≤ j ∧ j < 2 ^ 62 ∧ R (Itr 0 j.toNat) H1 := rfl
theorem rI0_at (g : Int → Int → V) (i j : Int) : rI0 g (.int i) (.int j) H Q = Q (g i j) H := propext ⟨fun ⟨_, _, e1, e2, q⟩ => by cases e1; cases e2; exact q, fun q => ⟨i, j, rfl, rfl, q⟩⟩
theorem rI_at (C : Int → Int → Prop) (g : Int → Int → V) (i j : Int) : rI C g (.int i) (.int j) H Q = (C i j ∧ Q (g i j) H) := propext ⟨fun ⟨_, _, e1, e2, q⟩ => by cases e1; cases e2; exact q, fun q => ⟨i, j, rfl, rfl, q⟩⟩
end

/-! ### a def of the text that may be called; a name that the module binds -/
structure DefAt (K : PySem.W.Frag) (mg : Str → Option Value) (x : Str) (st : Stmt) : Prop where
  ex : ∃ f fd, Fun K x x st f fd ∧ mg x = some (.ref f)
structure Cal (P : Program) (w : World) (K : PySem.W.Frag) (mg : Str → Option Value) (base : Heap) (k : Nat) (x : Str) (ps : List Str) (sp : Sp) : Prop where
  ex : ∃ f fd, FnOk P w K mg base CX0 k f fd ps sp ∧ Binds K fd ps [] ∧ PySem.W.keepIn K (.ref f) = true ∧ mg x = some (.ref f)
section
variable {P : Program} {w : World} {K : PySem.W.Frag} {mg : Str → Option Value} {base : Heap}
theorem DefAt.cal {x : Str} {st : Stmt} {N ps : List Str} {k : Nat} {sp : Sp} (D : DefAt K mg x st) (S : FnScope N ps (defScope st))
    (hb : ∀ (kV doc pm : Value) (an : Option Addr) (cdv ct : Value) (us : List Value), us.length = ps.length → bindArgs (PySem.W.fnOf x x (defArgs st) (defBody st) (defScope st) .none kV doc pm an cdv ct) ⟨us, []⟩ = pure (ps.zip us))
    (len : ∀ vs H Q E, sp vs H Q E → vs.length = ps.length)
    (hbody : ∀ (f : Addr) (cdv : Value) (A : Around) (outer : List Env) (s : Shared) (H : Hp) (vs : List V) (Q : VK) (E : XK), Room k (A.deeper (envOfC x (defScope st) s.heap.objs.size f cdv)) → sp vs H Q E →
      ∃ t, PSs (cxOf CX0 P w K mg base N x (defScope st) f cdv A outer s H E).nox (defBody st) t ∧ t { nx := fun _ H' => Q .non H', rt := Q } (start N vs) H) : Cal P w K mg base (k + 1) x ps sp := by
  obtain ⟨f, fd, F, m⟩ := D.ex
  exact ⟨f, fd, F.ok S len fun cdv A outer s H vs Q E hr h => hbody f cdv A outer s H vs Q E hr h, F.binds hb, F.kp, m⟩
end
section
variable {X : Cx}
theorem pe_cal {j k : Nat} {x : Str} {ps : List Str} {sp : Sp} {p pos : Pos} {e : Expr} {es : List Expr} {t : TA} (c : Cal X.prog X.w X.K X.mg X.base j x ps sp) (hr : Room k X.A) (ha : PA X (e :: es) t) (hle : j ≤ k := by decide) (hg : Gl X x := by rfl)
    (hdb : (x == ("__debug__" : Str)) = false := by decide) (he : starEach (e :: es) X.env = (false, eval e X.env) :: starEach es X.env := by rfl) (hpl : (backTo pos (starEach es X.env)).any (·.1) = false := by rfl) :
    PE X (.Call (.Name x p) (e :: es) [] pos) (tCall sp [] E0 t) := by
  obtain ⟨f, fd, F, b, kp, m⟩ := c.ex
  exact pe_call F (hr.mono hle) hg m kp b .nil pass0 ha hdb he hpl
/-- a built-in type's name as a value -/
theorem pe_gty {x : Str} {T : String} {pos : Pos} (hm : X.mg x = none) (hv : bootBuiltins x = some (.type T)) (hg : Gl X x := by rfl) (hn : x ≠ "__name__" := by decide) (hd : (x == ("__debug__" : Str)) = false := by decide) : PE X (.Name x pos) (tC (.ty T)) :=
  pe_bltn hg hm hv rfl hn hd
/-- a call of a built-in -/
theorem pe_blt {x : Str} {p pos : Pos} {e : Expr} {es : List Expr} {t : TA} {id : String} {r : List V → Hp → VK → Prop} (hc : CallR X (.builtin id) r) (hm : X.mg x = none) (hv : bootBuiltins x = some (.builtin id)) (ha : PA X (e :: es) t) (hg : Gl X x := by rfl)
    (hn : x ≠ "__name__" := by decide) (hdb : (x == ("__debug__" : Str)) = false := by decide) (he : starEach (e :: es) X.env = (false, eval e X.env) :: starEach es X.env := by rfl) (hpl : (backTo pos (starEach es X.env)).any (·.1) = false := by rfl) :
    PE X (.Call (.Name x p) (e :: es) [] pos) (tCB r t) := pe_callB hc hg hm hv ha hn hdb he hpl
theorem pe_bty {x : Str} {p pos : Pos} {e : Expr} {es : List Expr} {t : TA} {T : String} {r : List V → Hp → VK → Prop} (hc : CallR X (.type T) r) (hm : X.mg x = none) (hv : bootBuiltins x = some (.type T)) (ha : PA X (e :: es) t) (hg : Gl X x := by rfl)
    (hn : x ≠ "__name__" := by decide) (hdb : (x == ("__debug__" : Str)) = false := by decide) (he : starEach (e :: es) X.env = (false, eval e X.env) :: starEach es X.env := by rfl) (hpl : (backTo pos (starEach es X.env)).any (·.1) = false := by rfl) :
    PE X (.Call (.Name x p) (e :: es) [] pos) (tCB r t) := pe_callTy hc hg hm hv ha hn hdb he hpl
end

/-! ### operations by the values' kinds -/
section
variable {X : Cx}
def rAddA : R2 := fun x y H Q => match x, y with
  | .int i, .int j => Q (.int (i + j)) H
  | .str a, .str b => a.length + b.length ≤ sizeLine ∧ Q (.str (a ++ b)) H
  | .ref l, .ref b => ∃ xs zs, H l = some (.lst xs) ∧ H b = some (.lst zs) ∧ xs.length + zs.length ≤ sizeLine ∧ ∀ p, H p = none → Q (.ref p) (upd H p (.lst (xs ++ zs)))
  | _, _ => False
theorem op_addA : OpR X (binaryOp .Add) rAddA := by
  intro pins s σ H x y v u Q I rx ry h
  cases x <;> cases y <;> first
    | exact (show False from h).elim
    | exact op_add pins s σ H _ _ v u Q I rx ry ⟨_, _, rfl, rfl, h⟩
    | exact op_add_str pins s σ H _ _ v u Q I rx ry ⟨_, _, rfl, rfl, h⟩
    | (obtain ⟨xs, zs, h1, h2, h3, h4⟩ := h; exact op_cat pins s σ H _ _ v u Q I rx ry ⟨_, _, xs, zs, rfl, rfl, h1, h2, h3, h4⟩)
def rLtA : R2 := fun x y H Q => match x, y with
  | .int i, .int j => Q (.bl (decide (i < j))) H
  | .str i, .str j => Q (.bl (decide (i.cps.toList < j.cps.toList))) H
  | _, _ => False
theorem op_ltA : OpR X (compareOp .Lt) rLtA := by
  intro pins s σ H x y v u Q I rx ry h
  cases x <;> cases y <;> first
    | exact (show False from h).elim
    | exact op_lt pins s σ H _ _ v u Q I rx ry ⟨_, _, rfl, rfl, h⟩
    | exact op_lt_str pins s σ H _ _ v u Q I rx ry ⟨_, _, rfl, rfl, h⟩
def rLenA (K : PySem.W.Frag) : List V → Hp → VK → Prop := fun xs H Q => match xs with
  | [.str z] => z.length ≤ sizeLine ∧ Q (.int z.length) H
  | [.ref p] => ∃ ys, (SqL K H p ys ∨ SqT K H p ys) ∧ Q (.int ys.length) H
  | _ => False
theorem call_lenA : CallR X (.builtin "len") (rLenA X.K) := by
  intro pins s σ H xs us Q I r h
  match xs, h with
  | [.str z], h => exact call_len_str pins s σ H _ us Q I r ⟨z, rfl, h⟩
  | [.ref p], h => obtain ⟨ys, h1, h2⟩ := h; exact call_len_seq pins s σ H _ us Q I r ⟨p, ys, rfl, h1, h2⟩
/-- a[b], a a list, a tuple or a text -/
def rIxA (K : PySem.W.Frag) : R2 := fun x y H Q => match x, y with
  | .ref p, .int i => ∃ xs v, (SqL K H p xs ∨ SqT K H p xs) ∧ atI xs i = some v ∧ Q v H
  | .str z, .int i => ∃ c, z.length ≤ sizeLine ∧ atI z.cps.toList i = some c ∧ Q (.str ⟨#[c]⟩) H
  | _, _ => False
theorem ix_A : IxR X (rIxA X.K) := by
  intro value slice pins s σ H x y v u Q I rx ry h hs
  refine ix_seq value slice pins s σ H x y v u Q I rx ry ?_ hs
  match x, y, h with
  | .ref p, .int i, h =>
    obtain ⟨xs, v', h1, h2, h3⟩ := h
    rcases h1 with h1 | h1
    · exact .inl ⟨p, xs, i, v', rfl, rfl, h1, h2, h3⟩
    · exact .inr (.inl ⟨p, xs, i, v', rfl, rfl, h1, h2, h3⟩)
  | .str z, .int i, h =>
    obtain ⟨c, h1, h2, h3⟩ := h
    exact .inr (.inr ⟨z, i, c, rfl, rfl, h1, h2, h3⟩)
end
section
variable {K : PySem.W.Frag} {H : Hp} {Q : VK}
theorem rAddA_int (i j : Int) : rAddA (.int i) (.int j) H Q = Q (.int (i + j)) H := rfl
theorem rAddA_str (a b : Str) : rAddA (.str a) (.str b) H Q = (a.length + b.length ≤ sizeLine ∧ Q (.str (a ++ b)) H) := rfl
theorem rAddA_ref (l b : Addr) : rAddA (.ref l) (.ref b) H Q = ∃ xs zs, H l = some (.lst xs) ∧ H b = some (.lst zs) ∧ xs.length + zs.length ≤ sizeLine ∧ ∀ p, H p = none → Q (.ref p) (upd H p (.lst (xs ++ zs))) := rfl
theorem rLtA_int (i j : Int) : rLtA (.int i) (.int j) H Q = Q (.bl (decide (i < j))) H := rfl
theorem rLtA_str (i j : Str) : rLtA (.str i) (.str j) H Q = Q (.bl (decide (i.cps.toList < j.cps.toList))) H := rfl
theorem rLenA_str (z : Str) : rLenA K [.str z] H Q = (z.length ≤ sizeLine ∧ Q (.int z.length) H) := rfl
theorem rLenA_ref (p : Addr) : rLenA K [.ref p] H Q = ∃ ys, (SqL K H p ys ∨ SqT K H p ys) ∧ Q (.int ys.length) H := rfl
theorem rIxA_ref (p : Addr) (i : Int) : rIxA K (.ref p) (.int i) H Q = ∃ xs v, (SqL K H p xs ∨ SqT K H p xs) ∧ atI xs i = some v ∧ Q v H := rfl
theorem rIxA_str (z : Str) (i : Int) : rIxA K (.str z) (.int i) H Q = ∃ c, z.length ≤ sizeLine ∧ atI z.cps.toList i = some c ∧ Q (.str ⟨#[c]⟩) H := rfl
theorem rAppend_at (p : Addr) (y : V) : rAppend (.ref p) [y] H Q = ∃ xs, H p = some (.lst xs) ∧ xs.length < sizeLine ∧ Q .non (upd H p (.lst (xs ++ [y]))) :=
  propext ⟨fun ⟨_, xs, _, e1, e2, q⟩ => by cases e1; cases e2; exact ⟨xs, q⟩, fun ⟨xs, q⟩ => ⟨p, xs, y, rfl, rfl, q⟩⟩
theorem rJoin_at (sep : Str) (p : Addr) : rJoin K (.str sep) [.ref p] H Q = ∃ ss, SqL K H p (ss.map V.str) ∧ (ss.map (·.length)).sum + ss.length * sep.length ≤ 16777216 ∧ Q (.str (Txt.join sep ss)) H :=
  propext ⟨fun ⟨_, _, ss, e1, e2, q⟩ => by cases e1; cases e2; exact ⟨ss, q⟩, fun ⟨ss, q⟩ => ⟨sep, p, ss, rfl, rfl, q⟩⟩
theorem tyV_str (y : Str) : tyV K "str" (.str y) H = True := eq_true rfl
theorem tyV_lst (p : Addr) : (tyV K "list" (.ref p) H) = ∃ xs, SqL K H p xs := by
  refine propext ⟨fun h => ?_, fun h => .inl ⟨rfl, h⟩⟩
  rcases h with ⟨_, h⟩ | ⟨h, _⟩ | ⟨h, _⟩ | ⟨h, _⟩
  · exact h
  · exact absurd h (by decide)
  · exact absurd h (by decide)
  · exact absurd h (by decide)
end
theorem bt_len : bootBuiltins "len" = some (.builtin "len") := by decide +kernel
theorem bt_isinstance : bootBuiltins "isinstance" = some (.builtin "isinstance") := by decide +kernel
theorem bt_str : bootBuiltins "str" = some (.type "str") := by decide +kernel
theorem bt_int : bootBuiltins "int" = some (.type "int") := by decide +kernel
theorem bt_bool : bootBuiltins "bool" = some (.type "bool") := by decide +kernel
theorem bt_list : bootBuiltins "list" = some (.type "list") := by decide +kernel
theorem bt_tuple : bootBuiltins "tuple" = some (.type "tuple") := by decide +kernel
/-- name = value -/
theorem ps_let {X : Cx} (i : Nat) {x : Str} {e : Expr} {te : TE} {pos pos' : Pos} (hN : X.N.Nodup) (he : PE X e te) (hi : X.N[i]? = some x := by rfl) (hx : Loc X.env.scope x := by first | exact Or.inl rfl | exact Or.inr rfl) (hs : swapsWith e (some (.Name x pos')) pos.line X.env = pure false := by rfl)
    (hf : X.fn x = true ∨ X.env.scope.names.lookup x = some .local := by first | exact .inl rfl | exact .inr rfl | assumption) : PS X (.Assign [.Name x pos'] e pos) (tAsg te (gName i)) := ps_set hN hi hx he hs hf
theorem pg_let {X : Cx} (i : Nat) {x : Str} {pos : Pos} (hN : X.N.Nodup) (hi : X.N[i]? = some x := by rfl) (hx : Loc X.env.scope x := by first | exact Or.inl rfl | exact Or.inr rfl)
    (hf : X.fn x = true ∨ X.env.scope.names.lookup x = some .local := by first | exact .inl rfl | exact .inr rfl | assumption) : PG X (.Name x pos) (gName i) := pg_name hN hi hx hf
/-- what the scope of a block must be, by closed parts -/
structure CompSc (fsc : Scope) (N N0 T : List Str) (scope : Scope) : Prop where
  kind : scope.kind = .function
  nocell : ∀ y ∈ scope.names, y.2 ≠ .cell
  names : ∀ y ∈ scope.names, y.2 = .local → scope.names.lookup y.1 = some .local
  free : ∀ y ∈ scope.names, y.2 = .free → fsc.names.lookup y.1 = some .cell ∨ fsc.names.lookup y.1 = some .free
  apart : ∀ y ∈ scope.names, y.2 = .local → y.1 ∉ N0
  len0 : N0.length = N.length
  same : ((N0.zip N).all fun p => p.1 == p.2 || !(scope.names.any fun y => y.1 == p.1)) = true
theorem CompSc.to {X : Cx} {fsc : Scope} {N N0 T : List Str} {scope : Scope} (S : CompSc fsc N N0 T scope) (h1 : X.env.scope = fsc) (h2 : X.N = N) : CompScope X N0 T scope := by
  subst h1 h2
  refine ⟨S.kind, S.nocell, S.names, S.free, S.apart, S.len0, fun i x k e m => ?_⟩
  have hl := S.len0
  have hi : i < N0.length := (List.getElem?_eq_some_iff.mp e).1
  have hN : X.N[i]? = some X.N[i] := List.getElem?_eq_getElem (by omega)
  have hz : (x, X.N[i]) ∈ N0.zip X.N := List.mem_of_getElem? (i := i) (by rw [List.getElem?_zip_eq_some]; exact ⟨e, hN⟩)
  have q := List.all_eq_true.mp S.same _ hz
  simp only [Bool.or_eq_true, beq_iff_eq, Bool.not_eq_true'] at q
  rcases q with q | q
  · rw [hN, ← q]
  · have : (scope.names.any fun y => y.1 == x) = true := List.any_eq_true.mpr ⟨_, m, by simp⟩
    rw [this] at q; cases q
/-! ### == of scalars (deep: elsewhere) -/
def rEqA : R2 := rEq
def rNeA : R2 := rNe
theorem op_eqA {X : Cx} : OpR X (compareOp .Eq) rEqA := op_eq
theorem op_neA {X : Cx} : OpR X (compareOp .NotEq) rNeA := op_ne
section
variable {K : PySem.W.Frag} {H : Hp} {Q : VK}
theorem rEqA_int (i j : Int) : rEqA (.int i) (.int j) H Q = Q (.bl (decide (i = j))) H := by
  have e : decide (V.int i = V.int j) = decide (i = j) := by by_cases h : i = j <;> simp [h]
  show (scal (.int i) (.int j) = true ∧ Q (.bl (decide (V.int i = V.int j))) H) = _
  rw [e]; exact propext ⟨fun h => h.2, fun h => ⟨rfl, h⟩⟩
theorem rEqA_bl (i j : Bool) : rEqA (.bl i) (.bl j) H Q = Q (.bl (i == j)) H := by
  show (scal (.bl i) (.bl j) = true ∧ Q (.bl (decide (V.bl i = V.bl j))) H) = _
  rw [dec_bl]; exact propext ⟨fun h => h.2, fun h => ⟨rfl, h⟩⟩
theorem rEqA_str (i j : Str) : rEqA (.str i) (.str j) H Q = Q (.bl (decide (i = j))) H := by
  have e : decide (V.str i = V.str j) = decide (i = j) := by by_cases h : i = j <;> simp [h]
  show (scal (.str i) (.str j) = true ∧ Q (.bl (decide (V.str i = V.str j))) H) = _
  rw [e]; exact propext ⟨fun h => h.2, fun h => ⟨rfl, h⟩⟩
theorem rNeA_int (i j : Int) : rNeA (.int i) (.int j) H Q = Q (.bl (!decide (i = j))) H := by
  have e : decide (V.int i = V.int j) = decide (i = j) := by by_cases h : i = j <;> simp [h]
  show (scal (.int i) (.int j) = true ∧ Q (.bl (!decide (V.int i = V.int j))) H) = _
  rw [e]; exact propext ⟨fun h => h.2, fun h => ⟨rfl, h⟩⟩
theorem rNeA_str (i j : Str) : rNeA (.str i) (.str j) H Q = Q (.bl (!decide (i = j))) H := by
  have e : decide (V.str i = V.str j) = decide (i = j) := by by_cases h : i = j <;> simp [h]
  show (scal (.str i) (.str j) = true ∧ Q (.bl (!decide (V.str i = V.str j))) H) = _
  rw [e]; exact propext ⟨fun h => h.2, fun h => ⟨rfl, h⟩⟩
end
/-! ### the same rules with the text's part K named (inside a comprehension the context is a letter) -/
section
variable {X : Cx} (K : PySem.W.Frag)
theorem call_lenK (hK : X.K = K := by rfl) : CallR X (.builtin "len") (rLenA K) := hK ▸ call_lenA
theorem ix_K (hK : X.K = K := by rfl) : IxR X (rIxA K) := hK ▸ ix_A
theorem mt_joinK (hK : X.K = K := by rfl) : MtR X "str.join" (rJoin K) := hK ▸ mt_join
theorem sl_listK (hK : X.K = K := by rfl) : SlR X (rSlL K) := hK ▸ sl_list
theorem pi_listK {tg l : Expr} {tl : TE} (hl : PE X l tl) (hK : X.K = K := by rfl) : PI X tg l (iList K tl) := hK ▸ pi_list hl
theorem pg_tupK {es : List Expr} {k n : Nat} {t : TGs} {pos : Pos} (h : PGs X es t) (hn : (assignEach es X.env).length = n := by rfl) (hst : (assignEach es X.env).findIdx? (·.1) = none := by rfl) (hK : X.K = K := by rfl) (hc : X.calm = true := by rfl) : PG X (.Tuple es k pos) (gTup K n t) := hK ▸ pg_tup hc h hn hst
theorem pe_bmK {o e : Expr} {es : List Expr} {to : TE} {t : TA} {name : Str} {apos cpos : Pos} {T id : String} {r : V → List V → Hp → VK → Prop} (pa : PlainAttrs T) (slot : Slot T name id) (hty : typeOf (.builtin id) = pure (.type "method_descriptor")) (hm : MtR X id r) (ho : PE X o to) (ha : PA X (e :: es) t)
    (hbase : attributeBase o name X.env (eval o X.env) = eval o X.env := by rfl)
    (hfew : ((backTo cpos (starEach (e :: es) X.env)).all (fun x => !x.1) && (backToKw cpos (keywordEach [] X.env)).all (fun x => x.1.isSome) && decide ((e :: es).length + ([] : List Keyword).length + (if ([] : List Keyword).isEmpty then 0 else 1) < 30)) = true := by rfl)
    (hline : (apos.endLine == cpos.line) = true := by rfl) (hs : starEach (e :: es) X.env = (false, eval e X.env) :: starEach es X.env := by rfl) (hplain : (backTo cpos (starEach es X.env)).any (·.1) = false := by rfl) (hK : X.K = K := by rfl) :
    PE X (.Call (.Attribute o name apos) (e :: es) [] cpos) (tBM K T r to t) := hK ▸ pe_bm pa slot hty hm ho ha hbase hfew hline hs hplain
theorem call_listK (hK : X.K = K := by rfl) : CallR X (.type "list") (fun xs H Q => ∃ p ys, xs = [.ref p] ∧ (SqL K H p ys ∨ SqT K H p ys) ∧ ∀ l, H l = none → Q (.ref l) (upd H l (.lst ys))) := hK ▸ call_list_of
end
theorem ex_one (n : Int) (P : Int → Prop) : (∃ j, [V.int n] = [V.int j] ∧ P j) = P n := propext ⟨fun ⟨_, e, h⟩ => by cases e; exact h, fun h => ⟨n, rfl, h⟩⟩
theorem ex_two (n m : Int) (P : Int → Int → Prop) : (∃ i j, [V.int n, V.int m] = [V.int i, V.int j] ∧ P i j) = P n m := propext ⟨fun ⟨_, _, e, h⟩ => by cases e; exact h, fun h => ⟨n, m, rfl, h⟩⟩
theorem ex_cons (x : V) (xs : List V) (P : V → List V → Prop) : (∃ v r, x :: xs = v :: r ∧ P v r) = P x xs := propext ⟨fun ⟨_, _, e, h⟩ => by cases e; exact h, fun h => ⟨x, xs, rfl, h⟩⟩
theorem ex_nil (P : Prop) : (([] : List V) = [] ∧ P) = P := propext ⟨fun h => h.2, fun h => ⟨rfl, h⟩⟩
/-! ### names of a block, by closed parts -/
def relabelS (scope fsc : Scope) : Scope := { scope with names := scope.names.map fun (n, k) => if (k == .free && fsc.kind == .function && fsc.names.lookup n == some .cell) then (n, .cell) else (n, k) }
section
variable {X : Cx} {N0 T : List Str} {scope : Scope} {C : Addr} {fp : List Addr} {s : Shared} {H : Hp} {x : Str}
theorem glC (fsc : Scope) (h : (relabelS scope fsc).names.lookup x = some .globalImplicit) (e : X.env.scope = fsc := by rfl) : Gl (cxComp X N0 T scope C fp s H) x := by subst e; exact h
theorem visC (fsc : Scope) (h : ((relabelS scope fsc).names.lookup x = some .local || (relabelS scope fsc).names.lookup x = some .cell || (relabelS scope fsc).names.lookup x = some .free) = true) (e : X.env.scope = fsc := by rfl) : Vis (cxComp X N0 T scope C fp s H).env.scope x := by
  subst e
  simp only [Bool.or_eq_true, decide_eq_true_eq] at h
  rcases h with (h | h) | h
  · exact .inl h
  · exact .inr (.inl h)
  · exact .inr (.inr h)
theorem locC (fsc : Scope) (h : (relabelS scope fsc).names.lookup x = some .local) (e : X.env.scope = fsc := by rfl) : Loc (cxComp X N0 T scope C fp s H).env.scope x := by subst e; exact .inl h
theorem fnC (fsc : Scope) (h : (relabelS scope fsc).names.lookup x = some .local) (e : X.env.scope = fsc := by rfl) : (cxComp X N0 T scope C fp s H).fn x = true ∨ (cxComp X N0 T scope C fp s H).env.scope.names.lookup x = some .local := by subst e; exact .inr h
end
theorem mt_appendA {X : Cx} : MtR X "list.append" rAppend := mt_append
theorem PW.pt' {X : Cx} {e : Expr} {t : TT} (h : PW X e t) : PT X e t := h.pt
theorem tPairs_nil {σ : St} {H : Hp} {Q : List (V × V) → Hp → Prop} : tPairs [] σ H Q = Q [] H := rfl
theorem tPairs_cons {σ : St} {H : Hp} {Q : List (V × V) → Hp → Prop} (tk tv : TE) (r : List (TE × TE)) : tPairs ((tk, tv) :: r) σ H Q = tk σ H fun x H1 => tv σ H1 fun y H2 => tPairs r σ H2 fun ps H3 => Q ((x, y) :: ps) H3 := rfl
theorem Same.upd {H H' : Hp} {p : Addr} (sm : Same H H') (h : H p = none) (o : HO) : Same H (upd H' p o) := fun b u q => by rw [upd_ne (ne_of_none q h)]; exact sm b u q
theorem same_new {H : Hp} {p : Addr} (h : H p = none) (o : HO) : Same H (upd H p o) := fun b u q => by rw [upd_ne (ne_of_none q h)]; exact q
end L2

set_option Elab.async false
set_option linter.all false
set_option maxRecDepth 100000
namespace L2
open PySem PySem.Spec PyProof.Rows PySem.SeqAt

/-! ### == of lists and tuples, as deep as n -/
def EqN (K : PySem.W.Frag) (H : Hp) : Nat → V → V → Bool → Prop
  | 0, x, y, b => flatV x = true ∧ flatV y = true ∧ b = eqV x y
  | n + 1, x, y, b => (flatV x = true ∧ flatV y = true ∧ b = eqV x y) ∨ ∃ a c xs ys, x = .ref a ∧ y = .ref c ∧ ((SqL K H a xs ∧ SqL K H c ys) ∨ (SqT K H a xs ∧ SqT K H c ys)) ∧
      ((∃ e : Nat → Bool, xs.length = ys.length ∧ (∀ (i : Nat) x y, xs[i]? = some x → ys[i]? = some y → EqN K H n x y (e i)) ∧ b = (List.range xs.length).all e) ∨
        (SqL K H a xs ∧ SqL K H c ys ∧ xs.length ≠ ys.length ∧ b = false))
theorem eqV_self : ∀ {x : V}, flatV x = true → eqV x x = true
  | .non, _ => rfl
  | .bl b, _ => by simp [eqV]
  | .int i, _ => by simp [eqV]
  | .str y, _ => by simp [eqV]
section
variable {X : Cx} {pins : List (Addr × Obj)} {σ : St} {H : Hp} {s : Shared}
theorem EqN.self (I : Inv X pins σ H s) : ∀ {n : Nat} {x : V} {b : Bool}, EqN X.K H n x x b → b = true
  | 0, x, b, h => by obtain ⟨h1, _, rfl⟩ := h; exact eqV_self h1
  | n + 1, x, b, h => by
    rcases h with ⟨h1, _, rfl⟩ | ⟨a, c, xs, ys, rfl, e, hq, h⟩
    · exact eqV_self h1
    · cases e
      have exy : xs = ys := by
        rcases hq with ⟨q1, q2⟩ | ⟨q1, q2⟩
        · exact I.list_inj q1 q2
        · exact I.tuple_inj q1 q2
      subst exy
      rcases h with ⟨e, _, he, rfl⟩ | ⟨_, _, z, _⟩
      · rw [List.all_eq_true]
        intro i hi
        have hi' := List.mem_range.mp hi
        have q := he i xs[i] xs[i] (List.getElem?_eq_getElem hi') (List.getElem?_eq_getElem hi')
        exact EqN.self I q
      · exact absurd rfl z
theorem EqN.rc (I : Inv X pins σ H s) {n : Nat} (ih : ∀ {A : Around} {x y : V} {b : Bool} {u v : Value}, A.units + n < cLine → EqN X.K H n x y b → RelV x u → RelV y v → EqAt A s u v b)
    {A : Around} {a c : Addr} {xs ys : List V} {b : Bool} (hu : A.units + (n + 1) < cLine) (hq : (SqL X.K H a xs ∧ SqL X.K H c ys) ∨ (SqT X.K H a xs ∧ SqT X.K H c ys))
    (h : (∃ e : Nat → Bool, xs.length = ys.length ∧ (∀ (i : Nat) x y, xs[i]? = some x → ys[i]? = some y → EqN X.K H n x y (e i)) ∧ b = (List.range xs.length).all e) ∨ (SqL X.K H a xs ∧ SqL X.K H c ys ∧ xs.length ≠ ys.length ∧ b = false)) :
    RcAt A s (.ref a) (.ref c) b ∧ RcNeAt A s (.ref a) (.ref c) (!b) := by
  have hin : A.in1.units + n < cLine := by
    have : A.in1.units = A.units + 1 := rfl
    omega
  rcases h with ⟨e, hl, he, rfl⟩ | ⟨q1, q2, hl, rfl⟩
  · rcases hq with ⟨q1, q2⟩ | ⟨q1, q2⟩
    · obtain ⟨i1, r1, p1, z1⟩ := I.list q1
      obtain ⟨i2, r2, p2, z2⟩ := I.list q2
      have l1 := r1.length
      have l2 := r2.length
      have hit : ∀ j (h1 : j < i1.toArray.size) (h2 : j < i2.toArray.size), EqAt A.in1 s i1.toArray[j] i2.toArray[j] (e j) := fun j h1 h2 => by
        obtain ⟨x, hx, rx⟩ := r1.of (i := j) (u := i1.toArray[j]) (by simp at h1 ⊢)
        obtain ⟨y, hy, ry⟩ := r2.of (i := j) (u := i2.toArray[j]) (by simp at h2 ⊢)
        exact ih hin (he j x y hx hy) rx ry
      have ez : xs.length = i1.toArray.size := by simp; omega
      rw [ez]
      exact ⟨RcAt.lists p1.isList p2.isList (by simp; omega) (by omega) hit, RcNeAt.lists p1.isList p2.isList (by simp; omega) (by omega) hit⟩
    · obtain ⟨i1, r1, p1, z1⟩ := I.tuple q1
      obtain ⟨i2, r2, p2, z2⟩ := I.tuple q2
      have l1 := r1.length
      have l2 := r2.length
      have hit : ∀ j (h1 : j < i1.toArray.size) (h2 : j < i2.toArray.size), EqAt A.in1 s i1.toArray[j] i2.toArray[j] (e j) := fun j h1 h2 => by
        obtain ⟨x, hx, rx⟩ := r1.of (i := j) (u := i1.toArray[j]) (by simp at h1 ⊢)
        obtain ⟨y, hy, ry⟩ := r2.of (i := j) (u := i2.toArray[j]) (by simp at h2 ⊢)
        exact ih hin (he j x y hx hy) rx ry
      have ez : (List.range xs.length).all e = ((List.range (min i1.toArray.size i2.toArray.size)).all e && i1.toArray.size == i2.toArray.size) := by
        have e1 : i1.toArray.size = xs.length := by simp; omega
        have e2 : i2.toArray.size = xs.length := by simp; omega
        rw [e1, e2, Nat.min_self]; simp
      rw [ez]
      exact ⟨RcAt.tuples (show s.heap.IsTuple a i1.toArray from p1) (show s.heap.IsTuple c i2.toArray from p2) (by omega) hit, RcNeAt.tuples (show s.heap.IsTuple a i1.toArray from p1) (show s.heap.IsTuple c i2.toArray from p2) (by omega) hit⟩
  · obtain ⟨i1, r1, p1, z1⟩ := I.list q1
    obtain ⟨i2, r2, p2, z2⟩ := I.list q2
    have l1 := r1.length
    have l2 := r2.length
    have hne : (i1.toArray.size != i2.toArray.size) = true := by
      rw [bne_iff_ne]; simp; omega
    exact ⟨RcAt.lists_lengths p1.isList p2.isList hne (by omega), RcNeAt.lists_lengths p1.isList p2.isList hne (by omega)⟩
theorem EqN.at (I : Inv X pins σ H s) : ∀ {n : Nat} {A : Around} {x y : V} {b : Bool} {u v : Value}, A.units + n < cLine → EqN X.K H n x y b → RelV x u → RelV y v → EqAt A s u v b
  | 0, A, x, y, b, u, v, _, h, rx, ry => by obtain ⟨h1, h2, rfl⟩ := h; exact eqAt_V rx ry h1 h2
  | n + 1, A, x, y, b, u, v, hu, h, rx, ry => by
    have h0 := h
    rcases h with ⟨h1, h2, rfl⟩ | ⟨a, c, xs, ys, rfl, rfl, hq, h⟩
    · exact eqAt_V rx ry h1 h2
    · cases rx
      cases ry
      by_cases hac : a = c
      · subst hac
        rw [EqN.self I h0]
        exact EqAt.same _
      · exact EqAt.of_refs hac (EqN.rc I (fun hu' q rx ry => EqN.at I hu' q rx ry) hu hq h).1
end
section
variable {X : Cx}
def rNeD (K : PySem.W.Frag) : R2 := fun x y H Q => ∃ (a c : Addr) (n : Nat) (b : Bool), x = .ref a ∧ y = .ref c ∧ n ≤ 100 ∧ EqN K H (n + 1) x y b ∧ Q (.bl (!b)) H
theorem op_neD (hu : X.A.units + 101 < cLine) : OpR X (compareOp .NotEq) (rNeD X.K) := by
  intro pins s σ H x y v u Q I rx ry h
  obtain ⟨a, c, n, b, rfl, rfl, hn, he, q⟩ := h
  cases rx
  cases ry
  rcases he with ⟨h1, _⟩ | ⟨a', c', xs, ys, e1, e2, hq, h⟩
  · cases h1
  · cases e1
    cases e2
    exact (EqN.rc I (fun hu' q rx ry => EqN.at I hu' q rx ry) (by omega) hq h).2 _ _ _ _ ⟨.bl (!b), H, I, rfl, q⟩
theorem op_neKD (K : PySem.W.Frag) {k : Nat} (hr : Room k X.A) (hK : X.K = K := by rfl) : OpR X (compareOp .NotEq) (rNeD K) := by subst hK; exact op_neD (by have := hr.un; omega)
end
section
variable {K : PySem.W.Frag} {H : Hp} {Q : VK}
theorem rNeD_at (a c : Addr) : rNeD K (.ref a) (.ref c) H Q = ∃ (n : Nat) (b : Bool), n ≤ 100 ∧ EqN K H (n + 1) (.ref a) (.ref c) b ∧ Q (.bl (!b)) H :=
  propext ⟨fun ⟨_, _, n, b, e1, e2, q⟩ => ⟨n, b, q⟩, fun ⟨n, b, q⟩ => ⟨a, c, n, b, rfl, rfl, q⟩⟩
theorem EqN.flat {n : Nat} {x y : V} (hx : flatV x = true) (hy : flatV y = true) : EqN K H n x y (eqV x y) := by
  cases n with
  | zero => exact ⟨hx, hy, rfl⟩
  | succ n => exact .inl ⟨hx, hy, rfl⟩
theorem EqN.refl {n : Nat} {x : V} (hx : flatV x = true) : EqN K H n x x true := by
  have q : EqN K H n x x (eqV x x) := EqN.flat hx hx
  rwa [eqV_self hx] at q
/-- two lists (tuples) whose items are equal -/
theorem EqN.seq {n : Nat} {a c : Addr} {xs ys : List V} (hq : (SqL K H a xs ∧ SqL K H c ys) ∨ (SqT K H a xs ∧ SqT K H c ys)) (hl : xs.length = ys.length) (he : ∀ (i : Nat) x y, xs[i]? = some x → ys[i]? = some y → EqN K H n x y true) : EqN K H (n + 1) (.ref a) (.ref c) true :=
  .inr ⟨a, c, xs, ys, rfl, rfl, hq, .inl ⟨fun _ => true, hl, he, by simp⟩⟩
theorem EqN.seqFlat {n : Nat} {a c : Addr} {xs : List V} (hq : (SqL K H a xs ∧ SqL K H c xs) ∨ (SqT K H a xs ∧ SqT K H c xs)) (hf : ∀ x ∈ xs, flatV x = true) : EqN K H (n + 1) (.ref a) (.ref c) true :=
  EqN.seq hq rfl fun i x y e1 e2 => by
    rw [e1] at e2; cases e2
    exact EqN.refl (hf x (List.mem_of_getElem? e1))
theorem EqN.strs {n : Nat} {a c : Addr} {ss ts : List Str} (h1 : SqL K H a (ss.map V.str)) (h2 : SqL K H c (ts.map V.str)) : EqN K H (n + 1) (.ref a) (.ref c) (decide (ss = ts)) := by
  refine .inr ⟨a, c, _, _, rfl, rfl, .inl ⟨h1, h2⟩, ?_⟩
  by_cases hl : ss.length = ts.length
  · refine .inl ⟨fun i => ss.getD i default == ts.getD i default, by simp [hl], fun i x y e1 e2 => ?_, ?_⟩
    · rw [List.getElem?_map] at e1 e2
      cases q1 : ss[i]? with
      | none => rw [q1] at e1; cases e1
      | some u =>
        cases q2 : ts[i]? with
        | none => rw [q2] at e2; cases e2
        | some v =>
          rw [q1] at e1; rw [q2] at e2
          cases e1; cases e2
          dsimp only
          rw [List.getD_eq_getElem?_getD, List.getD_eq_getElem?_getD, q1, q2]
          exact EqN.flat rfl rfl
    · rw [List.length_map]
      by_cases e : ss = ts
      · subst e
        rw [decide_eq_true rfl]
        symm
        rw [List.all_eq_true]
        intro i _
        simp
      · rw [decide_eq_false e]
        symm
        rw [List.all_eq_false]
        have : ∃ i : Nat, ss[i]? ≠ ts[i]? := by
          refine Classical.byContradiction fun hn => e (List.ext_getElem? fun i => ?_)
          exact Classical.byContradiction fun h => hn ⟨i, h⟩
        obtain ⟨i, hi⟩ := this
        have hlt : i < ss.length := by
          refine Classical.byContradiction fun hn => hi ?_
          rw [List.getElem?_eq_none (by omega), List.getElem?_eq_none (by omega)]
        refine ⟨i, List.mem_range.mpr hlt, ?_⟩
        rw [List.getD_eq_getElem?_getD, List.getD_eq_getElem?_getD, List.getElem?_eq_getElem hlt, List.getElem?_eq_getElem (by omega)]
        rw [List.getElem?_eq_getElem hlt, List.getElem?_eq_getElem (by omega)] at hi
        simpa using hi
  · have e : ss ≠ ts := fun e => hl (by rw [e])
    rw [decide_eq_false e]
    exact .inr ⟨h1, h2, by simpa using hl, rfl⟩
end

/-! ### sorted texts -/
section
variable {X : Cx}
/-! ### words.index(text) -/
end

/-! ### more readings by name -/
section
variable {X : Cx}
def rIsN : R2 := fun x y H Q => y = .non ∧ Q (.bl (decide (x = .non))) H
def rNotN : R2 := fun x y H Q => y = .non ∧ Q (.bl (!decide (x = .non))) H
theorem op_isNA : OpR X (compareOp .Is) rIsN := op_isN
theorem op_notNA : OpR X (compareOp .IsNot) rNotN := op_notN
def rListOf (K : PySem.W.Frag) : List V → Hp → VK → Prop := fun xs H Q => ∃ p ys, xs = [.ref p] ∧ (SqL K H p ys ∨ SqT K H p ys) ∧ ∀ l, H l = none → Q (.ref l) (upd H l (.lst ys))
theorem call_listA (K : PySem.W.Frag) (hK : X.K = K := by rfl) : CallR X (.type "list") (rListOf K) := call_listK K hK
/-- an int times an int, a text times an int -/
def rMulB : R2 := fun x y H Q => match x, y with
  | .int i, .int j => CMul i j ∧ Q (.int (i * j)) H
  | .str z, .int n => 0 ≤ n ∧ n ≤ 4096 ∧ z.length ≤ 4096 ∧ Q (.str (Txt.mul z n)) H
  | _, _ => False
theorem op_mulB : OpR X (binaryOp .Mult) rMulB := by
  intro pins s σ H x y v u Q I rx ry h
  match x, y, h with
  | .int i, .int j, h => exact op_mul pins s σ H _ _ v u Q I rx ry ⟨_, _, rfl, rfl, h⟩
  | .str z, .int n, h =>
    obtain ⟨t, rfl⟩ := rx
    obtain ⟨t', rfl⟩ := ry
    obtain ⟨h0, h1, h2, q⟩ := h
    exact SB.mul (mulOk_of 4096 4096 h2 (by omega) (by omega) (by decide) (by decide)) fun t' k => ⟨.str (Txt.mul z n), H, I.tok k, ⟨t', rfl⟩, q⟩
end
section
variable {K : PySem.W.Frag} {H : Hp} {Q : VK}
theorem rIsN_at (x : V) : rIsN x .non H Q = Q (.bl (decide (x = .non))) H := propext ⟨fun h => h.2, fun h => ⟨rfl, h⟩⟩
theorem rNotN_at (x : V) : rNotN x .non H Q = Q (.bl (!decide (x = .non))) H := propext ⟨fun h => h.2, fun h => ⟨rfl, h⟩⟩
theorem rListOf_at (p : Addr) : rListOf K [.ref p] H Q = ∃ ys, (SqL K H p ys ∨ SqT K H p ys) ∧ ∀ l, H l = none → Q (.ref l) (upd H l (.lst ys)) := propext ⟨fun ⟨_, ys, e, q⟩ => by cases e; exact ⟨ys, q⟩, fun ⟨ys, q⟩ => ⟨p, ys, rfl, q⟩⟩
theorem rMulB_int (i j : Int) : rMulB (.int i) (.int j) H Q = (CMul i j ∧ Q (.int (i * j)) H) := rfl
theorem rMulB_str (z : Str) (n : Int) : rMulB (.str z) (.int n) H Q = (0 ≤ n ∧ n ≤ 4096 ∧ z.length ≤ 4096 ∧ Q (.str (Txt.mul z n)) H) := rfl
theorem rSlL_at (a : Addr) (lo hi : Option Int) : rSlL K (.ref a) lo hi H Q = ∃ xs, SqL K H a xs ∧ ∀ p, H p = none → Q (.ref p) (upd H p (.lst (cutV xs lo hi))) := propext ⟨fun ⟨_, xs, e, q⟩ => by cases e; exact ⟨xs, q⟩, fun ⟨xs, q⟩ => ⟨a, xs, rfl, q⟩⟩
theorem rU_at (g : Int → V) (i : Int) : rU g (.int i) H Q = Q (g i) H := propext ⟨fun ⟨_, e, q⟩ => by cases e; exact q, fun q => ⟨i, rfl, q⟩⟩
end
/-! ### small facts of use everywhere -/
theorem small' {n : Nat} (h : n ≤ 1000000) : n < sizeLine := by
  have : sizeLine = 16777216 := sizeLine_eq
  omega
theorem smallL {n : Nat} (h : n ≤ 1000000) : n ≤ sizeLine := Nat.le_of_lt (small' h)
/-- an item of a list of ints -/
theorem at_map {α : Type} {f : α → V} {xs : List α} {i : Int} {x : α} (h0 : 0 ≤ i) (h : xs[i.toNat]? = some x) : atI (xs.map f) i = some (f x) := by
  have q : (xs.map f)[i.toNat]? = some (f x) := by rw [List.getElem?_map, h]; rfl
  have q' := atI_nat q
  rwa [show ((i.toNat : Nat) : Int) = i by omega] at q'
theorem al_same {H H' : Hp} {p : Addr} {o : HO} (h : upd H p o = H') (hp : H p = none) : Same H H' := h ▸ same_new hp o
theorem al_at {H H' : Hp} {p : Addr} {o : HO} (h : upd H p o = H') : H' p = some o := h ▸ upd_same
end L2

set_option Elab.async false
set_option linter.all false
set_option maxRecDepth 100000
namespace L2
open PySem PySem.Spec PyProof.Rows

/-! ### several untracked records of ours have turned -/
theorem Inv.turnedL {X : Cx} {pins : List (Addr × Obj)} {σ : St} {H : Hp} {s : Shared} {h' : Heap} {t' : Nat} {ch : List Addr} (I : Inv X pins σ H s) (k : ∀ b o, b ∉ ch → s.heap.get? b = some o → h'.get? b = some o)
    (hf : ∀ b ∈ ch, FpOk X pins H b) : Inv X pins σ H { s with heap := h', toks := t' } := by
  have nit : ∀ b u, H b = some u → b ∉ ch := fun b u e z => by rw [(hf b z).1] at e; cases e
  refine I.step (g' := s.gens) (d' := s.drawn) (ch := ch) (fun b hb => ?_) (fun b o _ _ hc e _ => k b o hc e) (fun b o _ _ hc e _ => ⟨o.slots, k b o hc e⟩) (fun _ _ _ _ n => n)
    (fun b o hc e => ⟨o, k b o hc e⟩) (fun _ _ e => e) (fun _ _ _ e => e) (fun b ps e => ⟨#[], by rw [e]; simp⟩) (fun m hm => ?_) (fun b u e => ?_) I.bare
  · obtain ⟨_, f1, _, f3, f4, f5⟩ := hf b hb
    exact ⟨f3, f1, f4, f5⟩
  · obtain ⟨o, es, ep, ho, r⟩ := hm
    exact ⟨o, es, ep, k _ o (fun z => (hf _ z).2.1 rfl) ho, r⟩
  · refine (I.hok b u e).stay (fun c v hc q => k c v ?_ q) (fun _ q => q) fun _ _ q => q
    rcases hc with z | z
    · rw [z]; exact nit b u e
    · exact nit c _ z

/-- the same, and a new object is laid and tracked -/
theorem Inv.turnedLaid {X : Cx} {pins : List (Addr × Obj)} {σ : St} {H : Hp} {s : Shared} {h' : Heap} {t' : Nat} {ch : List Addr} {a : Addr} {o : HO} (I : Inv X pins σ H s) (k : ∀ b o, b ∉ ch → s.heap.get? b = some o → h'.get? b = some o)
    (hf : ∀ b ∈ ch, FpOk X pins H b) (hp : s.heap.objs.size ≤ a) (new : ObjOk X.prog X.w (upd H a o) h' a o) : Inv X pins σ (upd H a o) { s with heap := h', toks := t' } := by
  have hn : H a = none := I.hok.fresh hp
  have nit : ∀ b u, H b = some u → b ∉ ch := fun b u e z => by rw [(hf b z).1] at e; cases e
  refine I.step (g' := s.gens) (d' := s.drawn) (ch := ch) (fun b hb => ?_) (fun b o _ _ hc e _ => k b o hc e) (fun b o _ _ hc e _ => ⟨o.slots, k b o hc e⟩) (fun b u _ q n => ?_)
    (fun b o hc e => ⟨o, k b o hc e⟩) (fun b xs q => ?_) (fun b u xs q => ?_) (fun b ps q => ⟨#[], ?_⟩) (fun m hm => ?_) (fun b u e => ?_) I.bare
  · obtain ⟨_, f1, _, f3, f4, f5⟩ := hf b hb
    exact ⟨f3, f1, f4, f5⟩
  · rw [upd_ne (Nat.ne_of_lt (Nat.lt_of_lt_of_le (Heap.lt_size q) hp))]; exact n
  · rw [upd_ne (ne_of_none q hn)]; exact q
  · rw [upd_ne (ne_of_none q hn)]; exact q
  · rw [upd_ne (ne_of_none q hn), q]; simp
  · obtain ⟨o, es, ep, ho, r⟩ := hm
    exact ⟨o, es, ep, k _ o (fun z => (hf _ z).2.1 rfl) ho, r⟩
  · by_cases hb : b = a
    · subst hb; rw [upd_same] at e; cases e; exact new
    · rw [upd_ne hb] at e
      refine (I.hok b u e).stay (fun c v hc q => k c v ?_ q) (fun c q => by rw [upd_ne (ne_of_none q hn)]; exact q) fun c xs q => by rw [upd_ne (ne_of_none q hn)]; exact q
      rcases hc with z | z
      · rw [z]; exact nit b u e
      · exact nit c _ z

/-! ### zip of two lists -/
def Itz (K : PySem.W.Frag) (a b : Addr) : It :=
  ⟨fun i H => ∃ xs ys x y, SqL K H a xs ∧ SqL K H b ys ∧ xs[i]? = some x ∧ ys[i]? = some y,
   fun i H v H' => ∃ t x y, H t = none ∧ v = .ref t ∧ H' = upd H t (.tup [x, y]) ∧ (∀ xs, SqL K H a xs → xs[i]? = some x) ∧ ∀ ys, SqL K H b ys → ys[i]? = some y,
   fun i H => ∃ xs ys, SqL K H a xs ∧ SqL K H b ys ∧ (xs.length ≤ i ∨ ys.length ≤ i)⟩
structure ZApart (z TI TO i1 i2 : Addr) : Prop where
  TIz : TI ≠ z
  TOz : TO ≠ z
  i1z : i1 ≠ z
  i2z : i2 ≠ z
  TITO : TI ≠ TO
  TIi1 : TI ≠ i1
  TIi2 : TI ≠ i2
  TOi1 : TO ≠ i1
  TOi2 : TO ≠ i2
  i12 : i1 ≠ i2
theorem list_ne {h : Heap} {l c : Addr} {xs : Array Value} {o : Obj} (hl : h.IsList l xs) (e : h.get? c = some o) (hc : o.cls ≠ .type "list") : l ≠ c := by
  rintro rfl
  obtain ⟨o', e', c', _⟩ := hl
  rw [e] at e'; cases e'
  exact hc c'
def ZSt (z TI TO i1 i2 l1 l2 : Addr) (i : Nat) (h : Heap) : Prop :=
  IsZip h z TI TO .none ∧ IsPair h TI (.ref i1) (.ref i2) ∧ (∃ a b, IsPair h TO a b) ∧ h.IsListIter i1 l1 i ∧ h.IsListIter i2 l2 i
theorem zapart {h : Heap} {z TI TO i1 i2 l1 l2 : Addr} {i : Nat} {xs ys : Array Value} (D : ZApart z TI TO i1 i2) (st : ZSt z TI TO i1 i2 l1 l2 i h) (h1 : h.IsList l1 xs) (h2 : h.IsList l2 ys) : ZipApart z TI TO i1 i2 l1 l2 := by
  obtain ⟨s1, s2, ⟨a, b, s3⟩, ⟨o4, s4, c4, _⟩, ⟨o5, s5, c5, _⟩⟩ := st
  have n4 : o4.cls ≠ .type "list" := by rw [c4]; decide
  have n5 : o5.cls ≠ .type "list" := by rw [c5]; decide
  have nz : Value.type "zip" ≠ Value.type "list" := by decide
  have nt : Value.type "tuple" ≠ Value.type "list" := by decide
  exact ⟨D.TIz, D.TOz, D.i1z, D.i2z, D.TITO, D.TIi1, D.TIi2, D.TOi1, D.TOi2, D.i12, list_ne h1 s1 nz, list_ne h1 s3 nt, list_ne h1 s4 n4, list_ne h1 s5 n5, list_ne h2 s1 nz, list_ne h2 s3 nt, list_ne h2 s4 n4, list_ne h2 s5 n5⟩
theorem turn_zip {P : Program} {w : World} {K : PySem.W.Frag} {elts : List Expr} {k : Nat} {pos : Pos} {z TI TO i1 i2 l1 l2 : Addr} (D : ZApart z TI TO i1 i2) : Turn P w K (.Tuple elts k pos) (Itz K l1 l2) [z, TI, TO, i1, i2] z (ZSt z TI TO i1 i2 l1 l2) where
  mem := by simp
  obj := fun i h st b hb => by
    obtain ⟨s1, s2, ⟨_, _, s3⟩, ⟨o4, s4, c4, d4⟩, ⟨o5, s5, c5, d5⟩⟩ := st
    simp only [List.mem_cons, List.mem_nil_iff, or_false] at hb
    rcases hb with rfl | rfl | rfl | rfl | rfl
    · exact ⟨_, s1, fun v e => by cases e⟩
    · exact ⟨_, s2, fun v e => by cases e⟩
    · exact ⟨_, s3, fun v e => by cases e⟩
    · exact ⟨_, s4, fun v e => by rw [d4] at e; cases e⟩
    · exact ⟨_, s5, fun v e => by rw [d5] at e; cases e⟩
  keep := fun i h h' st kk => by
    obtain ⟨s1, s2, ⟨a, b, s3⟩, s4, s5⟩ := st
    exact ⟨kk z (by simp) _ s1, kk TI (by simp) _ s2, ⟨a, b, kk TO (by simp) _ s3⟩, s4.at fun o e => kk i1 (by simp) o e, s5.at fun o e => kk i2 (by simp) o e⟩
  item := by
    intro X hP hw hK hc i pins s σ H E I hf st hg
    subst hP hw hK
    obtain ⟨xs, ys, x, y, q1, q2, hx, hy⟩ := hg
    obtain ⟨is1, rv1, p1, _⟩ := I.list q1
    obtain ⟨is2, rv2, p2, _⟩ := I.list q2
    obtain ⟨u1, hu1, ru1⟩ := rv1.get hx
    obtain ⟨u2, hu2, ru2⟩ := rv2.get hy
    have D' := zapart D st p1.isList p2.isList
    obtain ⟨s1, s2, ⟨a, b, s3⟩, s4, s5⟩ := st
    refine wpAny_pyNext_zip_item D' s1 s2 s3 s4 s5 p1.isList p2.isList (x := u1) (y := u2) (by simpa using hu1) (by simpa using hu2) fun h' a1 a2 a3 a4 a5 a6 kk => ?_
    refine ⟨_, rfl, wpAny_letOwnedTupleGo_zip a1 fun h'' hz' hs' => ?_⟩
    have lt : ∀ {c o}, s.heap.get? c = some o → s.heap.objs.size ≠ c := fun e => Nat.ne_of_gt (Heap.lt_size e)
    have zne : s.heap.objs.size ≠ z := lt s1
    have keep2 : ∀ b o, b ∉ [z, TI, TO, i1, i2] → s.heap.get? b = some o → h''.get? b = some o := fun b o hb e => by
      simp only [List.mem_cons, List.mem_nil_iff, or_false, not_or] at hb
      exact hs'.extBut _ _ hb.1 (kk b o hb.1 hb.2.2.1 hb.2.2.2.1 hb.2.2.2.2 e)
    have hsz : H s.heap.objs.size = none := I.hok.fresh (Nat.le_refl _)
    have tupN : IsPair h'' s.heap.objs.size u1 u2 := hs'.extBut _ _ zne a5
    have nlt : ∀ c ∈ [z, TI, TO, i1, i2], c ≠ s.heap.objs.size := fun c hc' => by
      obtain ⟨o4, e4, _⟩ := id s4
      obtain ⟨o5, e5, _⟩ := id s5
      simp only [List.mem_cons, List.mem_nil_iff, or_false] at hc'
      rcases hc' with rfl | rfl | rfl | rfl | rfl
      · exact (lt s1).symm
      · exact (lt s2).symm
      · exact (lt s3).symm
      · exact (lt e4).symm
      · exact (lt e5).symm
    refine ⟨.ref s.heap.objs.size, upd H s.heap.objs.size (.tup [x, y]), I.turnedLaid (t' := s.toks) keep2 hf (Nat.le_refl _) ⟨smallL (by show 2 ≤ 1000000; decide), [u1, u2], .cons ru1 (.cons ru2 .nil), ⟨_, tupN, rfl, 0, rfl⟩⟩, rfl, ⟨_, x, y, hsz, rfl, rfl, fun xs' q' => ?_, fun ys' q' => ?_⟩,
      ⟨hz', hs'.extBut _ _ D.TIz (kk _ _ D.TIz D.TITO D.TIi1 D.TIi2 s2), ⟨_, _, hs'.extBut _ _ D.TOz a2⟩, a3.extBut hs'.extBut D.i1z, a4.extBut hs'.extBut D.i2z⟩, fun c hc' => ?_⟩
    · rw [I.list_inj q' q1]; exact hx
    · rw [I.list_inj q' q2]; exact hy
    · rw [upd_ne (nlt c hc')]; exact (hf c hc').1
  done := by
    intro X hP hw hK hc i pins s σ H E I hf st hg
    subst hP hw hK
    obtain ⟨xs, ys, q1, q2, hlen⟩ := hg
    obtain ⟨is1, rv1, p1, _⟩ := I.list q1
    obtain ⟨is2, rv2, p2, _⟩ := I.list q2
    have l1 := rv1.length
    have l2 := rv2.length
    have D' := zapart D st p1.isList p2.isList
    obtain ⟨s1, s2, ⟨a, b, s3⟩, s4, s5⟩ := st
    refine wpAny_pyNext_zip_end (I.ok.hd hc) D' s1 s2 s3 s4 s5 p1.isList p2.isList ?_ fun h' kk => ⟨rfl, I.turnedL (t' := s.toks) (fun b o hb e => ?_) hf⟩
    · rcases hlen with z | z
      · exact .inl (by simp; omega)
      · exact .inr (by simp; omega)
    · simp only [List.mem_cons, List.mem_nil_iff, or_false, not_or] at hb
      exact kk b o hb.1 hb.2.2.1 hb.2.2.2.1 hb.2.2.2.2 e
  self := fun A i s Q E st h => wpAny_pyIter_zip st.1 h
theorem zap (n : Nat) : ZApart (n + 4) (n + 2) (n + 3) n (n + 1) := ⟨(show (@Ne Nat (n + 2) (n + 4) : Prop) by omega), (show (@Ne Nat (n + 3) (n + 4) : Prop) by omega), (show (@Ne Nat (n) (n + 4) : Prop) by omega), (show (@Ne Nat (n + 1) (n + 4) : Prop) by omega), (show (@Ne Nat (n + 2) (n + 3) : Prop) by omega), (show (@Ne Nat (n + 2) (n) : Prop) by omega), (show (@Ne Nat (n + 2) (n + 1) : Prop) by omega), (show (@Ne Nat (n + 3) (n) : Prop) by omega), (show (@Ne Nat (n + 3) (n + 1) : Prop) by omega), (show (@Ne Nat (n) (n + 1) : Prop) by omega)⟩
theorem boot_zip : bootBuiltins "zip" = some (.type "zip") := by decide +kernel
def iZip (K : PySem.W.Frag) (ta : TA) : TI := fun σ H R => ta σ H fun vs H1 => ∃ a b : Addr, vs = [.ref a, .ref b] ∧ (∃ xs, SqL K H1 a xs) ∧ (∃ ys, SqL K H1 b ys) ∧ R (Itz K a b) H1
theorem iZip_at (K : PySem.W.Frag) (ta : TA) {σ : St} {H : Hp} {R : It → Hp → Prop} : iZip K ta σ H R = ta σ H fun vs H1 => ∃ a b : Addr, vs = [.ref a, .ref b] ∧ (∃ xs, SqL K H1 a xs) ∧ (∃ ys, SqL K H1 b ys) ∧ R (Itz K a b) H1 := rfl
theorem ex_refs2 (n m : Addr) (P : Addr → Addr → Prop) : (∃ i j, [V.ref n, V.ref m] = [V.ref i, V.ref j] ∧ P i j) = P n m := propext ⟨fun ⟨_, _, e, h⟩ => by cases e; exact h, fun h => ⟨n, m, rfl, h⟩⟩
theorem pi_zip {X : Cx} {elts : List Expr} {k : Nat} {tpos : Pos} {a b : Expr} {ta : TA} {p pos : Pos} (hg : Gl X "zip") (hm : X.mg "zip" = none) (ha : PA X [a, b] ta) (hs : starEach [a, b] X.env = [(false, eval a X.env), (false, eval b X.env)] := by rfl) (hs2 : starEach [b] X.env = [(false, eval b X.env)] := by rfl) :
    PI X (.Tuple elts k tpos) (.Call (.Name "zip" p) [a, b] [] pos) (iZip X.K ta) := by
  intro pins s σ H R I h
  refine Call_ (ld_blt I hg hm boot_zip (PyProof.Rows.callWith_type1 (thn (ha pos pins s σ H _ I h) fun us s1 ⟨vs, H1, I1, r1, q1⟩ => ?_) (by rw [hs, hs2]) (by rw [hs2]; rfl)))
  obtain ⟨l1, l2, e, ⟨xs, h1⟩, ⟨ys, h2⟩, q⟩ := q1
  subst e
  obtain ⟨u1, u2, rfl, r1, r2⟩ := vals2 r1
  cases r1
  cases r2
  obtain ⟨is1, _, p1, _⟩ := I1.list h1
  obtain ⟨is2, _, p2, _⟩ := I1.list h2
  refine call_zip_2 p1.isList p2.isList fun h' a1 a2 a3 a4 a5 a6 kk => ?_
  refine wpAny_pyIter_zip a1 ⟨_, [s1.heap.objs.size + 4, s1.heap.objs.size + 2, s1.heap.objs.size + 3, s1.heap.objs.size, s1.heap.objs.size + 1], _, _, H1, rfl, I1.kept (t' := s1.toks) kk,
    turn_zip (z := s1.heap.objs.size + 4) (TI := s1.heap.objs.size + 2) (TO := s1.heap.objs.size + 3) (i1 := s1.heap.objs.size) (i2 := s1.heap.objs.size + 1) (zap _), ⟨a1, a2, ⟨_, _, a3⟩, a4, a5⟩, fun b hb => ?_, q⟩
  have hb' : s1.heap.objs.size ≤ b := by
    simp only [List.mem_cons, List.mem_nil_iff, or_false] at hb
    rcases hb with rfl | rfl | rfl | rfl | rfl <;> first | exact Nat.le_refl _ | exact Nat.le_add_right _ _
  exact I1.fpOk hb' (I1.hok.fresh hb')
theorem pi_zipK (K : PySem.W.Frag) {X : Cx} {elts : List Expr} {k : Nat} {tpos : Pos} {a b : Expr} {ta : TA} {p pos : Pos} (hg : Gl X "zip") (hm : X.mg "zip" = none) (ha : PA X [a, b] ta) (hs : starEach [a, b] X.env = [(false, eval a X.env), (false, eval b X.env)] := by rfl) (hs2 : starEach [b] X.env = [(false, eval b X.env)] := by rfl) (hK : X.K = K := by rfl) :
    PI X (.Tuple elts k tpos) (.Call (.Name "zip" p) [a, b] [] pos) (iZip K ta) := hK ▸ pi_zip hg hm ha hs hs2
/-! ### f-strings of plain fields -/
section
variable {X : Cx}
end
section
variable {σ : St} {H : Hp} {Q : VK}
end
end L2

set_option Elab.async false
set_option linter.all false
set_option maxRecDepth 100000
namespace L2
open PySem PySem.Spec PyProof.Rows

/-! ### enumerate of a list -/
def Ite (K : PySem.W.Frag) (a : Addr) : It :=
  ⟨fun i H => ∃ xs x, SqL K H a xs ∧ xs[i]? = some x,
   fun i H v H' => ∃ t x, H t = none ∧ v = .ref t ∧ H' = upd H t (.tup [.int i, x]) ∧ ∀ xs, SqL K H a xs → xs[i]? = some x,
   fun i H => ∃ xs, SqL K H a xs ∧ xs.length ≤ i⟩
def ESt (e it l : Addr) (i : Nat) (h : Heap) : Prop := (∃ old, IsEnum h e it i old) ∧ h.IsListIter it l i
theorem turn_enum {P : Program} {w : World} {K : PySem.W.Frag} {elts : List Expr} {k : Nat} {pos : Pos} {e it l : Addr} (hei : e ≠ it) : Turn P w K (.Tuple elts k pos) (Ite K l) [e, it] e (ESt e it l) where
  mem := by simp
  obj := fun i h st b hb => by
    obtain ⟨⟨old, s1⟩, ⟨o4, s4, c4, d4⟩⟩ := st
    simp only [List.mem_cons, List.mem_nil_iff, or_false] at hb
    rcases hb with rfl | rfl
    · exact ⟨_, s1, fun v e => by cases e⟩
    · exact ⟨_, s4, fun v e => by rw [d4] at e; cases e⟩
  keep := fun i h h' st kk => by
    obtain ⟨⟨old, s1⟩, s4⟩ := st
    exact ⟨⟨old, kk e (by simp) _ s1⟩, s4.at fun o z => kk it (by simp) o z⟩
  item := by
    intro X hP hw hK hc i pins s σ H E I hf st hg
    subst hP hw hK
    obtain ⟨xs, x, q1, hx⟩ := hg
    obtain ⟨is1, rv1, p1, _⟩ := I.list q1
    obtain ⟨u1, hu1, ru1⟩ := rv1.get hx
    obtain ⟨⟨old, s1⟩, s4⟩ := st
    refine wpAny_pyNext_enum_item s1 s4 p1.isList (x := u1) (by simpa using hu1) hei fun h' a1 a3 a5 a6 kk => ?_
    refine ⟨_, rfl, wpAny_letOwnedTupleGo_enum a1 fun h'' hz' hs' => ?_⟩
    have lt : ∀ {c o}, s.heap.get? c = some o → s.heap.objs.size ≠ c := fun z => Nat.ne_of_gt (Heap.lt_size z)
    have zne : s.heap.objs.size ≠ e := lt s1
    have keep2 : ∀ b o, b ∉ [e, it] → s.heap.get? b = some o → h''.get? b = some o := fun b o hb z => by
      simp only [List.mem_cons, List.mem_nil_iff, or_false, not_or] at hb
      exact hs'.extBut _ _ hb.1 (kk b o hb.1 hb.2 z)
    have hsz : H s.heap.objs.size = none := I.hok.fresh (Nat.le_refl _)
    have tupN := hs'.extBut _ _ zne a5
    have nlt : ∀ c ∈ [e, it], c ≠ s.heap.objs.size := fun c hc' => by
      obtain ⟨o4, e4, _⟩ := id s4
      simp only [List.mem_cons, List.mem_nil_iff, or_false] at hc'
      rcases hc' with rfl | rfl
      · exact (lt s1).symm
      · exact (lt e4).symm
    refine ⟨.ref s.heap.objs.size, upd H s.heap.objs.size (.tup [.int i, x]), I.turnedLaid (t' := s.toks + 1) keep2 hf (Nat.le_refl _) ⟨smallL (by show 2 ≤ 1000000; decide), [.int i s.toks, u1], .cons ⟨_, rfl⟩ (.cons ru1 .nil), ⟨_, tupN, rfl, 0, rfl⟩⟩, rfl, ⟨_, x, hsz, rfl, rfl, fun xs' q' => ?_⟩,
      ⟨⟨_, by simpa using hz'⟩, a3.extBut hs'.extBut hei.symm⟩, fun c hc' => ?_⟩
    · rw [I.list_inj q' q1]; exact hx
    · rw [upd_ne (nlt c hc')]; exact (hf c hc').1
  done := by
    intro X hP hw hK hc i pins s σ H E I hf st hg
    subst hP hw hK
    obtain ⟨xs, q1, hlen⟩ := hg
    obtain ⟨is1, rv1, p1, _⟩ := I.list q1
    have l1 := rv1.length
    obtain ⟨⟨old, s1⟩, s4⟩ := st
    refine wpAny_pyNext_enum_end (I.ok.hd hc) s1 s4 p1.isList (by simp; omega) fun h' kk => ⟨rfl, I.turnedL (t' := s.toks) (fun b o hb z => ?_) hf⟩
    simp only [List.mem_cons, List.mem_nil_iff, or_false, not_or] at hb
    exact kk b o hb.2 z
  self := fun A i s Q E st h => by
    obtain ⟨⟨old, s1⟩, _⟩ := st
    exact wpAny_pyIter_enum s1 h
theorem boot_enumerate : bootBuiltins "enumerate" = some (.type "enumerate") := by decide +kernel
def iEnum (K : PySem.W.Frag) (ta : TA) : TI := fun σ H R => ta σ H fun vs H1 => ∃ a : Addr, vs = [.ref a] ∧ (∃ xs, H1 a = some (.lst xs)) ∧ R (Ite K a) H1
theorem iEnum_at (K : PySem.W.Frag) (ta : TA) {σ : St} {H : Hp} {R : It → Hp → Prop} : iEnum K ta σ H R = ta σ H fun vs H1 => ∃ a : Addr, vs = [.ref a] ∧ (∃ xs, H1 a = some (.lst xs)) ∧ R (Ite K a) H1 := rfl
theorem ex_ref1 (n : Addr) (P : Addr → Prop) : (∃ i, [V.ref n] = [V.ref i] ∧ P i) = P n := propext ⟨fun ⟨_, e, h⟩ => by cases e; exact h, fun h => ⟨n, rfl, h⟩⟩
theorem pi_enumK (K : PySem.W.Frag) {X : Cx} {elts : List Expr} {k : Nat} {tpos : Pos} {a : Expr} {ta : TA} {p pos : Pos} (hg : Gl X "enumerate") (hm : X.mg "enumerate" = none) (ha : PA X [a] ta) (hs : starEach [a] X.env = [(false, eval a X.env)] := by rfl) (hK : X.K = K := by rfl) :
    PI X (.Tuple elts k tpos) (.Call (.Name "enumerate" p) [a] [] pos) (iEnum K ta) := by
  subst hK
  intro pins s σ H R I h
  refine Call_ (ld_blt I hg hm boot_enumerate (PyProof.Rows.callWith_type1 (thn (ha pos pins s σ H _ I h) fun us s1 ⟨vs, H1, I1, r1, q1⟩ => ?_) hs rfl))
  obtain ⟨l, e, ⟨xs, h1⟩, q⟩ := q1
  subst e
  obtain ⟨u1, rfl, r1'⟩ := vals1 r1
  obtain rfl : u1 = Value.ref l := r1'
  obtain ⟨hz, its, n, rv, hl⟩ : xs.length ≤ sizeLine ∧ ∃ (its : List Value) (n : Nat), Vals xs its ∧ s1.heap.get? l = some { cls := .type "list", data := .seq its.toArray n } := I1.hok l _ h1
  refine call_enumerate_1 hl fun h' a1 a4 a6 kk => ?_
  refine wpAny_pyIter_enum a1 ⟨_, [s1.heap.objs.size + 1, s1.heap.objs.size], _, _, H1, rfl, I1.kept (t' := s1.toks) kk,
    turn_enum (e := s1.heap.objs.size + 1) (it := s1.heap.objs.size) (Nat.ne_of_gt (Nat.lt_succ_self _)), ⟨⟨_, a1⟩, a4⟩, fun b hb => ?_, q⟩
  have hb' : s1.heap.objs.size ≤ b := by
    simp only [List.mem_cons, List.mem_nil_iff, or_false] at hb
    rcases hb with rfl | rfl <;> first | exact Nat.le_refl _ | exact Nat.le_add_right _ _
  exact I1.fpOk hb' (I1.hok.fresh hb')
section
variable {K : PySem.W.Frag} {a b : Addr} {xs ys : List V} {g : TG} {te : TE} {nT : Nat} {σ : St} {D : Addr} {Q : VK} {H : Hp}
theorem forW_enum {tb : TS} {D : Ends} (Pv : Nat → St → Hp → Prop) (h0 : Pv 0 σ H) (hl : ∀ i σ H, i ≤ xs.length → Pv i σ H → SqL K H a xs)
    (hs : ∀ i x t σ H, xs[i]? = some x → Pv i σ H → H t = none → g (.ref t) σ (upd H t (.tup [.int i, x])) fun σ2 H2 => tb { D with nx := Pv (i + 1), ct := Pv (i + 1), bk := D.nx } σ2 H2) (hd : ∀ σ H, Pv xs.length σ H → D.nx σ H) : forW (Ite K a) g tb D σ H := by
  refine forW_by xs.length Pv h0 (fun i σ H hi p => ⟨xs, xs[i], hl i σ H (Nat.le_of_lt hi) p, by simp [hi]⟩) (fun σ H p => ⟨xs, hl _ σ H (Nat.le_refl _) p, Nat.le_refl _⟩) (fun i σ H v H' hi p yl => ?_) hd
  obtain ⟨t, x, ht, rfl, rfl, y1⟩ := yl
  exact hs i x t σ H (y1 xs (hl i σ H (Nat.le_of_lt hi) p)) p ht
theorem forW_zip {tb : TS} {D : Ends} (Pv : Nat → St → Hp → Prop) (hn : xs.length = ys.length) (h0 : Pv 0 σ H) (hl : ∀ i σ H, i ≤ xs.length → Pv i σ H → SqL K H a xs ∧ SqL K H b ys)
    (hs : ∀ i x y t σ H, xs[i]? = some x → ys[i]? = some y → Pv i σ H → H t = none → g (.ref t) σ (upd H t (.tup [x, y])) fun σ2 H2 => tb { D with nx := Pv (i + 1), ct := Pv (i + 1), bk := D.nx } σ2 H2) (hd : ∀ σ H, Pv xs.length σ H → D.nx σ H) : forW (Itz K a b) g tb D σ H := by
  refine forW_by xs.length Pv h0 (fun i σ H hi p => ⟨xs, ys, xs[i], ys[i], (hl i σ H (Nat.le_of_lt hi) p).1, (hl i σ H (Nat.le_of_lt hi) p).2, by simp [hi], by simp [hn ▸ hi]⟩) (fun σ H p => ⟨xs, ys, (hl _ σ H (Nat.le_refl _) p).1, (hl _ σ H (Nat.le_refl _) p).2, .inl (Nat.le_refl _)⟩) (fun i σ H v H' hi p yl => ?_) hd
  obtain ⟨t, x, y, ht, rfl, rfl, y1, y2⟩ := yl
  exact hs i x y t σ H (y1 xs (hl i σ H (Nat.le_of_lt hi) p).1) (y2 ys (hl i σ H (Nat.le_of_lt hi) p).2) p ht
end
end L2

set_option Elab.async false
set_option linter.all false
set_option maxRecDepth 100000
namespace L2
open PySem PySem.Spec PyProof.Rows

/-! ### a text's slice -/
def rSlS : V → Option Int → Option Int → Hp → VK → Prop := fun x lo hi H Q => ∃ y, x = .str y ∧ y.length ≤ sizeLine ∧ Q (.str (Txt.slice y lo hi)) H
theorem sl_str {X : Cx} : SlR X rSlS := by
  intro pins s σ H x v vl vu lo hi sl Q I rx hs pl pu h
  obtain ⟨y, rfl, hz, q⟩ := h
  obtain ⟨t, rfl⟩ := rx
  obtain ⟨l, hl, el⟩ : ∃ l : Option (Int × Tok), vl = partValue l ∧ l.map (·.1) = lo := by
    cases pl with
    | none => exact ⟨none, rfl, rfl⟩
    | int i t => exact ⟨some (i, t), rfl, rfl⟩
  obtain ⟨u, hu, eu⟩ : ∃ l : Option (Int × Tok), vu = partValue l ∧ l.map (·.1) = hi := by
    cases pu with
    | none => exact ⟨none, rfl, rfl⟩
    | int i t => exact ⟨some (i, t), rfl, rfl⟩
  subst hl hu el eu
  refine ⟨"str", _, PySem.F.slot_str_getitem.lookup, typeIs_str _ _ _, wpAny_getItem_str_slice (l := l) (u := u) (st := none) hs rfl (post_val_or_str ⟨Nat.le_trans (Txt.slice_le y _ _) hz, fun t' k => ⟨.str _, H, I.tok k, ⟨t', rfl⟩, q⟩⟩)⟩
theorem rSlS_at {H : Hp} {Q : VK} (y : Str) (lo hi : Option Int) : rSlS (.str y) lo hi H Q = (y.length ≤ sizeLine ∧ Q (.str (Txt.slice y lo hi)) H) := propext ⟨fun ⟨_, e, h⟩ => by cases e; exact h, fun h => ⟨y, rfl, h⟩⟩
end L2

set_option Elab.async false
set_option linter.all false
set_option maxRecDepth 100000
namespace L2
open PySem PySem.Spec PyProof.Rows

/-! ### what may stand in a tuple that is a dict's key, tuples too -/
structure IK (prog : Program) (w : World) (κ : Type) [DecidableEq κ] where
  is : Heap → κ → Value → Prop
  hash : κ → Int
  draws : κ → Nat
  deep : Nat
  inj : ∀ {h : Heap} {v : Value} {x y : κ}, is h x v → is h y v → x = y
  keeps : ∀ {h h' : Heap} {k : κ} {v : Value} {d : Addr} {o : Obj} {es ep}, is h k v → h.get? d = some o → o.data = .dict es ep → Heap.SameBut d h h' → is h' k v
  pyHash : ∀ {A : Around} {E : Value → Shared → Prop} {s : Shared} {k : κ} {v : Value} {Q : Int → Shared → Prop}, A.units + deep < cLine → is s.heap k v → Q (hash k) { s with toks := s.toks + draws k } →
    wpAny (model prog w) A (PySem.pyHash v) Q E s
  eqBool : ∀ {A : Around} {E : Value → Shared → Prop} {s : Shared} {x y : κ} {u v : Value} {Q : Bool → Shared → Prop}, A.units + deep < cLine → is s.heap x u → is s.heap y v → Q (decide (x = y)) s →
    wpAny (model prog w) A (PySem.eqBool u v) Q E s
  quiet : ∀ {A : Around} {E : Value → Shared → Prop} {s : Shared} {k : κ} {v : Value} {n : Nat} {Q : Bool → Shared → Prop}, is s.heap k v → Q true s → wpAny (model prog w) A (eqIsQuiet (n + deep) v) Q E s
section
variable {prog : Program} {w : World} {κ : Type} [DecidableEq κ] (K : IK prog w κ)
inductive IsItems (h : Heap) : List κ → List Value → Prop
  | nil : IsItems h [] []
  | cons {k : κ} {v : Value} {ks : List κ} {vs : List Value} : K.is h k v → IsItems h ks vs → IsItems h (k :: ks) (v :: vs)
def IsTupK (h : Heap) (ks : List κ) (v : Value) : Prop := ∃ a o items n, v = .ref a ∧ h.get? a = some o ∧ o.cls = .type "tuple" ∧ o.data = .seq items n ∧ IsItems K h ks items.toList
variable {K}
theorem IsItems.inj {h : Heap} : ∀ {x y : List κ} {vs : List Value}, IsItems K h x vs → IsItems K h y vs → x = y
  | _, _, _, .nil, .nil => rfl
  | _, _, _, .cons a b, .cons c d => by rw [K.inj a c, IsItems.inj b d]
theorem IsItems.keeps {h h' : Heap} {d : Addr} {o : Obj} {es ep} (ho : h.get? d = some o) (hd : o.data = .dict es ep) (hs : Heap.SameBut d h h') : ∀ {x : List κ} {vs : List Value}, IsItems K h x vs → IsItems K h' x vs
  | _, _, .nil => .nil
  | _, _, .cons a b => .cons (K.keeps a ho hd hs) (b.keeps ho hd hs)
theorem IsItems.len {h : Heap} : ∀ {x : List κ} {vs : List Value}, IsItems K h x vs → x.length = vs.length
  | _, _, .nil => rfl
  | _, _, .cons _ b => by rw [List.length_cons, List.length_cons, b.len]
def sumD (K : IK prog w κ) (ks : List κ) : Nat := (ks.map K.draws).sum
def tupH (K : IK prog w κ) (ks : List κ) : Int := reduceHash (Builtin.Tuple.tupleHashOf (ks.map K.hash))
theorem hash_tupK {A : Around} {E : Value → Shared → Prop} {s : Shared} {ks : List κ} {v : Value} {Q : Int → Shared → Prop} (hu : A.units + (K.deep + 1) < cLine) (hk : IsTupK K s.heap ks v) (h : Q (tupH K ks) { s with toks := s.toks + (sumD K ks + 1) }) :
    wpAny (model prog w) A (PySem.pyHash v) Q E s := by
  obtain ⟨a, o, items, n, rfl, ho, hc, hd, hi⟩ := hk
  have hT : s.TypeIs (.ref a) "tuple" := ⟨o, ho, hc⟩
  unfold PySem.pyHash
  first | unfold pyHashByItsType | skip
  first | refine wpAny_bind (wpAny_cRoomFor_or (.inr (by omega)) ?_) | skip
  refine wpAny_bind (wpAny_specialOf hT PySem.F.slot_tuple_hash.lookup ?_)
  rw [if_neg (by rw [beq_builtin_none]; exact Bool.false_ne_true)]
  refine wpAny_bind (wpAny_specialOf hT PySem.F.slot_tuple_hash.lookup ?_)
  show wpAny _ _ (callSpecialIfBoundUnlessNone? (.ref a) "__hash__" _ >>= _) Q E s
  refine wpAny_bind (wpAny_callSpecialIfBoundUnlessNone?_slot hT PySem.F.slot_tuple_hash (wpAny_call_entry PySem.F.slot_tuple_hash hT
    PySem.F.entry_tuple_hash ?_ (PySem.F.args_tuple_hash_1 _)))
  show wpAny _ _ (Builtin.Tuple.tupleItemsOf (.ref a) >>= _) _ _ s
  refine wpAny_bind (wpAny_tupleItemsOf ho hd (wpAny_bind ?_))
  rw [← Array.forIn_toList]
  refine wpAny_forIn_list _ (fun rest (b : Array Int) s' => ∃ done left, ks = done ++ left ∧ IsItems K s.heap left rest ∧ b.toList = done.map K.hash ∧ s' = { s with toks := s.toks + sumD K done }) _ ?_ ?_ _ _ ⟨[], ks, rfl, hi, rfl, rfl⟩
  · rintro x rest b s' ⟨done, left, rfl, hl, hb, rfl⟩
    cases hl with
    | @cons k _ ks' _ h1 hl' =>
      have e : sumD K (done ++ [k]) = sumD K done + K.draws k := by simp [sumD]
      refine wpAny_bind (K.pyHash (show A.in1.units + K.deep < cLine from by show A.units + 1 + K.deep < cLine; omega) h1 ?_)
      have fin : ∃ done' left', done ++ k :: ks' = done' ++ left' ∧ IsItems K s.heap left' rest ∧ (b.push (K.hash k)).toList = done'.map K.hash ∧ ({ s with toks := s.toks + sumD K done + K.draws k } : Shared) = { s with toks := s.toks + sumD K done' } :=
        ⟨done ++ [k], ks', by simp, hl', by simp [hb], by rw [e, Nat.add_assoc]⟩
      first
        | exact wpAny_pure fin
        | exact wpAny_bind (wpAny_pure (wpAny_pure fin))
  · rintro b s' ⟨done, left, rfl, hl, hb, rfl⟩
    cases hl
    rw [List.append_nil] at h
    show wpAny _ _ (retInt (Builtin.Tuple.tupleHashOf b.toList)) _ _ _
    rw [hb]
    refine wpAny_ret_mkInt ?_
    unfold tupH reduceHash at h
    show wpAny _ _ (if (decide (-(2 : Int) ^ 63 ≤ Builtin.Tuple.tupleHashOf (done.map K.hash)) && decide (Builtin.Tuple.tupleHashOf (done.map K.hash) < 2 ^ 63)) = true then _ else _) Q E _
    by_cases hr : (decide (-(2 : Int) ^ 63 ≤ Builtin.Tuple.tupleHashOf (done.map K.hash)) && decide (Builtin.Tuple.tupleHashOf (done.map K.hash) < 2 ^ 63)) = true
    · rw [if_pos hr] at h ⊢
      exact wpAny_pure (by simpa [Nat.add_assoc] using h)
    · rw [if_neg hr] at h ⊢
      exact wpAny_bind (wpAny_rule (wpAny_pure (by simpa [Nat.add_assoc] using h)))
theorem eq_tupTree {A : Around} {E : Value → Shared → Prop} {s : Shared} {x y : List κ} {a b : Addr} {P : Fin → Shared → Prop} (hu : A.units + K.deep < cLine) (hx : IsTupK K s.heap x (.ref a)) (hy : IsTupK K s.heap y (.ref b)) (h : P (.done (.ret (.bool (decide (x = y))))) s) :
    wpAny (model prog w) A (Builtin.«tuple.__eq__» ⟨[.ref a, .ref b], []⟩) P E s := by
  obtain ⟨_, oa, xs, na, e1, hoa, ca, hda, hia⟩ := hx
  obtain ⟨_, ob, ys, nb, e2, hob, cb, hdb, hib⟩ := hy
  cases e1
  cases e2
  show wpAny _ _ (isInstance (.ref b) (.type "tuple") >>= _) _ _ s
  refine wpAny_bind (wpAny_isInstance ⟨ob, hob, cb⟩ isSubtype_tuple_tuple ?_)
  simp only [Bool.not_true, Bool.false_eq_true, if_false]
  refine wpAny_bind (wpAny_tupleItemsOf hoa hda (wpAny_bind (wpAny_tupleItemsOf hob hdb (wpAny_bind ?_))))
  refine wpAny_forIn_list _ (fun rest r s' => r.1 = none ∧ s' = s ∧ ∃ x' y' xs' ys', rest = List.zip xs' ys' ∧ IsItems K s.heap x' xs' ∧ IsItems K s.heap y' ys' ∧ decide (x' = y') = decide (x = y) ∧ (xs'.length == ys'.length) = (xs.size == ys.size)) _ ?_ ?_ _ _
    ⟨rfl, rfl, x, y, xs.toList, ys.toList, rfl, hia, hib, rfl, by simp⟩
  · rintro ⟨u, v⟩ rest r s' ⟨hr, rfl, x', y', xs', ys', hz, hx', hy', hdec, hlen⟩
    cases hx' with
    | nil => simp at hz
    | @cons k1 u' x'' xs'' h1 hx'' =>
      cases hy' with
      | nil => simp at hz
      | @cons k2 v' y'' ys'' h2 hy'' =>
        simp only [List.zip_cons_cons, List.cons.injEq, Prod.mk.injEq] at hz
        obtain ⟨⟨rfl, rfl⟩, rfl⟩ := hz
        refine wpAny_bind (K.eqBool (x := k1) (y := k2) hu h1 h2 ?_)
        by_cases hk : k1 = k2
        · subst hk
          rw [decide_eq_true rfl]
          simp only [Bool.not_true, Bool.false_eq_true, if_false]
          refine wpAny_pure ⟨rfl, rfl, x'', y'', xs'', ys'', rfl, hx'', hy'', ?_, by simpa using hlen⟩
          rw [← hdec]
          by_cases hxy : x'' = y'' <;> simp [hxy]
        · rw [decide_eq_false hk]
          simp only [Bool.not_false, if_true]
          have hf : decide (x = y) = false := by rw [← hdec]; simp [hk]
          rw [hf] at h
          exact wpAny_bind (wpAny_pure (wpAny_pure (wpAny_pure h)))
  · rintro ⟨r1, r2⟩ s' ⟨hr, rfl, x', y', xs', ys', hz, hx', hy', hdec, hlen⟩
    simp only at hr
    subst hr
    refine wpAny_pure ?_
    have hfin : (xs.size == ys.size) = decide (x = y) := by
      rw [← hdec, ← hlen]
      cases hx' with
      | nil => cases hy' <;> simp
      | cons _ _ =>
        cases hy' with
        | nil => simp
        | cons _ _ => simp at hz
    show P (.done (.ret (.bool (xs.size == ys.size)))) s'
    rw [hfin]; exact h
theorem eq_tupK {A : Around} {E : Value → Shared → Prop} {s : Shared} {x y : List κ} {u v : Value} {Q : Bool → Shared → Prop} (hu : A.units + (K.deep + 1) < cLine) (hx : IsTupK K s.heap x u) (hy : IsTupK K s.heap y v) (h : Q (decide (x = y)) s) :
    wpAny (model prog w) A (PySem.eqBool u v) Q E s := by
  have hx0 := hx
  have hy0 := hy
  obtain ⟨a, oa, xs, na, rfl, hoa, ca, hda, hia⟩ := hx
  obtain ⟨b, ob, ys, nb, rfl, hob, cb, hdb, hib⟩ := hy
  unfold PySem.eqBool
  try with_reducible refine wpAny_holding ?_
  show wpAny _ _ (if (Value.ref a == Value.ref b) = true then _ else _) Q E s
  by_cases hab : (Value.ref a == Value.ref b) = true
  · rw [if_pos hab]
    have e : a = b := by have := eq_of_beq hab; injection this
    subst e
    rw [hoa] at hob
    cases hob
    rw [hda] at hdb
    injection hdb with e1 _
    subst e1
    rw [decide_eq_true (hia.inj hib)] at h
    exact wpAny_bind (wpAny_rule (wpAny_pure h))
  · rw [if_neg hab]
    have ta : s.TypeIs (.ref a) "tuple" := ⟨oa, hoa, ca⟩
    have tb : s.TypeIs (.ref b) "tuple" := ⟨ob, hob, cb⟩
    refine wpAny_bind (wpAny_richCompare_same_room (op := .Eq) ta tb PySem.F.slot_tuple_eq (wpAny_call_entry PySem.F.slot_tuple_eq ta PySem.F.entry_tuple_eq ?_ (PySem.F.args_tuple_eq_2 _ _)) (by omega))
    refine eq_tupTree (K := K) ?_ hx0 hy0 ⟨_, rfl, (fun e => nomatch e), wpAny_truthy_bool h⟩
    show A.units + 1 + K.deep < cLine
    omega
theorem quiet_tupK {A : Around} {E : Value → Shared → Prop} {s : Shared} {ks : List κ} {v : Value} {n : Nat} {Q : Bool → Shared → Prop} (hk : IsTupK K s.heap ks v) (h : Q true s) : wpAny (model prog w) A (eqIsQuiet (n + (K.deep + 1)) v) Q E s := by
  obtain ⟨a, o, items, m, rfl, ho, hc, hd, hi⟩ := hk
  have hT : s.TypeIs (.ref a) "tuple" := ⟨o, ho, hc⟩
  rw [show n + (K.deep + 1) = (n + K.deep) + 1 from rfl]
  unfold eqIsQuiet
  refine wpAny_bind (wpAny_specialOf hT PySem.F.slot_tuple_eq.lookup ?_)
  show wpAny _ _ (isInstance (.ref a) (.type "tuple") >>= _) _ _ s
  refine wpAny_bind (wpAny_isInstance hT isSubtype_tuple_tuple ?_)
  simp only [Bool.not_true, Bool.false_eq_true, if_false]
  refine wpAny_bind (wpAny_seqItems ho hd (wpAny_bind ?_))
  show wpAny _ _ (forIn items _ _) _ _ s
  rw [← Array.forIn_toList]
  refine wpAny_forIn_list _ (fun rest r s' => r.1 = none ∧ s' = s ∧ ∃ ks', IsItems K s.heap ks' rest) _ ?_ ?_ _ _ ⟨rfl, rfl, ks, hi⟩
  · rintro v rest r s' ⟨hr, rfl, ks', hall⟩
    cases hall with
    | cons h1 h2 =>
      refine wpAny_bind (K.quiet h1 ?_)
      simp only [Bool.not_true, Bool.false_eq_true, if_false]
      exact wpAny_pure ⟨rfl, rfl, _, h2⟩
  · rintro ⟨r1, r2⟩ s' ⟨hr, rfl, _⟩
    simp only at hr
    subst hr
    exact wpAny_pure h
/-- tuples of such -/
def tupK (K : IK prog w κ) : IK prog w (List κ) where
  is := IsTupK K
  hash := tupH K
  draws := fun ks => sumD K ks + 1
  deep := K.deep + 1
  inj := by
    rintro h v x y ⟨a, oa, xs, na, rfl, hoa, ca, hda, hia⟩ ⟨b, ob, ys, nb, e, hob, cb, hdb, hib⟩
    cases e
    rw [hoa] at hob
    cases hob
    rw [hda] at hdb
    injection hdb with e1 _
    subst e1
    exact hia.inj hib
  keeps := by
    rintro h h' k v d o es ep ⟨a, oa, xs, na, rfl, hoa, ca, hda, hia⟩ ho hd hs
    have hne : a ≠ d := by
      rintro rfl
      rw [hoa] at ho
      cases ho
      rw [hd] at hda; cases hda
    exact ⟨a, oa, xs, na, rfl, (hs.2 a hne).trans hoa, ca, hda, hia.keeps ho hd hs⟩
  pyHash := fun hu hk h => hash_tupK hu hk h
  eqBool := fun hu hx hy h => eq_tupK hu hx hy h
  quiet := fun hk h => quiet_tupK hk h
/-- a dict's keys -/
def heapK (K : IK prog w κ) (hd : K.deep ≤ 7) : HeapKind prog w (List κ) where
  is := fun h k a => IsTupK K h k (.ref a)
  hash := tupH K
  draws := fun ks => sumD K ks + 1
  room := fun A => A.units + (K.deep + 1) < cLine
  inj := (tupK K).inj
  keeps := (tupK K).keeps
  pyHash := fun hu hk h => hash_tupK hu hk h
  eqBool := fun hu hx hy h => eq_tupK hu hx hy h
  quiet := fun {A E s k a Q} hk h => by
    have q := quiet_tupK (n := 7 - K.deep) (A := A) (E := E) hk h
    rwa [show 7 - K.deep + (K.deep + 1) = 8 by omega] at q
end
end L2

set_option Elab.async false
set_option linter.all false
set_option maxRecDepth 100000
namespace L2
open PySem PySem.Spec PyProof.Rows

/-! ### None or an int; an int or a tuple of these -/
def optV : Option Int → V
  | none => .non
  | some i => .int i
theorem optV_inj {x y : Option Int} {v : Value} (a : RelV (optV x) v) (b : RelV (optV y) v) : x = y := by
  have e := a.inj b
  cases x <;> cases y <;> simp_all [optV]
theorem optV_flat (x : Option Int) : flatV (optV x) = true := by cases x <;> rfl
theorem optV_eq (x y : Option Int) : eqV (optV x) (optV y) = decide (x = y) := by
  cases x with
  | none => cases y <;> rfl
  | some i =>
    cases y with
    | none => rfl
    | some j =>
      show (i == j) = _
      by_cases h : i = j <;> simp [h]
theorem hash_none {prog : Program} {w : World} {A : Around} {E : Value → Shared → Prop} {s : Shared} {Q : Int → Shared → Prop} (h : Q 0xFCA86420 { s with toks := s.toks + 1 }) : wpAny (model prog w) A (PySem.pyHash .none) Q E s := by
  have hT : s.TypeIs .none "NoneType" := rfl
  unfold PySem.pyHash
  first | unfold pyHashByItsType | skip
  refine wpAny_bind ?_
  rw [cRoomFor, if_neg (by decide)]
  refine wpAny_pure (wpAny_bind (wpAny_specialOf hT PySem.F.slot_NoneType_hash.lookup ?_))
  rw [if_neg (by rw [beq_builtin_none]; exact Bool.false_ne_true)]
  refine wpAny_bind (wpAny_specialOf hT PySem.F.slot_NoneType_hash.lookup ?_)
  show wpAny _ _ (callSpecialIfBoundUnlessNone? .none "__hash__" _ >>= _) Q E s
  refine wpAny_bind (wpAny_callSpecialIfBoundUnlessNone?_slot hT PySem.F.slot_NoneType_hash (wpAny_call_entry PySem.F.slot_NoneType_hash hT
    PySem.F.entry_NoneType_hash ?_ (PySem.F.args_NoneType_hash_1 _)))
  show wpAny _ _ (retInt 0xFCA86420) _ _ s
  refine wpAny_ret_mkInt ?_
  exact wpAny_pure h
def optK (prog : Program) (w : World) : IK prog w (Option Int) where
  is := fun _ k v => RelV (optV k) v
  hash := fun k => match k with
    | none => 0xFCA86420
    | some i => hashInt i
  draws := fun _ => 1
  deep := 0
  inj := fun a b => optV_inj a b
  keeps := fun a _ _ _ => a
  pyHash := fun {A E s k v Q} _ hk h => by
    cases k with
    | none =>
      obtain rfl : v = Value.none := hk
      exact hash_none h
    | some i =>
      obtain ⟨t, rfl⟩ := (show ∃ t, v = Value.int i t from hk)
      exact wpAny_pyHash_int h
  eqBool := fun {A E s x y u v Q} _ hx hy h => by
    have q := eqAt_V (A := A) (s := s) hx hy (optV_flat x) (optV_flat y)
    rw [optV_eq] at q
    exact q prog w E Q h
  quiet := fun {A E s k v n Q} hk h => by
    have e : carriedByValue v = true := by
      cases k with
      | none => obtain rfl : v = Value.none := hk; rfl
      | some i => obtain ⟨t, rfl⟩ := (show ∃ t, v = Value.int i t from hk); rfl
    rw [eqIsQuiet_byValue _ e]
    exact wpAny_pure h
abbrev NI := Sum Int (List (Option Int))
def IsNI (prog : Program) (w : World) (h : Heap) : NI → Value → Prop
  | .inl i, v => ∃ t, v = Value.int i t
  | .inr l, v => IsTupK (optK prog w) h l v
theorem IsTupK.tup {prog : Program} {w : World} {κ : Type} [DecidableEq κ] {K : IK prog w κ} {h : Heap} {l : List κ} {v : Value} (x : IsTupK K h l v) : ∃ a its, v = .ref a ∧ h.IsTuple a its := by
  obtain ⟨a, o, items, n, rfl, ho, hc, hd, hi⟩ := x
  exact ⟨a, items, rfl, o, ho, hc, n, hd⟩
theorem ni_room {A : Around} {prog : Program} {w : World} (hu : A.units + 1 < cLine) : A.units + ((optK prog w).deep + 1) < cLine := hu
theorem ni_ll (i j : Int) : (i == j) = decide ((Sum.inl i : NI) = Sum.inl j) := by
  by_cases z : i = j
  · subst z; simp
  · have z' : ¬ ((Sum.inl i : NI) = Sum.inl j) := fun q => z (Sum.inl.inj q)
    rw [decide_eq_false z']; simpa using z
theorem ni_rr (l l' : List (Option Int)) : decide (l = l') = decide ((Sum.inr l : NI) = Sum.inr l') := by
  by_cases z : l = l'
  · subst z; simp
  · have z' : ¬ ((Sum.inr l : NI) = Sum.inr l') := fun q => z (Sum.inr.inj q)
    rw [decide_eq_false z', decide_eq_false z]
theorem ni_lr (i : Int) (l : List (Option Int)) : decide ((Sum.inl i : NI) = Sum.inr l) = false := decide_eq_false (fun q => nomatch q)
theorem ni_rl (i : Int) (l : List (Option Int)) : decide ((Sum.inr l : NI) = Sum.inl i) = false := decide_eq_false (fun q => nomatch q)
theorem ni_eq {prog : Program} {w : World} {A : Around} {E : Value → Shared → Prop} {s : Shared} {u v : Value} {Q : Bool → Shared → Prop} (hu : A.units + 1 < cLine) : ∀ (x y : NI), IsNI prog w s.heap x u → IsNI prog w s.heap y v → Q (decide (x = y)) s →
    wpAny (model prog w) A (PySem.eqBool u v) Q E s
  | .inl i, .inl j, ⟨t, e1⟩, ⟨t', e2⟩, h => by
    subst e1 e2
    rw [← ni_ll] at h
    exact wpAny_eqBool_int h
  | .inl i, .inr l, ⟨t, e1⟩, hy, h => by
    subst e1
    obtain ⟨b, its, rfl, ht⟩ := IsTupK.tup (K := optK prog w) hy
    rw [ni_lr] at h
    exact SeqAt.EqAt.int_tuple i t ht (Nat.lt_of_succ_lt hu) prog w E Q h
  | .inr l, .inl j, hx, ⟨t, e1⟩, h => by
    subst e1
    obtain ⟨b, its, rfl, ht⟩ := IsTupK.tup (K := optK prog w) hx
    rw [ni_rl] at h
    exact SeqAt.EqAt.tuple_int j t ht (Nat.lt_of_succ_lt hu) prog w E Q h
  | .inr l, .inr l', hx, hy, h => by
    rw [← ni_rr] at h
    exact eq_tupK (K := optK prog w) (ni_room hu) hx hy h
def niK (prog : Program) (w : World) : IK prog w NI where
  is := IsNI prog w
  hash := fun k => match k with
    | .inl i => hashInt i
    | .inr l => tupH (optK prog w) l
  draws := fun k => match k with
    | .inl _ => 1
    | .inr l => sumD (optK prog w) l + 1
  deep := 1
  inj := fun {h v x y} a b => by
    cases x with
    | inl i =>
      obtain ⟨t, rfl⟩ := (show ∃ t, v = Value.int i t from a)
      cases y with
      | inl j => obtain ⟨t', e⟩ := (show ∃ t', Value.int i t = Value.int j t' from b); injection e with e1 _; rw [e1]
      | inr l => obtain ⟨a, _, e, _⟩ := IsTupK.tup (show IsTupK (optK prog w) h l _ from b); cases e
    | inr l =>
      cases y with
      | inl j =>
        obtain ⟨t, rfl⟩ := (show ∃ t, v = Value.int j t from b)
        obtain ⟨a, _, e, _⟩ := IsTupK.tup (show IsTupK (optK prog w) h l _ from a); cases e
      | inr l' => rw [(tupK (optK prog w)).inj (show IsTupK (optK prog w) h l v from a) (show IsTupK (optK prog w) h l' v from b)]
  keeps := fun {h h' k v d o es ep} a ho hd hs => by
    cases k with
    | inl i => exact a
    | inr l => exact (tupK (optK prog w)).keeps (show IsTupK (optK prog w) h l v from a) ho hd hs
  pyHash := fun {A E s k v Q} hu hk h => by
    cases k with
    | inl i =>
      obtain ⟨t, rfl⟩ := (show ∃ t, v = Value.int i t from hk)
      exact wpAny_pyHash_int h
    | inr l => exact hash_tupK (K := optK prog w) (ni_room hu) hk h
  eqBool := fun {A E s x y u v Q} hu hx hy h => ni_eq hu x y hx hy h
  quiet := fun {A E s k v n Q} hk h => by
    cases k with
    | inl i =>
      obtain ⟨t, rfl⟩ := (show ∃ t, v = Value.int i t from hk)
      rw [eqIsQuiet_byValue _ rfl]
      exact wpAny_pure h
    | inr l => exact quiet_tupK (K := optK prog w) hk h
end L2

set_option Elab.async false
set_option linter.all false
set_option maxRecDepth 100000
namespace L2
open PySem PySem.Spec PyProof.Rows

/-! ### dicts whose keys are pairs of an int and a tuple -/
abbrev NKey := Int × List (Option Int)
def nk (k : NKey) : List NI := [.inl k.1, .inr k.2]
theorem nk_inj {k k' : NKey} (h : nk k = nk k') : k = k' := by
  obtain ⟨a, b⟩ := k
  obtain ⟨c, d⟩ := k'
  unfold nk at h
  simp at h
  rw [h.1, h.2]
def MK (P : Program) (w : World) : HeapKind P w (List NI) := heapK (niK P w) (show 1 ≤ 7 by decide)
def NDict (P : Program) (w : World) (a : Addr) (xs : List (List NI × Addr × Value)) : HO :=
  .ext fun h => ∃ o es ep, h.get? a = some o ∧ o.ExactDict ∧ o.data = .dict es ep ∧ es.toList = xs.map (entryOfKey (MK P w)) ∧ (xs.map (·.1)).Nodup
def KeyAt (H : Hp) (k : NKey) (b : Addr) : Prop := ∃ t, H b = some (.tup [.int k.1, .ref t]) ∧ H t = some (.tup (k.2.map optV))
def NRow (H : Hp) (p : NKey × V) (q : List NI × Addr × Value) : Prop := q.1 = nk p.1 ∧ KeyAt H p.1 q.2.1 ∧ RelV p.2 q.2.2
def DN (P : Program) (w : World) (H : Hp) (a : Addr) (kvs : List (NKey × V)) : Prop :=
  ∃ xs, H a = some (NDict P w a xs) ∧ (a == sysModules) = false ∧ xs.length ≤ sizeLine ∧ Paired (NRow H) kvs xs
theorem KeyAt.mono {H H' : Hp} {k : NKey} {b : Addr} (h : KeyAt H k b) (sm : ∀ c xs, H c = some (.tup xs) → H' c = some (.tup xs)) : KeyAt H' k b := by
  obtain ⟨t, h1, h2⟩ := h
  exact ⟨t, sm _ _ h1, sm _ _ h2⟩
theorem DN.mono {P : Program} {w : World} {H H' : Hp} {a : Addr} {kvs : List (NKey × V)} (h : DN P w H a kvs) (sm : Same H H') : DN P w H' a kvs := by
  obtain ⟨xs, h1, h2, h3, h4⟩ := h
  exact ⟨xs, sm _ _ h1, h2, h3, Paired.imp' (fun p q z => ⟨z.1, z.2.1.mono fun c ys e => sm _ _ e, z.2.2⟩) h4⟩
theorem DN.len {P : Program} {w : World} {H : Hp} {a : Addr} {kvs : List (NKey × V)} (h : DN P w H a kvs) : kvs.length ≤ sizeLine := by
  obtain ⟨xs, h1, h2, h3, h4⟩ := h
  rw [Paired.length h4]; exact h3
section
variable {P : Program} {w : World} {H : Hp}
theorem NRow.val : ∀ {kvs : List (NKey × V)} {xs : List (List NI × Addr × Value)} (k : NKey), Paired (NRow H) kvs xs → RelO (valV kvs k) ((atKey xs (nk k)).map (·.2))
  | _, _, k, .nil => True.intro
  | _, _, k, @Paired.cons _ _ _ p q kvs xs r t => by
    have ih := NRow.val k t
    obtain ⟨e1, e2, e3⟩ := r
    by_cases h : p.1 = k
    · have h1 : valV (p :: kvs) k = some p.2 := by simp [valV, h]
      have h2 : atKey (q :: xs) (nk k) = some q.2 := by simp [atKey, e1, h]
      rw [h1, h2]; exact e3
    · have hn : ¬ q.1 = nk k := fun z => h (nk_inj (e1.symm.trans z))
      have h1 : valV (p :: kvs) k = valV kvs k := by simp [valV, h]
      have h2 : atKey (q :: xs) (nk k) = atKey xs (nk k) := by simp [atKey, hn]
      rw [h1, h2]; exact ih
theorem items_of_vals {h : Heap} : ∀ {l : List (Option Int)} {us : List Value}, Vals (l.map optV) us → IsItems (optK P w) h l us
  | [], _, .nil => .nil
  | x :: l, _, .cons r t => .cons r (items_of_vals t)
end
section
variable {X : Cx} {pins : List (Addr × Obj)} {σ : St} {H : Hp} {s : Shared} {a b : Addr} {k : NKey} {kvs : List (NKey × V)}
theorem Inv.key (I : Inv X pins σ H s) (h : KeyAt H k b) : (MK X.prog X.w).is s.heap (nk k) b := by
  obtain ⟨t, h1, h2⟩ := h
  obtain ⟨_, its, r, o, e, c, n, d⟩ : ([V.int k.1, V.ref t] : List V).length ≤ sizeLine ∧ ∃ its : List Value, Vals [V.int k.1, V.ref t] its ∧ IsTup s.heap b its.toArray := I.hok b _ h1
  obtain ⟨_, its2, r2, o2, e2, c2, n2, d2⟩ : (k.2.map optV).length ≤ sizeLine ∧ ∃ its : List Value, Vals (k.2.map optV) its ∧ IsTup s.heap t its.toArray := I.hok t _ h2
  obtain ⟨u, v, rfl, ru, rv⟩ := vals2 r
  cases rv
  refine ⟨b, o, _, n, rfl, e, c, d, ?_⟩
  show IsItems (niK X.prog X.w) s.heap [.inl k.1, .inr k.2] [u, .ref t]
  exact .cons ru (.cons ⟨t, o2, _, n2, rfl, e2, c2, d2, by simpa using items_of_vals r2⟩ .nil)
theorem Inv.dn (I : Inv X pins σ H s) (h : DN X.prog X.w H a kvs) : ∃ xs, H a = some (NDict X.prog X.w a xs) ∧ (a == sysModules) = false ∧ xs.length ≤ sizeLine ∧ Paired (NRow H) kvs xs ∧ s.heap.DictOfH (MK X.prog X.w) a xs := by
  obtain ⟨xs, h1, h2, h3, h4⟩ := h
  obtain ⟨⟨o, es, ep, e1, e2, e3, e4, e5⟩, _, _⟩ := I.hok a _ h1
  refine ⟨xs, h1, h2, h3, h4, o, es, ep, e1, e2, e3, e4, ?_, e5⟩
  have all : ∀ {l : List (NKey × V)} {m : List (List NI × Addr × Value)}, Paired (NRow H) l m → ∀ x ∈ m, (MK X.prog X.w).is s.heap x.1 x.2.1 := by
    intro l m r
    induction r with
    | nil => intro x hx; simp at hx
    | cons r t ih =>
      intro x hx
      rcases List.mem_cons.mp hx with rfl | hx
      · rw [r.1]; exact I.key r.2.1
      · exact ih x hx
  exact all h4
/-! the rules -/
theorem Paired.snoc {α β : Type} {F : α → β → Prop} {x : α} {y : β} (h : F x y) : ∀ {l : List α} {m : List β}, Paired F l m → Paired F (l ++ [x]) (m ++ [y])
  | _, _, .nil => .cons h .nil
  | _, _, .cons r t => .cons r (Paired.snoc h t)
end
end L2

set_option Elab.async false
set_option linter.all false
set_option maxRecDepth 100000
namespace L2
open PySem PySem.Spec PyProof.Rows PySem.SeqAt

/-! ### a[b], a a list, a tuple, a text or a dict of int and text keys -/
section
variable {X : Cx}
def rIxB (K : PySem.W.Frag) : R2 := fun x y H Q => rIxA K x y H Q ∨ ∃ a kvs k v, x = .ref a ∧ y = kV k ∧ H a = some (.dK kvs) ∧ valV kvs k = some v ∧ Q v H
theorem ix_B (K : PySem.W.Frag) (hK : X.K = K := by rfl) : IxR X (rIxB K) := by
  intro value slice pins s σ H x y v u Q I rx ry h hs
  rcases h with h | ⟨a, kvs, k, z, rfl, rfl, e, l, q⟩
  · exact ix_K K hK value slice pins s σ H x y v u Q I rx ry h hs
  · cases rx
    obtain ⟨_, hd, vs, rel, dd⟩ := dk_rd I.hok (.inl e)
    obtain ⟨w', hw, rw'⟩ := RelO.some_of (v := z) (o := valueAt vs k) (by rw [← l]; exact rel.val k)
    have hl : typeLookup (.type "dict") "__getitem__" = pure (some (.builtin "dict.__getitem__")) := PySem.F.slot_dict_getitem.lookup
    exact subscriptTail_builtinR (x := w') dd.typeIs hl (wpAny_getItem_of (kV_is ry) dd.mapOf hw ⟨rfl, z, H, I.tok _, rw', q⟩) hs
/-! ### in, not in a dict; a dict's store -/
def rSetD : TSet := fun o i v H Q => ∃ a kvs k, o = .ref a ∧ i = kV k ∧ H a = some (.dK kvs) ∧ kvs.length < sizeLine ∧ Q (upd H a (.dK (putK kvs k v)))
theorem set_D {n : Nat} (hr : Room n X.A) : PSet X rSetD := by
  intro pins s σ H o i v ov iv u Q I ro ri rv h
  obtain ⟨a, kvs, k, rfl, rfl, e, hl, q⟩ := h
  cases ro
  exact d_setItem (by have := hr.un; omega) I (DPut.k e hl) ri rv fun s' I' => ⟨_, I', q⟩
end
section
variable {K : PySem.W.Frag} {H : Hp} {Q : VK}
theorem EqN.ints {n : Nat} {a c : Addr} {ss ts : List Int} (h1 : SqL K H a (ss.map V.int)) (h2 : SqL K H c (ts.map V.int)) : EqN K H (n + 1) (.ref a) (.ref c) (decide (ss = ts)) := by
  refine .inr ⟨a, c, _, _, rfl, rfl, .inl ⟨h1, h2⟩, ?_⟩
  by_cases hl : ss.length = ts.length
  · refine .inl ⟨fun i => ss.getD i 0 == ts.getD i 0, by simp [hl], fun i x y e1 e2 => ?_, ?_⟩
    · rw [List.getElem?_map] at e1 e2
      cases q1 : ss[i]? with
      | none => rw [q1] at e1; cases e1
      | some u =>
        cases q2 : ts[i]? with
        | none => rw [q2] at e2; cases e2
        | some v =>
          rw [q1] at e1; rw [q2] at e2
          cases e1; cases e2
          dsimp only
          rw [List.getD_eq_getElem?_getD, List.getD_eq_getElem?_getD, q1, q2]
          exact EqN.flat rfl rfl
    · rw [List.length_map]
      by_cases e : ss = ts
      · subst e
        rw [decide_eq_true rfl]
        symm
        rw [List.all_eq_true]
        intro i _
        simp
      · rw [decide_eq_false e]
        symm
        rw [List.all_eq_false]
        have : ∃ i : Nat, ss[i]? ≠ ts[i]? := by
          refine Classical.byContradiction fun hn => e (List.ext_getElem? fun i => ?_)
          exact Classical.byContradiction fun h => hn ⟨i, h⟩
        obtain ⟨i, hi⟩ := this
        have hlt : i < ss.length := by
          refine Classical.byContradiction fun hn => hi ?_
          rw [List.getElem?_eq_none (by omega), List.getElem?_eq_none (by omega)]
        refine ⟨i, List.mem_range.mpr hlt, ?_⟩
        rw [List.getD_eq_getElem?_getD, List.getD_eq_getElem?_getD, List.getElem?_eq_getElem hlt, List.getElem?_eq_getElem (by omega)]
        rw [List.getElem?_eq_getElem hlt, List.getElem?_eq_getElem (by omega)] at hi
        simpa using hi
  · have e : ss ≠ ts := fun e => hl (by rw [e])
    rw [decide_eq_false e]
    exact .inr ⟨h1, h2, by simpa using hl, rfl⟩
end
/-! ### an int, or None, unlike an int -/
section
variable {X : Cx}
end
end L2

set_option Elab.async false
set_option linter.all false
set_option maxRecDepth 100000
namespace L2
open PySem PySem.Spec PyProof.Rows PySem.SeqAt
/-! ### pop, and bools unlike -/
section
variable {K : PySem.W.Frag} {H : Hp} {Q : VK}
theorem rNeA_bl (i j : Bool) : rNeA (.bl i) (.bl j) H Q = Q (.bl (!(i == j))) H := by
  show (scal (.bl i) (.bl j) = true ∧ Q (.bl (!decide (V.bl i = V.bl j))) H) = _
  rw [dec_bl]; exact propext ⟨fun h => h.2, fun h => ⟨rfl, h⟩⟩
end
/-! ### is True, of an int -/
end L2

set_option Elab.async false
set_option linter.all false
set_option maxRecDepth 100000
namespace L2
open PySem PySem.Spec PyProof.Rows PySem.SeqAt
/-! ### list(range(n)) -/
section
variable {X : Cx}
end
/-! ### d.values(), list(d.values()) -/
section
variable {X : Cx}
end
section
variable {prog : Program} {w : World} {K : Type} [DecidableEq K] {knd : KeyKind prog w K} {A : Around} {E : Value → Shared → Prop} {s : Shared}
end
section
variable {X : Cx}
end
end L2

set_option Elab.async false
set_option linter.all false
set_option maxRecDepth 100000
namespace L2
open PySem PySem.Spec PyProof.Rows PySem.SeqAt
/-! ### the places of a set's elements rise -/
def Rises (xs : Array Nat) : Prop := ∀ (a b : Nat) (ha : a < xs.size) (hb : b < xs.size), a < b → xs[a] < xs[b]
structure Good (L : Bool) (t : SetTable) : Prop where
  led : t.led = L
  rise : Rises t.place
end L2

set_option Elab.async false
set_option linter.all false
set_option maxRecDepth 100000
namespace L2
open PySem PySem.Spec PyProof.Rows PySem.SeqAt
/-! ### a set whose table is known to be G and whose elements are all different -/
section
variable {prog : Program} {w : World} {K : Type} [DecidableEq K] {knd : KeyKind prog w K} {A : Around} {E : Value → Shared → Prop} {s : Shared} {G : SetTable → Prop}
def Apart (knd : KeyKind prog w K) (l : List (Int × Value)) : Prop := l.Pairwise fun e e' => ∀ k, knd.is k e.2 = true → knd.is k e'.2 = false
theorem Apart.push {l : List (Int × Value)} {k : K} {x : Value} {hh : Int} (h : Apart knd l) (hn : ∀ e ∈ l, knd.is k e.2 = false) (hk : knd.is k x = true) : Apart knd (l ++ [(hh, x)]) := by
  refine List.pairwise_append.mpr ⟨h, List.pairwise_singleton _ _, fun e he b hb k' hk' => ?_⟩
  rw [List.mem_singleton.mp hb]
  show knd.is k' x = false
  rw [KeyKind.is_eq_decide hk k']
  refine decide_eq_false fun e' => ?_
  subst e'
  rw [hn e he] at hk'; cases hk'
structure Tab (knd : KeyKind prog w K) (G : SetTable → Prop) (o : Obj) (es : Array (Int × Value)) (ep : Nat) (t : SetTable) (S : K → Bool) (n : Nat) : Prop where
  ex : o.ExactSet
  dat : o.data = .set es ep t
  el : ElemsOf knd es.toList
  mem : ∀ k, S k = true ↔ ∃ e ∈ es.toList, knd.is k e.2 = true
  few : es.size < scanBound
  fit : t.fits es.size = true
  num : es.size = n
  good : G t
  apart : Apart knd es.toList
def SetG (knd : KeyKind prog w K) (G : SetTable → Prop) (h : Heap) (a : Addr) (S : K → Bool) (n : Nat) : Prop := ∃ o es ep t, h.get? a = some o ∧ Tab knd G o es ep t S n
/-- what is written is what stands there -/
theorem stored {h : Heap} {a : Addr} {o : Obj} {es : Array (Int × Value)} {ep : Nat} {t : SetTable} {S : K → Bool} {n : Nat} {es' : Array (Int × Value)} {t' : SetTable} {S' : K → Bool} {n' : Nat} (ho : h.get? a = some o) (T : Tab knd G o es ep t S n)
    (T' : ∀ o', o'.ExactSet → o'.data = .set es' (ep + 1) t' → Tab knd G o' es' (ep + 1) t' S' n') : ∃ o', (h.update a (Obj.putSet es' t')).get? a = some o' ∧ Tab knd G o' es' (ep + 1) t' S' n' := by
  have hp := putSet_of es' t' T.dat
  have hg := Heap.get?_update_self (Obj.putSet es' t') ho (by rw [hp]; rfl)
  rw [hp] at hg
  exact ⟨_, hg, T' _ T.ex rfl⟩
end
end L2

set_option Elab.async false
set_option linter.all false
set_option maxRecDepth 100000
set_option maxHeartbeats 4000000
namespace L2
open PySem PySem.Spec PyProof.Rows PySem.SeqAt
section
variable {prog : Program} {w : World} {A : Around} {R : Result → Shared → Prop} {I : Addr} {fp wr : List Addr} {Gm : Array GenState → Array GenState → Prop} {n : Nat} {P : Nat → Value → Prop} {St : Nat → Shared → Prop} {L : Bool}
theorem SetG.at' {K : Type} [DecidableEq K] {knd : KeyKind prog w K} {G : SetTable → Prop} {h h' : Heap} {a : Addr} {S S' : K → Bool} {m m' : Nat} (x : SetG knd G h a S m) (e : ∀ o, h.get? a = some o → h'.get? a = some o) (eS : ∀ k, S k = S' k) (em : m = m') : SetG knd G h' a S' m' := by
  obtain ⟨o, es, ep, t, ho, T⟩ := x
  have : S = S' := funext eS
  subst this; subst em
  exact ⟨o, es, ep, t, e o ho, T⟩
end
section
variable {prog : Program} {w : World} {A : Around} {E : Value → Shared → Prop} {s : Shared}
end
end L2

set_option Elab.async false
set_option linter.all false
set_option maxRecDepth 100000
set_option maxHeartbeats 4000000
namespace L2
open PySem PySem.Spec PyProof.Rows PySem.SeqAt
/-! ### set(a list of ints) -/
section
variable {X : Cx}
end
end L2

set_option Elab.async false
set_option linter.all false
set_option maxRecDepth 100000
set_option maxHeartbeats 4000000
namespace L2
open PySem PySem.Spec PyProof.Rows PySem.SeqAt
/-! ### the orders in which a set may be gone over -/
section
variable {M : Model} {A : Around} {E : Value → Shared → Prop}
end
end L2

set_option Elab.async false
set_option linter.all false
set_option maxRecDepth 100000
set_option maxHeartbeats 4000000
namespace L2
open PySem PySem.Spec PyProof.Rows PySem.SeqAt
/-! ### one step over a set that is not drawn -/
section
variable {prog : Program} {w : World} {A : Around} {E : Value → Shared → Prop} {s : Shared}
end
end L2

set_option Elab.async false
set_option linter.all false
set_option maxRecDepth 100000
set_option maxHeartbeats 4000000
namespace L2
open PySem PySem.Spec PyProof.Rows PySem.SeqAt
section
variable {prog : Program} {w : World} {A : Around} {E : Value → Shared → Prop} {s : Shared}
def IsSI (h : Heap) (it : Addr) (first : Value) (i : Nat) (a : Addr) (n ep : Nat) : Prop := ∃ o, h.get? it = some o ∧ o.cls = .type "set_iterator" ∧ o.data = .fields #[first, .int i 0, .ref a, .int n 0, .int ep 0]
theorem IsSI.typeIs {it a : Addr} {first : Value} {i n ep : Nat} (x : IsSI s.heap it first i a n ep) : s.TypeIs (.ref it) "set_iterator" := let ⟨o, ho, hc, _⟩ := x; ⟨o, ho, hc⟩
end
end L2

set_option Elab.async false
set_option linter.all false
set_option maxRecDepth 100000
set_option maxHeartbeats 4000000
namespace L2
open PySem PySem.Spec PyProof.Rows PySem.SeqAt
section
variable {prog : Program} {w : World} {A : Around} {E : Value → Shared → Prop} {s : Shared}
end
end L2

set_option Elab.async false
set_option linter.all false
set_option maxRecDepth 100000
set_option maxHeartbeats 4000000
namespace L2
open PySem PySem.Spec PyProof.Rows PySem.SeqAt
section
variable {prog : Program} {w : World} {A : Around} {E : Value → Shared → Prop} {s : Shared}
end
end L2

set_option Elab.async false
set_option linter.all false
set_option maxRecDepth 100000
set_option maxHeartbeats 4000000
namespace L2
open PySem PySem.Spec PyProof.Rows PySem.SeqAt
section
variable {prog : Program} {w : World} {A : Around} {E : Value → Shared → Prop} {s : Shared}
theorem IsSI.at' {h h' : Heap} {it a : Addr} {first : Value} {i n ep : Nat} (x : IsSI h it first i a n ep) (e : ∀ o, h.get? it = some o → h'.get? it = some o) : IsSI h' it first i a n ep := let ⟨o, ho, r⟩ := x; ⟨o, e _ ho, r⟩
end
end L2

set_option Elab.async false
set_option linter.all false
set_option maxRecDepth 100000
set_option maxHeartbeats 4000000
namespace L2
open PySem PySem.Spec PyProof.Rows PySem.SeqAt
section
variable {prog : Program} {w : World} {A : Around} {E : Value → Shared → Prop} {s : Shared}
end
section
variable {X : Cx}
end
end L2

set_option Elab.async false
set_option linter.all false
set_option maxRecDepth 100000
set_option maxHeartbeats 4000000
/-! the greatest of a list of ints -/
namespace L2
open PySem PySem.Spec PyProof PyProof.Rows
section
variable {X : Cx}
end
end L2

set_option Elab.async false
set_option linter.all false
set_option maxRecDepth 100000
set_option maxHeartbeats 4000000
/-! dicts of the module, by texts -/
namespace L2
open PySem PySem.Spec PyProof PyProof.Rows
inductive Ents (w : World) : List DictEntry → List (Str × V) → Prop
  | nil : Ents w [] []
  | cons {x : Str} {t : Tok} {y : V} {v : Value} {es : List DictEntry} {kvs : List (Str × V)} : RelV y v → Ents w es kvs → Ents w (⟨PyData.keyHash w.params x, .str x t, v⟩ :: es) ((x, y) :: kvs)
theorem Ents.vs {P : Program} {w : World} {es : List DictEntry} {kvs : List (Str × V)} (h : Ents w es kvs) : ∃ vs : List (Str × Value), KV kvs vs ∧ PySem.Pairs (PySem.strKind P w) es vs ∧ vs.map (·.1) = kvs.map (·.1) ∧ ∀ e ∈ es, ∃ k, (PySem.strKind P w).is k e.key = true ∧ e.hash = (PySem.strKind P w).hash k := by
  induction h with
  | nil => exact ⟨[], .nil, .nil, rfl, fun _ h => nomatch h⟩
  | @cons x t y v es kvs r _ ih =>
    obtain ⟨vs, h1, h2, h3, h4⟩ := ih
    have hx : (PySem.strKind P w).is x (.str x t) = true := by show Value.isStrOf x (.str x t) = true; simp [Value.isStrOf]
    refine ⟨(x, v) :: vs, .cons ⟨rfl, r⟩ h1, .cons hx rfl h2, by rw [List.map_cons, List.map_cons, h3], fun e he => ?_⟩
    rcases List.mem_cons.mp he with rfl | he
    · exact ⟨x, hx, rfl⟩
    · exact h4 e he
structure ModD (w : World) (K : PySem.W.Frag) (d : Addr) (kvs : List (Str × V)) : Prop where
  low : (d == sysModules) = false
  nd : (kvs.map (·.1)).Nodup
  at' : ∃ (o : Obj) (es : List DictEntry) (ep : Nat), K.lookup d = some o ∧ o.ExactDict ∧ o.data = .dict es.toArray ep ∧ Ents w es kvs
section
variable {X : Cx} {pins : List (Addr × Obj)} {σ : St} {H : Hp} {s : Shared} {d : Addr} {kvs : List (Str × V)}
theorem ModD.dict (h : ModD X.w X.K d kvs) (I : Inv X pins σ H s) : ∃ vs : List (Str × Value), KV kvs vs ∧ s.heap.DictOf (PySem.strKind X.prog X.w) d vs ∧ ∃ ob, s.heap.get? d = some ob ∧ ob.dict = none := by
  obtain ⟨o, es, ep, h1, h2, h3, h4⟩ := h.at'
  obtain ⟨vs, r1, r2, r3, r4⟩ := h4.vs (P := X.prog)
  have e := I.kIn d o h1
  exact ⟨vs, r1, ⟨o, es.toArray, ep, e, h2, h3, fun x hx => r4 x (by simpa using hx), by simpa using r2, by rw [r3]; exact h.nd⟩, o, e, h2.2.1⟩
theorem str_is {P : Program} {w : World} {k : Str} {u : Value} (r : RelV (.str k) u) : (PySem.strKind P w).is k u = true := by
  obtain ⟨t, rfl⟩ := r
  show Value.isStrOf k (.str k t) = true
  simp [Value.isStrOf]
end
section
variable {X : Cx}
theorem RelO.isSome {o : Option V} {p : Option Value} (h : RelO o p) : p.isSome = o.isSome := by
  cases o <;> cases p <;> first | rfl | exact h.elim
def rGetM (w : World) (K : PySem.W.Frag) : V → List V → Hp → VK → Prop := fun x xs H Q => ∃ d kvs k z, x = .ref d ∧ xs = [.str k, z] ∧ ModD w K d kvs ∧ Q ((valV kvs k).getD z) H
theorem mt_getM (w : World) (K : PySem.W.Frag) (hw : X.w = w := by rfl) (hK : X.K = K := by rfl) : MtR X "dict.get" (rGetM w K) := by
  subst hw hK
  intro pins s σ H x vs v us Q I rx rv h
  obtain ⟨d, kvs, k, z, rfl, rfl, m, q⟩ := h
  cases rx
  obtain ⟨u, r, rfl, ru, rr⟩ := vals2 rv
  obtain ⟨vs, rel, dd, _⟩ := m.dict I
  refine call_meetsIn PySem.F.slot_dict_get dd.typeIs PySem.F.entry_dict_get (PySem.F.args_dict_get_3 _ _ _) (meets_dict_get_default (PySem.strKind X.prog X.w) d (str_is ru) m.low r) ⟨_, dd.mapOf, _, H, I.tok _, ?_, q⟩
  exact (rel.val k).getD rr
/-- a dict of the module as an object -/
def tBMM (w : World) (K : PySem.W.Frag) (r : V → List V → Hp → VK → Prop) (to : TE) (t : TA) : TE := fun σ H Q => to σ H fun x H1 => (∃ d kvs, x = .ref d ∧ ModD w K d kvs) ∧ t σ H1 fun xs H2 => r x xs H2 Q
theorem pe_bmM {o e : Expr} {es : List Expr} {to : TE} {t : TA} {name : Str} {apos cpos : Pos} {id : String} {r : V → List V → Hp → VK → Prop} (w : World) (K : PySem.W.Frag) (pa : PlainAttrs "dict") (slot : Slot "dict" name id) (hty : typeOf (.builtin id) = pure (.type "method_descriptor")) (hm : MtR X id r) (ho : PE X o to) (ha : PA X (e :: es) t)
    (hbase : attributeBase o name X.env (eval o X.env) = eval o X.env := by rfl)
    (hfew : ((backTo cpos (starEach (e :: es) X.env)).all (fun x => !x.1) && (backToKw cpos (keywordEach [] X.env)).all (fun x => x.1.isSome) && decide ((e :: es).length + ([] : List Keyword).length + (if ([] : List Keyword).isEmpty then 0 else 1) < 30)) = true := by rfl)
    (hline : (apos.endLine == cpos.line) = true := by rfl) (hs : starEach (e :: es) X.env = (false, eval e X.env) :: starEach es X.env := by rfl) (hplain : (backTo cpos (starEach es X.env)).any (·.1) = false := by rfl) (hw : X.w = w := by rfl) (hK : X.K = K := by rfl) :
    PE X (.Call (.Attribute o name apos) (e :: es) [] cpos) (tBMM w K r to t) := by
  subst hw hK
  intro pins s σ H Q I h
  refine wpAny_Call_method_late hbase hfew hline rfl (thn (ho pins s σ H _ I h) fun v s1 ⟨x, H1, I1, r1, ty, q1⟩ => ?_)
  obtain ⟨d, kvs, rfl, m⟩ := ty
  have e1 : v = .ref d := r1
  subst e1
  obtain ⟨vs, rel, dd, ob, eo, en⟩ := m.dict I1
  refine ⟨"dict", id, pa, slot, hty, dd.typeIs, fun a ea => ⟨ob, by cases ea; exact eo, en⟩, ?_⟩
  have hA := ha cpos pins s1 σ H1 _ I1 q1
  rw [hs] at hA ⊢
  refine Calls.callWith_builtin (by show (false || (backTo cpos (starEach es X.env)).any (·.1)) = false; rw [hplain] <;> rfl) (Calls.evalArgs_plain ?_)
  exact thn hA fun us s2 ⟨vs, H2, I2, r2, q2⟩ => hm pins s2 σ H2 _ vs _ us Q I2 r1 r2 q2
end
theorem tBMM_at {w : World} {K : PySem.W.Frag} {r : V → List V → Hp → VK → Prop} {to : TE} {t : TA} {σ : St} {H : Hp} {Q : VK} : tBMM w K r to t σ H Q = to σ H fun x H1 => (∃ d kvs, x = .ref d ∧ ModD w K d kvs) ∧ t σ H1 fun xs H2 => r x xs H2 Q := rfl
end L2

set_option Elab.async false
set_option linter.all false
set_option maxRecDepth 100000
set_option maxHeartbeats 4000000
/-! zip of two tuples -/
namespace L2
open PySem PySem.Spec PyProof PyProof.Rows
section
variable {prog : Program} {w : World} {A : Around} {E : Value → Shared → Prop} {s : Shared}
/-- a tuple's iterator stands at k -/
def TSt (i t : Addr) (zs : Array Value) (k : Nat) (h : Heap) : Prop := h.IsTupleIter i t k ∧ h.IsTuple t zs
theorem TSt.ext {i t b : Addr} {zs : Array Value} {k : Nat} {h h' : Heap} (x : TSt i t zs k h) (hs : Heap.ExtBut b h h') (n1 : i ≠ b) (n2 : t ≠ b) : TSt i t zs k h' := ⟨x.1.extBut hs n1, x.2.extBut hs n2⟩
variable {z TI TO i1 i2 t1 t2 : Addr} {xs ys : Array Value} {k1 k2 : Nat} {a b : Value}
end
end L2

set_option Elab.async false
set_option linter.all false
set_option maxRecDepth 100000
set_option maxHeartbeats 4000000
/-! zip of two tuples, gone over -/
namespace L2
open PySem PySem.Spec PyProof PyProof.Rows
section
variable {prog : Program} {w : World} {A : Around} {E : Value → Shared → Prop} {s : Shared} {z TI TO i1 i2 t1 t2 : Addr} {xs ys : Array Value} {k1 k2 : Nat} {a b : Value}
end
end L2

set_option Elab.async false
set_option linter.all false
set_option maxRecDepth 100000
set_option maxHeartbeats 4000000
namespace L2
open PySem PySem.Spec PyProof PyProof.Rows
theorem SqT.apart {X : Cx} {pins : List (Addr × Obj)} {σ : St} {H : Hp} {s : Shared} {a c : Addr} {xs : List V} (I : Inv X pins σ H s) (hf : FpOk X pins H c) (h : SqT X.K H a xs) : a ≠ c := by
  rintro rfl
  rcases h with h | ⟨o, its, n, hk, _⟩
  · rcases h with e | ⟨o, e⟩ <;> (rw [hf.1] at e; cases e)
  · have e := I.ok.mod.kin a o hk
    rcases hf.2.2.2.1 with z | z
    · exact I.ok.noex a o e z
    · exact absurd (Nat.lt_of_lt_of_le (Heap.lt_size (I.ok.bs a o e).1) z) (Nat.lt_irrefl _)
end L2

set_option Elab.async false
set_option linter.all false
set_option maxRecDepth 100000
set_option maxHeartbeats 4000000
namespace L2
open PySem PySem.Spec PyProof PyProof.Rows
/-! a tuple cut, the whole of it is itself -/
section
variable {prog : Program} {w : World} {A : Around} {E : Value → Shared → Prop} {s : Shared}
theorem getItem_whole {t sl : Addr} {items : Array Value} {vl vu : Value} {lo hi : Option Int} {Q : Value → Shared → Prop} (ht : IsTup s.heap t items) (hs : s.heap.IsSliceOf sl vl vu .none) (pl : PySem.IsPart vl lo) (pu : PySem.IsPart vu hi)
    (hw : HT.sIx items.size 0 lo = 0 ∧ HT.sIx items.size items.size hi = items.size) (q : Q (.ref t) s) : wpAny (model prog w) A (getItem (.ref t) (.ref sl)) Q E s := by
  obtain ⟨os, g1, g2, g3⟩ := id hs
  have ty : s.TypeIs (.ref sl) "slice" := ⟨os, g1, g2⟩
  unfold getItem
  try with_reducible refine wpAny_holding ?_
  first | refine wpAny_bind (wpAny_pure ?_) | skip
  refine wpAny_bind (wpAny_sequenceKey ht.typeIs (by decide) (wpAny_bind (wpAny_callSpecial?_slot (name := Str.ofString "__getitem__") ht.typeIs PyProof.Rows.slot_tuple_getitem (wpAny_call_entry PyProof.Rows.slot_tuple_getitem ht.typeIs entry_tuple_getitem ?_ (args_tuple_getitem _ _)))))
  show wpAny _ _ (Builtin.Tuple.tupleItemsOf (.ref t) >>= fun _ => _) _ _ s
  refine wpAny_bind (tupleItemsOf_ ht (wpAny_bind (wpAny_typeOf ty ?_)))
  rw [if_pos (by decide)]
  refine wpAny_bind (HT.sliceApplied_gen hs pl pu ?_)
  have hyes : ((((HT.sIx items.size 0 lo : Nat) : Int) == 0 && (1 : Int) == 1 && (HT.sIx items.size items.size hi - HT.sIx items.size 0 lo) == items.size) = true) := by
    rw [hw.1, hw.2]; simp
  show wpAny _ _ (if (((HT.sIx items.size 0 lo : Nat) : Int) == 0 && (1 : Int) == 1 && (HT.sIx items.size items.size hi - HT.sIx items.size 0 lo) == items.size) = true then _ else _) _ _ s
  rw [if_pos hyes]
  refine wpAny_bind (m := Builtin.Tuple.tupleIsExact _) (wpAny_bind (wpAny_typeOf ht.typeIs (wpAny_pure ?_)))
  have hb : (Value.type "tuple" == Value.type "tuple") = true := by decide
  rw [hb, if_pos rfl]
  exact wpAny_bind (wpAny_rule (wpAny_pure ⟨_, rfl, wpAny_pure q⟩))
end
section
variable {X : Cx}
/-- t[lo:hi] -/
def rSlTA (K : PySem.W.Frag) : V → Option Int → Option Int → Hp → VK → Prop := fun x lo hi H Q => ∃ a xs, x = .ref a ∧ SqT K H a xs ∧
  (HT.sIx xs.length 0 lo = 0 ∧ HT.sIx xs.length xs.length hi = xs.length → Q (.ref a) H) ∧ (¬ (HT.sIx xs.length 0 lo = 0 ∧ HT.sIx xs.length xs.length hi = xs.length) → ∀ p, H p = none → Q (.ref p) (upd H p (.tup (cutV xs lo hi))))
theorem sl_tupA (K : PySem.W.Frag) (hK : X.K = K := by rfl) : SlR X (rSlTA K) := by
  subst hK
  intro pins s σ H x v vl vu lo hi sl Q I rx hs pl pu h
  obtain ⟨a, xs, rfl, hx, q1, q2⟩ := h
  by_cases hw : HT.sIx xs.length 0 lo = 0 ∧ HT.sIx xs.length xs.length hi = xs.length
  · have rx' := rx
    cases rx
    obtain ⟨its, r, ht, hz⟩ := I.tuple hx
    have hlen : its.toArray.size = xs.length := by rw [List.size_toArray]; exact r.length.symm
    exact ⟨"tuple", _, PyProof.Rows.slot_tuple_getitem.lookup, ht.typeIs, getItem_whole ht hs pl pu (by rw [hlen]; exact hw) ⟨.ref a, H, I, rx', q1 hw⟩⟩
  · exact sl_tup pins s σ H _ v vl vu lo hi sl Q I rx hs pl pu ⟨a, xs, rfl, hx, hw, q2 hw⟩
/-- of one that is held: the same one, or a new one -/
theorem rSlTA_of {K : PySem.W.Frag} {H : Hp} {Q : VK} {a : Addr} {lo hi : Option Int} {xs : List V} (h : SqT K H a xs) (q : ∀ p H', Same H H' → SqT K H' p (cutV xs lo hi) → Q (.ref p) H') : rSlTA K (.ref a) lo hi H Q := by
  refine ⟨a, xs, rfl, h, fun hw => ?_, fun _ p hp => q p _ (same_new hp _) (SqT.of upd_same)⟩
  have e : cutV xs lo hi = xs := by unfold cutV; rw [hw.1, hw.2]; simp
  exact q a H (fun _ _ e => e) (by rw [e]; exact h)
theorem cutV_to (xs : List V) (k : Nat) : cutV xs none (some (k : Int)) = xs.take k := by
  unfold cutV
  rw [HT.sIx_none, HT.sIx_nat, List.drop_zero, Nat.sub_zero]
  exact List.take_eq_take_min.symm
theorem cutV_from (xs : List V) (k : Nat) : cutV xs (some (k : Int)) none = xs.drop k := by
  unfold cutV
  rw [HT.sIx_none, HT.sIx_nat]
  rcases Nat.le_total k xs.length with h | h
  · rw [Nat.min_eq_left h, List.take_of_length_le (by rw [List.length_drop]; omega)]
  · rw [Nat.min_eq_right h, Nat.sub_self, List.take_zero, List.drop_eq_nil_of_le h]
/-! a text of a text, of an int -/
/-! a global that is an object -/
theorem pe_gref {x : Str} {d : Addr} {pos : Pos} (h : X.mg x = some (.ref d)) (hg : Gl X x := by rfl) (hd : (x == ("__debug__" : Str)) = false := by decide) : PE X (.Name x pos) (tC (.ref d)) := pe_glob hg h rfl hd
theorem pi_tupK (K : PySem.W.Frag) {tg l : Expr} {tl : TE} (hl : PE X l tl) (hK : X.K = K := by rfl) : PI X tg l (iTup K tl) := hK ▸ pi_tup hl
theorem iTup_at (K : PySem.W.Frag) (tl : TE) {σ : St} {H : Hp} {R : It → Hp → Prop} : iTup K tl σ H R = tl σ H fun x H1 => ∃ a, x = .ref a ∧ (∃ xs, SqT K H1 a xs) ∧ R (Itt K a) H1 := rfl
end
section
variable {K : PySem.W.Frag} {a b : Addr} {xs ys : List V} {g : TG} {te : TE} {nT : Nat} {σ : St} {D : Addr} {Q : VK} {H : Hp}
theorem forW_tup {tb : TS} {D : Ends} (Pv : Nat → St → Hp → Prop) (h0 : Pv 0 σ H) (hl : ∀ i σ H, i ≤ xs.length → Pv i σ H → SqT K H a xs)
    (hs : ∀ i x σ H, xs[i]? = some x → Pv i σ H → g x σ H fun σ2 H2 => tb { D with nx := Pv (i + 1), ct := Pv (i + 1), bk := D.nx } σ2 H2) (hd : ∀ σ H, Pv xs.length σ H → D.nx σ H) : forW (Itt K a) g tb D σ H := by
  refine forW_by xs.length Pv h0 (fun i σ H hi p => ⟨xs, xs[i], hl i σ H (Nat.le_of_lt hi) p, by simp [hi]⟩) (fun σ H p => ⟨xs, hl _ σ H (Nat.le_refl _) p, Nat.le_refl _⟩) (fun i σ H x H' hi p yl => ?_) hd
  obtain ⟨rfl, y⟩ := yl
  exact hs i x σ _ (y xs (hl i σ _ (Nat.le_of_lt hi) p)) p
end
theorem SqT.same {K : PySem.W.Frag} {H H' : Hp} {a : Addr} {xs : List V} (h : SqT K H a xs) (sm : Same H H') : SqT K H' a xs := by
  rcases h with (h | ⟨o, h⟩) | h
  · exact .inl (.inl (sm _ _ h))
  · exact .inl (.inr ⟨o, sm _ _ h⟩)
  · exact .inr h
theorem at0 {α : Type} {x : α} {xs : List α} : atI (x :: xs) 0 = some x := atI_nat (j := 0) rfl
end L2

set_option Elab.async false
set_option linter.all false
set_option maxRecDepth 100000
set_option maxHeartbeats 4000000
namespace L2
open PySem PySem.Spec PyProof PyProof.Rows
section
variable {X : Cx}
end
end L2

set_option Elab.async false
set_option linter.all false
set_option maxRecDepth 100000
set_option maxHeartbeats 4000000
/-! a list gone over from behind -/
namespace L2
open PySem PySem.Spec PyProof PyProof.Rows
section
variable {K : PySem.W.Frag} {a : Addr} {xs : List V} {g : TG} {σ : St} {H : Hp}
end
end L2

set_option Elab.async false
set_option linter.all false
set_option maxRecDepth 100000
set_option maxHeartbeats 4000000
/-! list(a dict): its keys -/
namespace L2
open PySem PySem.Spec PyProof PyProof.Rows
section
variable {X : Cx}
end
end L2

set_option Elab.async false
set_option linter.all false
set_option maxRecDepth 100000
set_option maxHeartbeats 4000000
/-! sum of a list of ints, how often a text stands in a list -/
namespace L2
open PySem PySem.Spec PyProof PyProof.Rows PySem.SeqAt
section
variable {X : Cx}
end
end L2

set_option Elab.async false
set_option linter.all false
set_option maxRecDepth 100000
namespace L2
open PySem PySem.Spec PyProof.Rows PySem.SeqAt

/-! ### objects of own classes -/
structure Fl (K : PySem.W.Frag) (C : Addr) (f : Str) : Prop where
  c : Cls K C
  n : NoAttr K C f
structure MethAt (K : PySem.W.Frag) (C : Addr) (m qual : Str) (st : Stmt) : Prop where
  ex : ∃ f fd, Fun K m qual st f fd ∧ Meth K C m f
  cl : Cls K C
structure MakeAt (K : PySem.W.Frag) (mg : Str → Option Value) (x : Str) (C : Addr) (qual : Str) (st : Stmt) : Prop where
  ex : ∃ f fd, Fun K "__init__" qual st f fd ∧ Mk K C f ∧ mg x = some (.ref C)
structure Mcal (P : Program) (w : World) (K : PySem.W.Frag) (mg : Str → Option Value) (base : Heap) (k : Nat) (C : Addr) (m : Str) (ps : List Str) (sp : Sp) : Prop where
  ex : ∃ f fd, FnOk P w K mg base CX0 k f fd ps sp ∧ Binds K fd ps [] ∧ Meth K C m f
  cl : Cls K C
structure Mkal (P : Program) (w : World) (K : PySem.W.Frag) (mg : Str → Option Value) (base : Heap) (k : Nat) (x : Str) (C : Addr) (ps : List Str) (sp : Sp) : Prop where
  ex : ∃ f fd, FnOk P w K mg base CX0 k f fd ps sp ∧ Binds K fd ps [] ∧ Mk K C f ∧ mg x = some (.ref C)
section
variable {P : Program} {w : World} {K : PySem.W.Frag} {mg : Str → Option Value} {base : Heap}
theorem MethAt.mcal {C : Addr} {m qual : Str} {st : Stmt} {N ps : List Str} {k : Nat} {sp : Sp} (D : MethAt K C m qual st) (S : FnScope N ps (defScope st))
    (hb : ∀ (kV doc pm : Value) (an : Option Addr) (cdv ct : Value) (us : List Value), us.length = ps.length → bindArgs (PySem.W.fnOf m qual (defArgs st) (defBody st) (defScope st) .none kV doc pm an cdv ct) ⟨us, []⟩ = pure (ps.zip us))
    (len : ∀ vs H Q E, sp vs H Q E → vs.length = ps.length)
    (hbody : ∀ (f : Addr) (cdv : Value) (A : Around) (outer : List Env) (s : Shared) (H : Hp) (vs : List V) (Q : VK) (E : XK), Room k (A.deeper (envOfC qual (defScope st) s.heap.objs.size f cdv)) → sp vs H Q E →
      ∃ t, PSs (cxOf CX0 P w K mg base N qual (defScope st) f cdv A outer s H E).nox (defBody st) t ∧ t { nx := fun _ H' => Q .non H', rt := Q } (start N vs) H) : Mcal P w K mg base (k + 1) C m ps sp := by
  obtain ⟨f, fd, F, m⟩ := D.ex
  exact ⟨⟨f, fd, F.ok S len fun cdv A outer s H vs Q E hr h => hbody f cdv A outer s H vs Q E hr h, F.binds hb, m⟩, D.cl⟩
theorem MakeAt.mkal {x : Str} {C : Addr} {qual : Str} {st : Stmt} {N ps : List Str} {k : Nat} {sp : Sp} (D : MakeAt K mg x C qual st) (S : FnScope N ps (defScope st))
    (hb : ∀ (kV doc pm : Value) (an : Option Addr) (cdv ct : Value) (us : List Value), us.length = ps.length → bindArgs (PySem.W.fnOf "__init__" qual (defArgs st) (defBody st) (defScope st) .none kV doc pm an cdv ct) ⟨us, []⟩ = pure (ps.zip us))
    (len : ∀ vs H Q E, sp vs H Q E → vs.length = ps.length)
    (hbody : ∀ (f : Addr) (cdv : Value) (A : Around) (outer : List Env) (s : Shared) (H : Hp) (vs : List V) (Q : VK) (E : XK), Room k (A.deeper (envOfC qual (defScope st) s.heap.objs.size f cdv)) → sp vs H Q E →
      ∃ t, PSs (cxOf CX0 P w K mg base N qual (defScope st) f cdv A outer s H E).nox (defBody st) t ∧ t { nx := fun _ H' => Q .non H', rt := Q } (start N vs) H) : Mkal P w K mg base (k + 1) x C ps sp := by
  obtain ⟨f, fd, F, m, g⟩ := D.ex
  exact ⟨f, fd, F.ok S len fun cdv A outer s H vs Q E hr h => hbody f cdv A outer s H vs Q E hr h, F.binds hb, m, g⟩
end
def tFldC (C : Addr) (f : Str) (ta : TE) : TE := fun σ H Q => ta σ H fun x H1 => ∃ a, x = .ref a ∧ ∃ dx fs v, H1 a = some (.ins C dx fs) ∧ fs.lookup f = some v ∧ Q v H1
def sFldC (C : Addr) (f : Str) (ta tv : TE) : TS := fun D σ H => tv σ H fun y H1 => ta σ H1 fun x H2 => ∃ a, x = .ref a ∧ ∃ dx fs, H2 a = some (.ins C dx fs) ∧ fs.length < 1000 ∧ D.nx σ (upd H2 a (.ins C dx (putF f y fs)))
def tMethC (C : Addr) (m : Str) (sp : Sp) (ta : TE) (t : TA) : TE := fun σ H Q => ta σ H fun x H1 => ∃ a, x = .ref a ∧ (∃ dx fs, H1 a = some (.ins C dx fs) ∧ fs.lookup m = none) ∧ t σ H1 fun vs H2 => sp (.ref a :: vs) H2 Q E0
def tMakeC (C : Addr) (sp : Sp) (t : TA) : TE := fun σ H Q => t σ H fun vs H1 => ∀ x dx, H1 x = none → H1 dx = none → dx ≠ x → sp (.ref x :: vs) (upd (upd H1 dx (.own x)) x (.ins C dx [])) (fun v H2 => v = .non ∧ Q (.ref x) H2) E0
section
variable {X : Cx} {o e value : Expr} {es : List Expr} {f m : Str} {pos pos' apos p : Pos} {ta tv : TE} {t : TA} {C : Addr} {x : Str} {ps : List Str} {sp : Sp} {j k : Nat}
theorem pe_fldC (g : Fl X.K C f) (he : PE X e ta) (hb : attributeBase e f X.env (eval e X.env) = eval e X.env := by rfl) : PE X (.Attribute e f pos) (tFldC C f ta) := by
  intro pins s σ H Q I h
  refine attr_of hb (thn (he pins s σ H _ I h) fun u s1 ⟨x, H1, I1, rx, a, ex, dx, fs, v, ea, l, q⟩ => ?_)
  subst ex
  obtain rfl : u = Value.ref a := rx
  exact getattr_ok I1 ea g.c g.n l fun u' s2 I2 ru => ⟨v, H1, I2, ru, q⟩
theorem ps_fldC (g : Fl X.K C f) (ha : PE X o ta) (hv : PE X value tv) (hs : swapsWith value (some (.Attribute o f pos')) pos.line X.env = pure false := by rfl) : PS X (.Assign [.Attribute o f pos'] value pos) (sFldC C f ta tv) := by
  intro pins s σ H D I h
  refine plainObj_wpAny_Assign_Attribute (thn (hv pins s σ H _ I h) fun u s1 ⟨y, H1, I1, ry, q⟩ => thn (ha pins s1 σ H1 _ I1 q) fun ov s2 ⟨x, H2, I2, rx, a, ex, dx, fs, ea, l, q2⟩ => ?_) hs
  subst ex
  obtain rfl : ov = Value.ref a := rx
  exact setattr_ok I2 ea g.c g.n l ry fun s3 I3 => ⟨σ, _, I3, q2⟩
theorem pe_mcal (c : Mcal X.prog X.w X.K X.mg X.base j C m ps sp) (hr : Room k X.A) (he : PE X o ta) (ha : PA X (e :: es) t) (hle : j ≤ k := by decide) {pl : Sem Bool}
    (hst : starEach (e :: es) X.env = (false, eval e X.env) :: starEach es X.env := by rfl) (hpl : (backTo pos (starEach es X.env)).any (·.1) = false := by rfl)
    (ht : eval (.Call (.Attribute o m apos) (e :: es) [] pos) X.env = (do
      let ov ← eval o X.env
      standAt apos.atName
      let (f, first) ← holding [ov] (getMethod ov m pl)
      callWith pos f first (backTo pos (starEach (e :: es) X.env)) (backToKw pos (keywordEach [] X.env))) := by rfl) :
    PE X (.Call (.Attribute o m apos) (e :: es) [] pos) (tMethC C m sp ta t) := by
  obtain ⟨f, fd, F, b, hm⟩ := c.ex
  intro pins s σ H Q I h
  refine PySem.W.methodCall_KW (pl := pl) (thn (he pins s σ H _ I h) fun u s1 ⟨x, H1, I1, rx, a, ex, ⟨dx, fs, ea, l⟩, q⟩ => ?_) ht
  subst ex
  obtain rfl : u = Value.ref a := rx
  refine getmeth_ok I1 ea c.cl hm l ?_
  refine PySem.W.callWith_K (first := [.ref a]) (h₀ := X.base) I.ok.mod.kin hm.kp (thn (ha pos pins s1 σ H1 _ I1 q) fun us s2 ⟨vs, H2, I2, r, q2⟩ => ⟨I2.kIn, ?_⟩) hst hpl
  exact run_fn (us := .ref a :: us) (vs := .ref a :: vs) F (hr.mono hle) b .nil pass0 I2 (.cons rfl r) (by rw [List.append_nil]; exact q2)
theorem pe_mk (c : Mkal X.prog X.w X.K X.mg X.base j x C ps sp) (hr : Room k X.A) (ha : PA X (e :: es) t) (hle : j + 1 ≤ k := by decide) (hg : Gl X x := by rfl) (hdb : (x == ("__debug__" : Str)) = false := by decide)
    (he : starEach (e :: es) X.env = (false, eval e X.env) :: starEach es X.env := by rfl) (hpl : (backTo pos (starEach es X.env)).any (·.1) = false := by rfl) :
    PE X (.Call (.Name x p) (e :: es) [] pos) (tMakeC C sp t) := by
  obtain ⟨f, fd, F, b, M, hm⟩ := c.ex
  intro pins s σ H Q I h
  refine wpAny_Call_Name_kw (ld_glob I hg hm ?_ hdb)
  refine PySem.W.callWith_K (h₀ := X.base) I.ok.mod.kin M.kp (thn (ha pos pins s σ H _ I h) fun us s1 ⟨vs, H1, I1, r, q⟩ => ⟨I1.kIn, ?_⟩) he hpl
  exact run_make M F (hr.mono hle) b .nil pass0 I1 r (by simpa only [List.append_nil] using q)
end
section
variable {C : Addr} {f m : Str} {sp : Sp} {ta tv : TE} {t : TA} {σ : St} {H : Hp} {Q : VK}
theorem tFldC_at : tFldC C f ta σ H Q = ta σ H fun x H1 => ∃ a, x = .ref a ∧ ∃ dx fs v, H1 a = some (.ins C dx fs) ∧ fs.lookup f = some v ∧ Q v H1 := rfl
theorem sFldC_at {D : Ends} : sFldC C f ta tv D σ H = tv σ H fun y H1 => ta σ H1 fun x H2 => ∃ a, x = .ref a ∧ ∃ dx fs, H2 a = some (.ins C dx fs) ∧ fs.length < 1000 ∧ D.nx σ (upd H2 a (.ins C dx (putF f y fs))) := rfl
theorem tMethC_at : tMethC C m sp ta t σ H Q = ta σ H fun x H1 => ∃ a, x = .ref a ∧ (∃ dx fs, H1 a = some (.ins C dx fs) ∧ fs.lookup m = none) ∧ t σ H1 fun vs H2 => sp (.ref a :: vs) H2 Q E0 := rfl
theorem tMakeC_at : tMakeC C sp t σ H Q = t σ H fun vs H1 => ∀ x dx, H1 x = none → H1 dx = none → dx ≠ x → sp (.ref x :: vs) (upd (upd H1 dx (.own x)) x (.ins C dx [])) (fun v H2 => v = .non ∧ Q (.ref x) H2) E0 := rfl
theorem tDGet1_at {td ty : TE} : tDGet1 td ty σ H Q = td σ H fun x H1 => ∃ a, x = .ref a ∧ IsD H1 a ∧ ty σ H1 fun y H2 => ∃ o, DGet H2 a y o ∧ Q (o.getD .non) H2 := rfl
theorem tDGet2_at {td ty tx : TE} : tDGet2 td ty tx σ H Q = td σ H fun x H1 => ∃ a, x = .ref a ∧ IsD H1 a ∧ ty σ H1 fun y H2 => tx σ H2 fun z H3 => ∃ o, DGet H3 a y o ∧ Q (o.getD z) H3 := rfl
theorem fld_of {R : V → Prop} {a dx : Addr} {fs : List (Str × V)} {v : V} (h : H a = some (.ins C dx fs)) (l : fs.lookup f = some v) (q : R v) : ∃ dx fs v, H a = some (.ins C dx fs) ∧ fs.lookup f = some v ∧ R v := ⟨dx, fs, v, h, l, q⟩
theorem isD_of {a : Addr} {kvs : List (Key × V)} (h : H a = some (.dK kvs)) : IsD H a := .inl ⟨kvs, .inl h⟩
end
theorem lk_hit {f : Str} {v : V} {fs : List (Str × V)} : List.lookup f ((f, v) :: fs) = some v := by simp [List.lookup]
theorem lk_miss {f g : Str} {v : V} {fs : List (Str × V)} (h : (f == g) = false) : List.lookup f ((g, v) :: fs) = List.lookup f fs := by simp [List.lookup, h]
theorem lk_nil {f : Str} : List.lookup f ([] : List (Str × V)) = none := rfl
theorem putF_hit {f : Str} {v x : V} {r : List (Str × V)} : putF f v ((f, x) :: r) = (f, v) :: r := by simp [putF]
theorem putF_miss {f g : Str} {v x : V} {r : List (Str × V)} (h : ¬ g = f) : putF f v ((g, x) :: r) = (g, x) :: putF f v r := by simp [putF, h]
theorem putF_nil {f : Str} {v : V} : putF f v [] = [(f, v)] := rfl
end L2

set_option Elab.async false
set_option linter.all false
set_option maxRecDepth 100000
/-! a text split by another, a text read as a number -/
namespace L2
open PySem PySem.Spec PyProof.Rows PySem.SeqAt
section
variable {X : Cx}
end
end L2

set_option Elab.async false
set_option linter.all false
set_option maxRecDepth 100000
namespace L2
open PySem PySem.Spec PyProof.Rows
/-! ### targets, expressions, turns that the proof never comes to -/
section
variable {X : Cx} {tg e : Expr}
def gNever : TG := fun _ _ _ _ => False
theorem pg_never : PG X tg gNever := fun _ _ _ _ _ _ _ _ _ h => h.elim
theorem for0 {K : PySem.W.Frag} {a : Addr} {g : TG} {tb : TS} {D : Ends} {σ : St} {H : Hp} (h : SqL K H a []) (q : D.nx σ H) : forW (Itl K a) g tb D σ H :=
  forW_list (xs := []) (fun _ σ' H' => σ' = σ ∧ H' = H) ⟨rfl, rfl⟩ (fun i σ' H' _ z => by rw [z.2]; exact h) (fun i x σ' H' z => by simp at z) fun σ' H' z => by rw [z.1, z.2]; exact q
end
end L2

set_option Elab.async false
set_option linter.all false
set_option maxRecDepth 100000
set_option maxHeartbeats 4000000
namespace L2
open PySem PySem.Spec PyProof.Rows PySem.SeqAt
/-! ### sets of texts -/
section
variable {prog : Program} {w : World} {A : Around} {R : Result → Shared → Prop} {I : Addr} {fp wr : List Addr} {Gm : Array GenState → Array GenState → Prop} {n : Nat} {P : Nat → Value → Prop} {St : Nat → Shared → Prop} {L : Bool}
end
section
variable {prog : Program} {w : World} {A : Around} {E : Value → Shared → Prop} {s : Shared}
end
section
variable {X : Cx}
end
section
variable {prog : Program} {w : World} {A : Around} {E : Value → Shared → Prop} {s : Shared}
end
section
variable {X : Cx}
end
/-! ### a choice, as a test -/
section
variable {X : Cx} {c a b : Expr} {tA tB1 tB2 : TT} {pos : Pos}
end
end L2

set_option Elab.async false
set_option linter.all false
set_option maxRecDepth 100000
set_option maxHeartbeats 4000000
namespace L2
open PySem PySem.Spec PyProof.Rows PySem.SeqAt PySem.Builtin PySem.Builtin.Str PySem.StrLaws
/-! ### texts parted -/
section
variable {X : Cx}
end
end L2

set_option Elab.async false
set_option linter.all false
namespace L2
open PySem PySem.Spec PyProof.Rows PySem.SeqAt PySem.Builtin PySem.Builtin.Str PySem.StrLaws
/-! ### is True, is False -/
/-! ### a text that starts with another; a tuple and a tuple -/
end L2

set_option Elab.async false
set_option linter.all false
set_option maxRecDepth 100000
set_option maxHeartbeats 4000000
namespace L2
open PySem PySem.Spec PyProof.Rows
/-! ### list.insert, list.pop(at) -/
section
variable {X : Cx}
end
end L2

set_option Elab.async false
set_option linter.all false
set_option maxRecDepth 100000
set_option maxHeartbeats 4000000
section
open PySem PySem.Spec PyProof.Rows L2
seal L2.PE L2.PT L2.PW L2.PA L2.PS L2.PSs L2.PG L2.PGs L2.PSet L2.PI L2.PIfs L2.OpR L2.UnR L2.CallR L2.IxR L2.MtR L2.SlR L2.PO L2.PPs
local macro_rules | `(tactic| walk_at "rd1") => `(tactic| try simp only [tSeq_at, tPairs_nil, tPairs_cons, tNext_at, tIfS_at, tRet_at, tRetN_at, tDrop_at, tAsg_at, gName_at, gNil_at, gCons_at, gTup_at, gSub_at, tVar_at, tC_at, tOp_at, tUn_at, tTest_at, tB_at, tAnd_at, tOr_at, tNot_at, tAndV_at, tNotV_at, tIf_at, tCB_at, tCons_at, tNil_at, tTup_at, tLst_at, tCall_at, tBM_at, tFldC_at, sFldC_at, tMethC_at, tMakeC_at, tDGet1_at, tDGet2_at, tSl_at, tPart_at, tNoPart_at, tComp_at, tYes_at, iZip_at, ex_refs2, iEnum_at, ex_ref1, rSlS_at, iList_at, iRng1_at, tFor_at, compK_at, rI0_at, rI_at, rAddA_int, rAddA_str, rAddA_ref, rMulB_int, rMulB_str, rIsN_at, rNotN_at, rListOf_at, rSlL_at, rU_at, rNeD_at, rLtA_int, rLtA_str, rLenA_str, rLenA_ref, rIxA_ref, rIxA_str, rAppend_at, rJoin_at, rIsT_at, tBMM_at, iTup_at, rEqA_int, rEqA_bl, rEqA_str, rNeA_int, rNeA_str, rNeA_bl, tyV_str, tyV_lst, L2.start, List.map_cons, List.map_nil, List.length_cons, List.length_nil, List.replicate, List.cons_append, List.nil_append, List.append_nil, List.getElem?_cons_zero, List.getElem?_cons_succ, List.set_cons_zero, List.set_cons_succ, Nat.reduceAdd, Nat.reduceSub, Option.some.injEq, exists_eq_left', exists_eq_left, V.int.injEq, V.ref.injEq, V.str.injEq, V.bl.injEq, ex_one, ex_two, ex_cons, ex_nil, and_true, true_and, decide_eq_true_eq, Bool.not_true, Bool.not_false, if_true, Bool.false_eq_true, if_false, ite_true, ite_false])
local macro_rules | `(tactic| walk_at "rd") => `(tactic| try simp only [rest_at, tSeq_at, tPairs_nil, tPairs_cons, tNext_at, tIfS_at, tRet_at, tRetN_at, tDrop_at, tAsg_at, gName_at, gNil_at, gCons_at, gTup_at, gSub_at, tVar_at, tC_at, tOp_at, tUn_at, tTest_at, tB_at, tAnd_at, tOr_at, tNot_at, tAndV_at, tNotV_at, tIf_at, tCB_at, tCons_at, tNil_at, tTup_at, tLst_at, tCall_at, tBM_at, tFldC_at, sFldC_at, tMethC_at, tMakeC_at, tDGet1_at, tDGet2_at, tSl_at, tPart_at, tNoPart_at, tComp_at, tYes_at, iZip_at, ex_refs2, iEnum_at, ex_ref1, rSlS_at, iList_at, iRng1_at, tFor_at, compK_at, rI0_at, rI_at, rAddA_int, rAddA_str, rAddA_ref, rMulB_int, rMulB_str, rIsN_at, rNotN_at, rListOf_at, rSlL_at, rU_at, rNeD_at, rLtA_int, rLtA_str, rLenA_str, rLenA_ref, rIxA_ref, rIxA_str, rAppend_at, rJoin_at, rIsT_at, tBMM_at, iTup_at, rEqA_int, rEqA_bl, rEqA_str, rNeA_int, rNeA_str, rNeA_bl, tyV_str, tyV_lst, L2.start, List.map_cons, List.map_nil, List.length_cons, List.length_nil, List.replicate, List.cons_append, List.nil_append, List.append_nil, List.getElem?_cons_zero, List.getElem?_cons_succ, List.set_cons_zero, List.set_cons_succ, Nat.reduceAdd, Nat.reduceSub, Option.some.injEq, exists_eq_left', exists_eq_left, V.int.injEq, V.ref.injEq, V.str.injEq, V.bl.injEq, ex_one, ex_two, ex_cons, ex_nil, and_true, true_and, decide_eq_true_eq, Bool.not_true, Bool.not_false, if_true, Bool.false_eq_true, if_false, ite_true, ite_false])
local macro_rules | `(tactic| walk_at "nx") => `(tactic| ((first | rw [rest_at] | (dsimp only; rw [rest_at])); walk_at "rd1"))
local macro_rules | `(tactic| walk_at "lk") => `(tactic| repeat (first | exact lk_hit | exact lk_nil | rw [lk_miss (by decide +kernel)]))
local macro_rules | `(tactic| walk_at "pf") => `(tactic| repeat (first | rw [putF_hit] | rw [putF_nil] | rw [putF_miss (by decide +kernel)]))
namespace K30
open PySem L2
abbrev s_closers_of : Stmt := top 6
theorem sc_closers_of : FnScope ["kind"] ["kind"] (defScope s_closers_of) := ⟨rfl, rfl, rfl, by decide +kernel, rfl, by decide +kernel, by decide +kernel⟩
theorem v_closers_of_kind : Vis (defScope s_closers_of) "kind" := Or.inl (by decide +kernel)
theorem gl_closers_of_CLOSERS : (defScope s_closers_of).names.lookup ("CLOSERS" : Str) = some .globalImplicit := by decide +kernel

abbrev s_head_of : Stmt := top 7
theorem sc_head_of : FnScope ["step"] ["step"] (defScope s_head_of) := ⟨rfl, rfl, rfl, by decide +kernel, rfl, by decide +kernel, by decide +kernel⟩
theorem v_head_of_step : Vis (defScope s_head_of) "step" := Or.inl (by decide +kernel)
theorem gl_head_of_closers_of : (defScope s_head_of).names.lookup ("closers_of" : Str) = some .globalImplicit := by decide +kernel
theorem gl_head_of_len : (defScope s_head_of).names.lookup ("len" : Str) = some .globalImplicit := by decide +kernel

abbrev s_blocks_of : Stmt := top 8
theorem sc_blocks_of : FnScope ["step"] ["step"] (defScope s_blocks_of) := ⟨rfl, rfl, rfl, by decide +kernel, rfl, by decide +kernel, by decide +kernel⟩
theorem v_blocks_of_step : Vis (defScope s_blocks_of) "step" := Or.inl (by decide +kernel)
theorem gl_blocks_of_head_of : (defScope s_blocks_of).names.lookup ("head_of" : Str) = some .globalImplicit := by decide +kernel
theorem gl_blocks_of_len : (defScope s_blocks_of).names.lookup ("len" : Str) = some .globalImplicit := by decide +kernel

abbrev s_NumberedStep___init__ : Stmt := inClass (top 10) 0
theorem sc_NumberedStep___init__ : FnScope ["self", "head", "lines", "blocks"] ["self", "head", "lines", "blocks"] (defScope s_NumberedStep___init__) := ⟨rfl, rfl, rfl, by decide +kernel, rfl, by decide +kernel, by decide +kernel⟩
theorem v_NumberedStep___init___self : Vis (defScope s_NumberedStep___init__) "self" := Or.inl (by decide +kernel)
theorem v_NumberedStep___init___head : Vis (defScope s_NumberedStep___init__) "head" := Or.inl (by decide +kernel)
theorem v_NumberedStep___init___lines : Vis (defScope s_NumberedStep___init__) "lines" := Or.inl (by decide +kernel)
theorem v_NumberedStep___init___blocks : Vis (defScope s_NumberedStep___init__) "blocks" := Or.inl (by decide +kernel)
abbrev s_line_behind : Stmt := top 11
theorem sc_line_behind : FnScope ["steps", "line"] ["steps", "line"] (defScope s_line_behind) := ⟨rfl, rfl, rfl, by decide +kernel, rfl, by decide +kernel, by decide +kernel⟩
theorem v_line_behind_steps : Vis (defScope s_line_behind) "steps" := Or.inl (by decide +kernel)
theorem v_line_behind_line : Vis (defScope s_line_behind) "line" := Or.inl (by decide +kernel)
theorem gl_line_behind_len : (defScope s_line_behind).names.lookup ("len" : Str) = some .globalImplicit := by decide +kernel

abbrev s_numbered_step : Stmt := top 12
theorem sc_numbered_step : FnScope ["step", "line", "lines", "blocks", "block", "steps"] ["step", "line"] (defScope s_numbered_step) := ⟨rfl, rfl, rfl, by decide +kernel, rfl, by decide +kernel, by decide +kernel⟩
theorem v_numbered_step_step : Vis (defScope s_numbered_step) "step" := Or.inl (by decide +kernel)
theorem v_numbered_step_line : Vis (defScope s_numbered_step) "line" := Or.inl (by decide +kernel)
theorem v_numbered_step_lines : Vis (defScope s_numbered_step) "lines" := Or.inl (by decide +kernel)
theorem l_numbered_step_lines : Loc (defScope s_numbered_step) "lines" := Or.inl (by decide +kernel)
theorem v_numbered_step_blocks : Vis (defScope s_numbered_step) "blocks" := Or.inl (by decide +kernel)
theorem l_numbered_step_blocks : Loc (defScope s_numbered_step) "blocks" := Or.inl (by decide +kernel)
theorem v_numbered_step_block : Vis (defScope s_numbered_step) "block" := Or.inl (by decide +kernel)
theorem l_numbered_step_block : Loc (defScope s_numbered_step) "block" := Or.inl (by decide +kernel)
theorem v_numbered_step_steps : Vis (defScope s_numbered_step) "steps" := Or.inl (by decide +kernel)
theorem l_numbered_step_steps : Loc (defScope s_numbered_step) "steps" := Or.inl (by decide +kernel)
theorem gl_numbered_step_NumberedStep : (defScope s_numbered_step).names.lookup ("NumberedStep" : Str) = some .globalImplicit := by decide +kernel
theorem gl_numbered_step_blocks_of : (defScope s_numbered_step).names.lookup ("blocks_of" : Str) = some .globalImplicit := by decide +kernel
theorem gl_numbered_step_head_of : (defScope s_numbered_step).names.lookup ("head_of" : Str) = some .globalImplicit := by decide +kernel
theorem gl_numbered_step_line_behind : (defScope s_numbered_step).names.lookup ("line_behind" : Str) = some .globalImplicit := by decide +kernel
theorem gl_numbered_step_numbered_steps : (defScope s_numbered_step).names.lookup ("numbered_steps" : Str) = some .globalImplicit := by decide +kernel

abbrev s_numbered_steps : Stmt := top 13
theorem sc_numbered_steps : FnScope ["steps", "line", "numbered", "step"] ["steps", "line"] (defScope s_numbered_steps) := ⟨rfl, rfl, rfl, by decide +kernel, rfl, by decide +kernel, by decide +kernel⟩
theorem v_numbered_steps_steps : Vis (defScope s_numbered_steps) "steps" := Or.inl (by decide +kernel)
theorem v_numbered_steps_line : Vis (defScope s_numbered_steps) "line" := Or.inl (by decide +kernel)
theorem v_numbered_steps_numbered : Vis (defScope s_numbered_steps) "numbered" := Or.inl (by decide +kernel)
theorem l_numbered_steps_numbered : Loc (defScope s_numbered_steps) "numbered" := Or.inl (by decide +kernel)
theorem v_numbered_steps_step : Vis (defScope s_numbered_steps) "step" := Or.inl (by decide +kernel)
theorem l_numbered_steps_step : Loc (defScope s_numbered_steps) "step" := Or.inl (by decide +kernel)
theorem gl_numbered_steps_line_behind : (defScope s_numbered_steps).names.lookup ("line_behind" : Str) = some .globalImplicit := by decide +kernel
theorem gl_numbered_steps_numbered_step : (defScope s_numbered_steps).names.lookup ("numbered_step" : Str) = some .globalImplicit := by decide +kernel

abbrev s_all_begin_tie : Stmt := top 18
theorem sc_all_begin_tie : FnScope ["watches", "one", "other", "start", "watch"] ["watches", "one", "other", "start"] (defScope s_all_begin_tie) := ⟨rfl, rfl, rfl, by decide +kernel, rfl, by decide +kernel, by decide +kernel⟩
theorem v_all_begin_tie_watches : Vis (defScope s_all_begin_tie) "watches" := Or.inl (by decide +kernel)
abbrev s_broken_or_gone_on : Stmt := top 19
theorem sc_broken_or_gone_on : FnScope ["watches", "at", "handle", "word", "broken", "watch", "first"] ["watches", "at", "handle", "word"] (defScope s_broken_or_gone_on) := ⟨rfl, rfl, rfl, by decide +kernel, rfl, by decide +kernel, by decide +kernel⟩
theorem v_broken_or_gone_on_watches : Vis (defScope s_broken_or_gone_on) "watches" := Or.inl (by decide +kernel)
theorem v_broken_or_gone_on_broken : Vis (defScope s_broken_or_gone_on) "broken" := Or.inl (by decide +kernel)
theorem l_broken_or_gone_on_broken : Loc (defScope s_broken_or_gone_on) "broken" := Or.inl (by decide +kernel)
theorem gl_broken_or_gone_on_len : (defScope s_broken_or_gone_on).names.lookup ("len" : Str) = some .globalImplicit := by decide +kernel

abbrev s_Run___init__ : Stmt := inClass (top 21) 0
theorem sc_Run___init__ : FnScope ["self", "inputs", "watches"] ["self", "inputs", "watches"] (defScope s_Run___init__) := ⟨rfl, rfl, rfl, by decide +kernel, rfl, by decide +kernel, by decide +kernel⟩
theorem v_Run___init___self : Vis (defScope s_Run___init__) "self" := Or.inl (by decide +kernel)
theorem v_Run___init___inputs : Vis (defScope s_Run___init__) "inputs" := Or.inl (by decide +kernel)
theorem v_Run___init___watches : Vis (defScope s_Run___init__) "watches" := Or.inl (by decide +kernel)
abbrev s_Run_takes_more : Stmt := inClass (top 21) 2
theorem sc_Run_takes_more : FnScope ["self", "bound"] ["self", "bound"] (defScope s_Run_takes_more) := ⟨rfl, rfl, rfl, by decide +kernel, rfl, by decide +kernel, by decide +kernel⟩
theorem v_Run_takes_more_self : Vis (defScope s_Run_takes_more) "self" := Or.inl (by decide +kernel)
theorem v_Run_takes_more_bound : Vis (defScope s_Run_takes_more) "bound" := Or.inl (by decide +kernel)
theorem gl_Run_takes_more_len : (defScope s_Run_takes_more).names.lookup ("len" : Str) = some .globalImplicit := by decide +kernel

abbrev s_Run_handle_of : Stmt := inClass (top 21) 3
theorem sc_Run_handle_of : FnScope ["self", "holder"] ["self", "holder"] (defScope s_Run_handle_of) := ⟨rfl, rfl, rfl, by decide +kernel, rfl, by decide +kernel, by decide +kernel⟩
theorem v_Run_handle_of_self : Vis (defScope s_Run_handle_of) "self" := Or.inl (by decide +kernel)
theorem v_Run_handle_of_holder : Vis (defScope s_Run_handle_of) "holder" := Or.inl (by decide +kernel)
abbrev s_Run_hold : Stmt := inClass (top 21) 4
theorem sc_Run_hold : FnScope ["self", "holder", "handle"] ["self", "holder", "handle"] (defScope s_Run_hold) := ⟨rfl, rfl, rfl, by decide +kernel, rfl, by decide +kernel, by decide +kernel⟩
theorem v_Run_hold_self : Vis (defScope s_Run_hold) "self" := Or.inl (by decide +kernel)
theorem v_Run_hold_holder : Vis (defScope s_Run_hold) "holder" := Or.inl (by decide +kernel)
theorem v_Run_hold_handle : Vis (defScope s_Run_hold) "handle" := Or.inl (by decide +kernel)
abbrev s_Run_deed : Stmt := inClass (top 21) 5
theorem sc_Run_deed : FnScope ["self", "line", "handle", "word", "entry", "broken"] ["self", "line", "handle", "word"] (defScope s_Run_deed) := ⟨rfl, rfl, rfl, by decide +kernel, rfl, by decide +kernel, by decide +kernel⟩
theorem v_Run_deed_self : Vis (defScope s_Run_deed) "self" := Or.inl (by decide +kernel)
theorem v_Run_deed_line : Vis (defScope s_Run_deed) "line" := Or.inl (by decide +kernel)
theorem v_Run_deed_handle : Vis (defScope s_Run_deed) "handle" := Or.inl (by decide +kernel)
theorem v_Run_deed_word : Vis (defScope s_Run_deed) "word" := Or.inl (by decide +kernel)
theorem v_Run_deed_entry : Vis (defScope s_Run_deed) "entry" := Or.inl (by decide +kernel)
theorem l_Run_deed_entry : Loc (defScope s_Run_deed) "entry" := Or.inl (by decide +kernel)
theorem v_Run_deed_broken : Vis (defScope s_Run_deed) "broken" := Or.inl (by decide +kernel)
theorem l_Run_deed_broken : Loc (defScope s_Run_deed) "broken" := Or.inl (by decide +kernel)
theorem gl_Run_deed_broken_or_gone_on : (defScope s_Run_deed).names.lookup ("broken_or_gone_on" : Str) = some .globalImplicit := by decide +kernel

abbrev s_Run_new_handle : Stmt := inClass (top 21) 7
theorem sc_Run_new_handle : FnScope ["self", "line", "holder", "handle"] ["self", "line", "holder"] (defScope s_Run_new_handle) := ⟨rfl, rfl, rfl, by decide +kernel, rfl, by decide +kernel, by decide +kernel⟩
theorem v_Run_new_handle_self : Vis (defScope s_Run_new_handle) "self" := Or.inl (by decide +kernel)
theorem v_Run_new_handle_line : Vis (defScope s_Run_new_handle) "line" := Or.inl (by decide +kernel)
theorem v_Run_new_handle_holder : Vis (defScope s_Run_new_handle) "holder" := Or.inl (by decide +kernel)
theorem v_Run_new_handle_handle : Vis (defScope s_Run_new_handle) "handle" := Or.inl (by decide +kernel)
theorem l_Run_new_handle_handle : Loc (defScope s_Run_new_handle) "handle" := Or.inl (by decide +kernel)
abbrev s_Run_tie : Stmt := inClass (top 21) 8
theorem sc_Run_tie : FnScope ["self", "line", "one", "other"] ["self", "line", "one", "other"] (defScope s_Run_tie) := ⟨rfl, rfl, rfl, by decide +kernel, rfl, by decide +kernel, by decide +kernel⟩
theorem v_Run_tie_self : Vis (defScope s_Run_tie) "self" := Or.inl (by decide +kernel)
theorem v_Run_tie_line : Vis (defScope s_Run_tie) "line" := Or.inl (by decide +kernel)
theorem v_Run_tie_one : Vis (defScope s_Run_tie) "one" := Or.inl (by decide +kernel)
theorem v_Run_tie_other : Vis (defScope s_Run_tie) "other" := Or.inl (by decide +kernel)
theorem gl_Run_tie_all_begin_tie : (defScope s_Run_tie).names.lookup ("all_begin_tie" : Str) = some .globalImplicit := by decide +kernel
theorem gl_Run_tie_len : (defScope s_Run_tie).names.lookup ("len" : Str) = some .globalImplicit := by decide +kernel

abbrev s_Run_end_all : Stmt := inClass (top 21) 9
theorem sc_Run_end_all : FnScope ["self", "line", "handle"] ["self", "line"] (defScope s_Run_end_all) := ⟨rfl, rfl, rfl, by decide +kernel, rfl, by decide +kernel, by decide +kernel⟩
theorem v_Run_end_all_self : Vis (defScope s_Run_end_all) "self" := Or.inl (by decide +kernel)
theorem v_Run_end_all_line : Vis (defScope s_Run_end_all) "line" := Or.inl (by decide +kernel)
theorem v_Run_end_all_handle : Vis (defScope s_Run_end_all) "handle" := Or.inl (by decide +kernel)
theorem l_Run_end_all_handle : Loc (defScope s_Run_end_all) "handle" := Or.inl (by decide +kernel)
theorem gl_Run_end_all_range : (defScope s_Run_end_all).names.lookup ("range" : Str) = some .globalImplicit := by decide +kernel

abbrev s_do_simple : Stmt := top 23
theorem sc_do_simple : FnScope ["run", "step", "line", "parts"] ["run", "step"] (defScope s_do_simple) := ⟨rfl, rfl, rfl, by decide +kernel, rfl, by decide +kernel, by decide +kernel⟩
theorem v_do_simple_run : Vis (defScope s_do_simple) "run" := Or.inl (by decide +kernel)
theorem v_do_simple_step : Vis (defScope s_do_simple) "step" := Or.inl (by decide +kernel)
theorem v_do_simple_line : Vis (defScope s_do_simple) "line" := Or.inl (by decide +kernel)
theorem l_do_simple_line : Loc (defScope s_do_simple) "line" := Or.inl (by decide +kernel)
theorem v_do_simple_parts : Vis (defScope s_do_simple) "parts" := Or.inl (by decide +kernel)
theorem l_do_simple_parts : Loc (defScope s_do_simple) "parts" := Or.inl (by decide +kernel)
abbrev s_do_lend : Stmt := top 24
theorem sc_do_lend : FnScope ["run", "step", "lent"] ["run", "step"] (defScope s_do_lend) := ⟨rfl, rfl, rfl, by decide +kernel, rfl, by decide +kernel, by decide +kernel⟩
theorem v_do_lend_run : Vis (defScope s_do_lend) "run" := Or.inl (by decide +kernel)
theorem v_do_lend_step : Vis (defScope s_do_lend) "step" := Or.inl (by decide +kernel)
theorem v_do_lend_lent : Vis (defScope s_do_lend) "lent" := Or.inl (by decide +kernel)
theorem l_do_lend_lent : Loc (defScope s_do_lend) "lent" := Or.inl (by decide +kernel)
theorem gl_do_lend_do_steps : (defScope s_do_lend).names.lookup ("do_steps" : Str) = some .globalImplicit := by decide +kernel

abbrev s_do_if : Stmt := top 25
theorem sc_do_if : FnScope ["run", "step"] ["run", "step"] (defScope s_do_if) := ⟨rfl, rfl, rfl, by decide +kernel, rfl, by decide +kernel, by decide +kernel⟩
theorem v_do_if_run : Vis (defScope s_do_if) "run" := Or.inl (by decide +kernel)
theorem v_do_if_step : Vis (defScope s_do_if) "step" := Or.inl (by decide +kernel)
theorem gl_do_if_do_steps : (defScope s_do_if).names.lookup ("do_steps" : Str) = some .globalImplicit := by decide +kernel

abbrev s_do_while : Stmt := top 26
theorem sc_do_while : FnScope ["run", "step"] ["run", "step"] (defScope s_do_while) := ⟨rfl, rfl, rfl, by decide +kernel, rfl, by decide +kernel, by decide +kernel⟩
theorem v_do_while_run : Vis (defScope s_do_while) "run" := Or.inl (by decide +kernel)
theorem v_do_while_step : Vis (defScope s_do_while) "step" := Or.inl (by decide +kernel)
theorem gl_do_while_do_steps : (defScope s_do_while).names.lookup ("do_steps" : Str) = some .globalImplicit := by decide +kernel

abbrev s_do_steps : Stmt := top 27
theorem sc_do_steps : FnScope ["run", "steps", "step"] ["run", "steps"] (defScope s_do_steps) := ⟨rfl, rfl, rfl, by decide +kernel, rfl, by decide +kernel, by decide +kernel⟩
theorem v_do_steps_run : Vis (defScope s_do_steps) "run" := Or.inl (by decide +kernel)
theorem v_do_steps_steps : Vis (defScope s_do_steps) "steps" := Or.inl (by decide +kernel)
theorem v_do_steps_step : Vis (defScope s_do_steps) "step" := Or.inl (by decide +kernel)
theorem l_do_steps_step : Loc (defScope s_do_steps) "step" := Or.inl (by decide +kernel)
theorem gl_do_steps_do_if : (defScope s_do_steps).names.lookup ("do_if" : Str) = some .globalImplicit := by decide +kernel
theorem gl_do_steps_do_lend : (defScope s_do_steps).names.lookup ("do_lend" : Str) = some .globalImplicit := by decide +kernel
theorem gl_do_steps_do_simple : (defScope s_do_steps).names.lookup ("do_simple" : Str) = some .globalImplicit := by decide +kernel
theorem gl_do_steps_do_while : (defScope s_do_steps).names.lookup ("do_while" : Str) = some .globalImplicit := by decide +kernel

abbrev s_run_plain : Stmt := top 28
theorem sc_run_plain : FnScope ["program", "inputs", "steps", "run"] ["program", "inputs"] (defScope s_run_plain) := ⟨rfl, rfl, rfl, by decide +kernel, rfl, by decide +kernel, by decide +kernel⟩
theorem v_run_plain_program : Vis (defScope s_run_plain) "program" := Or.inl (by decide +kernel)
theorem v_run_plain_inputs : Vis (defScope s_run_plain) "inputs" := Or.inl (by decide +kernel)
theorem v_run_plain_steps : Vis (defScope s_run_plain) "steps" := Or.inl (by decide +kernel)
theorem l_run_plain_steps : Loc (defScope s_run_plain) "steps" := Or.inl (by decide +kernel)
theorem v_run_plain_run : Vis (defScope s_run_plain) "run" := Or.inl (by decide +kernel)
theorem l_run_plain_run : Loc (defScope s_run_plain) "run" := Or.inl (by decide +kernel)
theorem gl_run_plain_Run : (defScope s_run_plain).names.lookup ("Run" : Str) = some .globalImplicit := by decide +kernel
theorem gl_run_plain_do_steps : (defScope s_run_plain).names.lookup ("do_steps" : Str) = some .globalImplicit := by decide +kernel
theorem gl_run_plain_line_behind : (defScope s_run_plain).names.lookup ("line_behind" : Str) = some .globalImplicit := by decide +kernel
theorem gl_run_plain_numbered_steps : (defScope s_run_plain).names.lookup ("numbered_steps" : Str) = some .globalImplicit := by decide +kernel

abbrev s_law_cell_at : Stmt := top 30
theorem sc_law_cell_at : FnScope ["_law_script", "_law_k"] ["_law_script", "_law_k"] (defScope s_law_cell_at) := ⟨rfl, rfl, rfl, by decide +kernel, rfl, by decide +kernel, by decide +kernel⟩
theorem v_law_cell_at__law_script : Vis (defScope s_law_cell_at) "_law_script" := Or.inl (by decide +kernel)
theorem v_law_cell_at__law_k : Vis (defScope s_law_cell_at) "_law_k" := Or.inl (by decide +kernel)
theorem gl_law_cell_at_len : (defScope s_law_cell_at).names.lookup ("len" : Str) = some .globalImplicit := by decide +kernel

abbrev s_law_names : Stmt := top 31
theorem sc_law_names : FnScope ["_law_cell", "_law_letters", "_law_base", "_law_many", "_law_size", "_law_at", "_law_found", "_law_k", "_law_sign"] ["_law_cell"] (defScope s_law_names) := ⟨rfl, rfl, rfl, by decide +kernel, rfl, by decide +kernel, by decide +kernel⟩
theorem v_law_names__law_cell : Vis (defScope s_law_names) "_law_cell" := Or.inr (Or.inl (by decide +kernel))
theorem v_law_names__law_letters : Vis (defScope s_law_names) "_law_letters" := Or.inr (Or.inl (by decide +kernel))
theorem l_law_names__law_letters : Loc (defScope s_law_names) "_law_letters" := Or.inr (by decide +kernel)
theorem v_law_names__law_base : Vis (defScope s_law_names) "_law_base" := Or.inl (by decide +kernel)
theorem l_law_names__law_base : Loc (defScope s_law_names) "_law_base" := Or.inl (by decide +kernel)
theorem v_law_names__law_many : Vis (defScope s_law_names) "_law_many" := Or.inl (by decide +kernel)
theorem l_law_names__law_many : Loc (defScope s_law_names) "_law_many" := Or.inl (by decide +kernel)
theorem v_law_names__law_size : Vis (defScope s_law_names) "_law_size" := Or.inl (by decide +kernel)
theorem l_law_names__law_size : Loc (defScope s_law_names) "_law_size" := Or.inl (by decide +kernel)
theorem v_law_names__law_at : Vis (defScope s_law_names) "_law_at" := Or.inl (by decide +kernel)
theorem l_law_names__law_at : Loc (defScope s_law_names) "_law_at" := Or.inl (by decide +kernel)
theorem v_law_names__law_found : Vis (defScope s_law_names) "_law_found" := Or.inl (by decide +kernel)
theorem l_law_names__law_found : Loc (defScope s_law_names) "_law_found" := Or.inl (by decide +kernel)
theorem v_law_names__law_k : Vis (defScope s_law_names) "_law_k" := Or.inl (by decide +kernel)
theorem l_law_names__law_k : Loc (defScope s_law_names) "_law_k" := Or.inl (by decide +kernel)
theorem v_law_names__law_sign : Vis (defScope s_law_names) "_law_sign" := Or.inl (by decide +kernel)
theorem l_law_names__law_sign : Loc (defScope s_law_names) "_law_sign" := Or.inl (by decide +kernel)
theorem gl_law_names_range : (defScope s_law_names).names.lookup ("range" : Str) = some .globalImplicit := by decide +kernel

abbrev s_law_step : Stmt := top 32
theorem sc_law_step : FnScope ["_law_cell", "_law_names_here", "_law_x", "_law_y", "_law_kind", "_law_words"] ["_law_cell", "_law_names_here"] (defScope s_law_step) := ⟨rfl, rfl, rfl, by decide +kernel, rfl, by decide +kernel, by decide +kernel⟩
theorem v_law_step__law_cell : Vis (defScope s_law_step) "_law_cell" := Or.inl (by decide +kernel)
theorem v_law_step__law_names_here : Vis (defScope s_law_step) "_law_names_here" := Or.inl (by decide +kernel)
theorem v_law_step__law_x : Vis (defScope s_law_step) "_law_x" := Or.inl (by decide +kernel)
theorem l_law_step__law_x : Loc (defScope s_law_step) "_law_x" := Or.inl (by decide +kernel)
theorem v_law_step__law_y : Vis (defScope s_law_step) "_law_y" := Or.inl (by decide +kernel)
theorem l_law_step__law_y : Loc (defScope s_law_step) "_law_y" := Or.inl (by decide +kernel)
theorem v_law_step__law_kind : Vis (defScope s_law_step) "_law_kind" := Or.inl (by decide +kernel)
theorem l_law_step__law_kind : Loc (defScope s_law_step) "_law_kind" := Or.inl (by decide +kernel)
theorem v_law_step__law_words : Vis (defScope s_law_step) "_law_words" := Or.inl (by decide +kernel)
theorem l_law_step__law_words : Loc (defScope s_law_step) "_law_words" := Or.inl (by decide +kernel)
theorem gl_law_step_len : (defScope s_law_step).names.lookup ("len" : Str) = some .globalImplicit := by decide +kernel

abbrev s_law_logged : Stmt := top 33
theorem sc_law_logged : FnScope ["_law_steps", "_law_held", "_law_due", "_law_many", "_law_line", "_law_step_here", "_law_one", "_law_other"] ["_law_steps"] (defScope s_law_logged) := ⟨rfl, rfl, rfl, by decide +kernel, rfl, by decide +kernel, by decide +kernel⟩
theorem v_law_logged__law_steps : Vis (defScope s_law_logged) "_law_steps" := Or.inr (Or.inl (by decide +kernel))
theorem v_law_logged__law_held : Vis (defScope s_law_logged) "_law_held" := Or.inl (by decide +kernel)
theorem l_law_logged__law_held : Loc (defScope s_law_logged) "_law_held" := Or.inl (by decide +kernel)
theorem v_law_logged__law_due : Vis (defScope s_law_logged) "_law_due" := Or.inl (by decide +kernel)
theorem l_law_logged__law_due : Loc (defScope s_law_logged) "_law_due" := Or.inl (by decide +kernel)
theorem v_law_logged__law_many : Vis (defScope s_law_logged) "_law_many" := Or.inl (by decide +kernel)
theorem l_law_logged__law_many : Loc (defScope s_law_logged) "_law_many" := Or.inl (by decide +kernel)
theorem v_law_logged__law_line : Vis (defScope s_law_logged) "_law_line" := Or.inl (by decide +kernel)
theorem l_law_logged__law_line : Loc (defScope s_law_logged) "_law_line" := Or.inl (by decide +kernel)
theorem v_law_logged__law_step_here : Vis (defScope s_law_logged) "_law_step_here" := Or.inl (by decide +kernel)
theorem l_law_logged__law_step_here : Loc (defScope s_law_logged) "_law_step_here" := Or.inl (by decide +kernel)
theorem v_law_logged__law_one : Vis (defScope s_law_logged) "_law_one" := Or.inl (by decide +kernel)
theorem l_law_logged__law_one : Loc (defScope s_law_logged) "_law_one" := Or.inl (by decide +kernel)
theorem v_law_logged__law_other : Vis (defScope s_law_logged) "_law_other" := Or.inl (by decide +kernel)
theorem l_law_logged__law_other : Loc (defScope s_law_logged) "_law_other" := Or.inl (by decide +kernel)
theorem gl_law_logged_enumerate : (defScope s_law_logged).names.lookup ("enumerate" : Str) = some .globalImplicit := by decide +kernel
theorem gl_law_logged_range : (defScope s_law_logged).names.lookup ("range" : Str) = some .globalImplicit := by decide +kernel

abbrev s_law_whole : Stmt := top 34
theorem sc_law_whole : FnScope ["_law_found"] ["_law_found"] (defScope s_law_whole) := ⟨rfl, rfl, rfl, by decide +kernel, rfl, by decide +kernel, by decide +kernel⟩
theorem v_law_whole__law_found : Vis (defScope s_law_whole) "_law_found" := Or.inl (by decide +kernel)
theorem gl_law_whole_bool : (defScope s_law_whole).names.lookup ("bool" : Str) = some .globalImplicit := by decide +kernel
theorem gl_law_whole_int : (defScope s_law_whole).names.lookup ("int" : Str) = some .globalImplicit := by decide +kernel
theorem gl_law_whole_isinstance : (defScope s_law_whole).names.lookup ("isinstance" : Str) = some .globalImplicit := by decide +kernel

abbrev s_law_entry : Stmt := top 35
theorem sc_law_entry : FnScope ["_law_found", "_law_due"] ["_law_found", "_law_due"] (defScope s_law_entry) := ⟨rfl, rfl, rfl, by decide +kernel, rfl, by decide +kernel, by decide +kernel⟩
theorem v_law_entry__law_found : Vis (defScope s_law_entry) "_law_found" := Or.inl (by decide +kernel)
theorem v_law_entry__law_due : Vis (defScope s_law_entry) "_law_due" := Or.inl (by decide +kernel)
theorem gl_law_entry__law_whole : (defScope s_law_entry).names.lookup ("_law_whole" : Str) = some .globalImplicit := by decide +kernel
theorem gl_law_entry_isinstance : (defScope s_law_entry).names.lookup ("isinstance" : Str) = some .globalImplicit := by decide +kernel
theorem gl_law_entry_len : (defScope s_law_entry).names.lookup ("len" : Str) = some .globalImplicit := by decide +kernel
theorem gl_law_entry_str : (defScope s_law_entry).names.lookup ("str" : Str) = some .globalImplicit := by decide +kernel
theorem gl_law_entry_tuple : (defScope s_law_entry).names.lookup ("tuple" : Str) = some .globalImplicit := by decide +kernel

abbrev s_law_right : Stmt := top 36
theorem sc_law_right : FnScope ["_law_found", "_law_due", "_law_one", "_law_other"] ["_law_found", "_law_due"] (defScope s_law_right) := ⟨rfl, rfl, rfl, by decide +kernel, rfl, by decide +kernel, by decide +kernel⟩
theorem v_law_right__law_found : Vis (defScope s_law_right) "_law_found" := Or.inl (by decide +kernel)
theorem v_law_right__law_due : Vis (defScope s_law_right) "_law_due" := Or.inl (by decide +kernel)
theorem v_law_right__law_one : Vis (defScope s_law_right) "_law_one" := Or.inl (by decide +kernel)
theorem l_law_right__law_one : Loc (defScope s_law_right) "_law_one" := Or.inl (by decide +kernel)
theorem v_law_right__law_other : Vis (defScope s_law_right) "_law_other" := Or.inl (by decide +kernel)
theorem l_law_right__law_other : Loc (defScope s_law_right) "_law_other" := Or.inl (by decide +kernel)
theorem gl_law_right__law_entry : (defScope s_law_right).names.lookup ("_law_entry" : Str) = some .globalImplicit := by decide +kernel
theorem gl_law_right_isinstance : (defScope s_law_right).names.lookup ("isinstance" : Str) = some .globalImplicit := by decide +kernel
theorem gl_law_right_len : (defScope s_law_right).names.lookup ("len" : Str) = some .globalImplicit := by decide +kernel
theorem gl_law_right_list : (defScope s_law_right).names.lookup ("list" : Str) = some .globalImplicit := by decide +kernel
theorem gl_law_right_zip : (defScope s_law_right).names.lookup ("zip" : Str) = some .globalImplicit := by decide +kernel

abbrev s_law : Stmt := top 37
theorem sc_law : FnScope ["_law_script", "_law_names_here", "_law_steps", "_law_due", "_law_inputs", "_law_handed", "_law_found"] ["_law_script"] (defScope s_law) := ⟨rfl, rfl, rfl, by decide +kernel, rfl, by decide +kernel, by decide +kernel⟩
theorem v_law__law_script : Vis (defScope s_law) "_law_script" := Or.inr (Or.inl (by decide +kernel))
theorem l_law__law_names_here : Loc (defScope s_law) "_law_names_here" := Or.inr (by decide +kernel)
theorem v_law__law_steps : Vis (defScope s_law) "_law_steps" := Or.inl (by decide +kernel)
theorem k_law__law_steps : (defScope s_law).names.lookup ("_law_steps" : Str) = some .local := by decide +kernel
theorem v_law__law_due : Vis (defScope s_law) "_law_due" := Or.inl (by decide +kernel)
theorem l_law__law_due : Loc (defScope s_law) "_law_due" := Or.inl (by decide +kernel)
theorem v_law__law_inputs : Vis (defScope s_law) "_law_inputs" := Or.inl (by decide +kernel)
theorem k_law__law_inputs : (defScope s_law).names.lookup ("_law_inputs" : Str) = some .local := by decide +kernel
theorem v_law__law_handed : Vis (defScope s_law) "_law_handed" := Or.inl (by decide +kernel)
theorem l_law__law_handed : Loc (defScope s_law) "_law_handed" := Or.inl (by decide +kernel)
theorem v_law__law_found : Vis (defScope s_law) "_law_found" := Or.inl (by decide +kernel)
theorem l_law__law_found : Loc (defScope s_law) "_law_found" := Or.inl (by decide +kernel)
theorem gl_law__law_cell_at : (defScope s_law).names.lookup ("_law_cell_at" : Str) = some .globalImplicit := by decide +kernel
theorem gl_law__law_logged : (defScope s_law).names.lookup ("_law_logged" : Str) = some .globalImplicit := by decide +kernel
theorem gl_law__law_names : (defScope s_law).names.lookup ("_law_names" : Str) = some .globalImplicit := by decide +kernel
theorem gl_law__law_right : (defScope s_law).names.lookup ("_law_right" : Str) = some .globalImplicit := by decide +kernel
theorem gl_law_list : (defScope s_law).names.lookup ("list" : Str) = some .globalImplicit := by decide +kernel
theorem gl_law_range : (defScope s_law).names.lookup ("range" : Str) = some .globalImplicit := by decide +kernel
theorem gl_law_run_plain : (defScope s_law).names.lookup ("run_plain" : Str) = some .globalImplicit := by decide +kernel

/-! ### lines of programs -/
def closT (k : Str) : List Str := if k = "lend" then ["back"] else if k = "if" then ["else", "fi"] else if k = "while" then ["done"] else []
def PartIs : V → Str → Prop
  | .str y, x => x = y
  | .int i, x => i.natAbs.log2 < 1920 ∧ x = Str.ofString (toString i)
  | _, _ => False
def closed : List (List Str) → List Str → List Str
  | i :: is, c :: cs => (i ++ [c]) ++ closed is cs
  | _, _ => []
structure StepLs (LA : Addr → List Str → Prop) (H : Hp) (a : Addr) (kind : Str) (hs : List V) (ws : List Str) (bs : List Addr) (ins : List (List Str)) : Prop where
  at' : H a = some (.tup (.str kind :: hs ++ bs.map V.ref))
  parts : Paired PartIs hs ws
  size : ((kind :: ws).map (·.length)).sum + (kind :: ws).length ≤ 10000
  bl : bs.length = (closT kind).length
  inn : Paired LA bs ins
def stepLs (LA : Addr → List Str → Prop) (H : Hp) (a : Addr) (ls : List Str) : Prop := ∃ kind hs ws bs ins, StepLs LA H a kind hs ws bs ins ∧ ls = Txt.join " " (kind :: ws) :: closed ins (closT kind)
def LinesAt : Nat → Hp → Addr → List Str → Prop
  | 0 => fun _ _ _ => False
  | d + 1 => fun H p L => ∃ (as : List Addr) (Ls : List (List Str)), H p = some (.lst (as.map V.ref)) ∧ Paired (stepLs (LinesAt d H) H) as Ls ∧ L = Ls.flatten
theorem LinesAt.mono : ∀ (d : Nat) {H H' : Hp} {p : Addr} {L : List Str}, LinesAt d H p L → Same H H' → LinesAt d H' p L
  | 0, _, _, _, _, h, _ => h.elim
  | d + 1, H, H', p, L, ⟨as, Ls, h1, h2, h3⟩, sm => by
    refine ⟨as, Ls, sm _ _ h1, Paired.imp' (fun a ls z => ?_) h2, h3⟩
    obtain ⟨kind, hs, ws, bs, ins, z1, z2⟩ := z
    exact ⟨kind, hs, ws, bs, ins, ⟨sm _ _ z1.at', z1.parts, z1.size, z1.bl, Paired.imp' (fun b i y => LinesAt.mono d y sm) z1.inn⟩, z2⟩
theorem paired_at {α β : Type} {R : α → β → Prop} : ∀ {xs : List α} {ys : List β} {i : Nat} {x : α}, Paired R xs ys → xs[i]? = some x → ∃ y, ys[i]? = some y ∧ R x y
  | _, _, _, _, .nil, e => by simp at e
  | _, _, 0, _, .cons (b := b) h _, e => ⟨b, rfl, by have := Option.some.inj e; subst this; exact h⟩
  | _, _, i + 1, _, .cons _ t, e => by
    rw [List.getElem?_cons_succ] at e
    obtain ⟨y, h1, h2⟩ := paired_at t e
    exact ⟨y, by rw [List.getElem?_cons_succ]; exact h1, h2⟩
theorem paired_len {α β : Type} {R : α → β → Prop} : ∀ {xs : List α} {ys : List β}, Paired R xs ys → xs.length = ys.length
  | _, _, .nil => rfl
  | _, _, .cons _ t => by rw [List.length_cons, List.length_cons, paired_len t]
def spClosers (K : PySem.W.Frag) : Sp := fun vs H Q _ => ∃ k : Str, vs = [.str k] ∧ ∀ (p : Addr) (H' : Hp), Same H H' → SqT K H' p ((closT k).map V.str) → Q (.ref p) H'
def spHead (K : PySem.W.Frag) : Sp := fun vs H Q _ => ∃ (a : Addr) (k : Str) (xs : List V), vs = [.ref a] ∧ SqT K H a (.str k :: xs) ∧ (closT k).length ≤ xs.length + 1 ∧
  ∀ (p : Addr) (H' : Hp), Same H H' → SqT K H' p ((V.str k :: xs).take (xs.length + 1 - (closT k).length)) → Q (.ref p) H'
def spBlocks (K : PySem.W.Frag) : Sp := fun vs H Q _ => ∃ (a : Addr) (k : Str) (xs : List V), vs = [.ref a] ∧ SqT K H a (.str k :: xs) ∧ (closT k).length ≤ xs.length + 1 ∧
  ∀ (p : Addr) (H' : Hp), Same H H' → SqT K H' p ((V.str k :: xs).drop (xs.length + 1 - (closT k).length)) → Q (.ref p) H'
section
variable {P : Program} {w : World} {K : PySem.W.Frag} {mg : Str → Option Value} {base : Heap}
theorem ok_closers (D : DefAt K mg "closers_of" s_closers_of) {d a0 a1 a2 : Addr} (g_CLOSERS : mg "CLOSERS" = some (.ref d)) (m : ModD w K d [("lend", .ref a0), ("if", .ref a1), ("while", .ref a2)])
    (q0 : ∀ H : Hp, SqT K H a0 [.str "back"]) (q1 : ∀ H : Hp, SqT K H a1 [.str "else", .str "fi"]) (q2 : ∀ H : Hp, SqT K H a2 [.str "done"]) : Cal P w K mg base 1 "closers_of" ["kind"] (spClosers K) := by
  refine D.cal sc_closers_of (fun _ _ _ _ _ _ us hl => match us, hl with | [_], _ => rfl) (fun vs H Q E h => by obtain ⟨k, rfl, _⟩ := h; rfl) (fun f cdv A outer s H vs Q E hr h => ?_)
  obtain ⟨k, rfl, q⟩ := h
  refine ⟨_, (pss_one (ps_ret (pe_bmM w K PySem.F.plainAttrs_dict PySem.F.slot_dict_get PySem.F.type_dict_get (mt_getM w K) (pe_gref g_CLOSERS (hg := gl_closers_of_CLOSERS)) (pa_cons (pv 0 (hv := v_closers_of_kind)) (pa_cons (pe_tup pa_nil) pa_nil))))), ?_⟩
  walk_at "rd1"
  refine ⟨⟨d, _, rfl, m⟩, by decide, fun p hp => ?_⟩
  refine ⟨d, _, k, .ref p, rfl, rfl, m, ?_⟩
  have sm := same_new hp (.tup [])
  unfold closT at q
  by_cases h0 : k = "lend"
  · subst h0; exact q _ _ sm (q0 _)
  rw [if_neg h0] at q
  by_cases h1 : k = "if"
  · subst h1; exact q _ _ sm (q1 _)
  rw [if_neg h1] at q
  by_cases h2 : k = "while"
  · subst h2; exact q _ _ sm (q2 _)
  rw [if_neg h2] at q
  have e : valV [(("lend" : Str), V.ref a0), ("if", .ref a1), ("while", .ref a2)] k = none := by simp [valV, Ne.symm h0, Ne.symm h1, Ne.symm h2]
  rw [e]
  exact q _ _ sm (SqT.of upd_same)
theorem ok_head (D : DefAt K mg "head_of" s_head_of) (z_len : mg "len" = none) (c_closers_of : Cal P w K mg base 1 "closers_of" ["kind"] (spClosers K)) : Cal P w K mg base 2 "head_of" ["step"] (spHead K) := by
  refine D.cal sc_head_of (fun _ _ _ _ _ _ us hl => match us, hl with | [_], _ => rfl) (fun vs H Q E h => by obtain ⟨a, k, xs, rfl, _⟩ := h; rfl) (fun f cdv A outer s H vs Q E hr h => ?_)
  obtain ⟨a, k, xs, rfl, ha, hl, q⟩ := h
  refine ⟨_, (pss_one (ps_ret (pe_slice (sl_tupA K) (pv 0 (hv := v_head_of_step)) po_none (po_some (pe_op op_sub (pe_blt (call_lenK K) z_len bt_len (pa_cons (pv 0 (hv := v_head_of_step)) pa_nil) (hg := gl_head_of_len)) (pe_blt (call_lenK K) z_len bt_len (pa_cons (pe_cal c_closers_of hr (pa_cons (pe_ix (ix_K K) (pv 0 (hv := v_head_of_step)) pe_int (fun _ _ => rfl)) pa_nil) (hg := gl_head_of_closers_of)) pa_nil) (hg := gl_head_of_len))))))), ?_⟩
  walk_at "rd1"
  refine ⟨_, .inr ha, ?_⟩
  refine ⟨_, _, .inr ha, at0, ?_⟩
  refine ⟨k, rfl, fun p H1 sm1 hp => ?_⟩
  walk_at "rd1"
  refine ⟨_, .inr hp, ?_⟩
  walk_at "rd1"
  have e : ((xs.length + 1 : Nat) : Int) - ((((closT k).map V.str).length : Nat) : Int) = ((xs.length + 1 - (closT k).length : Nat) : Int) := by
    rw [List.length_map]; omega
  rw [e]
  refine rSlTA_of (ha.same sm1) fun p2 H2 sm2 h2 => q p2 H2 (sm1.trans sm2) ?_
  rw [cutV_to] at h2
  exact h2
theorem ok_blocks (D : DefAt K mg "blocks_of" s_blocks_of) (z_len : mg "len" = none) (c_head_of : Cal P w K mg base 2 "head_of" ["step"] (spHead K)) : Cal P w K mg base 3 "blocks_of" ["step"] (spBlocks K) := by
  refine D.cal sc_blocks_of (fun _ _ _ _ _ _ us hl => match us, hl with | [_], _ => rfl) (fun vs H Q E h => by obtain ⟨a, k, xs, rfl, _⟩ := h; rfl) (fun f cdv A outer s H vs Q E hr h => ?_)
  obtain ⟨a, k, xs, rfl, ha, hl, q⟩ := h
  refine ⟨_, (pss_one (ps_ret (pe_slice (sl_tupA K) (pv 0 (hv := v_blocks_of_step)) (po_some (pe_blt (call_lenK K) z_len bt_len (pa_cons (pe_cal c_head_of hr (pa_cons (pv 0 (hv := v_blocks_of_step)) pa_nil) (hg := gl_blocks_of_head_of)) pa_nil) (hg := gl_blocks_of_len))) po_none))), ?_⟩
  walk_at "rd1"
  refine ⟨a, k, xs, rfl, ha, hl, fun p H1 sm1 hp => ?_⟩
  walk_at "rd1"
  refine ⟨_, .inr hp, ?_⟩
  have e : (((V.str k :: xs).take (xs.length + 1 - (closT k).length)).length : Int) = ((xs.length + 1 - (closT k).length : Nat) : Int) := by
    rw [List.length_take, List.length_cons]; omega
  rw [e]
  refine rSlTA_of (ha.same sm1) fun p2 H2 sm2 h2 => q p2 H2 (sm1.trans sm2) ?_
  rw [cutV_from] at h2
  exact h2
end
/-! ### what the law draws: cells, mixed numbers, words, rules -/
abbrev letters : Str := "abcdefghijklmnopqrstuvwxyz"
def spLaw (K : PySem.W.Frag) : Sp := fun vs H Q _ => ∃ (a : Addr) (ns : List Int), vs = [.ref a] ∧ SqL K H a (ns.map V.int) ∧ ns.length ≤ 63 ∧ ∀ H', Q (.bl true) H'
def spCell (K : PySem.W.Frag) : Sp := fun vs H Q _ => ∃ (a : Addr) (ns : List Int) (k : Int), vs = [.ref a, .int k] ∧ SqL K H a (ns.map V.int) ∧ 0 ≤ k ∧ Q (.int (ns.getD k.toNat 0)) H
/-! texts glued of single signs -/
theorem fold_cps : ∀ (cs : List Nat) (acc : Array Nat), ((cs.map fun c => (⟨#[c]⟩ : Str)).foldl (fun acc p => acc ++ (Str.ofString "").cps ++ p.cps) acc).toList = acc.toList ++ cs
  | [], acc => by simp
  | c :: cs, acc => by
    rw [List.map_cons, List.foldl_cons, fold_cps cs]
    have e : (Str.ofString "").cps = #[] := by decide +kernel
    rw [e]; simp
theorem join_cps (cs : List Nat) : (Txt.join "" (cs.map fun c => (⟨#[c]⟩ : Str))).cps.toList = cs := by
  cases cs with
  | nil => rfl
  | cons c cs =>
    show (((c :: cs).map fun c => (⟨#[c]⟩ : Str)).drop 1 |>.foldl (fun acc p => acc ++ (Str.ofString "").cps ++ p.cps) (((c :: cs).map fun c => (⟨#[c]⟩ : Str)).headD Str.empty).cps).toList = c :: cs
    rw [List.map_cons, List.drop_one, List.tail_cons, fold_cps]; rfl
theorem join_len (cs : List Nat) : (Txt.join "" (cs.map fun c => (⟨#[c]⟩ : Str))).length = cs.length := by
  have e := congrArg List.length (join_cps cs)
  simpa [Str.length] using e
theorem sum_len_le (b : Nat) : ∀ (ss : List Str), (∀ s ∈ ss, s.length ≤ b) → (ss.map (·.length)).sum ≤ ss.length * b
  | [], _ => by simp
  | s :: ss, h => by
    have h1 := sum_len_le b ss fun x hx => h x (List.mem_cons_of_mem _ hx)
    have h2 := h s List.mem_cons_self
    rw [List.map_cons, List.sum_cons, List.length_cons, Nat.succ_mul]
    omega
theorem letter_at (z : Int) : ∃ c, letters.length ≤ sizeLine ∧ atI letters.cps.toList (z % 26) = some c ∧ c ∈ letters.cps.toList := by
  have hz : (z % 26).toNat < letters.cps.toList.length := by
    show (z % 26).toNat < 26
    omega
  refine ⟨letters.cps.toList[(z % 26).toNat], by decide, ?_, List.getElem_mem hz⟩
  have q := atI_nat (List.getElem?_eq_getElem hz)
  rwa [show (((z % 26).toNat : Nat) : Int) = z % 26 by omega] at q
theorem len_app1 (x : Str) (c : Nat) : (x ++ (⟨#[c]⟩ : Str)).length = x.length + 1 := by rw [Str.length_append]; rfl
section
variable {P : Program} {w : World} {K : PySem.W.Frag} {mg : Str → Option Value} {base : Heap}
theorem ok_cell (D : DefAt K mg "_law_cell_at" s_law_cell_at) (z_len : mg "len" = none) : Cal P w K mg base 1 "_law_cell_at" ["_law_script", "_law_k"] (spCell K) := by
  refine D.cal sc_law_cell_at (fun _ _ _ _ _ _ us hl => match us, hl with | [_, _], _ => rfl) (fun vs H Q E h => by obtain ⟨a, ns, k, rfl, _⟩ := h; rfl) (fun f cdv A outer s H vs Q E hr h => ?_)
  obtain ⟨a, ns, k, rfl, hS, h0, q⟩ := h
  refine ⟨_, (pss_cons (ps_if (pt_cmpR op_ltA (pv 1 (hv := v_law_cell_at__law_k)) (pe_blt (call_lenK K) z_len bt_len (pa_cons (pv 0 (hv := v_law_cell_at__law_script)) pa_nil) (hg := gl_law_cell_at_len)) (nomark _)) (pss_one (ps_ret (pe_ix (ix_K K) (pv 0 (hv := v_law_cell_at__law_script)) (pv 1 (hv := v_law_cell_at__law_k)) (fun _ _ => rfl)))) pss_nil)
      (pss_one (ps_ret pe_int))), ?_⟩
  walk_at "rd"
  refine ⟨_, .inl hS, ite2 (fun c => ?_) (fun c => ?_)⟩
  · rw [List.length_map] at c
    refine ⟨_, .int (ns.getD k.toNat 0), .inl hS, at_map h0 ?_, q⟩
    rw [List.getD_eq_getElem?_getD, List.getElem?_eq_getElem (by omega)]; rfl
  · rw [List.length_map] at c
    have e : ns.getD k.toNat 0 = 0 := by
      rw [List.getD_eq_getElem?_getD, List.getElem?_eq_none (by omega)]; rfl
    rw [e] at q; exact q
def spNames (many : Int → Int) : Sp := fun vs H Q _ => ∃ c : Int, vs = [.int c] ∧ ∀ (L : Addr) (H' : Hp) (ns : List Str), Same H H' → H L = none → H' L = some (.lst (ns.map V.str)) → 1 ≤ ns.length → ns.length ≤ 7 → (∀ x ∈ ns, x.length ≤ 20) → (ns.length : Int) = many c → Q (.ref L) H'
theorem cut_strs (ss : List Str) {z : Int} (h : 0 ≤ z) : cutV (ss.map V.str) none (some z) = (ss.take z.toNat).map V.str := by
  have e : z = (z.toNat : Int) := by omega
  rw [e, cutV_to, List.map_take]; rfl
end
theorem pick_at {ns : List Str} (hn : 1 ≤ ns.length) (z : Int) : ∃ x, x ∈ ns ∧ atI (ns.map V.str) (z % (ns.length : Int)) = some (.str x) := by
  have h0 : 0 ≤ z % (ns.length : Int) := Int.emod_nonneg _ (by omega)
  have h1 : z % (ns.length : Int) < ns.length := Int.emod_lt_of_pos _ (by omega)
  have hlt : (z % (ns.length : Int)).toNat < ns.length := by omega
  refine ⟨ns[(z % (ns.length : Int)).toNat], List.getElem_mem hlt, at_map h0 (List.getElem?_eq_getElem hlt)⟩
def plainKinds : List Str := ["open", "copy", "drop", "tie", "do"]
structure PlainW (ws : List Str) : Prop where
  two : 2 ≤ ws.length
  three : ws.length ≤ 3
  kind : ws.headD "" ∈ plainKinds
  len : ∀ x ∈ ws, x.length ≤ 20
def Plain (H : Hp) (a : Addr) (ws : List Str) : Prop := H a = some (.tup (ws.map V.str)) ∧ PlainW ws
def cutS {α : Type} (xs : List α) (lo hi : Option Int) : List α := (xs.drop (HT.sIx xs.length 0 lo)).take (HT.sIx xs.length xs.length hi - HT.sIx xs.length 0 lo)
theorem cut_map {α : Type} (f : α → V) (xs : List α) (lo hi : Option Int) : cutV (xs.map f) lo hi = (cutS xs lo hi).map f := by
  unfold cutV cutS
  rw [List.length_map, List.map_take, List.map_drop]
theorem cutS_len {α : Type} (xs : List α) (lo hi : Option Int) : (cutS xs lo hi).length ≤ xs.length := by
  unfold cutS
  rw [List.length_take, List.length_drop]
  omega
theorem strs_flat (x : List Str) : ∀ v ∈ x.map V.str, flatV v = true := by
  intro v hv
  obtain ⟨o, _, rfl⟩ := List.mem_map.mp hv
  rfl
theorem Plain.mono {H H' : Hp} {a : Addr} {ws : List Str} (h : Plain H a ws) (sm : Same H H') : Plain H' a ws := ⟨sm _ _ h.1, h.2⟩
theorem paired_snoc {α β : Type} {R : α → β → Prop} {x : α} {y : β} (hxy : R x y) : ∀ {xs : List α} {ys : List β}, Paired R xs ys → Paired R (xs ++ [x]) (ys ++ [y])
  | _, _, .nil => .cons hxy .nil
  | _, _, .cons h t => .cons h (paired_snoc hxy t)
/-! ### programs as trees -/
inductive Stp where
  | plain (ws : List Str)
  | lend (x y : Str) (b : List Stp)
  | ite (n : Int) (b c : List Stp)
  | whl (n : Int) (b : List Stp)
def okS (f : List Stp → Prop) : Stp → Prop
  | .plain ws => PlainW ws
  | .lend x y b => x.length ≤ 20 ∧ y.length ≤ 20 ∧ f b
  | .ite n b c => n.natAbs.log2 < 1920 ∧ f b ∧ f c
  | .whl n b => n.natAbs.log2 < 1920 ∧ f b
def okT : Nat → List Stp → Prop
  | 0, _ => False
  | d + 1, T => ∀ s ∈ T, okS (okT d) s
def stpAt (PA : Addr → List Stp → Prop) (H : Hp) (a : Addr) : Stp → Prop
  | .plain ws => H a = some (.tup (ws.map V.str))
  | .lend x y b => ∃ q, H a = some (.tup [.str "lend", .str x, .str y, .ref q]) ∧ PA q b
  | .ite n b c => ∃ q r, H a = some (.tup [.str "if", .int n, .ref q, .ref r]) ∧ PA q b ∧ PA r c
  | .whl n b => ∃ q, H a = some (.tup [.str "while", .int n, .ref q]) ∧ PA q b
def ProgAt (S : Addr → Prop) : Nat → Hp → Addr → List Stp → Prop
  | 0 => fun _ _ _ => False
  | d + 1 => fun H p T => S p ∧ ∃ as : List Addr, H p = some (.lst (as.map V.ref)) ∧ Paired (stpAt (ProgAt S d H) H) as T
theorem stpAt.imp {PA PA' : Addr → List Stp → Prop} {H H' : Hp} {a : Addr} (ht : ∀ b xs, H b = some (.tup xs) → H' b = some (.tup xs)) (hp : ∀ q b, PA q b → PA' q b) : ∀ {s : Stp}, stpAt PA H a s → stpAt PA' H' a s
  | .plain _, h => ht _ _ h
  | .lend _ _ _, ⟨q, h, z⟩ => ⟨q, ht _ _ h, hp _ _ z⟩
  | .ite _ _ _, ⟨q, r, h, z, y⟩ => ⟨q, r, ht _ _ h, hp _ _ z, hp _ _ y⟩
  | .whl _ _, ⟨q, h, z⟩ => ⟨q, ht _ _ h, hp _ _ z⟩
theorem ProgAt.imp {S S' : Addr → Prop} {H H' : Hp} (ht : ∀ b xs, H b = some (.tup xs) → H' b = some (.tup xs)) (hl : ∀ b xs, S b → H b = some (.lst xs) → H' b = some (.lst xs)) (hS : ∀ b, S b → S' b) :
    ∀ (d : Nat) {p : Addr} {T : List Stp}, ProgAt S d H p T → ProgAt S' d H' p T
  | 0, _, _, h => h.elim
  | d + 1, p, T, ⟨h0, as, h1, h2⟩ => ⟨hS _ h0, as, hl _ _ h0 h1, Paired.imp' (fun a s z => z.imp ht fun q b y => ProgAt.imp ht hl hS d y) h2⟩
theorem ProgAt.mono {S : Addr → Prop} {H H' : Hp} {d : Nat} {p : Addr} {T : List Stp} (h : ProgAt S d H p T) (sm : Same H H') : ProgAt S d H' p T := h.imp (fun b xs e => sm _ _ e) (fun b xs _ e => sm _ _ e) (fun _ z => z) d
/-! ### numbered lines, and runs told without a heap -/
def cntS (f : List Stp → Nat) : Stp → Nat
  | .plain _ => 1
  | .lend _ _ b => f b + 2
  | .ite _ b c => f b + f c + 3
  | .whl _ b => f b + 2
def cntT : Nat → List Stp → Nat
  | 0, _ => 0
  | d + 1, T => (T.map (cntS (cntT d))).sum
def numL (f : Stp → Nat) : Nat → List Stp → List (Nat × Stp)
  | _, [] => []
  | l, s :: T => (l, s) :: numL f (l + f s) T
theorem numL_snoc (f : Stp → Nat) (s : Stp) : ∀ (l : Nat) (T : List Stp), numL f l (T ++ [s]) = numL f l T ++ [(l + (T.map f).sum, s)]
  | l, [] => by simp [numL]
  | l, t :: T => by
    show (l, t) :: numL f (l + f t) (T ++ [s]) = (l, t) :: numL f (l + f t) T ++ [(l + (f t + (T.map f).sum), s)]
    rw [numL_snoc f s (l + f t) T, Nat.add_assoc]; rfl
theorem numL_len (f : Stp → Nat) : ∀ (l : Nat) (T : List Stp), (numL f l T).length = T.length
  | _, [] => rfl
  | l, s :: T => by show (numL f (l + f s) T).length + 1 = T.length + 1; rw [numL_len f _ T]
theorem numL_at (f : Stp → Nat) : ∀ (l : Nat) (T : List Stp) (i : Nat) (s : Stp), T[i]? = some s → (numL f l T)[i]? = some (l + ((T.take i).map f).sum, s)
  | _, [], _, _, h => by simp at h
  | l, t :: T, 0, s, h => by
    have e : t = s := by simpa using h
    subst e; simp [numL]
  | l, t :: T, i + 1, s, h => by
    have h' : T[i]? = some s := by simpa using h
    have ih := numL_at f (l + f t) T i s h'
    show (numL f (l + f t) T)[i]? = _
    rw [ih, List.take_succ_cons, List.map_cons, List.sum_cons, Nat.add_assoc]
def kindOf : Stp → Str
  | .plain ws => ws.headD ""
  | .lend _ _ _ => "lend"
  | .ite _ _ _ => "if"
  | .whl _ _ => "while"
def partsOf : Stp → List V
  | .plain ws => (ws.drop 1).map V.str
  | .lend x y _ => [.str x, .str y]
  | .ite n _ _ => [.int n]
  | .whl n _ => [.int n]
def blksOf (f : List Stp → Nat) (l : Nat) : Stp → List (Nat × List Stp)
  | .plain _ => []
  | .lend _ _ b => [(l + 1, b)]
  | .ite _ b c => [(l + 1, b), (l + 1 + f b + 1, c)]
  | .whl _ b => [(l + 1, b)]
def linesOf (f : List Stp → Nat) (l : Nat) (s : Stp) : List Nat := l :: (blksOf f l s).map fun z => z.1 + f z.2
theorem blk_line {f : List Stp → Nat} {l : Nat} : ∀ {s : Stp} {j : Nat} {z : Nat × List Stp}, (blksOf f l s)[j]? = some z → ∃ y, (linesOf f l s)[j]? = some y ∧ z.1 = y + 1
  | .plain _, j, z, h => by simp [blksOf] at h
  | .lend _ _ b, 0, z, h => by cases h; exact ⟨l, rfl, rfl⟩
  | .lend _ _ b, j + 1, z, h => by simp [blksOf] at h
  | .ite _ b c, 0, z, h => by cases h; exact ⟨l, rfl, rfl⟩
  | .ite _ b c, 1, z, h => by cases h; exact ⟨l + 1 + f b, rfl, rfl⟩
  | .ite _ b c, j + 2, z, h => by simp [blksOf] at h
  | .whl _ b, 0, z, h => by cases h; exact ⟨l, rfl, rfl⟩
  | .whl _ b, j + 1, z, h => by simp [blksOf] at h
theorem lines_last {f : List Stp → Nat} {l : Nat} : ∀ {s : Stp}, (linesOf f l s).getLast? = some (l + cntS f s - 1) ∧ 1 ≤ cntS f s
  | .plain _ => by simp [linesOf, blksOf, cntS]
  | .lend _ _ b => by simp [linesOf, blksOf, cntS]; omega
  | .ite _ b c => by simp [linesOf, blksOf, cntS]; omega
  | .whl _ b => by simp [linesOf, blksOf, cntS]; omega
/-- a handle or nothing, as it stands under a name -/
def hV : Option Nat → V
  | none => .non
  | some n => .int n
structure RS where
  taken : Nat
  last : Int
  opened : Nat
  held : List (Key × V)
  log : List (List V)
def RS.sz (st : RS) : Nat := st.log.length + st.held.length + st.opened
def getH (st : RS) (k : Key) : Option Nat := match valV st.held k with
  | some (.int n) => some n.toNat
  | _ => none
def holdR (k : Key) (h : Option Nat) (st : RS) : RS := { st with held := putK st.held k (hV h) }
def deedR (l : Nat) (h : Option Nat) (w : Str) (st : RS) : RS := match h with
  | none => st
  | some n => { st with log := st.log ++ [[.int l, .int n, .str w, .int st.last]] }
def openR (l : Nat) (k : Key) (st : RS) : RS := holdR k (some st.opened) (deedR l (some st.opened) "open" { st with opened := st.opened + 1 })
def tieR (l : Nat) (a b : Option Nat) (st : RS) : RS := match a, b with
  | some n, some m => if n = m then st else { st with log := st.log ++ [[.int l, .int n, .int m]] }
  | _, _ => st
def takeR (xs : List Int) (n : Int) (st : RS) : Bool × RS := match xs[st.taken]? with
  | none => (false, st)
  | some v => (decide (n < v), { st with taken := st.taken + 1, last := v })
def endR (l : Nat) (st : RS) : RS := { st with log := st.log ++ (List.range st.opened).map fun (h : Nat) => ([.int l, .int h, .str "end", .int st.last] : List V) }
def plainR (l : Nat) (ws : List Str) (st : RS) : RS := match ws with
  | [k, x] => if k = "open" then openR l (.inr x) st else holdR (.inr x) none st
  | [k, x, y] => if k = "do" then deedR l (getH st (.inr y)) x st else if k = "copy" then holdR (.inr x) (getH st (.inr y)) st else tieR l (getH st (.inr x)) (getH st (.inr y)) st
  | _ => st
inductive PlainX : List Str → Prop
  | op (x : Str) : PlainX ["open", x]
  | dr (x : Str) : PlainX ["drop", x]
  | dd (u x : Str) : PlainX ["do", u, x]
  | cp (x y : Str) : PlainX ["copy", x, y]
  | ti (x y : Str) : PlainX ["tie", x, y]
def shpS (f : List Stp → Prop) : Stp → Prop
  | .plain ws => PlainX ws
  | .lend _ _ b => f b
  | .ite _ b c => f b ∧ f c
  | .whl _ b => f b
def shpT : Nat → List Stp → Prop
  | 0, _ => False
  | d + 1, T => ∀ s ∈ T, shpS (shpT d) s
def loopR (f : RS → RS) (xs : List Int) (n : Int) : Nat → RS → RS
  | 0, st => st
  | m + 1, st => if (takeR xs n st).1 = true then loopR f xs n m (f (takeR xs n st).2) else (takeR xs n st).2
def stepR (f : List Stp → Nat) (g : Nat → List Stp → RS → RS) (xs : List Int) (l : Nat) : Stp → RS → RS
  | .plain ws, st => plainR l ws st
  | .lend x y b, st => holdR (.inr y) none (deedR (l + 1 + f b) (getH st (.inr x)) "back" (g (l + 1) b (holdR (.inr y) (getH st (.inr x)) (deedR l (getH st (.inr x)) "lend" st))))
  | .ite n b c, st => if (takeR xs n st).1 = true then g (l + 1) b (takeR xs n st).2 else g (l + 1 + f b + 1) c (takeR xs n st).2
  | .whl n b, st => loopR (g (l + 1) b) xs n xs.length st
def runT (xs : List Int) : Nat → Nat → List Stp → RS → RS
  | 0, _, _, st => st
  | d + 1, l, T, st => (numL (cntS (cntT d)) l T).foldl (fun st z => stepR (cntT d) (runT xs d) xs z.1 z.2 st) st
def rs0 : RS := ⟨0, 0, 0, [], []⟩
/-- names hold handles or nothing -/
def GoodR (st : RS) : Prop := ∀ k v, valV st.held k = some v → ∃ h, v = hV h
theorem GoodR.get {st : RS} (g : GoodR st) (k : Key) : (valV st.held k).getD .non = hV (getH st k) := by
  unfold getH
  cases e : valV st.held k with
  | none => rfl
  | some v =>
    obtain ⟨h, rfl⟩ := g k v e
    cases h with
    | none => rfl
    | some n => show V.int n = V.int ((Int.toNat (n : Int) : Nat) : Int); rw [Int.toNat_natCast]
theorem getH_hold (k j : Key) (h : Option Nat) (st : RS) : getH (holdR k h st) j = if j = k then h else getH st j := by
  unfold getH holdR
  rw [valV_put]
  by_cases e : j = k
  · rw [if_pos e, if_pos e]
    cases h with
    | none => rfl
    | some n => show some (Int.toNat (n : Int)) = some n; rw [Int.toNat_natCast]
  · rw [if_neg e, if_neg e]
theorem GoodR.hold {st : RS} (g : GoodR st) (k : Key) (h : Option Nat) : GoodR (holdR k h st) := fun j v e => by
  have e' : (if j = k then some (hV h) else valV st.held j) = some v := by rw [← valV_put]; exact e
  by_cases hj : j = k
  · rw [if_pos hj] at e'; exact ⟨h, (Option.some.inj e').symm⟩
  · rw [if_neg hj] at e'; exact g j v e'
theorem deedR_held (l : Nat) (h : Option Nat) (w : Str) (st : RS) : (deedR l h w st).held = st.held := by cases h <;> rfl
theorem GoodR.of {st st' : RS} (g : GoodR st) (e : st'.held = st.held) : GoodR st' := fun k v h => g k v (by rw [← e]; exact h)
theorem len_putK (kvs : List (Key × V)) (k : Key) (v : V) : kvs.length ≤ (putK kvs k v).length := by
  unfold putK; split
  · rw [List.length_map]; exact Nat.le_refl _
  · rw [List.length_append]; omega
/-- more is taken, more stands there -/
def UpR (a b : RS) : Prop := a.taken ≤ b.taken ∧ a.sz ≤ b.sz
theorem UpR.refl (a : RS) : UpR a a := ⟨Nat.le_refl _, Nat.le_refl _⟩
theorem UpR.trans {a b c : RS} (h : UpR a b) (k : UpR b c) : UpR a c := ⟨Nat.le_trans h.1 k.1, Nat.le_trans h.2 k.2⟩
theorem up_hold (k : Key) (h : Option Nat) (st : RS) : UpR st (holdR k h st) := ⟨Nat.le_refl _, by have := len_putK st.held k (hV h); simp only [RS.sz, holdR]; omega⟩
theorem up_deed (l : Nat) (h : Option Nat) (w : Str) (st : RS) : UpR st (deedR l h w st) := by
  cases h with
  | none => exact UpR.refl _
  | some n => exact ⟨Nat.le_refl _, by simp only [RS.sz, deedR, List.length_append]; omega⟩
theorem up_open (l : Nat) (k : Key) (st : RS) : UpR st (openR l k st) :=
  UpR.trans (b := { st with opened := st.opened + 1 }) ⟨Nat.le_refl _, by simp only [RS.sz]; omega⟩ (UpR.trans (up_deed l (some st.opened) "open" _) (up_hold k _ _))
theorem up_tie (l : Nat) (a b : Option Nat) (st : RS) : UpR st (tieR l a b st) := by
  unfold tieR; split
  · split
    · exact UpR.refl _
    · exact ⟨Nat.le_refl _, by simp only [RS.sz, List.length_append]; omega⟩
  · exact UpR.refl _
theorem up_take (xs : List Int) (n : Int) (st : RS) : UpR st (takeR xs n st).2 := by
  unfold takeR; split
  · exact UpR.refl _
  · exact ⟨Nat.le_succ _, Nat.le_refl _⟩
theorem up_plain (l : Nat) (ws : List Str) (st : RS) : UpR st (plainR l ws st) := by
  unfold plainR; split
  · split
    · exact up_open _ _ _
    · exact up_hold _ _ _
  · split
    · exact up_deed _ _ _ _
    · split
      · exact up_hold _ _ _
      · exact up_tie _ _ _ _
  · exact UpR.refl _
theorem up_loop {f : RS → RS} (hf : ∀ st, UpR st (f st)) (xs : List Int) (n : Int) : ∀ (m : Nat) (st : RS), UpR st (loopR f xs n m st)
  | 0, st => UpR.refl _
  | m + 1, st => by
    unfold loopR; split
    · exact (up_take xs n st).trans ((hf _).trans (up_loop hf xs n m _))
    · exact up_take xs n st
theorem up_step {f : List Stp → Nat} {g : Nat → List Stp → RS → RS} (hg : ∀ l T st, UpR st (g l T st)) (xs : List Int) (l : Nat) : ∀ (s : Stp) (st : RS), UpR st (stepR f g xs l s st)
  | .plain ws, st => up_plain _ _ _
  | .lend x y b, st => (up_deed l _ "lend" st).trans ((up_hold _ _ _).trans ((hg _ _ _).trans ((up_deed _ _ "back" _).trans (up_hold _ _ _))))
  | .ite n b c, st => by
    show UpR st (if (takeR xs n st).1 = true then _ else _)
    split
    · exact (up_take xs n st).trans (hg _ _ _)
    · exact (up_take xs n st).trans (hg _ _ _)
  | .whl n b, st => up_loop (hg _ _) xs n _ _
theorem up_fold {α : Type} {h : RS → α → RS} (hh : ∀ st z, UpR st (h st z)) : ∀ (zs : List α) (st : RS), UpR st (zs.foldl h st)
  | [], st => UpR.refl _
  | z :: zs, st => (hh st z).trans (up_fold hh zs _)
theorem up_run (xs : List Int) : ∀ (d l : Nat) (T : List Stp) (st : RS), UpR st (runT xs d l T st)
  | 0, _, _, st => UpR.refl _
  | d + 1, l, T, st => up_fold (fun st (z : Nat × Stp) => up_step (f := cntT d) (up_run xs d) xs z.1 z.2 st) _ _
/-- how much it may grow -/
def GrR (n c : Nat) (a b : RS) : Prop := ∃ δ, b.taken = a.taken + δ ∧ b.sz ≤ a.sz + c * (δ + 1) ∧ (a.taken ≤ n → b.taken ≤ n)
theorem GrR.seq {n c c' : Nat} {x y z : RS} (h : GrR n c x y) (k : GrR n c' y z) : GrR n (c + c') x z := by
  obtain ⟨δ, h1, h2, h3⟩ := h
  obtain ⟨ε, k1, k2, k3⟩ := k
  refine ⟨δ + ε, by omega, ?_, fun q => k3 (h3 q)⟩
  have e1 : c * (δ + 1) ≤ c * (δ + ε + 1) := Nat.mul_le_mul (Nat.le_refl _) (by omega)
  have e2 : c' * (ε + 1) ≤ c' * (δ + ε + 1) := Nat.mul_le_mul (Nat.le_refl _) (by omega)
  have e3 : (c + c') * (δ + ε + 1) = c * (δ + ε + 1) + c' * (δ + ε + 1) := Nat.add_mul _ _ _
  omega
theorem GrR.up {n c c' : Nat} {x y : RS} (h : GrR n c x y) (k : c ≤ c') : GrR n c' x y := by
  obtain ⟨δ, h1, h2, h3⟩ := h
  have e := Nat.mul_le_mul k (Nat.le_refl (δ + 1))
  exact ⟨δ, h1, by omega, h3⟩
theorem gr_hold (n : Nat) (k : Key) (h : Option Nat) (st : RS) : GrR n 1 st (holdR k h st) := ⟨0, rfl, by have := length_putK st.held k (hV h); simp only [RS.sz, holdR]; omega, fun q => q⟩
theorem gr_deed (n : Nat) (l : Nat) (h : Option Nat) (w : Str) (st : RS) : GrR n 1 st (deedR l h w st) := by
  cases h with
  | none => exact ⟨0, rfl, Nat.le_add_right _ _, fun q => q⟩
  | some m => exact ⟨0, rfl, by simp only [RS.sz, deedR, List.length_append, List.length_cons, List.length_nil]; omega, fun q => q⟩
theorem gr_tie (n : Nat) (l : Nat) (a b : Option Nat) (st : RS) : GrR n 1 st (tieR l a b st) := by
  unfold tieR; split
  · split
    · exact ⟨0, rfl, Nat.le_add_right _ _, fun q => q⟩
    · exact ⟨0, rfl, by simp only [RS.sz, List.length_append, List.length_cons, List.length_nil]; omega, fun q => q⟩
  · exact ⟨0, rfl, Nat.le_add_right _ _, fun q => q⟩
theorem gr_open (n : Nat) (l : Nat) (k : Key) (st : RS) : GrR n 3 st (openR l k st) :=
  GrR.seq (c := 1) (y := { st with opened := st.opened + 1 }) ⟨0, rfl, by simp only [RS.sz]; omega, fun q => q⟩ (GrR.seq (c := 1) (c' := 1) (gr_deed n l (some st.opened) "open" _) (gr_hold n k _ _))
theorem gr_plain (n : Nat) (l : Nat) (ws : List Str) (st : RS) : GrR n 3 st (plainR l ws st) := by
  unfold plainR; split
  · split
    · exact gr_open _ _ _ _
    · exact (gr_hold _ _ _ _).up (by decide)
  · split
    · exact (gr_deed _ _ _ _ _).up (by decide)
    · split
      · exact (gr_hold _ _ _ _).up (by decide)
      · exact (gr_tie _ _ _ _ _).up (by decide)
  · exact ⟨0, rfl, Nat.le_add_right _ _, fun q => q⟩
theorem take_some {xs : List Int} {n : Int} {st : RS} (h : (takeR xs n st).1 = true) : (takeR xs n st).2.taken = st.taken + 1 ∧ st.taken < xs.length ∧ (takeR xs n st).2.sz = st.sz := by
  unfold takeR at h ⊢
  split at h
  · cases h
  · rename_i v e
    have := (List.getElem?_eq_some_iff.mp e).1
    exact ⟨rfl, this, rfl⟩
theorem take_any (xs : List Int) (n : Int) (st : RS) : (∃ δ, (takeR xs n st).2.taken = st.taken + δ) ∧ (takeR xs n st).2.sz = st.sz ∧ (st.taken ≤ xs.length → (takeR xs n st).2.taken ≤ xs.length) := by
  unfold takeR
  split
  · exact ⟨⟨0, rfl⟩, rfl, fun q => q⟩
  · rename_i v e
    have := (List.getElem?_eq_some_iff.mp e).1
    exact ⟨⟨1, rfl⟩, rfl, fun q => this⟩
theorem gr_take (xs : List Int) (n : Int) (st : RS) : GrR xs.length 0 st (takeR xs n st).2 := by
  obtain ⟨⟨δ, h1⟩, h2, h3⟩ := take_any xs n st
  exact ⟨δ, h1, by omega, h3⟩
theorem gr_loop {f : RS → RS} {xs : List Int} {c : Nat} (hf : ∀ st, GrR xs.length c st (f st)) (n : Int) : ∀ (m : Nat) (st : RS), ∃ δ, (loopR f xs n m st).taken = st.taken + δ ∧ (loopR f xs n m st).sz ≤ st.sz + c * δ ∧ (st.taken ≤ xs.length → (loopR f xs n m st).taken ≤ xs.length)
  | 0, st => ⟨0, rfl, Nat.le_add_right _ _, fun q => q⟩
  | m + 1, st => by
    unfold loopR; split
    · rename_i hh
      obtain ⟨a1, a2, a3⟩ := take_some hh
      obtain ⟨δ, h1, h2, h3⟩ := hf (takeR xs n st).2
      obtain ⟨ε, k1, k2, k3⟩ := gr_loop hf n m (f (takeR xs n st).2)
      refine ⟨1 + δ + ε, by omega, ?_, fun q => k3 (h3 (by omega))⟩
      have e : c * (1 + δ + ε) = c * (δ + 1) + c * ε := by rw [← Nat.mul_add]; congr 1; omega
      omega
    · obtain ⟨⟨δ, h1⟩, h2, h3⟩ := take_any xs n st
      exact ⟨δ, h1, by omega, h3⟩
theorem gr_step {xs : List Int} {f : List Stp → Nat} {g : Nat → List Stp → RS → RS} (hg : ∀ l T st, GrR xs.length (3 * f T) st (g l T st)) (l : Nat) : ∀ (s : Stp) (st : RS), GrR xs.length (3 * cntS f s) st (stepR f g xs l s st)
  | .plain ws, st => gr_plain _ _ _ _
  | .lend x y b, st => GrR.up (((gr_deed _ l _ "lend" st).seq ((gr_hold _ _ _ _).seq ((hg _ _ _).seq ((gr_deed _ _ _ "back" _).seq (gr_hold _ _ _ _)))))) (by simp only [cntS]; omega)
  | .ite n b c, st => by
    show GrR _ _ st (if (takeR xs n st).1 = true then _ else _)
    split
    · exact GrR.up ((gr_take xs n st).seq (hg _ _ _)) (by simp only [cntS]; omega)
    · exact GrR.up ((gr_take xs n st).seq (hg _ _ _)) (by simp only [cntS]; omega)
  | .whl n b, st => by
    obtain ⟨δ, h1, h2, h3⟩ := gr_loop (hg (l + 1) b) n xs.length st
    refine ⟨δ, h1, Nat.le_trans h2 ?_, h3⟩
    have : 3 * f b * δ ≤ 3 * cntS f (.whl n b) * (δ + 1) := Nat.mul_le_mul (by simp only [cntS]; omega) (by omega)
    omega
theorem gr_fold {n : Nat} {α : Type} {h : RS → α → RS} {c : α → Nat} (hh : ∀ st z, GrR n (c z) st (h st z)) : ∀ (zs : List α) (st : RS), GrR n (zs.map c).sum st (zs.foldl h st)
  | [], st => ⟨0, rfl, Nat.le_add_right _ _, fun q => q⟩
  | z :: zs, st => (hh st z).seq (gr_fold hh zs _)
theorem numL_sum (f : Stp → Nat) : ∀ (l : Nat) (T : List Stp), ((numL f l T).map fun z => 3 * f z.2).sum = 3 * (T.map f).sum
  | _, [] => rfl
  | l, s :: T => by
    show 3 * f s + ((numL f (l + f s) T).map fun z => 3 * f z.2).sum = 3 * (f s + (T.map f).sum)
    rw [numL_sum f _ T]; omega
theorem gr_run (xs : List Int) : ∀ (d l : Nat) (T : List Stp) (st : RS), GrR xs.length (3 * cntT d T) st (runT xs d l T st)
  | 0, _, _, st => ⟨0, rfl, Nat.le_add_right _ _, fun q => q⟩
  | d + 1, l, T, st => by
    have := gr_fold (n := xs.length) (c := fun z : Nat × Stp => 3 * cntS (cntT d) z.2) (h := fun st z => stepR (cntT d) (runT xs d) xs z.1 z.2 st) (fun st z => gr_step (gr_run xs d) z.1 z.2 st) (numL (cntS (cntT d)) l T) st
    rw [numL_sum] at this
    exact this
def outR (xs : List Int) (d : Nat) (T : List Stp) : RS := endR (cntT d T) (runT xs d 0 T rs0)
theorem out_sz (xs : List Int) (d : Nat) (T : List Stp) : (runT xs d 0 T rs0).sz ≤ 3 * cntT d T * (xs.length + 1) := by
  obtain ⟨δ, h1, h2, h3⟩ := gr_run xs d 0 T rs0
  have h4 := h3 (Nat.zero_le _)
  have h0 : rs0.taken = 0 := rfl
  have h00 : rs0.sz = 0 := rfl
  have : 3 * cntT d T * (δ + 1) ≤ 3 * cntT d T * (xs.length + 1) := Nat.mul_le_mul (Nat.le_refl _) (by omega)
  omega
/-! ### what stays along a run -/
structure ClosedR (xs : List Int) (P : RS → Prop) : Prop where
  hold : ∀ k h st, P st → P (holdR k h st)
  deed : ∀ l h w st, P st → P (deedR l h w st)
  tie : ∀ l a b st, P st → P (tieR l a b st)
  opn : ∀ l k st, P st → P (openR l k st)
  take : ∀ n st, P st → P (takeR xs n st).2
theorem ClosedR.plain {xs : List Int} {P : RS → Prop} (c : ClosedR xs P) (l : Nat) (ws : List Str) (st : RS) (h : P st) : P (plainR l ws st) := by
  unfold plainR; split
  · split
    · exact c.opn _ _ _ h
    · exact c.hold _ _ _ h
  · split
    · exact c.deed _ _ _ _ h
    · split
      · exact c.hold _ _ _ h
      · exact c.tie _ _ _ _ h
  · exact h
theorem ClosedR.loop {xs : List Int} {P : RS → Prop} (c : ClosedR xs P) {f : RS → RS} (hf : ∀ st, P st → P (f st)) (n : Int) : ∀ (m : Nat) (st : RS), P st → P (loopR f xs n m st)
  | 0, _, h => h
  | m + 1, st, h => by
    unfold loopR; split
    · exact c.loop hf n m _ (hf _ (c.take n st h))
    · exact c.take n st h
theorem ClosedR.step {xs : List Int} {P : RS → Prop} (c : ClosedR xs P) {f : List Stp → Nat} {g : Nat → List Stp → RS → RS} (hg : ∀ l T st, P st → P (g l T st)) (l : Nat) : ∀ (s : Stp) (st : RS), P st → P (stepR f g xs l s st)
  | .plain ws, st, h => c.plain l ws st h
  | .lend x y b, st, h => c.hold _ _ _ (c.deed _ _ _ _ (hg _ _ _ (c.hold _ _ _ (c.deed _ _ _ _ h))))
  | .ite n b e, st, h => by
    show P (if (takeR xs n st).1 = true then _ else _)
    split
    · exact hg _ _ _ (c.take n st h)
    · exact hg _ _ _ (c.take n st h)
  | .whl n b, st, h => c.loop (hg _ _) n _ _ h
theorem fold_inv {α : Type} {P : RS → Prop} {h : RS → α → RS} (hh : ∀ st z, P st → P (h st z)) : ∀ (zs : List α) (st : RS), P st → P (zs.foldl h st)
  | [], _, g => g
  | z :: zs, st, g => fold_inv hh zs _ (hh st z g)
theorem ClosedR.run {xs : List Int} {P : RS → Prop} (c : ClosedR xs P) : ∀ (d l : Nat) (T : List Stp) (st : RS), P st → P (runT xs d l T st)
  | 0, _, _, _, h => h
  | d + 1, l, T, st, h => fold_inv (fun st (z : Nat × Stp) k => c.step (f := cntT d) (c.run d) z.1 z.2 st k) _ _ h
/-- entries of a log -/
inductive EntOk : List V → Prop
  | deed (l h : Nat) (w : Str) (n : Int) : EntOk [.int l, .int h, .str w, .int n]
  | tie (l a b : Nat) : EntOk [.int l, .int a, .int b]
def LogOk (st : RS) : Prop := ∀ e ∈ st.log, EntOk e
theorem LogOk.add {st : RS} (h : LogOk st) {e : List V} (he : EntOk e) : LogOk { st with log := st.log ++ [e] } := fun x hx => by
  rcases List.mem_append.mp hx with z | z
  · exact h x z
  · rw [List.mem_singleton.mp z]; exact he
theorem log_closed (xs : List Int) : ClosedR xs LogOk where
  hold := fun k h st z => z
  deed := fun l h w st z => by
    cases h with
    | none => exact z
    | some n => exact LogOk.add z (.deed l n w st.last)
  tie := fun l a b st z => by
    unfold tieR; split
    · split
      · exact z
      · exact LogOk.add z (.tie l _ _)
    · exact z
  opn := fun l k st z => LogOk.add (st := { st with opened := st.opened + 1 }) z (.deed l st.opened "open" st.last)
  take := fun n st z => by unfold takeR; split <;> exact z
theorem log_end {l : Nat} {st : RS} (h : LogOk st) : LogOk (endR l st) := fun x hx => by
  rcases List.mem_append.mp hx with z | z
  · exact h x z
  · obtain ⟨n, _, rfl⟩ := List.mem_map.mp z; exact .deed l n "end" st.last
theorem out_log (xs : List Int) (d : Nat) (T : List Stp) : LogOk (outR xs d T) := log_end ((log_closed xs).run d 0 T rs0 (fun x hx => by cases hx))
/-- plain steps alone -/
def plainsR : Nat → List (List Str) → RS → RS
  | _, [], st => st
  | l, ws :: Ws, st => plainsR (l + 1) Ws (plainR l ws st)
theorem plainsR_snoc (ws : List Str) : ∀ (l : Nat) (Ws : List (List Str)) (st : RS), plainsR l (Ws ++ [ws]) st = plainR (l + Ws.length) ws (plainsR l Ws st)
  | l, [], st => rfl
  | l, w :: Ws, st => by
    show plainsR (l + 1) (Ws ++ [ws]) (plainR l w st) = plainR (l + (Ws.length + 1)) ws (plainsR (l + 1) Ws (plainR l w st))
    rw [plainsR_snoc ws (l + 1) Ws, Nat.add_assoc, Nat.add_comm 1]
theorem run_plains (xs : List Int) (d : Nat) : ∀ (l : Nat) (Ws : List (List Str)) (st : RS), runT xs (d + 1) l (Ws.map Stp.plain) st = plainsR l Ws st
  | l, [], st => rfl
  | l, w :: Ws, st => run_plains xs d (l + 1) Ws (plainR l w st)
theorem cnt_plains (d : Nat) : ∀ Ws : List (List Str), cntT (d + 1) (Ws.map Stp.plain) = Ws.length
  | [] => rfl
  | w :: Ws => by
    show 1 + cntT (d + 1) (Ws.map Stp.plain) = Ws.length + 1
    rw [cnt_plains d Ws]; omega
theorem plain_last (l : Nat) (ws : List Str) (st : RS) : (plainR l ws st).last = st.last := by
  have c : ClosedR [] (fun s => s.last = st.last) := ⟨fun _ _ _ z => z, fun l h w s z => by cases h <;> exact z, fun l a b s z => by
    unfold tieR; split
    · split <;> exact z
    · exact z, fun _ _ _ z => z, fun n s z => z⟩
  exact c.plain l ws st rfl
/-! ### numbered steps in the heap -/
def nF (k : Str) (pp lp bp : Addr) : List (Str × V) := [("kind", .str k), ("parts", .ref pp), ("lines", .ref lp), ("blocks", .ref bp)]
theorem nF_kind (k : Str) (pp lp bp : Addr) : (nF k pp lp bp).lookup ("kind" : Str) = some (.str k) := by unfold nF; walk_at "lk"
theorem nF_parts (k : Str) (pp lp bp : Addr) : (nF k pp lp bp).lookup ("parts" : Str) = some (.ref pp) := by unfold nF; walk_at "lk"
theorem nF_lines (k : Str) (pp lp bp : Addr) : (nF k pp lp bp).lookup ("lines" : Str) = some (.ref lp) := by unfold nF; walk_at "lk"
theorem nF_blocks (k : Str) (pp lp bp : Addr) : (nF k pp lp bp).lookup ("blocks" : Str) = some (.ref bp) := by unfold nF; walk_at "lk"
def intsN (ns : List Nat) : List V := ns.map fun (n : Nat) => V.int (n : Int)
def nstpAt (K : PySem.W.Frag) (C : Addr) (f : List Stp → Nat) (S : Addr → Prop) (PA : Addr → Nat → List Stp → Prop) (H : Hp) (a : Addr) (l : Nat) (s : Stp) : Prop :=
  ∃ (dx pp lp bp : Addr) (bs : List Addr), H a = some (.ins C dx (nF (kindOf s) pp lp bp)) ∧ SqT K H pp (partsOf s) ∧ S lp ∧ H lp = some (.lst (intsN (linesOf f l s))) ∧ S bp ∧ H bp = some (.lst (bs.map V.ref)) ∧ Paired (fun q (z : Nat × List Stp) => PA q z.1 z.2) bs (blksOf f l s)
def NumAt (K : PySem.W.Frag) (C : Addr) (S : Addr → Prop) : Nat → Hp → Addr → Nat → List Stp → Prop
  | 0 => fun _ _ _ _ => False
  | d + 1 => fun H p l T => S p ∧ ∃ as : List Addr, H p = some (.lst (as.map V.ref)) ∧ Paired (fun a (z : Nat × Stp) => nstpAt K C (cntT d) S (NumAt K C S d H) H a z.1 z.2) as (numL (cntS (cntT d)) l T)
/-- tuples and instances stay, lists of S stay -/
structure Stays (S : Addr → Prop) (H H' : Hp) : Prop where
  t : ∀ b xs, H b = some (.tup xs) → H' b = some (.tup xs)
  z : ∀ b o u, H b = some (.frz o u) → H' b = some (.frz o u)
  i : ∀ b C dx fs, H b = some (.ins C dx fs) → H' b = some (.ins C dx fs)
  l : ∀ b xs, S b → H b = some (.lst xs) → H' b = some (.lst xs)
theorem Stays.of {S : Addr → Prop} {H H' : Hp} (sm : Same H H') : Stays S H H' := ⟨fun b xs h => sm _ _ h, fun b o u h => sm _ _ h, fun b C dx fs h => sm _ _ h, fun b xs _ h => sm _ _ h⟩
theorem Stays.upd {S : Addr → Prop} {H : Hp} {p : Addr} {xs : List V} {o : HO} (h : H p = some (.lst xs)) (hS : ¬ S p) : Stays S H (upd H p o) :=
  ⟨fun b xs e => by rw [upd_ne (ne_of e h (fun z => nomatch z))]; exact e, fun b o u e => by rw [upd_ne (ne_of e h (fun z => nomatch z))]; exact e, fun b C dx fs e => by rw [upd_ne (ne_of e h (fun z => nomatch z))]; exact e,
   fun b xs hb e => by rw [upd_ne (show b ≠ p from fun z => hS (z ▸ hb))]; exact e⟩
theorem SqT.stays {K : PySem.W.Frag} {S : Addr → Prop} {H H' : Hp} {a : Addr} {xs : List V} (h : SqT K H a xs) (st : Stays S H H') : SqT K H' a xs := by
  rcases h with (h | ⟨o, h⟩) | h
  · exact .inl (.inl (st.t _ _ h))
  · exact .inl (.inr ⟨o, st.z _ _ _ h⟩)
  · exact .inr h
theorem SqT.updI {K : PySem.W.Frag} {H : Hp} {a x C dx : Addr} {xs : List V} {fs : List (Str × V)} {o : HO} (h : SqT K H a xs) (hx : H x = some (.ins C dx fs)) : SqT K (upd H x o) a xs := by
  rcases h with (h | ⟨o', h⟩) | h
  · exact .inl (.inl (by rw [upd_ne (ne_of h hx (fun z => nomatch z))]; exact h))
  · exact .inl (.inr ⟨o', by rw [upd_ne (ne_of h hx (fun z => nomatch z))]; exact h⟩)
  · exact .inr h
theorem nstpAt.imp {K : PySem.W.Frag} {C : Addr} {f : List Stp → Nat} {S S' : Addr → Prop} {PA PA' : Addr → Nat → List Stp → Prop} {H H' : Hp} {a : Addr} {l : Nat} {s : Stp} (h : nstpAt K C f S PA H a l s) (st : Stays S H H') (hS : ∀ b, S b → S' b) (hp : ∀ q l b, PA q l b → PA' q l b) : nstpAt K C f S' PA' H' a l s := by
  obtain ⟨dx, pp, lp, bp, bs, h1, h2, h3, h4, h5, h6, h7⟩ := h
  exact ⟨dx, pp, lp, bp, bs, st.i _ _ _ _ h1, SqT.stays h2 st, hS _ h3, st.l _ _ h3 h4, hS _ h5, st.l _ _ h5 h6, Paired.imp' (fun q z y => hp _ _ _ y) h7⟩
theorem NumAt.imp {K : PySem.W.Frag} {C : Addr} {S S' : Addr → Prop} {H H' : Hp} (st : Stays S H H') (hS : ∀ b, S b → S' b) : ∀ (d : Nat) {p : Addr} {l : Nat} {T : List Stp}, NumAt K C S d H p l T → NumAt K C S' d H' p l T
  | 0, _, _, _, h => h.elim
  | d + 1, p, l, T, ⟨h0, as, h1, h2⟩ => ⟨hS _ h0, as, st.l _ _ h0 h1, Paired.imp' (fun a z y => y.imp st hS fun q l b y' => NumAt.imp st hS d y') h2⟩
theorem NumAt.mono {K : PySem.W.Frag} {C : Addr} {S : Addr → Prop} {H H' : Hp} {d : Nat} {p : Addr} {l : Nat} {T : List Stp} (h : NumAt K C S d H p l T) (sm : Same H H') : NumAt K C S d H' p l T := h.imp (Stays.of sm) (fun _ z => z) d
theorem nstpAt.mono {K : PySem.W.Frag} {C : Addr} {S : Addr → Prop} {H H' : Hp} {d : Nat} {a : Addr} {l : Nat} {s : Stp} (h : nstpAt K C (cntT d) S (NumAt K C S d H) H a l s) (sm : Same H H') : nstpAt K C (cntT d) S (NumAt K C S d H') H' a l s :=
  h.imp (Stays.of sm) (fun _ z => z) fun q l b y => y.mono sm
theorem last_at {α : Type} {xs : List α} {x : α} (h : xs.getLast? = some x) : atI xs (-1) = some x := by
  rcases List.eq_nil_or_concat xs with rfl | ⟨ys, y, rfl⟩
  · simp at h
  · have e : y = x := by simpa using h
    subst e
    have e : ixN (ys ++ [y]).length (-1) = some ys.length := by
      unfold ixN
      simp only [List.length_append, List.length_cons, List.length_nil]
      split <;> simp_all <;> omega
    unfold atI
    rw [List.concat_eq_append, e]
    simp
theorem intsN_last {ns : List Nat} {n : Nat} (h : ns.getLast? = some n) : atI (intsN ns) (-1) = some (.int n) := last_at (by unfold intsN; rw [List.getLast?_map, h]; rfl)
theorem cnt_len (d : Nat) : ∀ T : List Stp, T.length ≤ cntT (d + 1) T
  | [] => Nat.zero_le _
  | s :: T => by
    have := cnt_len d T
    have h1 := (lines_last (f := cntT d) (l := 0) (s := s)).2
    show T.length + 1 ≤ cntS (cntT d) s + cntT (d + 1) T
    omega
theorem cnt_mem {d : Nat} : ∀ {T : List Stp} {s : Stp}, s ∈ T → cntS (cntT d) s ≤ cntT (d + 1) T
  | [], _, h => by cases h
  | t :: T, s, h => by
    show cntS (cntT d) s ≤ cntS (cntT d) t + cntT (d + 1) T
    rcases List.mem_cons.mp h with rfl | h
    · omega
    · have := cnt_mem (d := d) h; omega
theorem cnt_take {d i : Nat} {T : List Stp} : cntT (d + 1) (T.take i) ≤ cntT (d + 1) T := by
  have e : cntT (d + 1) T = cntT (d + 1) (T.take i) + cntT (d + 1) (T.drop i) := by
    show (T.map _).sum = ((T.take i).map _).sum + ((T.drop i).map _).sum
    rw [← List.sum_append, ← List.map_append, List.take_append_drop]
  omega
theorem blk_cnt {f : List Stp → Nat} {l : Nat} : ∀ {s : Stp} {z : Nat × List Stp}, z ∈ blksOf f l s → f z.2 ≤ cntS f s
  | .plain _, z, h => by cases h
  | .lend _ _ b, z, h => by simp [blksOf] at h; subst h; simp [cntS]
  | .ite _ b c, z, h => by
    simp [blksOf] at h
    rcases h with rfl | rfl <;> simp [cntS] <;> omega
  | .whl _ b, z, h => by simp [blksOf] at h; subst h; simp [cntS]
theorem blks_len (f : List Stp → Nat) (l : Nat) (s : Stp) : (blksOf f l s).length ≤ 2 := by cases s <;> simp [blksOf]
/-- a step's tuple, whatever its kind -/
theorem stp_tup {PA : Addr → List Stp → Prop} {H : Hp} {a : Addr} {f : List Stp → Nat} {g : List Stp → Prop} {l : Nat} : ∀ {s : Stp}, stpAt PA H a s → okS g s → ∃ bs : List Addr, H a = some (.tup (.str (kindOf s) :: (partsOf s ++ bs.map V.ref))) ∧ bs.length = (closT (kindOf s)).length ∧ Paired (fun q (z : Nat × List Stp) => PA q z.2 ∧ g z.2) bs (blksOf f l s)
  | .plain ws, h, ok => by
    have hw : ws ≠ [] := fun e => by have := ok.two; rw [e] at this; simp at this
    obtain ⟨k, r, rfl⟩ := List.exists_cons_of_ne_nil hw
    have hk : k ∈ plainKinds := ok.kind
    refine ⟨[], ?_, ?_, .nil⟩
    · show H a = some (.tup (.str k :: (r.map V.str ++ [])))
      rw [List.append_nil]; exact h
    · show 0 = (closT k).length
      revert hk; unfold plainKinds
      intro hk
      simp only [List.mem_cons, List.not_mem_nil, or_false] at hk
      rcases hk with rfl | rfl | rfl | rfl | rfl <;> decide
  | .lend x y b, ⟨q, h, z⟩, ⟨_, _, o⟩ => ⟨[q], h, by show 1 = (closT "lend").length; decide, .cons ⟨z, o⟩ .nil⟩
  | .ite n b c, ⟨q, r, h, z, y⟩, ⟨_, o, o'⟩ => ⟨[q, r], h, by show 2 = (closT "if").length; decide, .cons ⟨z, o⟩ (.cons ⟨y, o'⟩ .nil)⟩
  | .whl n b, ⟨q, h, z⟩, ⟨_, o⟩ => ⟨[q], h, by show 1 = (closT "while").length; decide, .cons ⟨z, o⟩ .nil⟩
def spNInit (K : PySem.W.Frag) (C : Addr) : Sp := fun vs H Q _ => ∃ (x dx hp : Addr) (k : Str) (ps : List V) (lp bp : Addr), vs = [.ref x, .ref hp, .ref lp, .ref bp] ∧ H x = some (.ins C dx []) ∧ SqT K H hp (.str k :: ps) ∧
  ∀ (pp : Addr) (H' : Hp), (∀ b o, H b = some o → b ≠ x → H' b = some o) → H' x = some (.ins C dx (nF k pp lp bp)) → SqT K H' pp ps → Q .non H'
def spBehind (K : PySem.W.Frag) (C : Addr) : Sp := fun vs H Q _ => ∃ (p : Addr) (l d : Nat) (T : List Stp) (S : Addr → Prop), vs = [.ref p, .int (l : Int)] ∧ NumAt K C S (d + 1) H p l T ∧ cntT (d + 1) T ≤ 10000 ∧ Q (.int ((l + cntT (d + 1) T : Nat) : Int)) H
def spNum (K : PySem.W.Frag) (C : Addr) (d : Nat) : Sp := fun vs H Q _ => ∃ (a : Addr) (l : Nat) (s : Stp) (S : Addr → Prop), vs = [.ref a, .int (l : Int)] ∧ stpAt (ProgAt S d H) H a s ∧ okS (okT d) s ∧ cntS (cntT d) s ≤ 10000 ∧
  ∀ (q : Addr) (H' : Hp), Same H H' → nstpAt K C (cntT d) (fun b => H b = none) (NumAt K C (fun b => H b = none) d H') H' q l s → Q (.ref q) H'
def spNums (K : PySem.W.Frag) (C : Addr) (d : Nat) : Sp := fun vs H Q _ => ∃ (p : Addr) (l : Nat) (T : List Stp) (S : Addr → Prop), vs = [.ref p, .int (l : Int)] ∧ ProgAt S d H p T ∧ okT d T ∧ cntT d T ≤ 10000 ∧
  ∀ (q : Addr) (H' : Hp), Same H H' → NumAt K C (fun b => H b = none) d H' q l T → Q (.ref q) H'
section
variable {P : Program} {w : World} {K : PySem.W.Frag} {mg : Str → Option Value} {base : Heap} {CN : Addr}
theorem ok_ninit (D : MakeAt K mg "NumberedStep" CN "NumberedStep.__init__" s_NumberedStep___init__) (a_kind : Fl K CN "kind") (a_parts : Fl K CN "parts") (a_lines : Fl K CN "lines") (a_blocks : Fl K CN "blocks") :
    Mkal P w K mg base 1 "NumberedStep" CN ["self", "head", "lines", "blocks"] (spNInit K CN) := by
  refine D.mkal (k := 0) sc_NumberedStep___init__ (fun _ _ _ _ _ _ us hl => match us, hl with | [_, _, _, _], _ => rfl) (fun vs H Q E h => by obtain ⟨x, dx, hp, k, ps, lp, bp, rfl, _⟩ := h; rfl) (fun f cdv A outer s H vs Q E hr h => ?_)
  obtain ⟨x, dx, hp, k, ps, lp, bp, rfl, hx, hh, q⟩ := h
  refine ⟨_, (pss_cons (ps_fldC a_kind (pv 0 (hv := v_NumberedStep___init___self)) (pe_ix (ix_K K) (pv 1 (hv := v_NumberedStep___init___head)) pe_int (fun _ _ => rfl)))
      (pss_cons (ps_fldC a_parts (pv 0 (hv := v_NumberedStep___init___self)) (pe_slice (sl_tupA K) (pv 1 (hv := v_NumberedStep___init___head)) (po_some pe_int) po_none))
      (pss_cons (ps_fldC a_lines (pv 0 (hv := v_NumberedStep___init___self)) (pv 2 (hv := v_NumberedStep___init___lines)))
      (pss_one (ps_fldC a_blocks (pv 0 (hv := v_NumberedStep___init___self)) (pv 3 (hv := v_NumberedStep___init___blocks))))))), ?_⟩
  walk_at "rd1"
  refine ⟨_, _, .inr hh, at0, dx, _, hx, by decide, ?_⟩
  generalize hH1 : upd H x _ = H1
  have e1 : H1 x = some (.ins CN dx [("kind", .str k)]) := by rw [← hH1, upd_same]; walk_at "pf"
  have k1 : ∀ b o, H b = some o → b ≠ x → H1 b = some o := fun b o e n => by rw [← hH1, upd_ne n]; exact e
  have hh1 : SqT K H1 hp (.str k :: ps) := by rw [← hH1]; exact SqT.updI hh hx
  walk_at "nx"
  refine rSlTA_of hh1 fun pp H2 sm2 hpp => ?_
  have ec : cutV (V.str k :: ps) (some 1) none = ps := cutV_from _ 1
  rw [ec] at hpp
  refine ⟨dx, _, sm2 _ _ e1, by simp, ?_⟩
  generalize hH3 : upd H2 x _ = H3
  have e3 : H3 x = some (.ins CN dx [("kind", .str k), ("parts", .ref pp)]) := by rw [← hH3, upd_same]; walk_at "pf"
  have k3 : ∀ b o, H2 b = some o → b ≠ x → H3 b = some o := fun b o e n => by rw [← hH3, upd_ne n]; exact e
  have hp3 : SqT K H3 pp ps := by rw [← hH3]; exact SqT.updI hpp (sm2 _ _ e1)
  walk_at "nx"
  refine ⟨dx, _, e3, by simp, ?_⟩
  generalize hH4 : upd H3 x _ = H4
  have e4 : H4 x = some (.ins CN dx [("kind", .str k), ("parts", .ref pp), ("lines", .ref lp)]) := by rw [← hH4, upd_same]; walk_at "pf"
  have k4 : ∀ b o, H3 b = some o → b ≠ x → H4 b = some o := fun b o e n => by rw [← hH4, upd_ne n]; exact e
  have hp4 : SqT K H4 pp ps := by rw [← hH4]; exact SqT.updI hp3 e3
  walk_at "nx"
  refine ⟨dx, _, e4, by simp, ?_⟩
  refine q pp _ (fun b o e n => ?_) ?_ (SqT.updI hp4 e4)
  · rw [upd_ne n]; exact k4 _ _ (k3 _ _ (sm2 _ _ (k1 _ _ e n)) n) n
  · rw [upd_same]; unfold nF; walk_at "pf"
theorem ok_behind (D : DefAt K mg "line_behind" s_line_behind) (z_len : mg "len" = none) (a_lines : Fl K CN "lines") : Cal P w K mg base 1 "line_behind" ["steps", "line"] (spBehind K CN) := by
  refine D.cal (k := 0) sc_line_behind (fun _ _ _ _ _ _ us hl => match us, hl with | [_, _], _ => rfl) (fun vs H Q E h => by obtain ⟨p, l, d, T, S, rfl, _⟩ := h; rfl) (fun f cdv A outer s H vs Q E hr h => ?_)
  obtain ⟨p, l, d, T, S, rfl, ⟨h0, as, h1, h2⟩, hz, q⟩ := h
  have hlen := paired_len h2
  rw [numL_len] at hlen
  refine ⟨_, (pss_one (ps_ret (pe_ifExp (pt_cmpR op_eqA (pe_blt (call_lenK K) z_len bt_len (pa_cons (pv 0 (hv := v_line_behind_steps)) pa_nil) (hg := gl_line_behind_len)) pe_int (nomark _)) (pv 1 (hv := v_line_behind_line)) (pe_op op_addA (pe_ix (ix_K K) (pe_fldC a_lines (pe_ix (ix_K K) (pv 0 (hv := v_line_behind_steps)) (pe_un un_neg pe_int) (fun _ _ => rfl))) (pe_un un_neg pe_int) (fun _ _ => rfl)) pe_int)))), ?_⟩
  walk_at "rd1"
  refine ⟨_, .inl (SqL.of h1), ?_⟩
  rw [List.length_map, hlen]
  rcases List.eq_nil_or_concat T with rfl | ⟨T', t, rfl⟩
  · refine ite2 (fun c => ?_) (fun c => absurd rfl c)
    exact q
  · rw [List.concat_eq_append] at *
    refine ite2 (fun c => absurd c (by rw [List.length_append]; simp; omega)) (fun c => ?_)
    rw [numL_snoc] at h2
    rcases List.eq_nil_or_concat as with rfl | ⟨as', a, rfl⟩
    · have := paired_len h2; simp at this
    rw [List.concat_eq_append] at *
    have hl' : as'.length = T'.length := by simpa using hlen
    have h3 : nstpAt K CN (cntT d) S (NumAt K CN S d H) H a (l + (T'.map (cntS (cntT d))).sum) t := by
      obtain ⟨z, hz1, hz2⟩ := paired_at h2 (i := as'.length) (x := a) (by simp)
      rw [List.getElem?_append_right (by rw [numL_len]; omega), numL_len, hl'] at hz1
      simp at hz1
      subst hz1; exact hz2
    obtain ⟨dx, pp, lp, bp, bs, g1, g2, g3, g4, g5, g6, g7⟩ := h3
    obtain ⟨g8, g9⟩ := lines_last (f := cntT d) (l := l + (T'.map (cntS (cntT d))).sum) (s := t)
    walk_at "rd1"
    refine ⟨_, _, .inl (SqL.of h1), last_at (x := V.ref a) (by simp), ?_⟩
    refine ⟨a, rfl, dx, _, _, g1, nF_lines _ _ _ _, ?_⟩
    walk_at "rd1"
    refine ⟨_, _, .inl (SqL.of g4), intsN_last g8, ?_⟩
    walk_at "rd1"
    have e : ((l + (T'.map (cntS (cntT d))).sum + cntS (cntT d) t - 1 : Nat) : Int) + 1 = ((l + cntT (d + 1) (T' ++ [t]) : Nat) : Int) := by
      have : cntT (d + 1) (T' ++ [t]) = (T'.map (cntS (cntT d))).sum + cntS (cntT d) t := by show ((T' ++ [t]).map _).sum = _; simp
      omega
    rw [e]; exact q
theorem ok_num (D : DefAt K mg "numbered_step" s_numbered_step) (c_head_of : Cal P w K mg base 2 "head_of" ["step"] (spHead K)) (c_blocks_of : Cal P w K mg base 3 "blocks_of" ["step"] (spBlocks K)) (c_line_behind : Cal P w K mg base 1 "line_behind" ["steps", "line"] (spBehind K CN))
    (k_NumberedStep : Mkal P w K mg base 1 "NumberedStep" CN ["self", "head", "lines", "blocks"] (spNInit K CN)) {d : Nat} (c_numbered_steps : Cal P w K mg base (2 * d + 4) "numbered_steps" ["steps", "line"] (spNums K CN d)) :
    Cal P w K mg base (2 * d + 5) "numbered_step" ["step", "line"] (spNum K CN d) := by
  refine D.cal (k := 2 * d + 4) sc_numbered_step (fun _ _ _ _ _ _ us hl => match us, hl with | [_, _], _ => rfl) (fun vs H Q E h => by obtain ⟨a, l, s, S, rfl, _⟩ := h; rfl) (fun f cdv A outer sh H vs Q E hr h => ?_)
  obtain ⟨a, l, s, S, rfl, h1, ok, hz, q⟩ := h
  obtain ⟨bs, b1, b2, b3⟩ := stp_tup (f := cntT d) (l := l) h1 ok
  refine ⟨_, (pss_cons (ps_let 2 sc_numbered_step.nd (pe_lst (pa_cons (pv 1 (hv := v_numbered_step_line)) pa_nil)) (hx := l_numbered_step_lines))
      (pss_cons (ps_let 3 sc_numbered_step.nd (pe_lst pa_nil) (hx := l_numbered_step_blocks))
      (pss_cons (ps_for PassesOwn.never rfl (pi_tupK K (pe_cal c_blocks_of hr (pa_cons (pv 0 (hv := v_numbered_step_step)) pa_nil) (hg := gl_numbered_step_blocks_of) (hle := by omega))) (pg_let 4 sc_numbered_step.nd (hx := l_numbered_step_block)) (pss_cons (ps_let 5 sc_numbered_step.nd (pe_cal c_numbered_steps hr (pa_cons (pv 4 (hv := v_numbered_step_block)) (pa_cons (pe_op op_addA (pe_ix (ix_K K) (pv 2 (hv := v_numbered_step_lines)) (pe_un un_neg pe_int) (fun _ _ => rfl)) pe_int) pa_nil)) (hg := gl_numbered_step_numbered_steps) (hle := by omega)) (hx := l_numbered_step_steps))
      (pss_cons (ps_expr (pe_bmK K PySem.F.plainAttrs_list PySem.F.slot_list_append PySem.F.type_list_append mt_appendA (pv 3 (hv := v_numbered_step_blocks)) (pa_cons (pv 5 (hv := v_numbered_step_steps)) pa_nil)))
      (pss_one (ps_expr (pe_bmK K PySem.F.plainAttrs_list PySem.F.slot_list_append PySem.F.type_list_append mt_appendA (pv 2 (hv := v_numbered_step_lines)) (pa_cons (pe_cal c_line_behind hr (pa_cons (pv 5 (hv := v_numbered_step_steps)) (pa_cons (pe_op op_addA (pe_ix (ix_K K) (pv 2 (hv := v_numbered_step_lines)) (pe_un un_neg pe_int) (fun _ _ => rfl)) pe_int) pa_nil)) (hg := gl_numbered_step_line_behind) (hle := by omega)) pa_nil)))))))
      (pss_one (ps_ret (pe_mk k_NumberedStep hr (pa_cons (pe_cal c_head_of hr (pa_cons (pv 0 (hv := v_numbered_step_step)) pa_nil) (hg := gl_numbered_step_head_of) (hle := by omega)) (pa_cons (pv 2 (hv := v_numbered_step_lines)) (pa_cons (pv 3 (hv := v_numbered_step_blocks)) pa_nil))) (hg := gl_numbered_step_NumberedStep) (hle := by omega))))))), ?_⟩
  walk_at "rd1"
  refine ⟨by decide, fun lp hlp => ?_⟩
  generalize hA : upd H lp _ = HA
  have sA := al_same hA hlp
  have eA := al_at hA
  walk_at "nx"
  refine ⟨by decide, fun bp hbp => ?_⟩
  generalize hB : upd HA bp _ = HB
  have sB := al_same hB hbp
  have eB := al_at hB
  have sAB := sA.trans sB
  have hcl : (closT (kindOf s)).length ≤ (partsOf s ++ bs.map V.ref).length + 1 := by rw [List.length_append, List.length_map, b2]; omega
  have hcut : (partsOf s ++ bs.map V.ref).length + 1 - (closT (kindOf s)).length = (partsOf s).length + 1 := by rw [List.length_append, List.length_map, b2]; omega
  walk_at "nx"
  refine ⟨a, kindOf s, _, rfl, SqT.of (sAB _ _ b1), hcl, fun tp HC sC htp => ?_⟩
  rw [hcut] at htp
  have etk : (V.str (kindOf s) :: (partsOf s ++ bs.map V.ref)).drop ((partsOf s).length + 1) = bs.map V.ref := by rw [List.drop_succ_cons, List.drop_left']; rfl
  rw [etk] at htp
  walk_at "rd1"
  refine ⟨⟨_, htp⟩, ?_⟩
  have hbl := paired_len b3
  have hb2 := blks_len (cntT d) l s
  have nlb : lp ≠ bp := fun z => by rw [← z] at hbp; rw [hbp] at eA; cases eA
  refine forW_tup (xs := bs.map V.ref) (fun j σ H' => ∃ (o4 o5 : Option V) (qs : List Addr), σ = [some (.ref a), some (.int (l : Int)), some (.ref lp), some (.ref bp), o4, o5] ∧ Same H H' ∧ SqT K H' tp (bs.map V.ref) ∧ H' lp = some (.lst (intsN ((linesOf (cntT d) l s).take (j + 1)))) ∧ H' bp = some (.lst (qs.map V.ref)) ∧
      (∀ b, H' b = none → HC b = none) ∧ Paired (fun q (z : Nat × List Stp) => NumAt K CN (fun b => HC b = none) d H' q z.1 z.2) qs ((blksOf (cntT d) l s).take j))
    ⟨none, none, [], rfl, sAB.trans sC, htp, by rw [sC _ _ (sB _ _ eA)]; simp [intsN, linesOf], by rw [sC _ _ eB]; rfl, fun b h => h, .nil⟩ (fun j σ H' _ h => by obtain ⟨_, _, _, _, _, z, _⟩ := h; exact z) ?_ ?_
  · rintro j v σ H' hv ⟨o4, o5, qs, rfl, sm, ht', hl', hb', hfr, hp'⟩
    have hj : j < bs.length := by have := (List.getElem?_eq_some_iff.mp hv).1; simpa using this
    rw [List.getElem?_map, List.getElem?_eq_getElem hj] at hv
    cases hv
    obtain ⟨z, hz1, hz2, hz3⟩ := paired_at b3 (List.getElem?_eq_getElem hj)
    obtain ⟨y, hy1, hy2⟩ := blk_line hz1
    have hylast : ((linesOf (cntT d) l s).take (j + 1)).getLast? = some y := by
      rw [List.take_add_one, hy1]; simp
    have hcnt := blk_cnt (List.mem_of_getElem? hz1)
    walk_at "rd1"
    refine ⟨_, _, .inl (SqL.of hl'), intsN_last hylast, ?_⟩
    walk_at "rd1"
    have ey : (y : Int) + 1 = ((z.1 : Nat) : Int) := by omega
    rw [ey]
    refine ⟨bs[j], z.1, z.2, S, rfl, hz2.mono sm, hz3, by omega, fun q' HD sD hq' => ?_⟩
    have qlen := paired_len hp'
    rw [List.length_take] at qlen
    walk_at "nx"
    refine ⟨⟨_, SqL.of (sD _ _ hb')⟩, _, sD _ _ hb', small' (by rw [List.length_map]; omega), ?_⟩
    generalize hE : upd HD bp _ = HE
    have stE : Stays (fun b => H' b = none) HD HE := by rw [← hE]; exact Stays.upd (sD _ _ hb') (fun z => by rw [hb'] at z; cases z)
    have hqE := NumAt.imp (S' := fun b => H' b = none) stE (fun _ z => z) d hq'
    have eE : HE bp = some (.lst (qs.map V.ref ++ [V.ref q'])) := by rw [← hE, upd_same]
    have lE : HE lp = some (.lst (intsN ((linesOf (cntT d) l s).take (j + 1)))) := by rw [← hE, upd_ne nlb]; exact sD _ _ hl'
    walk_at "nx"
    refine ⟨⟨_, SqL.of lE⟩, _, _, .inl (SqL.of lE), intsN_last hylast, ?_⟩
    walk_at "rd1"
    rw [ey]
    have hC1 : ∀ b, H' b = none → HC b = none := hfr
    have hqC := NumAt.imp (S' := fun b => HC b = none) (Stays.of (Same.refl HE)) hC1 d hqE
    cases d with
    | zero => exact hqE.elim
    | succ d =>
    refine ⟨q', z.1, d, z.2, _, rfl, hqE, by omega, ?_⟩
    refine ⟨_, lE, small' (by unfold intsN; rw [List.length_map, List.length_take]; omega), ?_⟩
    generalize hF : upd HE lp _ = HF
    have lpC : HC lp = some (.lst (intsN [l])) := by rw [sC _ _ (sB _ _ eA)]; simp [intsN]
    have bpC : HC bp = some (.lst []) := sC _ _ eB
    have stF : Stays (fun b => HC b = none) HE HF := by rw [← hF]; exact Stays.upd lE (fun z => by rw [lpC] at z; cases z)
    have stE' : Stays (fun b => HC b = none) HD HE := by rw [← hE]; exact Stays.upd (sD _ _ hb') (fun z => by rw [bpC] at z; cases z)
    have up : ∀ {p : Addr} {l : Nat} {T : List Stp}, NumAt K CN (fun b => HC b = none) (d + 1) H' p l T → NumAt K CN (fun b => HC b = none) (d + 1) HF p l T := fun z => NumAt.imp stF (fun _ y => y) _ (NumAt.imp stE' (fun _ y => y) _ (z.mono sD))
    refine ⟨_, _, qs ++ [q'], rfl, ?_, ?_, ?_, ?_, ?_, ?_⟩
    · rw [← hF, ← hE]; exact ((sm.trans sD).upd (sA.free hbp) _).upd hlp _
    · exact SqT.stays (SqT.stays (ht'.same sD) stE') stF
    · rw [← hF, upd_same]
      have : (linesOf (cntT (d + 1)) l s)[j + 1]? = some (z.1 + cntT (d + 1) z.2) := by
        unfold linesOf
        rw [List.getElem?_cons_succ, List.getElem?_map, hz1]; rfl
      unfold intsN
      rw [List.take_add_one (i := j + 1), this, List.map_append]; rfl
    · rw [← hF, upd_ne nlb.symm, eE, List.map_append]; rfl
    · intro b hb
      refine hfr b (sD.free ?_)
      rw [← hF, ← hE] at hb
      by_cases e1 : b = lp
      · rw [e1, upd_same] at hb; cases hb
      · rw [upd_ne e1] at hb
        by_cases e2 : b = bp
        · rw [e2, upd_same] at hb; cases hb
        · rw [upd_ne e2] at hb; exact hb
    · rw [List.take_add_one, hz1]
      exact paired_snoc (R := fun q (z : Nat × List Stp) => NumAt K CN (fun b => HC b = none) (d + 1) HF q z.1 z.2) (NumAt.imp stF (fun _ y => y) _ hqC) (Paired.imp' (fun q z y => up y) hp')
  · rintro σ H' ⟨o4, o5, qs, rfl, sm, ht', hl', hb', hfr, hp'⟩
    rw [List.length_map, hbl, List.take_length] at hp'
    have hll : (linesOf (cntT d) l s).take ((bs.map V.ref).length + 1) = linesOf (cntT d) l s := by
      rw [List.take_of_length_le]; unfold linesOf; rw [List.length_cons, List.length_map, List.length_map, hbl]; exact Nat.le_refl _
    rw [hll] at hl'
    walk_at "nx"
    refine ⟨a, kindOf s, _, rfl, SqT.of (sm _ _ b1), hcl, fun hp HD sD hhp => ?_⟩
    rw [hcut] at hhp
    have etk2 : (V.str (kindOf s) :: (partsOf s ++ bs.map V.ref)).take ((partsOf s).length + 1) = V.str (kindOf s) :: partsOf s := by rw [List.take_succ_cons, List.take_left']; rfl
    rw [etk2] at hhp
    walk_at "rd1"
    intro x dx hx hdx ndx
    generalize hM : upd (upd HD dx (.own x)) x (.ins CN dx []) = HM
    have sM : Same HD HM := by rw [← hM]; exact (same_new hdx (.own x)).upd hx _
    have eM : HM x = some (.ins CN dx []) := by rw [← hM, upd_same]
    refine ⟨x, dx, hp, kindOf s, partsOf s, lp, bp, rfl, eM, hhp.same sM, fun pp HN kN eN hpp => ⟨rfl, ?_⟩⟩
    have sN : Same HD HN := fun b o e => kN b o (sM _ _ e) (ne_of_none e hx)
    have sHN : Same H HN := (sm.trans sD).trans sN
    have hCH : ∀ b, HC b = none → H b = none := fun b z => (sAB.trans sC).free z
    refine q x HN sHN ⟨dx, pp, lp, bp, qs, eN, hpp, hlp, sN _ _ (sD _ _ hl'), sA.free hbp, sN _ _ (sD _ _ hb'), ?_⟩
    exact Paired.imp' (fun q z y => NumAt.imp (Stays.of (sD.trans sN)) hCH d y) hp'
theorem ok_nums (D0 : DefAt K mg "numbered_step" s_numbered_step) (D : DefAt K mg "numbered_steps" s_numbered_steps) (c_head_of : Cal P w K mg base 2 "head_of" ["step"] (spHead K)) (c_blocks_of : Cal P w K mg base 3 "blocks_of" ["step"] (spBlocks K)) (c_line_behind : Cal P w K mg base 1 "line_behind" ["steps", "line"] (spBehind K CN))
    (k_NumberedStep : Mkal P w K mg base 1 "NumberedStep" CN ["self", "head", "lines", "blocks"] (spNInit K CN)) : ∀ d : Nat, Cal P w K mg base (2 * d + 4) "numbered_steps" ["steps", "line"] (spNums K CN d)
  | 0 => D.cal (k := 3) sc_numbered_steps (fun _ _ _ _ _ _ us hl => match us, hl with | [_, _], _ => rfl) (fun vs H Q E h => by obtain ⟨p, l, T, S, rfl, _⟩ := h; rfl) (fun f cdv A outer s H vs Q E hr h => by obtain ⟨p, l, T, S, rfl, z, _⟩ := h; exact z.elim)
  | d + 1 => by
    have c_numbered_step := ok_num D0 c_head_of c_blocks_of c_line_behind k_NumberedStep (ok_nums D0 D c_head_of c_blocks_of c_line_behind k_NumberedStep d)
    refine D.cal (k := 2 * d + 5) sc_numbered_steps (fun _ _ _ _ _ _ us hl => match us, hl with | [_, _], _ => rfl) (fun vs H Q E h => by obtain ⟨p, l, T, S, rfl, _⟩ := h; rfl) (fun f cdv A outer s H vs Q E hr h => ?_)
    obtain ⟨p, l, T, S, rfl, ⟨h0, as, h1, h2⟩, ok, hz, q⟩ := h
    have hlen := paired_len h2
    have hTl := cnt_len d T
    refine ⟨_, (pss_cons (ps_let 2 sc_numbered_steps.nd (pe_lst pa_nil) (hx := l_numbered_steps_numbered))
      (pss_cons (ps_for PassesOwn.never rfl (pi_listK K (pv 0 (hv := v_numbered_steps_steps))) (pg_let 3 sc_numbered_steps.nd (hx := l_numbered_steps_step)) (pss_one (ps_expr (pe_bmK K PySem.F.plainAttrs_list PySem.F.slot_list_append PySem.F.type_list_append mt_appendA (pv 2 (hv := v_numbered_steps_numbered)) (pa_cons (pe_cal c_numbered_step hr (pa_cons (pv 3 (hv := v_numbered_steps_step)) (pa_cons (pe_cal c_line_behind hr (pa_cons (pv 2 (hv := v_numbered_steps_numbered)) (pa_cons (pv 1 (hv := v_numbered_steps_line)) pa_nil)) (hg := gl_numbered_steps_line_behind) (hle := by omega)) pa_nil)) (hg := gl_numbered_steps_numbered_step) (hle := by omega)) pa_nil)))))
      (pss_one (ps_ret (pv 2 (hv := v_numbered_steps_numbered)))))), ?_⟩
    walk_at "rd1"
    refine ⟨by decide, fun lp hlp => ?_⟩
    generalize hA : upd H lp _ = HA
    have sA := al_same hA hlp
    have eA := al_at hA
    walk_at "nx"
    refine ⟨⟨_, SqL.of (sA _ _ h1)⟩, ?_⟩
    have lpA : ¬ HA lp = none := fun z => by rw [eA] at z; cases z
    refine forW_list (xs := as.map V.ref) (fun i σ H' => ∃ (o3 : Option V) (ns : List Addr), σ = [some (.ref p), some (.int (l : Int)), some (.ref lp), o3] ∧ Same H H' ∧ H' lp = some (.lst (ns.map V.ref)) ∧ (∀ b, H' b = none → HA b = none) ∧
        Paired (fun a (z : Nat × Stp) => nstpAt K CN (cntT d) (fun b => HA b = none) (NumAt K CN (fun b => HA b = none) d H') H' a z.1 z.2) ns (numL (cntS (cntT d)) l (T.take i)))
      ⟨none, [], rfl, sA, eA, fun _ z => z, .nil⟩ (fun i σ H' _ h => by obtain ⟨_, _, _, sm, _⟩ := h; exact SqL.of (sm _ _ h1)) ?_ ?_
    · rintro i v σ H' hv ⟨o3, ns, rfl, sm, n1, nf, n2⟩
      have hi : i < as.length := by have := (List.getElem?_eq_some_iff.mp hv).1; simpa using this
      rw [List.getElem?_map, List.getElem?_eq_getElem hi] at hv
      cases hv
      obtain ⟨s, hs, hsa⟩ := paired_at h2 (List.getElem?_eq_getElem hi)
      have hmem := List.mem_of_getElem? hs
      have hct := cnt_mem (d := d) hmem
      have hctk := cnt_take (d := d) (i := i) (T := T)
      have nlen := paired_len n2
      rw [numL_len, List.length_take] at nlen
      walk_at "rd1"
      refine ⟨⟨_, SqL.of n1⟩, ?_⟩
      refine ⟨lp, l, d, T.take i, fun _ => True, rfl, ⟨trivial, ns, n1, Paired.imp' (fun a z y => y.imp (Stays.of (Same.refl H')) (fun _ _ => trivial) fun q l b y' => NumAt.imp (Stays.of (Same.refl H')) (fun _ _ => trivial) d y') n2⟩, by omega, ?_⟩
      refine ⟨as[i], l + cntT (d + 1) (T.take i), s, S, rfl, ?_, ok s hmem, by omega, fun q' HD sD hq' => ?_⟩
      · exact stpAt.imp (fun b xs e => sm _ _ e) (fun q b y => y.mono sm) hsa
      refine ⟨_, sD _ _ n1, small' (by rw [List.length_map]; omega), ?_⟩
      generalize hE : upd HD lp _ = HE
      have eE : HE lp = some (.lst ((ns ++ [q']).map V.ref)) := by rw [← hE, upd_same, List.map_append]; rfl
      have stE : Stays (fun b => HA b = none) HD HE := by rw [← hE]; exact Stays.upd (sD _ _ n1) lpA
      have hq2 : nstpAt K CN (cntT d) (fun b => HA b = none) (NumAt K CN (fun b => HA b = none) d HD) HD q' (l + cntT (d + 1) (T.take i)) s := hq'.imp (Stays.of (Same.refl HD)) nf fun q l b y' => NumAt.imp (Stays.of (Same.refl HD)) nf d y'
      have up : ∀ {a : Addr} {l : Nat} {s : Stp}, nstpAt K CN (cntT d) (fun b => HA b = none) (NumAt K CN (fun b => HA b = none) d HD) HD a l s → nstpAt K CN (cntT d) (fun b => HA b = none) (NumAt K CN (fun b => HA b = none) d HE) HE a l s := fun z => z.imp stE (fun _ y => y) fun q l b y' => NumAt.imp stE (fun _ y => y) d y'
      refine ⟨_, ns ++ [q'], rfl, ?_, eE, ?_, ?_⟩
      · rw [← hE]; exact (sm.trans sD).upd hlp _
      · intro b hb
        refine nf b (sD.free ?_)
        rw [← hE] at hb
        by_cases e1 : b = lp
        · rw [e1, upd_same] at hb; cases hb
        · rw [upd_ne e1] at hb; exact hb
      · have et : T.take (i + 1) = T.take i ++ [s] := by rw [List.take_add_one, hs]; rfl
        rw [et, numL_snoc]
        exact paired_snoc (R := fun a (z : Nat × Stp) => nstpAt K CN (cntT d) (fun b => HA b = none) (NumAt K CN (fun b => HA b = none) d HE) HE a z.1 z.2) (up hq2) (Paired.imp' (fun a z y => up (nstpAt.mono y sD)) n2)
    · rintro σ H' ⟨o3, ns, rfl, sm, n1, nf, n2⟩
      rw [List.length_map, hlen, List.take_length] at n2
      walk_at "nx"
      have hAH : ∀ b, HA b = none → H b = none := fun b z => sA.free z
      exact q lp H' sm ⟨hlp, ns, n1, Paired.imp' (fun a z y => y.imp (Stays.of (Same.refl H')) hAH fun q l b y' => NumAt.imp (Stays.of (Same.refl H')) hAH d y') n2⟩
end
/-! ### a run in the heap -/
structure RE where
  C : Addr
  r : Addr
  ip : Addr
  hp : Addr
  lp : Addr
  xs : List Int
  wp : Addr
def rF (E : RE) (st : RS) : List (Str × V) := [("inputs", .ref E.ip), ("watches", .ref E.wp), ("at", .int 0), ("taken", .int (st.taken : Int)), ("last", .int st.last), ("opened", .int (st.opened : Int)), ("held", .ref E.hp), ("log", .ref E.lp)]
theorem rF_inputs (E : RE) (st : RS) : (rF E st).lookup ("inputs" : Str) = some (.ref E.ip) := by unfold rF; walk_at "lk"
theorem rF_watches (E : RE) (st : RS) : (rF E st).lookup ("watches" : Str) = some (.ref E.wp) := by unfold rF; walk_at "lk"
theorem rF_at (E : RE) (st : RS) : (rF E st).lookup ("at" : Str) = some (.int 0) := by unfold rF; walk_at "lk"
theorem rF_taken (E : RE) (st : RS) : (rF E st).lookup ("taken" : Str) = some (.int (st.taken : Int)) := by unfold rF; walk_at "lk"
theorem rF_last (E : RE) (st : RS) : (rF E st).lookup ("last" : Str) = some (.int st.last) := by unfold rF; walk_at "lk"
theorem rF_opened (E : RE) (st : RS) : (rF E st).lookup ("opened" : Str) = some (.int (st.opened : Int)) := by unfold rF; walk_at "lk"
theorem rF_held (E : RE) (st : RS) : (rF E st).lookup ("held" : Str) = some (.ref E.hp) := by unfold rF; walk_at "lk"
theorem rF_log (E : RE) (st : RS) : (rF E st).lookup ("log" : Str) = some (.ref E.lp) := by unfold rF; walk_at "lk"
theorem rF_no (E : RE) (st : RS) {m : Str} (h : (m == "inputs" || m == "watches" || m == "at" || m == "taken" || m == "last" || m == "opened" || m == "held" || m == "log") = false) : (rF E st).lookup m = none := by
  simp only [Bool.or_eq_false_iff] at h
  obtain ⟨⟨⟨⟨⟨⟨⟨h1, h7⟩, h8⟩, h2⟩, h3⟩, h4⟩, h5⟩, h6⟩ := h
  unfold rF
  rw [lk_miss h1, lk_miss h7, lk_miss h8, lk_miss h2, lk_miss h3, lk_miss h4, lk_miss h5, lk_miss h6]; rfl
theorem rF_setTaken (E : RE) (st : RS) (n : Nat) : putF "taken" (.int (n : Int)) (rF E st) = rF E { st with taken := n } := by unfold rF; walk_at "pf"
theorem rF_setLast (E : RE) (st : RS) (n : Int) : putF "last" (.int n) (rF E st) = rF E { st with last := n } := by unfold rF; walk_at "pf"
theorem rF_setOpened (E : RE) (st : RS) (n : Nat) : putF "opened" (.int (n : Int)) (rF E st) = rF E { st with opened := n } := by unfold rF; walk_at "pf"
structure RO (K : PySem.W.Frag) (E : RE) (H0 H : Hp) (st : RS) : Prop where
  sm : Same H0 H
  fr : H0 E.r = none
  fh : H0 E.hp = none
  fl : H0 E.lp = none
  inp : SqL K H0 E.ip (E.xs.map V.int)
  wt : SqL K H0 E.wp []
  xl : E.xs.length ≤ 10000
  tk : st.taken ≤ E.xs.length
  ob : ∃ dx, H E.r = some (.ins E.C dx (rF E st))
  hd : H E.hp = some (.dK st.held)
  lg : ∃ es : List Addr, H E.lp = some (.lst (es.map V.ref)) ∧ Paired (fun a e => H a = some (.tup e)) es st.log
  good : GoodR st
section
variable {K : PySem.W.Frag} {E : RE} {H0 H H' : Hp} {st st' : RS} {Q : V → Prop}
theorem RO.mono (h : RO K E H0 H st) (s : Same H H') : RO K E H0 H' st := by
  obtain ⟨dx, ob⟩ := h.ob
  obtain ⟨es, l1, l2⟩ := h.lg
  exact ⟨h.sm.trans s, h.fr, h.fh, h.fl, h.inp, h.wt, h.xl, h.tk, ⟨dx, s _ _ ob⟩, s _ _ h.hd, ⟨es, s _ _ l1, Paired.imp' (fun a e y => s _ _ y) l2⟩, h.good⟩
theorem RO.inputs (h : RO K E H0 H st) (q : Q (.ref E.ip)) : ∃ dx fs v, H E.r = some (.ins E.C dx fs) ∧ fs.lookup ("inputs" : Str) = some v ∧ Q v := by obtain ⟨dx, ob⟩ := h.ob; exact ⟨dx, _, _, ob, rF_inputs E st, q⟩
theorem RO.watches (h : RO K E H0 H st) (q : Q (.ref E.wp)) : ∃ dx fs v, H E.r = some (.ins E.C dx fs) ∧ fs.lookup ("watches" : Str) = some v ∧ Q v := by obtain ⟨dx, ob⟩ := h.ob; exact ⟨dx, _, _, ob, rF_watches E st, q⟩
theorem RO.at (h : RO K E H0 H st) (q : Q (.int 0)) : ∃ dx fs v, H E.r = some (.ins E.C dx fs) ∧ fs.lookup ("at" : Str) = some v ∧ Q v := by obtain ⟨dx, ob⟩ := h.ob; exact ⟨dx, _, _, ob, rF_at E st, q⟩
theorem RO.taken (h : RO K E H0 H st) (q : Q (.int (st.taken : Int))) : ∃ dx fs v, H E.r = some (.ins E.C dx fs) ∧ fs.lookup ("taken" : Str) = some v ∧ Q v := by obtain ⟨dx, ob⟩ := h.ob; exact ⟨dx, _, _, ob, rF_taken E st, q⟩
theorem RO.last (h : RO K E H0 H st) (q : Q (.int st.last)) : ∃ dx fs v, H E.r = some (.ins E.C dx fs) ∧ fs.lookup ("last" : Str) = some v ∧ Q v := by obtain ⟨dx, ob⟩ := h.ob; exact ⟨dx, _, _, ob, rF_last E st, q⟩
theorem RO.opened (h : RO K E H0 H st) (q : Q (.int (st.opened : Int))) : ∃ dx fs v, H E.r = some (.ins E.C dx fs) ∧ fs.lookup ("opened" : Str) = some v ∧ Q v := by obtain ⟨dx, ob⟩ := h.ob; exact ⟨dx, _, _, ob, rF_opened E st, q⟩
theorem RO.held (h : RO K E H0 H st) (q : Q (.ref E.hp)) : ∃ dx fs v, H E.r = some (.ins E.C dx fs) ∧ fs.lookup ("held" : Str) = some v ∧ Q v := by obtain ⟨dx, ob⟩ := h.ob; exact ⟨dx, _, _, ob, rF_held E st, q⟩
theorem RO.log (h : RO K E H0 H st) (q : Q (.ref E.lp)) : ∃ dx fs v, H E.r = some (.ins E.C dx fs) ∧ fs.lookup ("log" : Str) = some v ∧ Q v := by obtain ⟨dx, ob⟩ := h.ob; exact ⟨dx, _, _, ob, rF_log E st, q⟩
theorem RO.isM (h : RO K E H0 H st) {m : Str} (hm : (m == "inputs" || m == "watches" || m == "at" || m == "taken" || m == "last" || m == "opened" || m == "held" || m == "log") = false) : ∃ dx fs, H E.r = some (.ins E.C dx fs) ∧ fs.lookup m = none := by obtain ⟨dx, ob⟩ := h.ob; exact ⟨dx, _, ob, rF_no E st hm⟩
theorem RO.put (h : RO K E H0 H st) (e1 : st'.held = st.held) (e2 : st'.log = st.log) (et : st'.taken ≤ E.xs.length) (f : Str) (v : V) (e : putF f v (rF E st) = rF E st') {Q' : Hp → Prop} (q : ∀ H', RO K E H0 H' st' → Q' H') : ∃ dx fs, H E.r = some (.ins E.C dx fs) ∧ fs.length < 1000 ∧ Q' (upd H E.r (.ins E.C dx (putF f v fs))) := by
  obtain ⟨dx, ob⟩ := h.ob
  obtain ⟨es, l1, l2⟩ := h.lg
  refine ⟨dx, _, ob, by show 8 < 1000; decide, q _ ⟨h.sm.upd h.fr _, h.fr, h.fh, h.fl, h.inp, h.wt, h.xl, et, ⟨dx, by rw [upd_same, e]⟩, ?_, ⟨es, ?_, ?_⟩, h.good.of e1⟩⟩
  · rw [upd_ne (ne_of h.hd ob (fun z => nomatch z)), e1]; exact h.hd
  · rw [upd_ne (ne_of l1 ob (fun z => nomatch z))]; exact l1
  · rw [e2]
    exact Paired.imp' (fun a e y => by rw [upd_ne (ne_of y ob (fun z => nomatch z))]; exact y) l2
theorem RO.hold (h : RO K E H0 H st) (k : Key) (o : Option Nat) : RO K E H0 (upd H E.hp (.dK (putK st.held k (hV o)))) (holdR k o st) := by
  obtain ⟨dx, ob⟩ := h.ob
  obtain ⟨es, l1, l2⟩ := h.lg
  refine ⟨h.sm.upd h.fh _, h.fr, h.fh, h.fl, h.inp, h.wt, h.xl, h.tk, ⟨dx, ?_⟩, upd_same, ⟨es, ?_, ?_⟩, h.good.hold k o⟩
  · rw [upd_ne (ne_of ob h.hd (fun z => nomatch z))]; exact ob
  · rw [upd_ne (ne_of l1 h.hd (fun z => nomatch z))]; exact l1
  · exact Paired.imp' (fun a e y => by rw [upd_ne (ne_of y h.hd (fun z => nomatch z))]; exact y) l2
/-- an entry more -/
theorem RO.add (h : RO K E H0 H st) {t : Addr} {e : List V} (et : H t = some (.tup e)) (hz : st.log.length < 1000000) (Q' : Hp → Prop) (q : ∀ H', RO K E H0 H' { st with log := st.log ++ [e] } → Q' H') :
    ∃ xs, H E.lp = some (.lst xs) ∧ xs.length < sizeLine ∧ Q' (upd H E.lp (.lst (xs ++ [.ref t]))) := by
  obtain ⟨dx, ob⟩ := h.ob
  obtain ⟨es, l1, l2⟩ := h.lg
  have hlen : es.length = st.log.length := paired_len l2
  refine ⟨_, l1, by rw [List.length_map, hlen]; exact small' (by omega), q _ ⟨h.sm.upd h.fl _, h.fr, h.fh, h.fl, h.inp, h.wt, h.xl, h.tk, ⟨dx, ?_⟩, ?_, ⟨es ++ [t], by rw [upd_same, List.map_append]; rfl, ?_⟩, h.good.of rfl⟩⟩
  · rw [upd_ne (ne_of ob l1 (fun z => nomatch z))]; exact ob
  · rw [upd_ne (ne_of h.hd l1 (fun z => nomatch z))]; exact h.hd
  · exact paired_snoc (by rw [upd_ne (ne_of et l1 (fun z => nomatch z))]; exact et) (Paired.imp' (fun a e y => by rw [upd_ne (ne_of y l1 (fun z => nomatch z))]; exact y) l2)
end
def spBrk (K : PySem.W.Frag) : Sp := fun vs H Q _ => ∃ (a : Addr) (t u v : V), vs = [.ref a, t, u, v] ∧ SqL K H a [] ∧ ∀ H', Same H H' → Q .non H'
def spAbt (K : PySem.W.Frag) : Sp := fun vs H Q _ => ∃ (a : Addr) (u v x : V), vs = [.ref a, u, v, x] ∧ SqL K H a [] ∧ Q .non H
def spTakes (K : PySem.W.Frag) (C : Addr) : Sp := fun vs H Q _ => ∃ (E : RE) (H0 : Hp) (st : RS) (n : Int), E.C = C ∧ vs = [.ref E.r, .int n] ∧ RO K E H0 H st ∧ ∀ H', RO K E H0 H' (takeR E.xs n st).2 → Q (.bl (takeR E.xs n st).1) H'
def spHandle (K : PySem.W.Frag) (C : Addr) : Sp := fun vs H Q _ => ∃ (E : RE) (H0 : Hp) (st : RS) (k : Key), E.C = C ∧ vs = [.ref E.r, kV k] ∧ RO K E H0 H st ∧ Q (hV (getH st k)) H
def spHold (K : PySem.W.Frag) (C : Addr) : Sp := fun vs H Q _ => ∃ (E : RE) (H0 : Hp) (st : RS) (k : Key) (o : Option Nat), E.C = C ∧ vs = [.ref E.r, kV k, hV o] ∧ RO K E H0 H st ∧ st.sz ≤ 200000 ∧ ∀ H', RO K E H0 H' (holdR k o st) → Q .non H'
def spDeed (K : PySem.W.Frag) (C : Addr) : Sp := fun vs H Q _ => ∃ (E : RE) (H0 : Hp) (st : RS) (l : Nat) (o : Option Nat) (x : Str), E.C = C ∧ vs = [.ref E.r, .int (l : Int), hV o, .str x] ∧ RO K E H0 H st ∧ st.sz ≤ 200000 ∧ ∀ H', RO K E H0 H' (deedR l o x st) → Q .non H'
def spNewH (K : PySem.W.Frag) (C : Addr) : Sp := fun vs H Q _ => ∃ (E : RE) (H0 : Hp) (st : RS) (l : Nat) (k : Key), E.C = C ∧ vs = [.ref E.r, .int (l : Int), kV k] ∧ RO K E H0 H st ∧ (openR l k st).sz ≤ 60000 ∧ ∀ H', RO K E H0 H' (openR l k st) → Q .non H'
def spTie (K : PySem.W.Frag) (C : Addr) : Sp := fun vs H Q _ => ∃ (E : RE) (H0 : Hp) (st : RS) (l : Nat) (a b : Option Nat), E.C = C ∧ vs = [.ref E.r, .int (l : Int), hV a, hV b] ∧ RO K E H0 H st ∧ st.sz ≤ 200000 ∧ ∀ H', RO K E H0 H' (tieR l a b st) → Q .non H'
def spEnd (K : PySem.W.Frag) (C : Addr) : Sp := fun vs H Q _ => ∃ (E : RE) (H0 : Hp) (st : RS) (l : Nat), E.C = C ∧ vs = [.ref E.r, .int (l : Int)] ∧ RO K E H0 H st ∧ st.sz ≤ 60000 ∧ ∀ H', RO K E H0 H' (endR l st) → Q .non H'
def spRInit (K : PySem.W.Frag) (C : Addr) : Sp := fun vs H Q _ => ∃ (x dx ip wp : Addr) (H0 : Hp) (xs : List Int), vs = [.ref x, .ref ip, .ref wp] ∧ H x = some (.ins C dx []) ∧ H0 x = none ∧ Same H0 H ∧ SqL K H0 ip (xs.map V.int) ∧ SqL K H0 wp [] ∧ xs.length ≤ 10000 ∧
  ∀ (hp lp : Addr) (H' : Hp), RO K ⟨C, x, ip, hp, lp, xs, wp⟩ H0 H' rs0 → Q .non H'
section
variable {P : Program} {w : World} {K : PySem.W.Frag} {mg : Str → Option Value} {base : Heap} {CR : Addr}
theorem ok_takes (D : MethAt K CR "takes_more" "Run.takes_more" s_Run_takes_more) (z_len : mg "len" = none) (a_taken : Fl K CR "taken") (a_inputs : Fl K CR "inputs") (a_last : Fl K CR "last") : Mcal P w K mg base 1 CR "takes_more" ["self", "bound"] (spTakes K CR) := by
  refine D.mcal (k := 0) sc_Run_takes_more (fun _ _ _ _ _ _ us hl => match us, hl with | [_, _], _ => rfl) (fun vs H Q E h => by obtain ⟨E, H0, st, n, _, rfl, _⟩ := h; rfl) (fun f cdv A outer s H vs Q _ hr h => ?_)
  obtain ⟨E, H0, st, n, rfl, rfl, R, q⟩ := h
  refine ⟨_, (pss_cons (ps_if (pt_cmpR op_eqA (pe_fldC a_taken (pv 0 (hv := v_Run_takes_more_self))) (pe_blt (call_lenK K) z_len bt_len (pa_cons (pe_fldC a_inputs (pv 0 (hv := v_Run_takes_more_self))) pa_nil) (hg := gl_Run_takes_more_len)) (nomark _)) (pss_one (ps_ret pe_bl)) pss_nil)
      (pss_cons (ps_fldC a_last (pv 0 (hv := v_Run_takes_more_self)) (pe_ix (ix_K K) (pe_fldC a_inputs (pv 0 (hv := v_Run_takes_more_self))) (pe_fldC a_taken (pv 0 (hv := v_Run_takes_more_self))) (fun _ _ => rfl)))
      (pss_cons (ps_fldC a_taken (pv 0 (hv := v_Run_takes_more_self)) (pe_op op_addA (pe_fldC a_taken (pv 0 (hv := v_Run_takes_more_self))) pe_int))
      (pss_one (ps_ret (pe_cmpR op_gt (pe_fldC a_last (pv 0 (hv := v_Run_takes_more_self))) (pv 1 (hv := v_Run_takes_more_bound)) (nomark _))))))), ?_⟩
  walk_at "rd1"
  refine R.taken (R.inputs ⟨_, .inl (R.sm.seq R.inp), ?_⟩)
  walk_at "rd1"
  rw [List.length_map]
  refine ite2 (fun h => ?_) (fun h => ?_)
  · have e : st.taken = E.xs.length := by omega
    have e' : takeR E.xs n st = (false, st) := by unfold takeR; rw [e, List.getElem?_eq_none (Nat.le_refl _)]
    rw [e'] at q
    exact q _ R
  have hlt : st.taken < E.xs.length := by have := R.tk; omega
  have ex : E.xs[st.taken]? = some E.xs[st.taken] := List.getElem?_eq_getElem hlt
  have e' : takeR E.xs n st = (decide (n < E.xs[st.taken]), { st with taken := st.taken + 1, last := E.xs[st.taken] }) := by unfold takeR; rw [ex]
  rw [e'] at q
  generalize E.xs[st.taken] = v at ex e' q
  walk_at "nx"
  refine R.inputs (R.taken ⟨_, _, .inl (R.sm.seq R.inp), atI_nat (by rw [List.getElem?_map, ex]; rfl), ?_⟩)
  refine R.put (st' := { st with last := v }) rfl rfl R.tk _ _ (rF_setLast E st v) fun H1 R1 => ?_
  walk_at "nx"
  refine R1.taken ?_
  walk_at "rd1"
  refine R1.put (st' := { st with last := v, taken := st.taken + 1 }) rfl rfl hlt _ _ (rF_setTaken E { st with last := v } (st.taken + 1)) fun H2 R2 => ?_
  walk_at "nx"
  refine R2.last ?_
  walk_at "rd1"
  exact q _ R2
theorem ok_handle (D : MethAt K CR "handle_of" "Run.handle_of" s_Run_handle_of) (a_held : Fl K CR "held") : Mcal P w K mg base 1 CR "handle_of" ["self", "holder"] (spHandle K CR) := by
  refine D.mcal (k := 0) sc_Run_handle_of (fun _ _ _ _ _ _ us hl => match us, hl with | [_, _], _ => rfl) (fun vs H Q E h => by obtain ⟨E, H0, st, k, _, rfl, _⟩ := h; rfl) (fun f cdv A outer s H vs Q _ hr h => ?_)
  obtain ⟨E, H0, st, k, rfl, rfl, R, q⟩ := h
  refine ⟨_, (pss_one (ps_ret (pe_dget1 (hu_of hr) (pe_fldC a_held (pv 0 (hv := v_Run_handle_of_self))) (pv 1 (hv := v_Run_handle_of_holder)) ⟨rfl, rfl, rfl, rfl⟩))), ?_⟩
  walk_at "rd1"
  refine R.held ⟨_, rfl, isD_of R.hd, _, DGet.k R.hd, ?_⟩
  rw [R.good.get]; exact q
theorem ok_hold (D : MethAt K CR "hold" "Run.hold" s_Run_hold) (a_held : Fl K CR "held") : Mcal P w K mg base 1 CR "hold" ["self", "holder", "handle"] (spHold K CR) := by
  refine D.mcal (k := 0) sc_Run_hold (fun _ _ _ _ _ _ us hl => match us, hl with | [_, _, _], _ => rfl) (fun vs H Q E h => by obtain ⟨E, H0, st, k, o, _, rfl, _⟩ := h; rfl) (fun f cdv A outer s H vs Q _ hr h => ?_)
  obtain ⟨E, H0, st, k, o, rfl, rfl, R, hz, q⟩ := h
  refine ⟨_, (pss_one (ps_asg (pv 2 (hv := v_Run_hold_handle)) (pg_sub (pe_fldC a_held (pv 0 (hv := v_Run_hold_self))) (pv 1 (hv := v_Run_hold_holder)) (set_D hr)))), ?_⟩
  walk_at "rd1"
  refine R.held ⟨E.hp, _, k, rfl, rfl, R.hd, small' (by unfold RS.sz at hz; omega), ?_⟩
  exact q _ (R.hold k o)
theorem ok_brk (D : DefAt K mg "broken_or_gone_on" s_broken_or_gone_on) (z_len : mg "len" = none) : Cal P w K mg base 1 "broken_or_gone_on" ["watches", "at", "handle", "word"] (spBrk K) := by
  refine D.cal (k := 0) sc_broken_or_gone_on (fun _ _ _ _ _ _ us hl => match us, hl with | [_, _, _, _], _ => rfl) (fun vs H Q E h => by obtain ⟨a, t, u, v, rfl, _⟩ := h; rfl) (fun f cdv A outer s H vs Q _ hr h => ?_)
  obtain ⟨a, t, u, v, rfl, h0, q⟩ := h
  refine ⟨_, (pss_cons (ps_let 4 sc_broken_or_gone_on.nd (pe_lst pa_nil) (hx := l_broken_or_gone_on_broken))
      (pss_cons (ps_for PassesOwn.never rfl (pi_listK K (pv 0 (hv := v_broken_or_gone_on_watches))) pg_never pss_never)
      (pss_cons (ps_if (pt_cmpR op_gt (pe_blt (call_lenK K) z_len bt_len (pa_cons (pv 4 (hv := v_broken_or_gone_on_broken)) pa_nil) (hg := gl_broken_or_gone_on_len)) pe_int (nomark _)) (pss_cons ps_never
      (pss_one ps_never)) pss_nil)
      (pss_cons (ps_for PassesOwn.never rfl (pi_listK K (pv 0 (hv := v_broken_or_gone_on_watches))) pg_never pss_never)
      (pss_one (ps_ret pe_non)))))), ?_⟩
  walk_at "rd1"
  refine ⟨by decide, fun D hD => ?_⟩
  have sm : Same H (upd H D (.lst [])) := same_new hD (.lst [])
  have eD : upd H D (.lst []) D = some (.lst []) := upd_same
  generalize upd H D (.lst []) = H1 at sm eD ⊢
  walk_at "nx"
  refine ⟨⟨_, sm.seq h0⟩, for0 (sm.seq h0) ?_⟩
  walk_at "nx"
  refine ⟨_, .inl (SqL.of eD), ?_⟩
  walk_at "rd1"
  refine ite2 (fun c => absurd c (by decide)) (fun c => ?_)
  walk_at "nx"
  refine ⟨⟨_, sm.seq h0⟩, for0 (sm.seq h0) ?_⟩
  walk_at "nx"
  exact q _ sm
theorem ok_abt (D : DefAt K mg "all_begin_tie" s_all_begin_tie) : Cal P w K mg base 1 "all_begin_tie" ["watches", "one", "other", "start"] (spAbt K) := by
  refine D.cal (k := 0) sc_all_begin_tie (fun _ _ _ _ _ _ us hl => match us, hl with | [_, _, _, _], _ => rfl) (fun vs H Q E h => by obtain ⟨a, u, v, x, rfl, _⟩ := h; rfl) (fun f cdv A outer s H vs Q _ hr h => ?_)
  obtain ⟨a, u, v, x, rfl, h0, q⟩ := h
  refine ⟨_, (pss_one (ps_for PassesOwn.never rfl (pi_listK K (pv 0 (hv := v_all_begin_tie_watches))) pg_never pss_never)), ?_⟩
  walk_at "rd1"
  refine ⟨⟨_, h0⟩, for0 h0 ?_⟩
  exact q
theorem ok_deed (D : MethAt K CR "deed" "Run.deed" s_Run_deed) (a_log : Fl K CR "log") (a_last : Fl K CR "last") (a_watches : Fl K CR "watches") (a_at : Fl K CR "at") (c_broken_or_gone_on : Cal P w K mg base 1 "broken_or_gone_on" ["watches", "at", "handle", "word"] (spBrk K)) : Mcal P w K mg base 2 CR "deed" ["self", "line", "handle", "word"] (spDeed K CR) := by
  refine D.mcal (k := 1) sc_Run_deed (fun _ _ _ _ _ _ us hl => match us, hl with | [_, _, _, _], _ => rfl) (fun vs H Q E h => by obtain ⟨E, H0, st, l, o, x, _, rfl, _⟩ := h; rfl) (fun f cdv A outer s H vs Q _ hr h => ?_)
  obtain ⟨E, H0, st, l, o, x, rfl, rfl, R, hz, q⟩ := h
  refine ⟨_, (pss_cons (ps_if (pt_cmpR op_isNA (pv 2 (hv := v_Run_deed_handle)) pe_non (nomark _)) (pss_one ps_retN) pss_nil)
      (pss_cons (ps_let 4 sc_Run_deed.nd (pe_tup (pa_cons (pv 1 (hv := v_Run_deed_line)) (pa_cons (pv 2 (hv := v_Run_deed_handle)) (pa_cons (pv 3 (hv := v_Run_deed_word)) (pa_cons (pe_fldC a_last (pv 0 (hv := v_Run_deed_self))) pa_nil))))) (hx := l_Run_deed_entry))
      (pss_cons (ps_let 5 sc_Run_deed.nd (pe_cal c_broken_or_gone_on hr (pa_cons (pe_fldC a_watches (pv 0 (hv := v_Run_deed_self))) (pa_cons (pe_fldC a_at (pv 0 (hv := v_Run_deed_self))) (pa_cons (pv 2 (hv := v_Run_deed_handle)) (pa_cons (pv 3 (hv := v_Run_deed_word)) pa_nil)))) (hg := gl_Run_deed_broken_or_gone_on)) (hx := l_Run_deed_broken))
      (pss_cons (ps_if (pt_cmpR op_notNA (pv 5 (hv := v_Run_deed_broken)) pe_non (nomark _)) (pss_one ps_never) pss_nil)
      (pss_one (ps_expr (pe_bmK K PySem.F.plainAttrs_list PySem.F.slot_list_append PySem.F.type_list_append mt_appendA (pe_fldC a_log (pv 0 (hv := v_Run_deed_self))) (pa_cons (pv 4 (hv := v_Run_deed_entry)) pa_nil)))))))), ?_⟩
  walk_at "rd1"
  cases o with
  | none =>
    refine ite2 (fun c => ?_) (fun c => absurd rfl c)
    exact q _ R
  | some n =>
    refine ite2 (fun c => absurd c (by simp [hV])) (fun c => ?_)
    have hV' : hV (some n) = .int (n : Int) := rfl
    rw [hV']
    walk_at "nx"
    refine R.last ⟨by decide, fun t ht => ?_⟩
    have sm := same_new ht (.tup [.int (l : Int), .int (n : Int), .str x, .int st.last])
    have et : upd H t (.tup [.int (l : Int), .int (n : Int), .str x, .int st.last]) t = some (.tup [.int (l : Int), .int (n : Int), .str x, .int st.last]) := upd_same
    generalize upd H t (.tup [.int (l : Int), .int (n : Int), .str x, .int st.last]) = H1 at sm et ⊢
    have R1 := R.mono sm
    walk_at "nx"
    refine R1.watches (R1.at ⟨E.wp, _, _, _, rfl, R1.sm.seq R1.wt, fun H2 s2 => ?_⟩)
    have R2 := R1.mono s2
    walk_at "nx"
    refine ite2 (fun c => absurd c (by simp)) (fun c => ?_)
    obtain ⟨es, l1, l2⟩ := id R2.lg
    walk_at "nx"
    refine R2.log ⟨.inl ⟨rfl, _, SqL.of l1⟩, ?_⟩
    walk_at "rd1"
    exact R2.add (s2 _ _ et) (by unfold RS.sz at hz; omega) (fun H' => Q .non H') q
theorem ok_newh (D : MethAt K CR "new_handle" "Run.new_handle" s_Run_new_handle) (a_opened : Fl K CR "opened") (m_Run_deed : Mcal P w K mg base 2 CR "deed" ["self", "line", "handle", "word"] (spDeed K CR)) (m_Run_hold : Mcal P w K mg base 1 CR "hold" ["self", "holder", "handle"] (spHold K CR)) : Mcal P w K mg base 3 CR "new_handle" ["self", "line", "holder"] (spNewH K CR) := by
  refine D.mcal (k := 2) sc_Run_new_handle (fun _ _ _ _ _ _ us hl => match us, hl with | [_, _, _], _ => rfl) (fun vs H Q E h => by obtain ⟨E, H0, st, l, k, _, rfl, _⟩ := h; rfl) (fun f cdv A outer s H vs Q _ hr h => ?_)
  obtain ⟨E, H0, st, l, k, rfl, rfl, R, hz, q⟩ := h
  refine ⟨_, (pss_cons (ps_let 3 sc_Run_new_handle.nd (pe_fldC a_opened (pv 0 (hv := v_Run_new_handle_self))) (hx := l_Run_new_handle_handle))
      (pss_cons (ps_fldC a_opened (pv 0 (hv := v_Run_new_handle_self)) (pe_op op_addA (pv 3 (hv := v_Run_new_handle_handle)) pe_int))
      (pss_cons (ps_expr (pe_mcal m_Run_deed hr (pv 0 (hv := v_Run_new_handle_self)) (pa_cons (pv 1 (hv := v_Run_new_handle_line)) (pa_cons (pv 3 (hv := v_Run_new_handle_handle)) (pa_cons pe_str pa_nil)))))
      (pss_one (ps_expr (pe_mcal m_Run_hold hr (pv 0 (hv := v_Run_new_handle_self)) (pa_cons (pv 2 (hv := v_Run_new_handle_holder)) (pa_cons (pv 3 (hv := v_Run_new_handle_handle)) pa_nil)))))))), ?_⟩
  walk_at "rd1"
  refine R.opened ?_
  walk_at "nx"
  refine R.put (st' := { st with opened := st.opened + 1 }) rfl rfl R.tk _ _ (rF_setOpened E st (st.opened + 1)) fun H1 R1 => ?_
  have u1 := up_deed l (some st.opened) "open" { st with opened := st.opened + 1 }
  have u2 := up_hold k (some st.opened) (deedR l (some st.opened) "open" { st with opened := st.opened + 1 })
  have hz2 : (holdR k (some st.opened) (deedR l (some st.opened) "open" { st with opened := st.opened + 1 })).sz ≤ 60000 := hz
  walk_at "nx"
  refine ⟨R1.isM (by decide +kernel), E, H0, _, l, some st.opened, "open", rfl, rfl, R1, by have := u1.2; have := u2.2; omega, fun H2 R2 => ?_⟩
  walk_at "nx"
  refine ⟨R2.isM (by decide +kernel), E, H0, _, k, some st.opened, rfl, rfl, R2, by have := u2.2; omega, fun H3 R3 => ?_⟩
  exact q _ R3
theorem ok_tie (D : MethAt K CR "tie" "Run.tie" s_Run_tie) (z_len : mg "len" = none) (a_log : Fl K CR "log") (a_watches : Fl K CR "watches") (c_all_begin_tie : Cal P w K mg base 1 "all_begin_tie" ["watches", "one", "other", "start"] (spAbt K)) : Mcal P w K mg base 2 CR "tie" ["self", "line", "one", "other"] (spTie K CR) := by
  refine D.mcal (k := 1) sc_Run_tie (fun _ _ _ _ _ _ us hl => match us, hl with | [_, _, _, _], _ => rfl) (fun vs H Q E h => by obtain ⟨E, H0, st, l, a, b, _, rfl, _⟩ := h; rfl) (fun f cdv A outer s H vs Q _ hr h => ?_)
  obtain ⟨E, H0, st, l, a, b, rfl, rfl, R, hz, q⟩ := h
  refine ⟨_, (pss_one (ps_if (PW.pt' (pw_and (pt_cmpR op_notNA (pv 2 (hv := v_Run_tie_one)) pe_non (nomark _)) (pw_and (pt_cmpR op_notNA (pv 3 (hv := v_Run_tie_other)) pe_non (nomark _)) (pw_and1 (pt_cmpR op_neA (pv 2 (hv := v_Run_tie_one)) (pv 3 (hv := v_Run_tie_other)) (nomark _)))))) (pss_cons (ps_expr (pe_bmK K PySem.F.plainAttrs_list PySem.F.slot_list_append PySem.F.type_list_append mt_appendA (pe_fldC a_log (pv 0 (hv := v_Run_tie_self))) (pa_cons (pe_tup (pa_cons (pv 1 (hv := v_Run_tie_line)) (pa_cons (pv 2 (hv := v_Run_tie_one)) (pa_cons (pv 3 (hv := v_Run_tie_other)) pa_nil)))) pa_nil)))
      (pss_one (ps_expr (pe_cal c_all_begin_tie hr (pa_cons (pe_fldC a_watches (pv 0 (hv := v_Run_tie_self))) (pa_cons (pv 2 (hv := v_Run_tie_one)) (pa_cons (pv 3 (hv := v_Run_tie_other)) (pa_cons (pe_blt (call_lenK K) z_len bt_len (pa_cons (pe_fldC a_log (pv 0 (hv := v_Run_tie_self))) pa_nil) (hg := gl_Run_tie_len)) pa_nil)))) (hg := gl_Run_tie_all_begin_tie))))) pss_nil)), ?_⟩
  walk_at "rd1"
  cases a with
  | none =>
    refine ite2 (fun c => absurd c (by simp [hV])) (fun c => ?_)
    exact q _ R
  | some n =>
    refine ite2 (fun c => ?_) (fun c => absurd (show (!decide (hV (some n) = V.non)) = true by simp [hV]) c)
    cases b with
    | none =>
      refine ite2 (fun c => absurd c (by simp [hV])) (fun c => ?_)
      exact q _ R
    | some m =>
      refine ite2 (fun c => ?_) (fun c => absurd (show (!decide (hV (some m) = V.non)) = true by simp [hV]) c)
      have hVn : hV (some n) = .int (n : Int) := rfl
      have hVm : hV (some m) = .int (m : Int) := rfl
      rw [hVn, hVm]
      walk_at "rd1"
      by_cases e : n = m
      · refine ite2 (fun c => absurd c (by simp [e])) (fun c => ?_)
        have e' : tieR l (some n) (some m) st = st := by show (if n = m then st else _) = st; rw [if_pos e]
        rw [e'] at q
        exact q _ R
      · refine ite2 (fun c => ?_) (fun c => absurd (show _ from by simp; omega) c)
        have e' : tieR l (some n) (some m) st = { st with log := st.log ++ [[.int l, .int n, .int m]] } := by show (if n = m then st else _) = _; rw [if_neg e]
        rw [e'] at q
        obtain ⟨es, l1, l2⟩ := id R.lg
        refine R.log ⟨.inl ⟨rfl, _, SqL.of l1⟩, by decide, fun t ht => ?_⟩
        have sm := same_new ht (.tup [.int (l : Int), .int (n : Int), .int (m : Int)])
        have et : upd H t (.tup [.int (l : Int), .int (n : Int), .int (m : Int)]) t = some (.tup [.int (l : Int), .int (n : Int), .int (m : Int)]) := upd_same
        generalize upd H t (.tup [.int (l : Int), .int (n : Int), .int (m : Int)]) = H1 at sm et ⊢
        have R1 := R.mono sm
        walk_at "rd1"
        refine R1.add et (by unfold RS.sz at hz; omega) _ fun H2 R2 => ?_
        walk_at "nx"
        refine R2.watches (R2.log ?_)
        obtain ⟨es2, l3, l4⟩ := id R2.lg
        refine ⟨_, .inl (SqL.of l3), ?_⟩
        exact ⟨E.wp, _, _, _, rfl, R2.sm.seq R2.wt, q _ R2⟩
theorem ok_end (D : MethAt K CR "end_all" "Run.end_all" s_Run_end_all) (z_range : mg "range" = none) (a_opened : Fl K CR "opened") (m_Run_deed : Mcal P w K mg base 2 CR "deed" ["self", "line", "handle", "word"] (spDeed K CR)) : Mcal P w K mg base 3 CR "end_all" ["self", "line"] (spEnd K CR) := by
  refine D.mcal (k := 2) sc_Run_end_all (fun _ _ _ _ _ _ us hl => match us, hl with | [_, _], _ => rfl) (fun vs H Q E h => by obtain ⟨E, H0, st, l, _, rfl, _⟩ := h; rfl) (fun f cdv A outer s H vs Q _ hr h => ?_)
  obtain ⟨E, H0, st, l, rfl, rfl, R, hz, q⟩ := h
  have ho : st.opened ≤ 60000 := by unfold RS.sz at hz; omega
  refine ⟨_, (pss_one (ps_for PassesOwn.never rfl (pi_range1 gl_Run_end_all_range z_range (pa_cons (pe_fldC a_opened (pv 0 (hv := v_Run_end_all_self))) pa_nil)) (pg_let 2 sc_Run_end_all.nd (hx := l_Run_end_all_handle)) (pss_one (ps_expr (pe_mcal m_Run_deed hr (pv 0 (hv := v_Run_end_all_self)) (pa_cons (pv 1 (hv := v_Run_end_all_line)) (pa_cons (pv 2 (hv := v_Run_end_all_handle)) (pa_cons pe_str pa_nil)))))))), ?_⟩
  walk_at "rd1"
  refine R.opened ?_
  walk_at "rd1"
  refine ⟨by omega, by omega, ?_⟩
  rw [show ((st.opened : Int)).toNat = st.opened from Int.toNat_natCast _]
  refine forW_range (fun i σ H' => ∃ o2 : Option V, σ = [some (.ref E.r), some (.int (l : Int)), o2] ∧ RO K E H0 H' { st with log := st.log ++ (List.range i).map fun (h : Nat) => ([.int l, .int h, .str "end", .int st.last] : List V) })
    ⟨none, rfl, by simpa using R⟩ ?_ ?_
  · rintro i σ H' hi ⟨o2, rfl, R'⟩
    walk_at "rd1"
    refine ⟨R'.isM (by decide +kernel), E, H0, _, l, some i, "end", rfl, by rw [Int.zero_add]; rfl, R', ?_, fun H2 R2 => ⟨_, rfl, ?_⟩⟩
    · simp only [RS.sz, List.length_append, List.length_map, List.length_range] at hz ⊢; omega
    · have e : deedR l (some i) "end" { st with log := st.log ++ (List.range i).map fun (h : Nat) => ([.int l, .int h, .str "end", .int st.last] : List V) } = { st with log := st.log ++ (List.range (i + 1)).map fun (h : Nat) => ([.int l, .int h, .str "end", .int st.last] : List V) } := by
        rw [List.range_succ, List.map_append, ← List.append_assoc]; rfl
      rw [e] at R2
      exact R2
  · rintro σ H' ⟨o2, rfl, R'⟩
    exact q _ R'
theorem ok_rinit (D : MakeAt K mg "Run" CR "Run.__init__" s_Run___init__) (a_inputs : Fl K CR "inputs") (a_watches : Fl K CR "watches") (a_at : Fl K CR "at") (a_taken : Fl K CR "taken") (a_last : Fl K CR "last") (a_opened : Fl K CR "opened") (a_held : Fl K CR "held") (a_log : Fl K CR "log") : Mkal P w K mg base 1 "Run" CR ["self", "inputs", "watches"] (spRInit K CR) := by
  refine D.mkal (k := 0) sc_Run___init__ (fun _ _ _ _ _ _ us hl => match us, hl with | [_, _, _], _ => rfl) (fun vs H Q E h => by obtain ⟨x, dx, ip, wp, H0, xs, rfl, _⟩ := h; rfl) (fun f cdv A outer s H vs Q _ hr h => ?_)
  obtain ⟨x, dx, ip, wp, H0, xs, rfl, hx, h0x, sm, hip, hwp, hxl, q⟩ := h
  refine ⟨_, (pss_cons (ps_fldC a_inputs (pv 0 (hv := v_Run___init___self)) (pv 1 (hv := v_Run___init___inputs)))
      (pss_cons (ps_fldC a_watches (pv 0 (hv := v_Run___init___self)) (pv 2 (hv := v_Run___init___watches)))
      (pss_cons (ps_fldC a_at (pv 0 (hv := v_Run___init___self)) pe_int)
      (pss_cons (ps_fldC a_taken (pv 0 (hv := v_Run___init___self)) pe_int)
      (pss_cons (ps_fldC a_last (pv 0 (hv := v_Run___init___self)) pe_int)
      (pss_cons (ps_fldC a_opened (pv 0 (hv := v_Run___init___self)) pe_int)
      (pss_cons (ps_fldC a_held (pv 0 (hv := v_Run___init___self)) pe_dnewK)
      (pss_one (ps_fldC a_log (pv 0 (hv := v_Run___init___self)) (pe_lst pa_nil)))))))))), ?_⟩
  walk_at "rd1"
  refine ⟨dx, _, hx, by simp, ?_⟩
  generalize hA : upd H x _ = HA
  have eA : HA x = some (.ins CR dx [("inputs", .ref ip)]) := by rw [← hA, upd_same]; walk_at "pf"
  have sA : Same H0 HA := by rw [← hA]; exact sm.upd h0x _
  walk_at "nx"
  refine ⟨dx, _, eA, by simp, ?_⟩
  generalize hA2 : upd HA x _ = HA2
  have eA2 : HA2 x = some (.ins CR dx [("inputs", .ref ip), ("watches", .ref wp)]) := by rw [← hA2, upd_same]; walk_at "pf"
  have sA2 : Same H0 HA2 := by rw [← hA2]; exact sA.upd h0x _
  walk_at "nx"
  refine ⟨dx, _, eA2, by simp, ?_⟩
  generalize hA3 : upd HA2 x _ = HA3
  have eA3 : HA3 x = some (.ins CR dx [("inputs", .ref ip), ("watches", .ref wp), ("at", .int 0)]) := by rw [← hA3, upd_same]; walk_at "pf"
  have sA3 : Same H0 HA3 := by rw [← hA3]; exact sA2.upd h0x _
  walk_at "nx"
  refine ⟨dx, _, eA3, by simp, ?_⟩
  generalize hB : upd HA3 x _ = HB
  have eB : HB x = some (.ins CR dx [("inputs", .ref ip), ("watches", .ref wp), ("at", .int 0), ("taken", .int 0)]) := by rw [← hB, upd_same]; walk_at "pf"
  have sB : Same H0 HB := by rw [← hB]; exact sA3.upd h0x _
  walk_at "nx"
  refine ⟨dx, _, eB, by simp, ?_⟩
  generalize hC : upd HB x _ = HC
  have eC : HC x = some (.ins CR dx [("inputs", .ref ip), ("watches", .ref wp), ("at", .int 0), ("taken", .int 0), ("last", .int 0)]) := by rw [← hC, upd_same]; walk_at "pf"
  have sC : Same H0 HC := by rw [← hC]; exact sB.upd h0x _
  walk_at "nx"
  refine ⟨dx, _, eC, by simp, ?_⟩
  generalize hD : upd HC x _ = HD
  have eD : HD x = some (.ins CR dx [("inputs", .ref ip), ("watches", .ref wp), ("at", .int 0), ("taken", .int 0), ("last", .int 0), ("opened", .int 0)]) := by rw [← hD, upd_same]; walk_at "pf"
  have sD : Same H0 HD := by rw [← hD]; exact sC.upd h0x _
  walk_at "nx"
  intro hp hhp
  generalize hE : upd HD hp _ = HE
  have sE := al_same hE hhp
  have eE := al_at hE
  refine ⟨dx, _, sE _ _ eD, by simp, ?_⟩
  generalize hF : upd HE x _ = HF
  have eF : HF x = some (.ins CR dx [("inputs", .ref ip), ("watches", .ref wp), ("at", .int 0), ("taken", .int 0), ("last", .int 0), ("opened", .int 0), ("held", .ref hp)]) := by rw [← hF, upd_same]; walk_at "pf"
  have sF : Same H0 HF := by rw [← hF]; exact (sD.trans sE).upd h0x _
  have dF : HF hp = some (.dK []) := by rw [← hF, upd_ne (ne_of eE (sE _ _ eD) (fun z => nomatch z))]; exact eE
  walk_at "nx"
  refine ⟨by decide, fun lp hlp => ?_⟩
  generalize hG : upd HF lp _ = HG
  have sG := al_same hG hlp
  have eG := al_at hG
  refine ⟨dx, _, sG _ _ eF, by simp, ?_⟩
  refine q hp lp _ ⟨(sF.trans sG).upd h0x _, h0x, sD.free hhp, sF.free hlp, hip, hwp, hxl, Nat.zero_le _, ⟨dx, ?_⟩, ?_, ⟨[], ?_, .nil⟩, fun k v e => by cases e⟩
  · rw [upd_same]; unfold rF; walk_at "pf"; rfl
  · rw [upd_ne (ne_of (sG _ _ dF) (sG _ _ eF) (fun z => nomatch z))]; exact sG _ _ dF
  · rw [upd_ne (ne_of eG (sG _ _ eF) (fun z => nomatch z))]; exact eG
end
/-! ### steps done -/
def spDo1 (K : PySem.W.Frag) (CR CN : Addr) (d : Nat) (is : Stp → Prop) : Sp := fun vs H Q _ => ∃ (E : RE) (H0 : Hp) (st : RS) (a : Addr) (l : Nat) (s : Stp) (S : Addr → Prop), E.C = CR ∧ vs = [.ref E.r, .ref a] ∧ is s ∧ nstpAt K CN (cntT d) S (NumAt K CN S d H0) H0 a l s ∧ shpS (shpT d) s ∧ RO K E H0 H st ∧
  (stepR (cntT d) (runT E.xs d) E.xs l s st).sz ≤ 60000 ∧ ∀ H', RO K E H0 H' (stepR (cntT d) (runT E.xs d) E.xs l s st) → Q .non H'
def spDo (K : PySem.W.Frag) (CR CN : Addr) (d : Nat) : Sp := fun vs H Q _ => ∃ (E : RE) (H0 : Hp) (st : RS) (p : Addr) (l : Nat) (T : List Stp) (S : Addr → Prop), E.C = CR ∧ vs = [.ref E.r, .ref p] ∧ NumAt K CN S d H0 p l T ∧ shpT d T ∧ RO K E H0 H st ∧
  (runT E.xs d l T st).sz ≤ 60000 ∧ ∀ H', RO K E H0 H' (runT E.xs d l T st) → Q .non H'
def isPlain : Stp → Prop
  | .plain _ => True
  | _ => False
def isLend : Stp → Prop
  | .lend _ _ _ => True
  | _ => False
def isIte : Stp → Prop
  | .ite _ _ _ => True
  | _ => False
def isWhl : Stp → Prop
  | .whl _ _ => True
  | _ => False
section
variable {P : Program} {w : World} {K : PySem.W.Frag} {mg : Str → Option Value} {base : Heap} {CR CN : Addr}
theorem plainR_open (l : Nat) (x : Str) (st : RS) : plainR l ["open", x] st = openR l (.inr x) st := by
  show (if ("open" : Str) = "open" then openR l (.inr x) st else holdR (.inr x) none st) = _
  exact if_pos rfl
theorem plainR_drop (l : Nat) (x : Str) (st : RS) : plainR l ["drop", x] st = holdR (.inr x) none st := by
  show (if ("drop" : Str) = "open" then openR l (.inr x) st else holdR (.inr x) none st) = _
  exact if_neg (by decide)
theorem plainR_do (l : Nat) (u x : Str) (st : RS) : plainR l ["do", u, x] st = deedR l (getH st (.inr x)) u st := by
  show (if ("do" : Str) = "do" then deedR l (getH st (.inr x)) u st else if ("do" : Str) = "copy" then holdR (.inr u) (getH st (.inr x)) st else tieR l (getH st (.inr u)) (getH st (.inr x)) st) = _
  exact if_pos rfl
theorem plainR_copy (l : Nat) (u x : Str) (st : RS) : plainR l ["copy", u, x] st = holdR (.inr u) (getH st (.inr x)) st := by
  show (if ("copy" : Str) = "do" then deedR l (getH st (.inr x)) u st else if ("copy" : Str) = "copy" then holdR (.inr u) (getH st (.inr x)) st else tieR l (getH st (.inr u)) (getH st (.inr x)) st) = _
  rw [if_neg (by decide)]; exact if_pos rfl
theorem plainR_tie (l : Nat) (u x : Str) (st : RS) : plainR l ["tie", u, x] st = tieR l (getH st (.inr u)) (getH st (.inr x)) st := by
  show (if ("tie" : Str) = "do" then deedR l (getH st (.inr x)) u st else if ("tie" : Str) = "copy" then holdR (.inr u) (getH st (.inr x)) st else tieR l (getH st (.inr u)) (getH st (.inr x)) st) = _
  rw [if_neg (by decide)]; exact if_neg (by decide)
theorem at1 {α : Type} {x y : α} {xs : List α} : atI (x :: y :: xs) 1 = some y := atI_nat (j := 1) rfl
theorem ok_simple (D : DefAt K mg "do_simple" s_do_simple) (a_lines : Fl K CN "lines") (a_parts : Fl K CN "parts") (a_kind : Fl K CN "kind")
    (m_Run_new_handle : Mcal P w K mg base 3 CR "new_handle" ["self", "line", "holder"] (spNewH K CR)) (m_Run_deed : Mcal P w K mg base 2 CR "deed" ["self", "line", "handle", "word"] (spDeed K CR)) (m_Run_handle_of : Mcal P w K mg base 1 CR "handle_of" ["self", "holder"] (spHandle K CR))
    (m_Run_hold : Mcal P w K mg base 1 CR "hold" ["self", "holder", "handle"] (spHold K CR)) (m_Run_tie : Mcal P w K mg base 2 CR "tie" ["self", "line", "one", "other"] (spTie K CR)) {d : Nat} : Cal P w K mg base 4 "do_simple" ["run", "step"] (spDo1 K CR CN d isPlain) := by
  refine D.cal (k := 3) sc_do_simple (fun _ _ _ _ _ _ us hl => match us, hl with | [_, _], _ => rfl) (fun vs H Q E h => by obtain ⟨E, H0, st, a, l, s, S, _, rfl, _⟩ := h; rfl) (fun f cdv A outer sh H vs Q _ hr h => ?_)
  obtain ⟨E, H0, st, a, l, s, S, rfl, rfl, hs, hn, sp, R, hz, q⟩ := h
  refine ⟨_, (pss_cons (ps_let 2 sc_do_simple.nd (pe_ix (ix_K K) (pe_fldC a_lines (pv 1 (hv := v_do_simple_step))) pe_int (fun _ _ => rfl)) (hx := l_do_simple_line))
      (pss_cons (ps_let 3 sc_do_simple.nd (pe_fldC a_parts (pv 1 (hv := v_do_simple_step))) (hx := l_do_simple_parts))
      (pss_one (ps_if (pt_cmpR op_eqA (pe_fldC a_kind (pv 1 (hv := v_do_simple_step))) pe_str (nomark _)) (pss_one (ps_expr (pe_mcal m_Run_new_handle hr (pv 0 (hv := v_do_simple_run)) (pa_cons (pv 2 (hv := v_do_simple_line)) (pa_cons (pe_ix (ix_K K) (pv 3 (hv := v_do_simple_parts)) pe_int (fun _ _ => rfl)) pa_nil))))) (pss_one (ps_if (pt_cmpR op_eqA (pe_fldC a_kind (pv 1 (hv := v_do_simple_step))) pe_str (nomark _)) (pss_one (ps_expr (pe_mcal m_Run_deed hr (pv 0 (hv := v_do_simple_run)) (pa_cons (pv 2 (hv := v_do_simple_line)) (pa_cons (pe_mcal m_Run_handle_of hr (pv 0 (hv := v_do_simple_run)) (pa_cons (pe_ix (ix_K K) (pv 3 (hv := v_do_simple_parts)) pe_int (fun _ _ => rfl)) pa_nil)) (pa_cons (pe_ix (ix_K K) (pv 3 (hv := v_do_simple_parts)) pe_int (fun _ _ => rfl)) pa_nil)))))) (pss_one (ps_if (pt_cmpR op_eqA (pe_fldC a_kind (pv 1 (hv := v_do_simple_step))) pe_str (nomark _)) (pss_one (ps_expr (pe_mcal m_Run_hold hr (pv 0 (hv := v_do_simple_run)) (pa_cons (pe_ix (ix_K K) (pv 3 (hv := v_do_simple_parts)) pe_int (fun _ _ => rfl)) (pa_cons (pe_mcal m_Run_handle_of hr (pv 0 (hv := v_do_simple_run)) (pa_cons (pe_ix (ix_K K) (pv 3 (hv := v_do_simple_parts)) pe_int (fun _ _ => rfl)) pa_nil)) pa_nil))))) (pss_one (ps_if (pt_cmpR op_eqA (pe_fldC a_kind (pv 1 (hv := v_do_simple_step))) pe_str (nomark _)) (pss_one (ps_expr (pe_mcal m_Run_hold hr (pv 0 (hv := v_do_simple_run)) (pa_cons (pe_ix (ix_K K) (pv 3 (hv := v_do_simple_parts)) pe_int (fun _ _ => rfl)) (pa_cons pe_non pa_nil))))) (pss_one (ps_expr (pe_mcal m_Run_tie hr (pv 0 (hv := v_do_simple_run)) (pa_cons (pv 2 (hv := v_do_simple_line)) (pa_cons (pe_mcal m_Run_handle_of hr (pv 0 (hv := v_do_simple_run)) (pa_cons (pe_ix (ix_K K) (pv 3 (hv := v_do_simple_parts)) pe_int (fun _ _ => rfl)) pa_nil)) (pa_cons (pe_mcal m_Run_handle_of hr (pv 0 (hv := v_do_simple_run)) (pa_cons (pe_ix (ix_K K) (pv 3 (hv := v_do_simple_parts)) pe_int (fun _ _ => rfl)) pa_nil)) pa_nil)))))))))))))))), ?_⟩
  cases s with
  | plain ws =>
    obtain ⟨dx, pp, lp, bp, bs, g1, g2, g3, g4, g5, g6, g7⟩ := hn
    have k4 : H lp = some (.lst (intsN [l])) := R.sm _ _ g4
    have px : PlainX ws := sp
    cases px with
    | op x =>
      have k1 : H a = some (.ins CN dx (nF "open" pp lp bp)) := R.sm _ _ g1
      have k2 : SqT K H pp [.str x] := g2.same R.sm
      have e : stepR (cntT d) (runT E.xs d) E.xs l (.plain ["open", x]) st = openR l (.inr x) st := plainR_open l x st
      rw [e] at hz q
      walk_at "rd1"
      refine fld_of k1 (nF_lines _ _ _ _) ?_
      walk_at "rd1"
      refine ⟨_, _, .inl (SqL.of k4), at0, ?_⟩
      walk_at "nx"
      refine fld_of k1 (nF_parts _ _ _ _) ?_
      walk_at "nx"
      refine fld_of k1 (nF_kind _ _ _ _) ?_
      walk_at "rd1"
      exact ⟨R.isM (by decide +kernel), _, _, .inr k2, at0, E, H0, st, l, .inr x, rfl, rfl, R, hz, q⟩
    | dr x =>
      have k1 : H a = some (.ins CN dx (nF "drop" pp lp bp)) := R.sm _ _ g1
      have k2 : SqT K H pp [.str x] := g2.same R.sm
      have e : stepR (cntT d) (runT E.xs d) E.xs l (.plain ["drop", x]) st = holdR (.inr x) none st := plainR_drop l x st
      rw [e] at hz q
      walk_at "rd1"
      refine fld_of k1 (nF_lines _ _ _ _) ?_
      walk_at "rd1"
      refine ⟨_, _, .inl (SqL.of k4), at0, ?_⟩
      walk_at "nx"
      refine fld_of k1 (nF_parts _ _ _ _) ?_
      walk_at "nx"
      refine fld_of k1 (nF_kind _ _ _ _) ?_
      walk_at "rd1"
      refine ite2 (fun c => absurd c (by decide)) (fun _ => ?_)
      refine fld_of k1 (nF_kind _ _ _ _) ?_
      walk_at "rd1"
      refine ite2 (fun c => absurd c (by decide)) (fun _ => ?_)
      refine fld_of k1 (nF_kind _ _ _ _) ?_
      walk_at "rd1"
      refine ite2 (fun c => absurd c (by decide)) (fun _ => ?_)
      refine fld_of k1 (nF_kind _ _ _ _) ?_
      walk_at "rd1"
      exact ⟨R.isM (by decide +kernel), _, _, .inr k2, at0, E, H0, st, .inr x, none, rfl, rfl, R, by have := (up_hold (.inr x) none st).2; omega, q⟩
    | dd u x =>
      have k1 : H a = some (.ins CN dx (nF "do" pp lp bp)) := R.sm _ _ g1
      have k2 : SqT K H pp [.str u, .str x] := g2.same R.sm
      have e : stepR (cntT d) (runT E.xs d) E.xs l (.plain ["do", u, x]) st = deedR l (getH st (.inr x)) u st := plainR_do l u x st
      rw [e] at hz q
      walk_at "rd1"
      refine fld_of k1 (nF_lines _ _ _ _) ?_
      walk_at "rd1"
      refine ⟨_, _, .inl (SqL.of k4), at0, ?_⟩
      walk_at "nx"
      refine fld_of k1 (nF_parts _ _ _ _) ?_
      walk_at "nx"
      refine fld_of k1 (nF_kind _ _ _ _) ?_
      walk_at "rd1"
      refine ite2 (fun c => absurd c (by decide)) (fun _ => ?_)
      refine fld_of k1 (nF_kind _ _ _ _) ?_
      walk_at "rd1"
      exact ⟨R.isM (by decide +kernel), R.isM (by decide +kernel), _, _, .inr k2, at1, E, H0, st, .inr x, rfl, rfl, R, _, _, .inr k2, at0, E, H0, st, l, getH st (.inr x), u, rfl, rfl, R, by have := (up_deed l (getH st (.inr x)) u st).2; omega, q⟩
    | cp x y =>
      have k1 : H a = some (.ins CN dx (nF "copy" pp lp bp)) := R.sm _ _ g1
      have k2 : SqT K H pp [.str x, .str y] := g2.same R.sm
      have e : stepR (cntT d) (runT E.xs d) E.xs l (.plain ["copy", x, y]) st = holdR (.inr x) (getH st (.inr y)) st := plainR_copy l x y st
      rw [e] at hz q
      walk_at "rd1"
      refine fld_of k1 (nF_lines _ _ _ _) ?_
      walk_at "rd1"
      refine ⟨_, _, .inl (SqL.of k4), at0, ?_⟩
      walk_at "nx"
      refine fld_of k1 (nF_parts _ _ _ _) ?_
      walk_at "nx"
      refine fld_of k1 (nF_kind _ _ _ _) ?_
      walk_at "rd1"
      refine ite2 (fun c => absurd c (by decide)) (fun _ => ?_)
      refine fld_of k1 (nF_kind _ _ _ _) ?_
      walk_at "rd1"
      refine ite2 (fun c => absurd c (by decide)) (fun _ => ?_)
      refine fld_of k1 (nF_kind _ _ _ _) ?_
      walk_at "rd1"
      exact ⟨R.isM (by decide +kernel), _, _, .inr k2, at0, R.isM (by decide +kernel), _, _, .inr k2, at1, E, H0, st, .inr y, rfl, rfl, R, E, H0, st, .inr x, getH st (.inr y), rfl, rfl, R, by have := (up_hold (.inr x) (getH st (.inr y)) st).2; omega, q⟩
    | ti x y =>
      have k1 : H a = some (.ins CN dx (nF "tie" pp lp bp)) := R.sm _ _ g1
      have k2 : SqT K H pp [.str x, .str y] := g2.same R.sm
      have e : stepR (cntT d) (runT E.xs d) E.xs l (.plain ["tie", x, y]) st = tieR l (getH st (.inr x)) (getH st (.inr y)) st := plainR_tie l x y st
      rw [e] at hz q
      walk_at "rd1"
      refine fld_of k1 (nF_lines _ _ _ _) ?_
      walk_at "rd1"
      refine ⟨_, _, .inl (SqL.of k4), at0, ?_⟩
      walk_at "nx"
      refine fld_of k1 (nF_parts _ _ _ _) ?_
      walk_at "nx"
      refine fld_of k1 (nF_kind _ _ _ _) ?_
      walk_at "rd1"
      refine ite2 (fun c => absurd c (by decide)) (fun _ => ?_)
      refine fld_of k1 (nF_kind _ _ _ _) ?_
      walk_at "rd1"
      refine ite2 (fun c => absurd c (by decide)) (fun _ => ?_)
      refine fld_of k1 (nF_kind _ _ _ _) ?_
      walk_at "rd1"
      refine ite2 (fun c => absurd c (by decide)) (fun _ => ?_)
      refine fld_of k1 (nF_kind _ _ _ _) ?_
      walk_at "rd1"
      refine ite2 (fun c => absurd c (by decide)) (fun _ => ?_)
      exact ⟨R.isM (by decide +kernel), R.isM (by decide +kernel), _, _, .inr k2, at0, E, H0, st, .inr x, rfl, rfl, R, R.isM (by decide +kernel), _, _, .inr k2, at1, E, H0, st, .inr y, rfl, rfl, R, E, H0, st, l, getH st (.inr x), getH st (.inr y), rfl, rfl, R, by have := (up_tie l (getH st (.inr x)) (getH st (.inr y)) st).2; omega, q⟩
  | lend x y b => exact hs.elim
  | ite n b c => exact hs.elim
  | whl n b => exact hs.elim
theorem ok_dolend (D : DefAt K mg "do_lend" s_do_lend) (a_lines : Fl K CN "lines") (a_parts : Fl K CN "parts") (a_blocks : Fl K CN "blocks") (m_Run_deed : Mcal P w K mg base 2 CR "deed" ["self", "line", "handle", "word"] (spDeed K CR)) (m_Run_handle_of : Mcal P w K mg base 1 CR "handle_of" ["self", "holder"] (spHandle K CR))
    (m_Run_hold : Mcal P w K mg base 1 CR "hold" ["self", "holder", "handle"] (spHold K CR)) {d : Nat} (c_do_steps : Cal P w K mg base (2 * d + 4) "do_steps" ["run", "steps"] (spDo K CR CN d)) : Cal P w K mg base (2 * d + 5) "do_lend" ["run", "step"] (spDo1 K CR CN d isLend) := by
  refine D.cal (k := 2 * d + 4) sc_do_lend (fun _ _ _ _ _ _ us hl => match us, hl with | [_, _], _ => rfl) (fun vs H Q E h => by obtain ⟨E, H0, st, a, l, s, S, _, rfl, _⟩ := h; rfl) (fun f cdv A outer sh H vs Q _ hr h => ?_)
  obtain ⟨E, H0, st, a, l, s, S, rfl, rfl, hs, hn, sp, R, hz, q⟩ := h
  refine ⟨_, (pss_cons (ps_let 2 sc_do_lend.nd (pe_mcal m_Run_handle_of hr (pv 0 (hv := v_do_lend_run)) (pa_cons (pe_ix (ix_K K) (pe_fldC a_parts (pv 1 (hv := v_do_lend_step))) pe_int (fun _ _ => rfl)) pa_nil) (hle := by omega)) (hx := l_do_lend_lent))
      (pss_cons (ps_expr (pe_mcal m_Run_deed hr (pv 0 (hv := v_do_lend_run)) (pa_cons (pe_ix (ix_K K) (pe_fldC a_lines (pv 1 (hv := v_do_lend_step))) pe_int (fun _ _ => rfl)) (pa_cons (pv 2 (hv := v_do_lend_lent)) (pa_cons pe_str pa_nil))) (hle := by omega)))
      (pss_cons (ps_expr (pe_mcal m_Run_hold hr (pv 0 (hv := v_do_lend_run)) (pa_cons (pe_ix (ix_K K) (pe_fldC a_parts (pv 1 (hv := v_do_lend_step))) pe_int (fun _ _ => rfl)) (pa_cons (pv 2 (hv := v_do_lend_lent)) pa_nil)) (hle := by omega)))
      (pss_cons (ps_expr (pe_cal c_do_steps hr (pa_cons (pv 0 (hv := v_do_lend_run)) (pa_cons (pe_ix (ix_K K) (pe_fldC a_blocks (pv 1 (hv := v_do_lend_step))) pe_int (fun _ _ => rfl)) pa_nil)) (hg := gl_do_lend_do_steps) (hle := by omega)))
      (pss_cons (ps_expr (pe_mcal m_Run_deed hr (pv 0 (hv := v_do_lend_run)) (pa_cons (pe_ix (ix_K K) (pe_fldC a_lines (pv 1 (hv := v_do_lend_step))) pe_int (fun _ _ => rfl)) (pa_cons (pv 2 (hv := v_do_lend_lent)) (pa_cons pe_str pa_nil))) (hle := by omega)))
      (pss_one (ps_expr (pe_mcal m_Run_hold hr (pv 0 (hv := v_do_lend_run)) (pa_cons (pe_ix (ix_K K) (pe_fldC a_parts (pv 1 (hv := v_do_lend_step))) pe_int (fun _ _ => rfl)) (pa_cons pe_non pa_nil)) (hle := by omega))))))))), ?_⟩
  cases s with
  | lend x y b =>
    obtain ⟨dx, pp, lp, bp, bs, g1, g2, g3, g4, g5, g6, g7⟩ := hn
    have g2' : SqT K H0 pp [.str x, .str y] := g2
    have g4' : H0 lp = some (.lst (intsN [l, l + 1 + cntT d b])) := g4
    cases g7 with
    | cons gb gn =>
    cases gn
    rename_i qb
    have gb' : NumAt K CN S d H0 qb (l + 1) b := gb
    have spb : shpT d b := sp
    have e : stepR (cntT d) (runT E.xs d) E.xs l (.lend x y b) st = holdR (.inr y) none (deedR (l + 1 + cntT d b) (getH st (.inr x)) "back" (runT E.xs d (l + 1) b (holdR (.inr y) (getH st (.inr x)) (deedR l (getH st (.inr x)) "lend" st)))) := rfl
    rw [e] at hz q
    generalize hh : getH st (.inr x) = h at hz q
    have u1 := (up_deed l h "lend" st).2
    have u2 := (up_hold (.inr y) h (deedR l h "lend" st)).2
    have u3 := (up_run E.xs d (l + 1) b (holdR (.inr y) h (deedR l h "lend" st))).2
    have u4 := (up_deed (l + 1 + cntT d b) h "back" (runT E.xs d (l + 1) b (holdR (.inr y) h (deedR l h "lend" st)))).2
    have u5 := (up_hold (.inr y) none (deedR (l + 1 + cntT d b) h "back" (runT E.xs d (l + 1) b (holdR (.inr y) h (deedR l h "lend" st))))).2
    walk_at "rd1"
    refine ⟨R.isM (by decide +kernel), fld_of (R.sm _ _ g1) (nF_parts _ _ _ _) ?_⟩
    walk_at "rd1"
    refine ⟨_, _, .inr (g2'.same R.sm), at0, E, H0, st, .inr x, rfl, rfl, R, ?_⟩
    rw [hh]
    walk_at "nx"
    refine ⟨R.isM (by decide +kernel), fld_of (R.sm _ _ g1) (nF_lines _ _ _ _) ?_⟩
    walk_at "rd1"
    refine ⟨_, _, .inl (SqL.of (R.sm _ _ g4')), at0, E, H0, st, l, h, "lend", rfl, rfl, R, by omega, fun H1 R1 => ?_⟩
    walk_at "nx"
    refine ⟨R1.isM (by decide +kernel), fld_of (R1.sm _ _ g1) (nF_parts _ _ _ _) ?_⟩
    walk_at "rd1"
    refine ⟨_, _, .inr (g2'.same R1.sm), at1, E, H0, _, .inr y, h, rfl, rfl, R1, by omega, fun H2 R2 => ?_⟩
    walk_at "nx"
    refine fld_of (R2.sm _ _ g1) (nF_blocks _ _ _ _) ?_
    walk_at "rd1"
    refine ⟨_, _, .inl (SqL.of (R2.sm _ _ g6)), at0, E, H0, _, qb, l + 1, b, S, rfl, rfl, gb', spb, R2, by omega, fun H3 R3 => ?_⟩
    walk_at "nx"
    refine ⟨R3.isM (by decide +kernel), fld_of (R3.sm _ _ g1) (nF_lines _ _ _ _) ?_⟩
    walk_at "rd1"
    refine ⟨_, _, .inl (SqL.of (R3.sm _ _ g4')), at1, E, H0, _, l + 1 + cntT d b, h, "back", rfl, rfl, R3, by omega, fun H4 R4 => ?_⟩
    walk_at "nx"
    refine ⟨R4.isM (by decide +kernel), fld_of (R4.sm _ _ g1) (nF_parts _ _ _ _) ?_⟩
    walk_at "rd1"
    exact ⟨_, _, .inr (g2'.same R4.sm), at1, E, H0, _, .inr y, none, rfl, rfl, R4, by omega, q⟩
  | plain ws => exact hs.elim
  | ite n b c => exact hs.elim
  | whl n b => exact hs.elim
theorem ok_doif (D : DefAt K mg "do_if" s_do_if) (a_parts : Fl K CN "parts") (a_blocks : Fl K CN "blocks") (m_Run_takes_more : Mcal P w K mg base 1 CR "takes_more" ["self", "bound"] (spTakes K CR)) {d : Nat} (c_do_steps : Cal P w K mg base (2 * d + 4) "do_steps" ["run", "steps"] (spDo K CR CN d)) : Cal P w K mg base (2 * d + 5) "do_if" ["run", "step"] (spDo1 K CR CN d isIte) := by
  refine D.cal (k := 2 * d + 4) sc_do_if (fun _ _ _ _ _ _ us hl => match us, hl with | [_, _], _ => rfl) (fun vs H Q E h => by obtain ⟨E, H0, st, a, l, s, S, _, rfl, _⟩ := h; rfl) (fun f cdv A outer sh H vs Q _ hr h => ?_)
  obtain ⟨E, H0, st, a, l, s, S, rfl, rfl, hs, hn, sp, R, hz, q⟩ := h
  refine ⟨_, (pss_one (ps_if (pt_val (pe_mcal m_Run_takes_more hr (pv 0 (hv := v_do_if_run)) (pa_cons (pe_ix (ix_K K) (pe_fldC a_parts (pv 1 (hv := v_do_if_step))) pe_int (fun _ _ => rfl)) pa_nil) (hle := by omega))) (pss_one (ps_expr (pe_cal c_do_steps hr (pa_cons (pv 0 (hv := v_do_if_run)) (pa_cons (pe_ix (ix_K K) (pe_fldC a_blocks (pv 1 (hv := v_do_if_step))) pe_int (fun _ _ => rfl)) pa_nil)) (hg := gl_do_if_do_steps) (hle := by omega)))) (pss_one (ps_expr (pe_cal c_do_steps hr (pa_cons (pv 0 (hv := v_do_if_run)) (pa_cons (pe_ix (ix_K K) (pe_fldC a_blocks (pv 1 (hv := v_do_if_step))) pe_int (fun _ _ => rfl)) pa_nil)) (hg := gl_do_if_do_steps) (hle := by omega)))))), ?_⟩
  cases s with
  | ite n b c =>
    obtain ⟨dx, pp, lp, bp, bs, g1, g2, g3, g4, g5, g6, g7⟩ := hn
    have g2' : SqT K H0 pp [.int n] := g2
    cases g7 with
    | cons gb gn =>
    cases gn with
    | cons gc gn =>
    cases gn
    rename_i qb qc
    have gb' : NumAt K CN S d H0 qb (l + 1) b := gb
    have gc' : NumAt K CN S d H0 qc (l + 1 + cntT d b + 1) c := gc
    have spb : shpT d b ∧ shpT d c := sp
    have e : stepR (cntT d) (runT E.xs d) E.xs l (.ite n b c) st = if (takeR E.xs n st).1 = true then runT E.xs d (l + 1) b (takeR E.xs n st).2 else runT E.xs d (l + 1 + cntT d b + 1) c (takeR E.xs n st).2 := rfl
    rw [e] at hz q
    walk_at "rd1"
    refine ⟨R.isM (by decide +kernel), fld_of (R.sm _ _ g1) (nF_parts _ _ _ _) ?_⟩
    walk_at "rd1"
    refine ⟨_, _, .inr (g2'.same R.sm), at0, E, H0, st, n, rfl, rfl, R, fun H1 R1 => ?_⟩
    walk_at "rd1"
    refine ite2 (fun c1 => ?_) (fun c1 => ?_)
    · rw [if_pos c1] at hz q
      refine fld_of (R1.sm _ _ g1) (nF_blocks _ _ _ _) ?_
      walk_at "rd1"
      exact ⟨_, _, .inl (SqL.of (R1.sm _ _ g6)), at0, E, H0, _, qb, l + 1, b, S, rfl, rfl, gb', spb.1, R1, hz, q⟩
    · rw [if_neg c1] at hz q
      refine fld_of (R1.sm _ _ g1) (nF_blocks _ _ _ _) ?_
      walk_at "rd1"
      exact ⟨_, _, .inl (SqL.of (R1.sm _ _ g6)), at1, E, H0, _, qc, l + 1 + cntT d b + 1, c, S, rfl, rfl, gc', spb.2, R1, hz, q⟩
  | plain ws => exact hs.elim
  | lend x y b => exact hs.elim
  | whl n b => exact hs.elim
theorem ok_dowhile (D : DefAt K mg "do_while" s_do_while) (a_parts : Fl K CN "parts") (a_blocks : Fl K CN "blocks") (m_Run_takes_more : Mcal P w K mg base 1 CR "takes_more" ["self", "bound"] (spTakes K CR)) {d : Nat} (c_do_steps : Cal P w K mg base (2 * d + 4) "do_steps" ["run", "steps"] (spDo K CR CN d)) : Cal P w K mg base (2 * d + 5) "do_while" ["run", "step"] (spDo1 K CR CN d isWhl) := by
  refine D.cal (k := 2 * d + 4) sc_do_while (fun _ _ _ _ _ _ us hl => match us, hl with | [_, _], _ => rfl) (fun vs H Q E h => by obtain ⟨E, H0, st, a, l, s, S, _, rfl, _⟩ := h; rfl) (fun f cdv A outer sh H vs Q _ hr h => ?_)
  obtain ⟨E, H0, st, a, l, s, S, rfl, rfl, hs, hn, sp, R, hz, q⟩ := h
  refine ⟨_, (pss_one (ps_while PassesOwn.never (pt_val (pe_mcal m_Run_takes_more hr (pv 0 (hv := v_do_while_run)) (pa_cons (pe_ix (ix_K K) (pe_fldC a_parts (pv 1 (hv := v_do_while_step))) pe_int (fun _ _ => rfl)) pa_nil) (hle := by omega))) (pss_one (ps_expr (pe_cal c_do_steps hr (pa_cons (pv 0 (hv := v_do_while_run)) (pa_cons (pe_ix (ix_K K) (pe_fldC a_blocks (pv 1 (hv := v_do_while_step))) pe_int (fun _ _ => rfl)) pa_nil)) (hg := gl_do_while_do_steps) (hle := by omega)))))), ?_⟩
  cases s with
  | whl n b =>
    obtain ⟨dx, pp, lp, bp, bs, g1, g2, g3, g4, g5, g6, g7⟩ := hn
    have g2' : SqT K H0 pp [.int n] := g2
    cases g7 with
    | cons gb gn =>
    cases gn
    rename_i qb
    have gb' : NumAt K CN S d H0 qb (l + 1) b := gb
    have spb : shpT d b := sp
    have e : stepR (cntT d) (runT E.xs d) E.xs l (.whl n b) st = loopR (runT E.xs d (l + 1) b) E.xs n E.xs.length st := rfl
    rw [e] at hz q
    generalize hT : loopR (runT E.xs d (l + 1) b) E.xs n E.xs.length st = last at hz q
    refine ⟨fun m σ H' => ∃ st', σ = [some (.ref E.r), some (.ref a)] ∧ RO K E H0 H' st' ∧ E.xs.length ≤ st'.taken + m ∧ loopR (runT E.xs d (l + 1) b) E.xs n m st' = last, ⟨E.xs.length, st, rfl, R, by omega, hT⟩, ?_⟩
    rintro m σ H' ⟨st', rfl, R', hm, hT'⟩
    walk_at "rd1"
    refine ⟨R'.isM (by decide +kernel), fld_of (R'.sm _ _ g1) (nF_parts _ _ _ _) ?_⟩
    walk_at "rd1"
    refine ⟨_, _, .inr (g2'.same R'.sm), at0, E, H0, st', n, rfl, rfl, R', fun H1 R1 => ?_⟩
    walk_at "rd1"
    refine ite2 (fun c1 => ?_) (fun c1 => ?_)
    · obtain ⟨t1, t2, t3⟩ := take_some c1
      cases m with
      | zero => omega
      | succ m =>
      have hT2 : loopR (runT E.xs d (l + 1) b) E.xs n m (runT E.xs d (l + 1) b (takeR E.xs n st').2) = last := by rw [← hT']; show _ = (if (takeR E.xs n st').1 = true then _ else _); rw [if_pos c1]
      have u1 := up_run E.xs d (l + 1) b (takeR E.xs n st').2
      have u2 := up_loop (f := runT E.xs d (l + 1) b) (up_run E.xs d (l + 1) b) E.xs n m (runT E.xs d (l + 1) b (takeR E.xs n st').2)
      rw [hT2] at u2
      refine ⟨fun σ' H'' => ∃ st'', σ' = [some (.ref E.r), some (.ref a)] ∧ RO K E H0 H'' st'' ∧ E.xs.length ≤ st''.taken + m ∧ loopR (runT E.xs d (l + 1) b) E.xs n m st'' = last, fun σ' H'' z => ⟨m, Nat.lt_succ_self _, z⟩, ?_⟩
      refine fld_of (R1.sm _ _ g1) (nF_blocks _ _ _ _) ?_
      walk_at "rd1"
      exact ⟨_, _, .inl (SqL.of (R1.sm _ _ g6)), at0, E, H0, _, qb, l + 1, b, S, rfl, rfl, gb', spb, R1, by have := u2.2; omega, fun H2 R2 => ⟨_, R2, by have := u1.1; omega, hT2⟩⟩
    · refine q _ ?_
      cases m with
      | zero =>
        have e0 : takeR E.xs n st' = (false, st') := by unfold takeR; rw [List.getElem?_eq_none (by omega)]
        rw [e0] at R1
        have : st' = last := hT'
        rw [← this]; exact R1
      | succ m =>
        have : (takeR E.xs n st').2 = last := by rw [← hT']; show _ = (if (takeR E.xs n st').1 = true then _ else _); rw [if_neg c1]
        rw [← this]; exact R1
  | plain ws => exact hs.elim
  | lend x y b => exact hs.elim
  | ite n b c => exact hs.elim
theorem plain_kind {ws : List Str} (px : PlainX ws) : ¬ kindOf (.plain ws) = "lend" ∧ ¬ kindOf (.plain ws) = "if" ∧ ¬ kindOf (.plain ws) = "while" := by
  cases px
  · show ¬ ("open" : Str) = "lend" ∧ ¬ ("open" : Str) = "if" ∧ ¬ ("open" : Str) = "while"; decide
  · show ¬ ("drop" : Str) = "lend" ∧ ¬ ("drop" : Str) = "if" ∧ ¬ ("drop" : Str) = "while"; decide
  · show ¬ ("do" : Str) = "lend" ∧ ¬ ("do" : Str) = "if" ∧ ¬ ("do" : Str) = "while"; decide
  · show ¬ ("copy" : Str) = "lend" ∧ ¬ ("copy" : Str) = "if" ∧ ¬ ("copy" : Str) = "while"; decide
  · show ¬ ("tie" : Str) = "lend" ∧ ¬ ("tie" : Str) = "if" ∧ ¬ ("tie" : Str) = "while"; decide
theorem ok_do (D : DefAt K mg "do_steps" s_do_steps) (a_kind : Fl K CN "kind") (c_do_simple : ∀ d, Cal P w K mg base 4 "do_simple" ["run", "step"] (spDo1 K CR CN d isPlain))
    (hl : ∀ d, Cal P w K mg base (2 * d + 4) "do_steps" ["run", "steps"] (spDo K CR CN d) → Cal P w K mg base (2 * d + 5) "do_lend" ["run", "step"] (spDo1 K CR CN d isLend))
    (hi : ∀ d, Cal P w K mg base (2 * d + 4) "do_steps" ["run", "steps"] (spDo K CR CN d) → Cal P w K mg base (2 * d + 5) "do_if" ["run", "step"] (spDo1 K CR CN d isIte))
    (hw : ∀ d, Cal P w K mg base (2 * d + 4) "do_steps" ["run", "steps"] (spDo K CR CN d) → Cal P w K mg base (2 * d + 5) "do_while" ["run", "step"] (spDo1 K CR CN d isWhl)) : ∀ d, Cal P w K mg base (2 * d + 4) "do_steps" ["run", "steps"] (spDo K CR CN d)
  | 0 => D.cal (k := 3) sc_do_steps (fun _ _ _ _ _ _ us hl => match us, hl with | [_, _], _ => rfl) (fun vs H Q E h => by obtain ⟨E, H0, st, p, l, T, S, _, rfl, _⟩ := h; rfl) (fun f cdv A outer s H vs Q _ hr h => by obtain ⟨E, H0, st, p, l, T, S, _, rfl, z, _⟩ := h; exact z.elim)
  | d + 1 => by
    have ih := ok_do D a_kind c_do_simple hl hi hw d
    have c_do_simple := c_do_simple d
    have c_do_lend := hl d ih
    have c_do_if := hi d ih
    have c_do_while := hw d ih
    refine D.cal (k := 2 * d + 5) sc_do_steps (fun _ _ _ _ _ _ us hl => match us, hl with | [_, _], _ => rfl) (fun vs H Q E h => by obtain ⟨E, H0, st, p, l, T, S, _, rfl, _⟩ := h; rfl) (fun f cdv A outer sh H vs Q _ hr h => ?_)
    obtain ⟨E, H0, st, p, l, T, S, rfl, rfl, ⟨h0, as, h1, h2⟩, shp, R, hz, q⟩ := h
    have eT : runT E.xs (d + 1) l T st = (numL (cntS (cntT d)) l T).foldl (fun st (z : Nat × Stp) => stepR (cntT d) (runT E.xs d) E.xs z.1 z.2 st) st := rfl
    have hlen := paired_len h2
    have hN : ∀ z ∈ numL (cntS (cntT d)) l T, shpS (shpT d) z.2 := fun z hz => by
      obtain ⟨i, hi, rfl⟩ := List.mem_iff_getElem.mp hz
      have hiT : i < T.length := by rw [numL_len] at hi; exact hi
      have := numL_at (cntS (cntT d)) l T i T[i] (List.getElem?_eq_getElem hiT)
      rw [List.getElem?_eq_getElem hi] at this
      rw [Option.some.inj this]
      exact shp _ (List.getElem_mem hiT)
    rw [eT] at hz q
    generalize numL (cntS (cntT d)) l T = N at h2 hlen hN hz q
    refine ⟨_, (pss_one (ps_for PassesOwn.never rfl (pi_listK K (pv 1 (hv := v_do_steps_steps))) (pg_let 2 sc_do_steps.nd (hx := l_do_steps_step)) (pss_one (ps_if (pt_cmpR op_eqA (pe_fldC a_kind (pv 2 (hv := v_do_steps_step))) pe_str (nomark _)) (pss_one (ps_expr (pe_cal c_do_lend hr (pa_cons (pv 0 (hv := v_do_steps_run)) (pa_cons (pv 2 (hv := v_do_steps_step)) pa_nil)) (hg := gl_do_steps_do_lend) (hle := by omega)))) (pss_one (ps_if (pt_cmpR op_eqA (pe_fldC a_kind (pv 2 (hv := v_do_steps_step))) pe_str (nomark _)) (pss_one (ps_expr (pe_cal c_do_if hr (pa_cons (pv 0 (hv := v_do_steps_run)) (pa_cons (pv 2 (hv := v_do_steps_step)) pa_nil)) (hg := gl_do_steps_do_if) (hle := by omega)))) (pss_one (ps_if (pt_cmpR op_eqA (pe_fldC a_kind (pv 2 (hv := v_do_steps_step))) pe_str (nomark _)) (pss_one (ps_expr (pe_cal c_do_while hr (pa_cons (pv 0 (hv := v_do_steps_run)) (pa_cons (pv 2 (hv := v_do_steps_step)) pa_nil)) (hg := gl_do_steps_do_while) (hle := by omega)))) (pss_one (ps_expr (pe_cal c_do_simple hr (pa_cons (pv 0 (hv := v_do_steps_run)) (pa_cons (pv 2 (hv := v_do_steps_step)) pa_nil)) (hg := gl_do_steps_do_simple) (hle := by omega)))))))))))), ?_⟩
    walk_at "rd1"
    refine ⟨⟨_, SqL.of (R.sm _ _ h1)⟩, ?_⟩
    refine forW_list (xs := as.map V.ref) (fun i σ H' => ∃ o2 : Option V, σ = [some (.ref E.r), some (.ref p), o2] ∧ RO K E H0 H' ((N.take i).foldl (fun st (z : Nat × Stp) => stepR (cntT d) (runT E.xs d) E.xs z.1 z.2 st) st))
      ⟨none, rfl, R⟩ (fun i σ H' _ h => by obtain ⟨_, _, R'⟩ := h; exact SqL.of (R'.sm _ _ h1)) ?_ ?_
    · rintro i v σ H' hv ⟨o2, rfl, R'⟩
      have hi : i < as.length := by have := (List.getElem?_eq_some_iff.mp hv).1; simpa using this
      rw [List.getElem?_map, List.getElem?_eq_getElem hi] at hv
      cases hv
      obtain ⟨z, hz1, hz2⟩ := paired_at h2 (List.getElem?_eq_getElem hi)
      have hzm := hN z (List.mem_of_getElem? hz1)
      have es : (N.take (i + 1)).foldl (fun st (z : Nat × Stp) => stepR (cntT d) (runT E.xs d) E.xs z.1 z.2 st) st = stepR (cntT d) (runT E.xs d) E.xs z.1 z.2 ((N.take i).foldl (fun st (z : Nat × Stp) => stepR (cntT d) (runT E.xs d) E.xs z.1 z.2 st) st) := by
        rw [List.take_add_one, hz1, List.foldl_append]; rfl
      have hup : (stepR (cntT d) (runT E.xs d) E.xs z.1 z.2 ((N.take i).foldl (fun st (z : Nat × Stp) => stepR (cntT d) (runT E.xs d) E.xs z.1 z.2 st) st)).sz ≤ 60000 := by
        have u := up_fold (h := fun st (z : Nat × Stp) => stepR (cntT d) (runT E.xs d) E.xs z.1 z.2 st) (fun st z => up_step (f := cntT d) (up_run E.xs d) E.xs z.1 z.2 st) (N.drop (i + 1)) ((N.take (i + 1)).foldl (fun st (z : Nat × Stp) => stepR (cntT d) (runT E.xs d) E.xs z.1 z.2 st) st)
        rw [← List.foldl_append, List.take_append_drop, es] at u
        have := u.2; omega
      rw [es]
      generalize (N.take i).foldl (fun st (z : Nat × Stp) => stepR (cntT d) (runT E.xs d) E.xs z.1 z.2 st) st = si at R' hup es
      obtain ⟨l', s⟩ := z
      have hn : nstpAt K CN (cntT d) S (NumAt K CN S d H0) H0 as[i] l' s := hz2
      obtain ⟨dx, pp, lp, bp, bs, g1, _⟩ := id hn
      have k1 := R'.sm _ _ g1
      walk_at "rd1"
      refine fld_of k1 (nF_kind _ _ _ _) ?_
      walk_at "rd1"
      cases s with
      | plain ws =>
        obtain ⟨n1, n2, n3⟩ := plain_kind (show PlainX ws from hzm)
        refine ite2 (fun c => absurd c n1) (fun _ => ?_)
        refine fld_of k1 (nF_kind _ _ _ _) ?_
        walk_at "rd1"
        refine ite2 (fun c => absurd c n2) (fun _ => ?_)
        refine fld_of k1 (nF_kind _ _ _ _) ?_
        walk_at "rd1"
        refine ite2 (fun c => absurd c n3) (fun _ => ?_)
        exact ⟨E, H0, si, as[i], l', .plain ws, S, rfl, rfl, trivial, hn, hzm, R', hup, fun H2 R2 => ⟨_, rfl, R2⟩⟩
      | lend x y b =>
        refine ite2 (fun _ => ?_) (fun c => absurd rfl c)
        exact ⟨E, H0, si, as[i], l', .lend x y b, S, rfl, rfl, trivial, hn, hzm, R', hup, fun H2 R2 => ⟨_, rfl, R2⟩⟩
      | ite n b c =>
        refine ite2 (fun c => absurd c (show ¬ ("if" : Str) = "lend" by decide)) (fun _ => ?_)
        refine fld_of k1 (nF_kind _ _ _ _) ?_
        walk_at "rd1"
        refine ite2 (fun _ => ?_) (fun c => absurd rfl c)
        exact ⟨E, H0, si, as[i], l', .ite n b c, S, rfl, rfl, trivial, hn, hzm, R', hup, fun H2 R2 => ⟨_, rfl, R2⟩⟩
      | whl n b =>
        refine ite2 (fun c => absurd c (show ¬ ("while" : Str) = "lend" by decide)) (fun _ => ?_)
        refine fld_of k1 (nF_kind _ _ _ _) ?_
        walk_at "rd1"
        refine ite2 (fun c => absurd c (show ¬ ("while" : Str) = "if" by decide)) (fun _ => ?_)
        refine fld_of k1 (nF_kind _ _ _ _) ?_
        walk_at "rd1"
        refine ite2 (fun _ => ?_) (fun c => absurd rfl c)
        exact ⟨E, H0, si, as[i], l', .whl n b, S, rfl, rfl, trivial, hn, hzm, R', hup, fun H2 R2 => ⟨_, rfl, R2⟩⟩
    · rintro σ H' ⟨o2, rfl, R'⟩
      rw [List.length_map, hlen, List.take_length] at R'
      exact q _ R'
def spPlain (K : PySem.W.Frag) (d : Nat) : Sp := fun vs H Q _ => ∃ (p ip : Addr) (T : List Stp) (S : Addr → Prop) (xs : List Int), vs = [.ref p, .ref ip] ∧ ProgAt S d H p T ∧ okT d T ∧ shpT d T ∧ cntT d T ≤ 100 ∧ SqL K H ip (xs.map V.int) ∧ xs.length ≤ 100 ∧
  ∀ (q : Addr) (H' : Hp) (es : List Addr), Same H H' → H q = none → H' q = some (.lst (es.map V.ref)) → Paired (fun a e => H' a = some (.tup e)) es (outR xs d T).log → (outR xs d T).log.length ≤ 100000 → Q (.ref q) H'
theorem ok_run (D : DefAt K mg "run_plain" s_run_plain) (a_log : Fl K CR "log") (k_Run : Mkal P w K mg base 1 "Run" CR ["self", "inputs", "watches"] (spRInit K CR)) (m_Run_end_all : Mcal P w K mg base 3 CR "end_all" ["self", "line"] (spEnd K CR)) (c_line_behind : Cal P w K mg base 1 "line_behind" ["steps", "line"] (spBehind K CN))
    {d : Nat} (c_numbered_steps : Cal P w K mg base (2 * (d + 1) + 4) "numbered_steps" ["steps", "line"] (spNums K CN (d + 1))) (c_do_steps : Cal P w K mg base (2 * (d + 1) + 4) "do_steps" ["run", "steps"] (spDo K CR CN (d + 1))) : Cal P w K mg base (2 * (d + 1) + 5) "run_plain" ["program", "inputs"] (spPlain K (d + 1)) := by
  refine D.cal (k := 2 * (d + 1) + 4) sc_run_plain (fun _ _ _ _ _ _ us hl => match us, hl with | [_, _], _ => rfl) (fun vs H Q E h => by obtain ⟨p, ip, T, S, xs, rfl, _⟩ := h; rfl) (fun f cdv A outer sh H vs Q _ hr h => ?_)
  obtain ⟨p, ip, T, S, xs, rfl, hP, ok, shp, hc, hip, hx, q⟩ := h
  have hz := out_sz xs (d + 1) T
  have hz1 : 3 * cntT (d + 1) T * (xs.length + 1) ≤ 300 * 101 := Nat.mul_le_mul (by omega) (by omega)
  refine ⟨_, (pss_cons (ps_let 2 sc_run_plain.nd (pe_cal c_numbered_steps hr (pa_cons (pv 0 (hv := v_run_plain_program)) (pa_cons pe_int pa_nil)) (hg := gl_run_plain_numbered_steps) (hle := by omega)) (hx := l_run_plain_steps))
      (pss_cons (ps_let 3 sc_run_plain.nd (pe_mk k_Run hr (pa_cons (pv 1 (hv := v_run_plain_inputs)) (pa_cons (pe_lst pa_nil) pa_nil)) (hg := gl_run_plain_Run) (hle := by omega)) (hx := l_run_plain_run))
      (pss_cons (ps_expr (pe_cal c_do_steps hr (pa_cons (pv 3 (hv := v_run_plain_run)) (pa_cons (pv 2 (hv := v_run_plain_steps)) pa_nil)) (hg := gl_run_plain_do_steps) (hle := by omega)))
      (pss_cons (ps_expr (pe_mcal m_Run_end_all hr (pv 3 (hv := v_run_plain_run)) (pa_cons (pe_cal c_line_behind hr (pa_cons (pv 2 (hv := v_run_plain_steps)) (pa_cons pe_int pa_nil)) (hg := gl_run_plain_line_behind) (hle := by omega)) pa_nil) (hle := by omega)))
      (pss_one (ps_ret (pe_fldC a_log (pv 3 (hv := v_run_plain_run))))))))), ?_⟩
  walk_at "rd1"
  refine ⟨p, 0, T, S, rfl, hP, ok, by omega, fun np HA sA hN => ?_⟩
  walk_at "nx"
  refine ⟨by decide, fun wp hwp => ?_⟩
  have sW := same_new hwp (.lst [])
  have eW : upd HA wp (.lst []) wp = some (.lst []) := upd_same
  have hN := hN.mono sW
  have sA := sA.trans sW
  generalize upd HA wp (.lst []) = HA at hN sA eW ⊢
  intro x dx hx0 hdx ndx
  generalize hM : upd (upd HA dx (.own x)) x (.ins CR dx []) = HM
  have sM : Same HA HM := by rw [← hM]; exact (same_new hdx (.own x)).upd hx0 _
  have eM : HM x = some (.ins CR dx []) := by rw [← hM, upd_same]
  refine ⟨x, dx, ip, wp, HA, xs, rfl, eM, hx0, sM, sA.seq hip, SqL.of eW, by omega, fun hp lp HB R => ⟨rfl, ?_⟩⟩
  walk_at "nx"
  refine ⟨⟨CR, x, ip, hp, lp, xs, wp⟩, HA, rs0, np, 0, T, _, rfl, rfl, hN, shp, R, by show (runT xs (d + 1) 0 T rs0).sz ≤ 60000; omega, fun HC RC => ?_⟩
  have RC' : RO K ⟨CR, x, ip, hp, lp, xs, wp⟩ HA HC (runT xs (d + 1) 0 T rs0) := RC
  walk_at "nx"
  refine ⟨RC'.isM (by decide +kernel), np, 0, d, T, _, rfl, hN.mono RC'.sm, by omega, ?_⟩
  refine ⟨⟨CR, x, ip, hp, lp, xs, wp⟩, HA, _, 0 + cntT (d + 1) T, rfl, rfl, RC', by omega, fun HD RD => ?_⟩
  walk_at "nx"
  rw [Nat.zero_add] at RD
  obtain ⟨es, l1, l2⟩ := id RD.lg
  refine RD.log (q lp HD es (sA.trans RD.sm) (sA.free RD.fl) l1 l2 ?_)
  show (endR (cntT (d + 1) T) (runT xs (d + 1) 0 T rs0)).log.length ≤ 100000
  unfold endR
  rw [List.length_append, List.length_map, List.length_range]
  unfold RS.sz at hz; omega
end
section
variable {P : Program} {w : World} {K : PySem.W.Frag} {mg : Str → Option Value} {base : Heap}
theorem names_texts {ss : List Str} {z : Int} {n : Nat} (h0 : 1 ≤ z) (h1 : z ≤ n) (hn : ss.length = n) (hb : ∀ x ∈ ss, x.length ≤ 20) : 1 ≤ (ss.take z.toNat).length ∧ ((ss.take z.toNat).length : Int) = z ∧ ∀ x ∈ ss.take z.toNat, x.length ≤ 20 := by
  refine ⟨?_, ?_, fun x hx => hb x (List.mem_of_mem_take hx)⟩ <;> rw [List.length_take] <;> omega
theorem ok_names (D : DefAt K mg "_law_names" s_law_names) (z_range : mg "range" = none) : Cal P w K mg base 1 "_law_names" ["_law_cell"] (spNames fun c => 2 + c / 3 % 3) := by
  refine D.cal sc_law_names (fun _ _ _ _ _ _ us hl => match us, hl with | [_], _ => rfl) (fun vs H Q E h => by obtain ⟨c, rfl, _⟩ := h; rfl) (fun f cdv A outer s H vs Q E hr h => ?_)
  obtain ⟨c, rfl, q⟩ := h
  refine ⟨_, (pss_cons (ps_let 1 sc_law_names.nd pe_str (hx := l_law_names__law_letters))
      (pss_cons (ps_let 2 sc_law_names.nd (pe_bmK K PySem.F.plainAttrs_str PySem.F.slot_str_join PySem.F.type_str_join (mt_joinK K) pe_str (pa_cons (pe_comp (CompSc.to (fsc := (defScope s_law_names)) (N := ["_law_cell", "_law_letters", "_law_base", "_law_many", "_law_size", "_law_at", "_law_found", "_law_k", "_law_sign"]) (N0 := ["_law_cell", "_law_letters", "_law_base", "_law_many", "_law_size", "_law_at", "_law_found", "_law_k'", "_law_sign"]) (T := ["_law_k"]) ⟨by decide +kernel, by decide +kernel, by decide +kernel, by decide +kernel, by decide +kernel, by decide +kernel, by decide +kernel⟩ rfl rfl) rfl (pi_range1 gl_law_names_range z_range (pa_cons pe_int pa_nil)) (fun _ _ _ _ => (pg_let 9 (show (["_law_cell", "_law_letters", "_law_base", "_law_many", "_law_size", "_law_at", "_law_found", "_law_k'", "_law_sign", "_law_k"] : List Str).Nodup from by decide +kernel) (hx := (locC (defScope s_law_names) (by decide +kernel))) (hf := fnC (defScope s_law_names) (by decide +kernel)))) (gfr_name (show (["_law_cell", "_law_letters", "_law_base", "_law_many", "_law_size", "_law_at", "_law_found", "_law_k", "_law_sign"] : List Str).length ≤ 9 from by decide)) (fun _ _ _ _ => pifs_nil) (fun _ _ _ _ => (pe_ix (ix_K K) (pv 1 (hv := (visC (defScope s_law_names) (by decide +kernel)))) (pe_op op_mod (pe_op op_addA (pe_op op_fdiv (pv 0 (hv := (visC (defScope s_law_names) (by decide +kernel)))) (pe_op op_addA (pv 9 (hv := (visC (defScope s_law_names) (by decide +kernel)))) pe_int)) (pe_op op_mulB (pe_op op_mulB (pv 9 (hv := (visC (defScope s_law_names) (by decide +kernel)))) (pv 9 (hv := (visC (defScope s_law_names) (by decide +kernel))))) (pv 0 (hv := (visC (defScope s_law_names) (by decide +kernel)))))) pe_int) (fun _ _ => rfl)))) pa_nil)) (hx := l_law_names__law_base))
      (pss_cons (ps_let 3 sc_law_names.nd (pe_op op_addA pe_int (pe_op op_mod (pe_op op_fdiv (pv 0 (hv := v_law_names__law_cell)) pe_int) pe_int)) (hx := l_law_names__law_many))
      (pss_cons (ps_if (pt_cmpR op_eqA (pe_op op_mod (pv 0 (hv := v_law_names__law_cell)) pe_int) pe_int (nomark _)) (pss_one (ps_ret (pe_slice (sl_listK K) (pe_lst (pa_cons (pe_slice sl_str (pv 2 (hv := v_law_names__law_base)) po_none (po_some pe_int)) (pa_cons (pe_slice sl_str (pv 2 (hv := v_law_names__law_base)) po_none (po_some pe_int)) (pa_cons (pe_slice sl_str (pv 2 (hv := v_law_names__law_base)) po_none (po_some pe_int)) (pa_cons (pe_slice sl_str (pv 2 (hv := v_law_names__law_base)) po_none (po_some pe_int)) pa_nil))))) po_none (po_some (pv 3 (hv := v_law_names__law_many)))))) pss_nil)
      (pss_cons (ps_let 4 sc_law_names.nd (pe_op op_addA pe_int (pe_op op_mod (pe_op op_fdiv (pv 0 (hv := v_law_names__law_cell)) pe_int) pe_int)) (hx := l_law_names__law_size))
      (pss_cons (ps_let 5 sc_law_names.nd (pe_op op_mod (pe_op op_fdiv (pv 0 (hv := v_law_names__law_cell)) pe_int) (pv 4 (hv := v_law_names__law_size))) (hx := l_law_names__law_at))
      (pss_cons (ps_let 6 sc_law_names.nd (pe_lst pa_nil) (hx := l_law_names__law_found))
      (pss_cons (ps_for PassesOwn.never rfl (pi_range1 gl_law_names_range z_range (pa_cons (pv 3 (hv := v_law_names__law_many)) pa_nil)) (pg_let 7 sc_law_names.nd (hx := l_law_names__law_k)) (pss_cons (ps_let 8 sc_law_names.nd (pe_ix (ix_K K) (pv 1 (hv := v_law_names__law_letters)) (pe_op op_mod (pe_op op_addA (pe_op op_fdiv (pv 0 (hv := v_law_names__law_cell)) pe_int) (pe_op op_mulB pe_int (pv 7 (hv := v_law_names__law_k)))) pe_int) (fun _ _ => rfl)) (hx := l_law_names__law_sign))
      (pss_one (ps_expr (pe_bmK K PySem.F.plainAttrs_list PySem.F.slot_list_append PySem.F.type_list_append mt_appendA (pv 6 (hv := v_law_names__law_found)) (pa_cons (pe_op op_addA (pe_op op_addA (pe_slice sl_str (pv 2 (hv := v_law_names__law_base)) po_none (po_some (pv 5 (hv := v_law_names__law_at)))) (pv 8 (hv := v_law_names__law_sign))) (pe_slice sl_str (pv 2 (hv := v_law_names__law_base)) (po_some (pe_op op_addA (pv 5 (hv := v_law_names__law_at)) pe_int)) (po_some (pv 4 (hv := v_law_names__law_size))))) pa_nil))))))
      (pss_one (ps_ret (pv 6 (hv := v_law_names__law_found)))))))))))), ?_⟩
  walk_at "rd1"
  walk_at "nx"
  refine ⟨by decide, by decide, fun C hC => ?_⟩
  refine compW_range (fun i ys H' => Same H H' ∧ H' C = some (.lst ys) ∧ ∃ cs : List Nat, ys = cs.map (fun c => V.str ⟨#[c]⟩) ∧ cs.length = i) ⟨same_new hC _, upd_same, [], rfl, rfl⟩ ?_ ?_
  · rintro i ys H' hi ⟨sm, hl, cs, rfl, hn⟩
    have hi8 : i < 8 := hi
    walk_at "rd1"
    obtain ⟨c', z1, z2, z3⟩ := letter_at (c / (0 + (i : Int) + 1) + (0 + (i : Int)) * (0 + (i : Int)) * c)
    have h49 : (0 + (i : Int)) * (0 + (i : Int)) ≤ 49 := by
      have := Nat.mul_le_mul (show i ≤ 7 by omega) (show i ≤ 7 by omega)
      have e : (0 + (i : Int)) * (0 + (i : Int)) = ((i * i : Nat) : Int) := by rw [Int.zero_add]; push_cast; rfl
      rw [e]; omega
    have h0 : 0 ≤ (0 + (i : Int)) * (0 + (i : Int)) := Int.mul_nonneg (by omega) (by omega)
    refine ⟨⟨by omega, by omega⟩, .inl ⟨by omega, by omega⟩, .inl ⟨by omega, by omega⟩, by decide, c', z1, z2, ?_⟩
    refine cstep hi (by rw [List.length_map]; exact hn) (smallL (by show 8 ≤ 1000000; decide)) hl ⟨sm.upd hC _, upd_same, cs ++ [c'], by rw [List.map_append]; rfl, by simp [hn]⟩
  · rintro ys H1 ⟨sm1, hl1, cs, rfl, hn⟩
    have hn8 : cs.length = 8 := hn
    walk_at "rd1"
    have hmm : cs.map (fun c => V.str ⟨#[c]⟩) = (cs.map fun c => (⟨#[c]⟩ : Str)).map V.str := by rw [List.map_map]; rfl
    rw [hmm] at hl1
    have h1l : (Str.ofString "").length = 0 := by decide
    refine ⟨_, SqL.of hl1, ?_, ?_⟩
    · rw [h1l]
      have := sum_len_le 1 (cs.map fun c => (⟨#[c]⟩ : Str)) (fun s hs => by obtain ⟨c, _, rfl⟩ := List.mem_map.mp hs; exact Nat.le_refl _)
      rw [List.length_map] at this ⊢
      omega
    have hbl : (Txt.join "" (cs.map fun c => (⟨#[c]⟩ : Str))).length = 8 := by rw [join_len]; exact hn8
    generalize Txt.join "" (cs.map fun c => (⟨#[c]⟩ : Str)) = bs at hbl ⊢
    have bsz : bs.length ≤ sizeLine := by rw [hbl]; exact smallL (by decide)
    have hsl : ∀ l u, (Txt.slice bs l u).length ≤ 8 := fun l u => hbl ▸ Txt.slice_le bs l u
    walk_at "nx"
    refine ⟨⟨by decide, by decide⟩, by decide, ?_⟩
    generalize hmy : 2 + c / 3 % 3 = many
    have m1 : 1 ≤ many := by omega
    have m4 : many ≤ 4 := by omega
    walk_at "nx"
    refine ⟨by decide, ite2 (fun c1 => ?_) (fun c1 => ?_)⟩
    · refine ⟨bsz, bsz, bsz, bsz, by decide, fun l hl => ⟨_, SqL.of upd_same, fun r hr' => ?_⟩⟩
      have sl := same_new hl (.lst ([Txt.slice bs none (some 2), Txt.slice bs none (some 3), Txt.slice bs none (some 8), Txt.slice bs none (some 7)].map V.str))
      obtain ⟨t1, t2, t3⟩ := names_texts (ss := [Txt.slice bs none (some 2), Txt.slice bs none (some 3), Txt.slice bs none (some 8), Txt.slice bs none (some 7)]) (n := 4) m1 m4 rfl (by
        intro x hx
        simp only [List.mem_cons, List.mem_nil_iff, or_false] at hx
        rcases hx with rfl | rfl | rfl | rfl <;> exact Nat.le_trans (hsl _ _) (by decide))
      exact q r _ _ (sm1.trans (sl.trans (same_new hr' _))) (sm1.free (sl.free hr')) (by rw [upd_same]; exact congrArg (fun z => some (HO.lst z)) (cut_strs [Txt.slice bs none (some 2), Txt.slice bs none (some 3), Txt.slice bs none (some 8), Txt.slice bs none (some 7)] (by omega))) t1 (by omega) t3 (t2.trans hmy.symm)
    walk_at "nx"
    refine ⟨⟨by decide, by decide⟩, by decide, ?_⟩
    generalize hsz : 1 + c / 4 % 8 = sz
    have s1 : 1 ≤ sz := by omega
    walk_at "nx"
    refine ⟨⟨by decide, by decide⟩, by omega, ?_⟩
    generalize c / 32 % sz = at9
    walk_at "nx"
    refine ⟨by decide, fun fp hfp => ?_⟩
    generalize hH2 : upd H1 fp _ = H2
    have sm2 := al_same hH2 hfp
    have e2 := al_at hH2
    walk_at "nx"
    refine ⟨by omega, by omega, ?_⟩
    refine forW_range (fun i σ H' => ∃ (ss : List Str) (o7 o8 : Option V), σ = [some (.int c), some (.str letters), some (.str bs), some (.int many), some (.int sz), some (.int at9), some (.ref fp), o7, o8] ∧ Same H H' ∧ H' fp = some (.lst (ss.map V.str)) ∧ ss.length = i ∧ ∀ x ∈ ss, x.length ≤ 20)
      ⟨[], none, none, rfl, sm1.trans sm2, e2, rfl, by simp⟩ ?_ ?_
    · rintro i σ H' hi ⟨ss, o7, o8, rfl, sm, hl, hn', hb⟩
      walk_at "rd1"
      obtain ⟨c', z1, z2, z3⟩ := letter_at (c / 256 + 9 * (0 + (i : Int)))
      refine ⟨⟨by decide, by decide⟩, .inl ⟨by decide, by decide⟩, by decide, c', z1, z2, ?_⟩
      walk_at "nx"
      have l1 := hsl none (some at9)
      have l2 := hsl (some (at9 + 1)) (some sz)
      have la : ((Txt.slice bs none (some at9)) ++ (⟨#[c']⟩ : Str)).length ≤ 9 := by rw [len_app1]; omega
      have lb : ((Txt.slice bs none (some at9)) ++ (⟨#[c']⟩ : Str) ++ Txt.slice bs (some (at9 + 1)) (some sz)).length ≤ 17 := by rw [Str.length_append]; omega
      refine ⟨⟨_, SqL.of hl⟩, bsz, ?_, bsz, ?_, _, hl, by rw [List.length_map]; exact small' (by omega), ?_⟩
      · rw [Str.length_append] at la; exact smallL (by omega)
      · rw [Str.length_append] at lb; exact smallL (by omega)
      refine ⟨ss ++ [_], _, _, rfl, sm.upd (sm1.free hfp) _, by rw [upd_same, List.map_append]; rfl, by simp [hn'], fun x hx => ?_⟩
      rcases List.mem_append.mp hx with z | z
      · exact hb x z
      · rw [List.mem_singleton.mp z]; omega
    · rintro σ H' ⟨ss, o7, o8, rfl, sm, hl, hn', hb⟩
      walk_at "nx"
      exact q fp H' ss sm (sm1.free hfp) hl (by omega) (by omega) hb (by show _ = 2 + c / 3 % 3; rw [hmy]; omega)
abbrev exW : List Str := ["read", "open", "lend", "back", "end"]
def spStep (K : PySem.W.Frag) : Sp := fun vs H Q _ => ∃ (c : Int) (a : Addr) (ns : List Str), vs = [.int c, .ref a] ∧ H a = some (.lst (ns.map V.str)) ∧ 1 ≤ ns.length ∧ ns.length ≤ 7 ∧ (∀ x ∈ ns, x.length ≤ 20) ∧
  ∀ (t : Addr) (H' : Hp) (ws : List Str), Same H H' → H t = none → H' t = some (.tup (ws.map V.str)) → PlainW ws → PlainX ws → Q (.ref t) H'
theorem ok_step (D : DefAt K mg "_law_step" s_law_step) (z_len : mg "len" = none) : Cal P w K mg base 1 "_law_step" ["_law_cell", "_law_names_here"] (spStep K) := by
  refine D.cal sc_law_step (fun _ _ _ _ _ _ us hl => match us, hl with | [_, _], _ => rfl) (fun vs H Q E h => by obtain ⟨c, a, ns, rfl, _⟩ := h; rfl) (fun f cdv A outer s H vs Q E hr h => ?_)
  obtain ⟨c, a, ns, rfl, ha, n1, n7, hb, q⟩ := h
  have pick := fun z => pick_at n1 z
  refine ⟨_, (pss_cons (ps_let 2 sc_law_step.nd (pe_ix (ix_K K) (pv 1 (hv := v_law_step__law_names_here)) (pe_op op_mod (pe_op op_mod (pe_op op_mulB (pv 0 (hv := v_law_step__law_cell)) pe_int) pe_int) (pe_blt (call_lenK K) z_len bt_len (pa_cons (pv 1 (hv := v_law_step__law_names_here)) pa_nil) (hg := gl_law_step_len))) (fun _ _ => rfl)) (hx := l_law_step__law_x))
      (pss_cons (ps_let 3 sc_law_step.nd (pe_ix (ix_K K) (pv 1 (hv := v_law_step__law_names_here)) (pe_op op_mod (pe_op op_mod (pe_op op_mulB (pv 0 (hv := v_law_step__law_cell)) pe_int) pe_int) (pe_blt (call_lenK K) z_len bt_len (pa_cons (pv 1 (hv := v_law_step__law_names_here)) pa_nil) (hg := gl_law_step_len))) (fun _ _ => rfl)) (hx := l_law_step__law_y))
      (pss_cons (ps_let 4 sc_law_step.nd (pe_op op_mod (pv 0 (hv := v_law_step__law_cell)) pe_int) (hx := l_law_step__law_kind))
      (pss_cons (ps_if (pt_cmpR op_ltA (pv 4 (hv := v_law_step__law_kind)) pe_int (nomark _)) (pss_one (ps_ret (pe_tup (pa_cons pe_str (pa_cons (pv 2 (hv := v_law_step__law_x)) pa_nil))))) pss_nil)
      (pss_cons (ps_if (pt_cmpR op_eqA (pv 4 (hv := v_law_step__law_kind)) pe_int (nomark _)) (pss_one (ps_ret (pe_tup (pa_cons pe_str (pa_cons (pv 2 (hv := v_law_step__law_x)) (pa_cons (pv 3 (hv := v_law_step__law_y)) pa_nil)))))) pss_nil)
      (pss_cons (ps_if (pt_cmpR op_eqA (pv 4 (hv := v_law_step__law_kind)) pe_int (nomark _)) (pss_one (ps_ret (pe_tup (pa_cons pe_str (pa_cons (pv 2 (hv := v_law_step__law_x)) pa_nil))))) pss_nil)
      (pss_cons (ps_if (pt_cmpR op_ltA (pv 4 (hv := v_law_step__law_kind)) pe_int (nomark _)) (pss_one (ps_ret (pe_tup (pa_cons pe_str (pa_cons (pv 2 (hv := v_law_step__law_x)) (pa_cons (pv 3 (hv := v_law_step__law_y)) pa_nil)))))) pss_nil)
      (pss_cons (ps_let 5 sc_law_step.nd (pe_op op_addA (pe_lst (pa_cons pe_str (pa_cons pe_str (pa_cons pe_str (pa_cons pe_str (pa_cons pe_str pa_nil)))))) (pv 1 (hv := v_law_step__law_names_here))) (hx := l_law_step__law_words))
      (pss_one (ps_ret (pe_tup (pa_cons pe_str (pa_cons (pe_ix (ix_K K) (pv 5 (hv := v_law_step__law_words)) (pe_op op_mod (pe_op op_mod (pe_op op_mulB (pv 0 (hv := v_law_step__law_cell)) pe_int) pe_int) (pe_blt (call_lenK K) z_len bt_len (pa_cons (pv 5 (hv := v_law_step__law_words)) pa_nil) (hg := gl_law_step_len))) (fun _ _ => rfl)) (pa_cons (pv 2 (hv := v_law_step__law_x)) pa_nil)))))))))))))), ?_⟩
  walk_at "rd1"
  obtain ⟨x, hx, ex⟩ := pick (c * 48271 % 1009)
  refine ⟨.inr ⟨by decide, by decide⟩, by decide, _, .inl (SqL.of ha), ?_⟩
  rw [List.length_map]
  walk_at "rd1"
  refine ⟨by omega, _, _, .inl (SqL.of ha), ex, ?_⟩
  walk_at "nx"
  obtain ⟨y, hy, ey⟩ := pick (c * 69621 % 2003)
  refine ⟨.inr ⟨by decide, by decide⟩, by decide, _, .inl (SqL.of ha), ?_⟩
  rw [List.length_map]
  walk_at "rd1"
  refine ⟨by omega, _, _, .inl (SqL.of ha), ey, ?_⟩
  walk_at "nx"
  refine ⟨by decide, ?_⟩
  have xl := hb x hx
  have yl := hb y hy
  have two : ∀ (k : Str), k ∈ plainKinds → k.length ≤ 20 → PlainW [k, x] := fun k h1 h2 => ⟨by simp, by simp, h1, fun z hz => by
    simp only [List.mem_cons, List.mem_nil_iff, or_false] at hz
    rcases hz with rfl | rfl <;> assumption⟩
  have three : ∀ (k u v : Str), k ∈ plainKinds → k.length ≤ 20 → u.length ≤ 20 → v.length ≤ 20 → PlainW [k, u, v] := fun k u v h1 h2 h3 h4 => ⟨by simp, by simp, h1, fun z hz => by
    simp only [List.mem_cons, List.mem_nil_iff, or_false] at hz
    rcases hz with rfl | rfl | rfl <;> assumption⟩
  walk_at "nx"
  refine ite2 (fun c1 => ?_) (fun c1 => ?_)
  · exact ⟨by decide, fun p hp => q p _ [_, _] (same_new hp _) hp upd_same (two "open" (by decide) (by decide)) (.op x)⟩
  walk_at "nx"
  refine ite2 (fun c1 => ?_) (fun c1 => ?_)
  · exact ⟨by decide, fun p hp => q p _ [_, _, _] (same_new hp _) hp upd_same (three "copy" x y (by decide) (by decide) xl yl) (.cp x y)⟩
  walk_at "nx"
  refine ite2 (fun c1 => ?_) (fun c1 => ?_)
  · exact ⟨by decide, fun p hp => q p _ [_, _] (same_new hp _) hp upd_same (two "drop" (by decide) (by decide)) (.dr x)⟩
  walk_at "nx"
  refine ite2 (fun c1 => ?_) (fun c1 => ?_)
  · exact ⟨by decide, fun p hp => q p _ [_, _, _] (same_new hp _) hp upd_same (three "tie" x y (by decide) (by decide) xl yl) (.ti x y)⟩
  walk_at "nx"
  refine ⟨by decide, fun p hp => ⟨_, _, upd_same, by rw [upd_ne (ne_of_none ha hp)]; exact ha, smallL (by rw [List.length_map]; simp only [List.length_cons, List.length_nil]; omega), fun r hr' => ?_⟩⟩
  have sp := same_new hp (.lst [V.str "read", .str "open", .str "lend", .str "back", .str "end"])
  have smr := sp.trans (same_new hr' (.lst ([V.str "read", .str "open", .str "lend", .str "back", .str "end"] ++ ns.map V.str)))
  have er : [V.str "read", .str "open", .str "lend", .str "back", .str "end"] ++ ns.map V.str = (exW ++ ns).map V.str := by rw [List.map_append]; rfl
  have hat : upd (upd H p (.lst [V.str "read", .str "open", .str "lend", .str "back", .str "end"])) r (.lst ([V.str "read", .str "open", .str "lend", .str "back", .str "end"] ++ ns.map V.str)) r = some (.lst ((exW ++ ns).map V.str)) := by rw [upd_same, er]
  generalize upd (upd H p (.lst [V.str "read", .str "open", .str "lend", .str "back", .str "end"])) r (.lst ([V.str "read", .str "open", .str "lend", .str "back", .str "end"] ++ ns.map V.str)) = H2 at hat smr ⊢
  have hw : ∀ u ∈ exW ++ ns, u.length ≤ 20 := fun u hu => by
    rcases List.mem_append.mp hu with z | z
    · exact (by decide : ∀ u ∈ exW, u.length ≤ 20) u z
    · exact hb u z
  have hwl : 1 ≤ (exW ++ ns).length := by rw [List.length_append]; omega
  generalize exW ++ ns = wl at hat hw hwl ⊢
  walk_at "nx"
  obtain ⟨u, hu, eu⟩ := pick_at hwl (c * 40692 % 4001)
  refine ⟨.inr ⟨by decide, by decide⟩, by decide, _, .inl (SqL.of hat), ?_⟩
  rw [List.length_map]
  walk_at "rd1"
  refine ⟨by omega, _, _, .inl (SqL.of hat), eu, by decide, fun t ht => ?_⟩
  exact q t _ [_, _, _] (smr.trans (same_new ht _)) (smr.free ht) upd_same (three "do" u x (by decide) (by decide) (hw u hu) xl) (.dd u x)
theorem at2 {α : Type} {x y z : α} {xs : List α} : atI (x :: y :: z :: xs) 2 = some z := atI_nat (j := 2) rfl
theorem at3 {α : Type} {x y z u : α} {xs : List α} : atI (x :: y :: z :: u :: xs) 3 = some u := atI_nat (j := 3) rfl
def spWh : Sp := fun vs H Q _ => ∃ i : Int, vs = [.int i] ∧ Q (.bl true) H
theorem ok_wh (D : DefAt K mg "_law_whole" s_law_whole) (z_isinstance : mg "isinstance" = none) (z_int : mg "int" = none) (z_bool : mg "bool" = none) : Cal P w K mg base 1 "_law_whole" ["_law_found"] spWh := by
  refine D.cal (k := 0) sc_law_whole (fun _ _ _ _ _ _ us hl => match us, hl with | [_], _ => rfl) (fun vs H Q E h => by obtain ⟨i, rfl, _⟩ := h; rfl) (fun f cdv A outer s H vs Q E hr h => ?_)
  obtain ⟨i, rfl, q⟩ := h
  refine ⟨_, (pss_one (ps_ret (pe_and (pe_blt call_isT z_isinstance bt_isinstance (pa_cons (pv 0 (hv := v_law_whole__law_found)) (pa_cons (pe_gty z_int bt_int (hg := gl_law_whole_int)) pa_nil)) (hg := gl_law_whole_isinstance)) (pe_one (pe_not (pe_blt call_isT z_isinstance bt_isinstance (pa_cons (pv 0 (hv := v_law_whole__law_found)) (pa_cons (pe_gty z_bool bt_bool (hg := gl_law_whole_bool)) pa_nil)) (hg := gl_law_whole_isinstance))))))), ?_⟩
  walk_at "rd1"
  refine ⟨"int", rfl, by decide, ite2 (fun _ => ?_) (fun c => absurd (by decide) c)⟩
  exact ⟨"int", rfl, by decide, q⟩
def spEntry : Sp := fun vs H Q _ => ∃ (a b : Addr) (e : List V), vs = [.ref a, .ref b] ∧ H a = some (.tup e) ∧ H b = some (.tup e) ∧ EntOk e ∧ Q (.bl true) H
theorem ok_entry (D : DefAt K mg "_law_entry" s_law_entry) (z_isinstance : mg "isinstance" = none) (z_tuple : mg "tuple" = none) (z_len : mg "len" = none) (z_str : mg "str" = none) (c_law_whole : Cal P w K mg base 1 "_law_whole" ["_law_found"] spWh) : Cal P w K mg base 2 "_law_entry" ["_law_found", "_law_due"] spEntry := by
  refine D.cal (k := 1) sc_law_entry (fun _ _ _ _ _ _ us hl => match us, hl with | [_, _], _ => rfl) (fun vs H Q E h => by obtain ⟨a, b, e, rfl, _⟩ := h; rfl) (fun f cdv A outer s H vs Q E hr h => ?_)
  obtain ⟨a, b, e, rfl, ha, hb, ok, q⟩ := h
  have fl : ∀ v ∈ e, flatV v = true := by cases ok <;> simp [flatV]
  refine ⟨_, (pss_cons (ps_if (PW.pt' (pw_or (pt_not (pt_val (pe_blt call_isT z_isinstance bt_isinstance (pa_cons (pv 0 (hv := v_law_entry__law_found)) (pa_cons (pe_gty z_tuple bt_tuple (hg := gl_law_entry_tuple)) pa_nil)) (hg := gl_law_entry_isinstance)))) (pw_or (pt_cmpR op_neA (pe_blt (call_lenK K) z_len bt_len (pa_cons (pv 0 (hv := v_law_entry__law_found)) pa_nil) (hg := gl_law_entry_len)) (pe_blt (call_lenK K) z_len bt_len (pa_cons (pv 1 (hv := v_law_entry__law_due)) pa_nil) (hg := gl_law_entry_len)) (nomark _)) (pw_or1 (pt_cmpR (op_neKD K hr) (pv 0 (hv := v_law_entry__law_found)) (pv 1 (hv := v_law_entry__law_due)) (nomark _)))))) (pss_one (ps_ret pe_bl)) pss_nil)
      (pss_cons (ps_if (PW.pt' (pw_or (pt_not (pt_val (pe_cal c_law_whole hr (pa_cons (pe_ix (ix_K K) (pv 0 (hv := v_law_entry__law_found)) pe_int (fun _ _ => rfl)) pa_nil) (hg := gl_law_entry__law_whole)))) (pw_or1 (pt_not (pt_val (pe_cal c_law_whole hr (pa_cons (pe_ix (ix_K K) (pv 0 (hv := v_law_entry__law_found)) pe_int (fun _ _ => rfl)) pa_nil) (hg := gl_law_entry__law_whole))))))) (pss_one (ps_ret pe_bl)) pss_nil)
      (pss_cons (ps_if (pt_cmpR op_eqA (pe_blt (call_lenK K) z_len bt_len (pa_cons (pv 1 (hv := v_law_entry__law_due)) pa_nil) (hg := gl_law_entry_len)) pe_int (nomark _)) (pss_one (ps_ret (pe_cal c_law_whole hr (pa_cons (pe_ix (ix_K K) (pv 0 (hv := v_law_entry__law_found)) pe_int (fun _ _ => rfl)) pa_nil) (hg := gl_law_entry__law_whole)))) pss_nil)
      (pss_one (ps_ret (pe_and (pe_blt call_isT z_isinstance bt_isinstance (pa_cons (pe_ix (ix_K K) (pv 0 (hv := v_law_entry__law_found)) pe_int (fun _ _ => rfl)) (pa_cons (pe_gty z_str bt_str (hg := gl_law_entry_str)) pa_nil)) (hg := gl_law_entry_isinstance)) (pe_one (pe_cal c_law_whole hr (pa_cons (pe_ix (ix_K K) (pv 0 (hv := v_law_entry__law_found)) pe_int (fun _ _ => rfl)) pa_nil) (hg := gl_law_entry__law_whole))))))))), ?_⟩
  walk_at "rd1"
  refine ⟨"tuple", by simp [tyName, ha], by decide, ?_⟩
  refine ite2 (fun c => absurd c (by decide)) (fun _ => ?_)
  refine ⟨_, .inr (SqT.of ha), _, .inr (SqT.of hb), ite2 (fun c => absurd c (by simp)) (fun _ => ?_)⟩
  refine ⟨0, true, by decide, EqN.seqFlat (.inr ⟨SqT.of ha, SqT.of hb⟩) fl, ite2 (fun c => absurd c (by decide)) (fun _ => ?_)⟩
  cases ok with
  | deed l h w n =>
    walk_at "nx"
    refine ⟨_, _, .inr (SqT.of ha), at0, _, rfl, ?_⟩
    walk_at "rd1"
    refine ⟨_, _, .inr (SqT.of ha), at1, _, rfl, ?_⟩
    walk_at "rd1"
    walk_at "nx"
    refine ⟨_, .inr (SqT.of hb), ?_⟩
    walk_at "rd1"
    refine ite2 (fun c => absurd c (by decide)) (fun _ => ?_)
    walk_at "nx"
    refine ⟨_, _, .inr (SqT.of ha), at2, ?_⟩
    walk_at "rd1"
    refine ⟨"str", rfl, by decide, ite2 (fun _ => ?_) (fun c => absurd (by decide) c)⟩
    exact ⟨_, _, .inr (SqT.of ha), at3, _, rfl, q⟩
  | tie l h k =>
    walk_at "nx"
    refine ⟨_, _, .inr (SqT.of ha), at0, _, rfl, ?_⟩
    walk_at "rd1"
    refine ⟨_, _, .inr (SqT.of ha), at1, _, rfl, ?_⟩
    walk_at "rd1"
    walk_at "nx"
    refine ⟨_, .inr (SqT.of hb), ?_⟩
    walk_at "rd1"
    exact ⟨_, _, .inr (SqT.of ha), at2, _, rfl, q⟩
def spLR : Sp := fun vs H Q _ => ∃ (fp sp : Addr) (as bs : List Addr) (L : List (List V)), vs = [.ref fp, .ref sp] ∧ H fp = some (.lst (as.map V.ref)) ∧ H sp = some (.lst (bs.map V.ref)) ∧ Paired (fun a e => H a = some (.tup e)) as L ∧ Paired (fun a e => H a = some (.tup e)) bs L ∧ (∀ e ∈ L, EntOk e) ∧ ∀ H', Same H H' → Q (.bl true) H'
theorem ok_lr (D : DefAt K mg "_law_right" s_law_right) (z_isinstance : mg "isinstance" = none) (z_list : mg "list" = none) (z_len : mg "len" = none) (z_zip : mg "zip" = none) (c_law_entry : Cal P w K mg base 2 "_law_entry" ["_law_found", "_law_due"] spEntry) : Cal P w K mg base 3 "_law_right" ["_law_found", "_law_due"] spLR := by
  refine D.cal (k := 2) sc_law_right (fun _ _ _ _ _ _ us hl => match us, hl with | [_, _], _ => rfl) (fun vs H Q E h => by obtain ⟨fp, sp, as, bs, L, rfl, _⟩ := h; rfl) (fun f cdv A outer s H vs Q E hr h => ?_)
  obtain ⟨fp, sp, as, bs, L, rfl, hf, hs, hp, hq, ok, q⟩ := h
  have l1 := paired_len hp
  have l2 := paired_len hq
  refine ⟨_, (pss_cons (ps_if (PW.pt' (pw_or (pt_not (pt_val (pe_blt call_isT z_isinstance bt_isinstance (pa_cons (pv 0 (hv := v_law_right__law_found)) (pa_cons (pe_gty z_list bt_list (hg := gl_law_right_list)) pa_nil)) (hg := gl_law_right_isinstance)))) (pw_or1 (pt_cmpR op_neA (pe_blt (call_lenK K) z_len bt_len (pa_cons (pv 0 (hv := v_law_right__law_found)) pa_nil) (hg := gl_law_right_len)) (pe_blt (call_lenK K) z_len bt_len (pa_cons (pv 1 (hv := v_law_right__law_due)) pa_nil) (hg := gl_law_right_len)) (nomark _))))) (pss_one (ps_ret pe_bl)) pss_nil)
      (pss_cons (ps_for PassesOwn.never rfl (pi_zipK K gl_law_right_zip z_zip (pa_cons (pv 0 (hv := v_law_right__law_found)) (pa_cons (pv 1 (hv := v_law_right__law_due)) pa_nil))) (pg_tupK K (n := 2) (pgs_cons (pg_let 2 sc_law_right.nd (hx := l_law_right__law_one)) (pgs_cons (pg_let 3 sc_law_right.nd (hx := l_law_right__law_other)) pgs_nil))) (pss_one (ps_if (pt_not (pt_val (pe_cal c_law_entry hr (pa_cons (pv 2 (hv := v_law_right__law_one)) (pa_cons (pv 3 (hv := v_law_right__law_other)) pa_nil)) (hg := gl_law_right__law_entry)))) (pss_one (ps_ret pe_bl)) pss_nil)))
      (pss_one (ps_ret pe_bl)))), ?_⟩
  walk_at "rd1"
  refine ⟨"list", by simp [tyName, hf], by decide, ?_⟩
  refine ite2 (fun c => absurd c (by decide)) (fun c => ?_)
  refine ⟨_, .inl (SqL.of hf), _, .inl (SqL.of hs), ite2 (fun c => ?_) (fun c => ?_)⟩
  · exfalso; revert c; simp only [List.length_map]; simp; omega
  walk_at "nx"
  refine ⟨⟨_, SqL.of hf⟩, ⟨_, SqL.of hs⟩, ?_⟩
  refine forW_zip (xs := as.map V.ref) (ys := bs.map V.ref) (fun i σ H' => ∃ o2 o3 : Option V, σ = [some (.ref fp), some (.ref sp), o2, o3] ∧ Same H H') (by simp; omega) ⟨none, none, rfl, Same.refl H⟩
    (fun i σ H' _ h => by obtain ⟨_, _, _, sm⟩ := h; exact ⟨SqL.of (sm _ _ hf), SqL.of (sm _ _ hs)⟩) ?_ ?_
  · rintro i x y t σ H' hx hy ⟨o2, o3, rfl, sm⟩ ht
    have hi : i < as.length := by have := (List.getElem?_eq_some_iff.mp hx).1; simpa using this
    have hj : i < bs.length := by omega
    rw [List.getElem?_map, List.getElem?_eq_getElem hi] at hx
    rw [List.getElem?_map, List.getElem?_eq_getElem hj] at hy
    cases hx
    cases hy
    obtain ⟨e, he, hea⟩ := paired_at hp (List.getElem?_eq_getElem hi)
    obtain ⟨e', he', heb⟩ := paired_at hq (List.getElem?_eq_getElem hj)
    rw [he] at he'
    cases he'
    have st := same_new ht (.tup [V.ref as[i], .ref bs[i]])
    have et : upd H' t (.tup [V.ref as[i], .ref bs[i]]) t = some (.tup [V.ref as[i], .ref bs[i]]) := upd_same
    generalize upd H' t (.tup [V.ref as[i], .ref bs[i]]) = H1 at st et ⊢
    have sm1 := sm.trans st
    walk_at "rd1"
    refine ⟨t, _, rfl, SqT.of et, rfl, ?_⟩
    walk_at "rd1"
    refine ⟨_, _, e, rfl, sm1 _ _ hea, sm1 _ _ heb, ok e (List.mem_of_getElem? he), ?_⟩
    walk_at "rd1"
    exact ⟨_, _, rfl, sm1⟩
  · rintro σ H' ⟨o2, o3, rfl, sm⟩
    walk_at "nx"
    exact q H' sm
theorem paired_app {α β : Type} {R : α → β → Prop} : ∀ {xs zs : List α} {ys us : List β}, Paired R xs ys → Paired R zs us → Paired R (xs ++ zs) (ys ++ us)
  | _, _, _, _, .nil, h => h
  | _, _, _, _, .cons a t, h => .cons a (paired_app t h)
def hI : Option Nat → Int
  | none => -1
  | some n => n
/-- the law's own dict tells the same -/
def HeldI (kvs : List (Key × V)) (st : RS) : Prop := ∀ k, (valV kvs k).getD (.int (-1)) = .int (hI (getH st k))
theorem HeldI.hold {kvs : List (Key × V)} {st : RS} (h : HeldI kvs st) (k : Key) (o : Option Nat) : HeldI (putK kvs k (.int (hI o))) (holdR k o st) := fun j => by
  rw [valV_put, getH_hold]
  by_cases e : j = k
  · rw [if_pos e, if_pos e]; rfl
  · rw [if_neg e, if_neg e]; exact h j
theorem HeldI.of {kvs : List (Key × V)} {st st' : RS} (h : HeldI kvs st) (e : st'.held = st.held) : HeldI kvs st' := fun j => by
  have : getH st' j = getH st j := by unfold getH; rw [e]
  rw [this]; exact h j
theorem HeldI.at {kvs : List (Key × V)} {st : RS} (h : HeldI kvs st) {k : Key} {n : Nat} (e : getH st k = some n) : valV kvs k = some (.int (n : Int)) := by
  have := h k
  rw [e] at this
  cases q : valV kvs k with
  | none => rw [q] at this; have z : (-1 : Int) = (n : Int) := V.int.inj this; omega
  | some v => rw [q] at this; exact congrArg some this
def spLogged : Sp := fun vs H Q _ => ∃ (sp : Addr) (as : List Addr) (Ws : List (List Str)), vs = [.ref sp] ∧ H sp = some (.lst (as.map V.ref)) ∧ Paired (Plain H) as Ws ∧ (∀ ws ∈ Ws, PlainX ws) ∧ as.length ≤ 63 ∧
  ∀ (q : Addr) (H' : Hp) (es : List Addr), Same H H' → H q = none → H' q = some (.lst (es.map V.ref)) → Paired (fun a e => H' a = some (.tup e)) es (endR Ws.length (plainsR 0 Ws rs0)).log → Q (.ref q) H'
theorem ok_logged (D : DefAt K mg "_law_logged" s_law_logged) (z_enumerate : mg "enumerate" = none) (z_len : mg "len" = none) (z_range : mg "range" = none) : Cal P w K mg base 1 "_law_logged" ["_law_steps"] spLogged := by
  refine D.cal (k := 0) sc_law_logged (fun _ _ _ _ _ _ us hl => match us, hl with | [_], _ => rfl) (fun vs H Q E h => by obtain ⟨sp, as, Ws, rfl, _⟩ := h; rfl) (fun f cdv A outer s H vs Q E hr h => ?_)
  obtain ⟨sp, as, Ws, rfl, hs, hp, hx, h63, q⟩ := h
  have hlen := paired_len hp
  refine ⟨_, (pss_cons (ps_let 1 sc_law_logged.nd pe_dnewK (hx := l_law_logged__law_held))
      (pss_cons (ps_let 2 sc_law_logged.nd (pe_lst pa_nil) (hx := l_law_logged__law_due))
      (pss_cons (ps_let 3 sc_law_logged.nd pe_int (hx := l_law_logged__law_many))
      (pss_cons (ps_for PassesOwn.never rfl (pi_enumK K gl_law_logged_enumerate z_enumerate (pa_cons (pv 0 (hv := v_law_logged__law_steps)) pa_nil)) (pg_tupK K (n := 2) (pgs_cons (pg_let 4 sc_law_logged.nd (hx := l_law_logged__law_line)) (pgs_cons (pg_let 5 sc_law_logged.nd (hx := l_law_logged__law_step_here)) pgs_nil))) (pss_cons (ps_if (pt_cmpR op_eqA (pe_ix (ix_K K) (pv 5 (hv := v_law_logged__law_step_here)) pe_int (fun _ _ => rfl)) pe_str (nomark _)) (pss_cons (ps_asg (pv 3 (hv := v_law_logged__law_many)) (pg_sub (pv 1 (hv := v_law_logged__law_held)) (pe_ix (ix_K K) (pv 5 (hv := v_law_logged__law_step_here)) pe_int (fun _ _ => rfl)) (set_D hr)))
      (pss_cons (ps_expr (pe_bmK K PySem.F.plainAttrs_list PySem.F.slot_list_append PySem.F.type_list_append mt_appendA (pv 2 (hv := v_law_logged__law_due)) (pa_cons (pe_tup (pa_cons (pv 4 (hv := v_law_logged__law_line)) (pa_cons (pv 3 (hv := v_law_logged__law_many)) (pa_cons pe_str (pa_cons pe_int pa_nil))))) pa_nil)))
      (pss_one (ps_let 3 sc_law_logged.nd (pe_op op_addA (pv 3 (hv := v_law_logged__law_many)) pe_int) (hx := l_law_logged__law_many))))) pss_nil)
      (pss_cons (ps_if (PW.pt' (pw_and (pt_cmpR op_eqA (pe_ix (ix_K K) (pv 5 (hv := v_law_logged__law_step_here)) pe_int (fun _ _ => rfl)) pe_str (nomark _)) (pw_and1 (pt_cmpR op_ge (pe_dget2 (hu_of hr) (pv 1 (hv := v_law_logged__law_held)) (pe_ix (ix_K K) (pv 5 (hv := v_law_logged__law_step_here)) pe_int (fun _ _ => rfl)) (pe_un un_neg pe_int) ⟨rfl, rfl, rfl, rfl⟩) pe_int (nomark _))))) (pss_one (ps_expr (pe_bmK K PySem.F.plainAttrs_list PySem.F.slot_list_append PySem.F.type_list_append mt_appendA (pv 2 (hv := v_law_logged__law_due)) (pa_cons (pe_tup (pa_cons (pv 4 (hv := v_law_logged__law_line)) (pa_cons (pe_ix (ix_B K) (pv 1 (hv := v_law_logged__law_held)) (pe_ix (ix_K K) (pv 5 (hv := v_law_logged__law_step_here)) pe_int (fun _ _ => rfl)) (fun _ _ => rfl)) (pa_cons (pe_ix (ix_K K) (pv 5 (hv := v_law_logged__law_step_here)) pe_int (fun _ _ => rfl)) (pa_cons pe_int pa_nil))))) pa_nil)))) pss_nil)
      (pss_cons (ps_if (pt_cmpR op_eqA (pe_ix (ix_K K) (pv 5 (hv := v_law_logged__law_step_here)) pe_int (fun _ _ => rfl)) pe_str (nomark _)) (pss_one (ps_asg (pe_dget2 (hu_of hr) (pv 1 (hv := v_law_logged__law_held)) (pe_ix (ix_K K) (pv 5 (hv := v_law_logged__law_step_here)) pe_int (fun _ _ => rfl)) (pe_un un_neg pe_int) ⟨rfl, rfl, rfl, rfl⟩) (pg_sub (pv 1 (hv := v_law_logged__law_held)) (pe_ix (ix_K K) (pv 5 (hv := v_law_logged__law_step_here)) pe_int (fun _ _ => rfl)) (set_D hr)))) pss_nil)
      (pss_cons (ps_if (pt_cmpR op_eqA (pe_ix (ix_K K) (pv 5 (hv := v_law_logged__law_step_here)) pe_int (fun _ _ => rfl)) pe_str (nomark _)) (pss_one (ps_asg (pe_un un_neg pe_int) (pg_sub (pv 1 (hv := v_law_logged__law_held)) (pe_ix (ix_K K) (pv 5 (hv := v_law_logged__law_step_here)) pe_int (fun _ _ => rfl)) (set_D hr)))) pss_nil)
      (pss_one (ps_if (pt_cmpR op_eqA (pe_ix (ix_K K) (pv 5 (hv := v_law_logged__law_step_here)) pe_int (fun _ _ => rfl)) pe_str (nomark _)) (pss_cons (ps_let 6 sc_law_logged.nd (pe_dget2 (hu_of hr) (pv 1 (hv := v_law_logged__law_held)) (pe_ix (ix_K K) (pv 5 (hv := v_law_logged__law_step_here)) pe_int (fun _ _ => rfl)) (pe_un un_neg pe_int) ⟨rfl, rfl, rfl, rfl⟩) (hx := l_law_logged__law_one))
      (pss_cons (ps_let 7 sc_law_logged.nd (pe_dget2 (hu_of hr) (pv 1 (hv := v_law_logged__law_held)) (pe_ix (ix_K K) (pv 5 (hv := v_law_logged__law_step_here)) pe_int (fun _ _ => rfl)) (pe_un un_neg pe_int) ⟨rfl, rfl, rfl, rfl⟩) (hx := l_law_logged__law_other))
      (pss_one (ps_if (PW.pt' (pw_and (pt_cmpR op_ge (pv 6 (hv := v_law_logged__law_one)) pe_int (nomark _)) (pw_and (pt_cmpR op_ge (pv 7 (hv := v_law_logged__law_other)) pe_int (nomark _)) (pw_and1 (pt_cmpR op_neA (pv 6 (hv := v_law_logged__law_one)) (pv 7 (hv := v_law_logged__law_other)) (nomark _)))))) (pss_one (ps_expr (pe_bmK K PySem.F.plainAttrs_list PySem.F.slot_list_append PySem.F.type_list_append mt_appendA (pv 2 (hv := v_law_logged__law_due)) (pa_cons (pe_tup (pa_cons (pv 4 (hv := v_law_logged__law_line)) (pa_cons (pv 6 (hv := v_law_logged__law_one)) (pa_cons (pv 7 (hv := v_law_logged__law_other)) pa_nil)))) pa_nil)))) pss_nil)))) pss_nil)))))))
      (pss_one (ps_ret (pe_op op_addA (pv 2 (hv := v_law_logged__law_due)) (pe_comp (CompSc.to (fsc := (defScope s_law_logged)) (N := ["_law_steps", "_law_held", "_law_due", "_law_many", "_law_line", "_law_step_here", "_law_one", "_law_other"]) (N0 := ["_law_steps", "_law_held", "_law_due", "_law_many", "_law_line", "_law_step_here", "_law_one", "_law_other"]) (T := ["_law_handle"]) ⟨by decide +kernel, by decide +kernel, by decide +kernel, by decide +kernel, by decide +kernel, by decide +kernel, by decide +kernel⟩ rfl rfl) rfl (pi_range1 gl_law_logged_range z_range (pa_cons (pv 3 (hv := v_law_logged__law_many)) pa_nil)) (fun _ _ _ _ => (pg_let 8 (show (["_law_steps", "_law_held", "_law_due", "_law_many", "_law_line", "_law_step_here", "_law_one", "_law_other", "_law_handle"] : List Str).Nodup from by decide +kernel) (hx := (locC (defScope s_law_logged) (by decide +kernel))) (hf := fnC (defScope s_law_logged) (by decide +kernel)))) (gfr_name (show (["_law_steps", "_law_held", "_law_due", "_law_many", "_law_line", "_law_step_here", "_law_one", "_law_other"] : List Str).length ≤ 8 from by decide)) (fun _ _ _ _ => pifs_nil) (fun _ _ _ _ => (pe_tup (pa_cons (pe_blt (call_lenK K) z_len bt_len (pa_cons (pv 0 (hv := (visC (defScope s_law_logged) (by decide +kernel)))) pa_nil) (hg := (glC (defScope s_law_logged) (by decide +kernel)))) (pa_cons (pv 8 (hv := (visC (defScope s_law_logged) (by decide +kernel)))) (pa_cons pe_str (pa_cons pe_int pa_nil)))))))))))))), ?_⟩
  walk_at "rd1"
  intro hd hhd
  generalize hA : upd H hd _ = HA
  have sA := al_same hA hhd
  have eA := al_at hA
  walk_at "nx"
  refine ⟨by decide, fun du hdu => ?_⟩
  generalize hB : upd HA du _ = HB
  have sB := al_same hB hdu
  have eB := al_at hB
  walk_at "nx"
  walk_at "nx"
  refine ⟨⟨_, (sA.trans sB) _ _ hs⟩, ?_⟩
  refine forW_enum (xs := as.map V.ref) (fun i σ H' => ∃ (o4 o5 o6 o7 : Option V) (kvs : List (Key × V)) (es : List Addr) (st : RS), σ = [some (.ref sp), some (.ref hd), some (.ref du), some (.int (st.opened : Int)), o4, o5, o6, o7] ∧ Same H H' ∧ H' hd = some (.dK kvs) ∧ H' du = some (.lst (es.map V.ref)) ∧ Paired (fun a e => H' a = some (.tup e)) es st.log ∧ HeldI kvs st ∧ st.last = 0 ∧ kvs.length ≤ i ∧ es.length ≤ i ∧ st = plainsR 0 (Ws.take i) rs0)
    ⟨none, none, none, none, [], [], rs0, rfl, sA.trans sB, sB _ _ eA, eB, .nil, fun k => rfl, rfl, Nat.le_refl _, Nat.le_refl _, rfl⟩ (fun i σ H' _ h => by obtain ⟨_, _, _, _, _, _, _, _, sm, _⟩ := h; exact SqL.of (sm _ _ hs)) ?_ ?_
  · rintro i v t σ H' hv ⟨o4, o5, o6, o7, kvs, es, st, rfl, sm, hk, hdu', hes, hH, hlast, hkl, hel, hst⟩ ht
    have hi : i < as.length := by have := (List.getElem?_eq_some_iff.mp hv).1; simpa using this
    rw [List.getElem?_map, List.getElem?_eq_getElem hi] at hv
    cases hv
    obtain ⟨ws, hws, hpa, pw⟩ := paired_at hp (List.getElem?_eq_getElem hi)
    have px := hx ws (List.mem_of_getElem? hws)
    have hnext : plainsR 0 (Ws.take (i + 1)) rs0 = plainR i ws st := by
      have hiw : i < Ws.length := by omega
      rw [List.take_add_one, hws]
      show plainsR 0 (Ws.take i ++ [ws]) rs0 = _
      rw [plainsR_snoc, ← hst, List.length_take, Nat.zero_add, Nat.min_eq_left (by omega)]
    have hlp : (plainR i ws st).last = 0 := by rw [plain_last, hlast]
    have st' := same_new ht (.tup [V.int i, .ref as[i]])
    have et : upd H' t (.tup [V.int i, .ref as[i]]) t = some (.tup [V.int i, .ref as[i]]) := upd_same
    generalize upd H' t (.tup [V.int i, .ref as[i]]) = H1 at st' et ⊢
    have sm1 := sm.trans st'
    have hat := SqT.of (K := K) (sm1 _ _ hpa)
    have hk1 := st' _ _ hk
    have hd1 := st' _ _ hdu'
    have hes1 : Paired (fun a e => H1 a = some (.tup e)) es st.log := Paired.imp' (fun a e y => st' _ _ y) hes
    have ndu : H du = none := sA.free hdu
    -- an entry more
    have add : ∀ {H2 : Hp} {t2 : Addr} {e : List V} {kvs2 : List (Key × V)}, Same H H2 → H2 hd = some (.dK kvs2) → H2 du = some (.lst (es.map V.ref)) → Paired (fun a e => H2 a = some (.tup e)) es st.log → H2 t2 = none →
        ∃ xs, upd H2 t2 (.tup e) du = some (.lst xs) ∧ xs.length < sizeLine ∧ ∃ H3, upd (upd H2 t2 (.tup e)) du (.lst (xs ++ [.ref t2])) = H3 ∧ Same H H3 ∧ H3 hd = some (.dK kvs2) ∧ H3 du = some (.lst ((es ++ [t2]).map V.ref)) ∧ Paired (fun a e => H3 a = some (.tup e)) (es ++ [t2]) (st.log ++ [e]) := by
      intro H2 t2 e kvs2 sm2 k2 d2 p2 n2
      have sn := same_new n2 (.tup e)
      have en : upd H2 t2 (.tup e) t2 = some (.tup e) := upd_same
      refine ⟨_, sn _ _ d2, small' (by rw [List.length_map]; omega), _, rfl, (sm2.trans sn).upd ndu _, ?_, by rw [upd_same, List.map_append]; rfl, ?_⟩
      · rw [upd_ne (ne_of (sn _ _ k2) (sn _ _ d2) (fun z => nomatch z))]; exact sn _ _ k2
      · exact paired_snoc (R := fun a e' => upd (upd H2 t2 (.tup e)) du (.lst (es.map V.ref ++ [.ref t2])) a = some (.tup e')) (by rw [upd_ne (ne_of en (sn _ _ d2) (fun z => nomatch z))]; exact en) (Paired.imp' (fun a e y => by rw [upd_ne (ne_of (sn _ _ y) (sn _ _ d2) (fun z => nomatch z))]; exact sn _ _ y) p2)
    have put : ∀ {H2 : Hp} (kvs' : List (Key × V)), Same H H2 → H2 hd = some (.dK kvs) → H2 du = some (.lst (es.map V.ref)) → Paired (fun a e => H2 a = some (.tup e)) es st.log →
        Same H (upd H2 hd (.dK kvs')) ∧ upd H2 hd (.dK kvs') hd = some (.dK kvs') ∧ upd H2 hd (.dK kvs') du = some (.lst (es.map V.ref)) ∧ Paired (fun a e => upd H2 hd (.dK kvs') a = some (.tup e)) es st.log := by
      intro H2 kvs' sm2 k2 d2 p2
      exact ⟨sm2.upd hhd _, upd_same, by rw [upd_ne (ne_of d2 k2 (fun z => nomatch z))]; exact d2, Paired.imp' (fun a e y => by rw [upd_ne (ne_of y k2 (fun z => nomatch z))]; exact y) p2⟩
    rw [hnext]
    walk_at "rd1"
    refine ⟨t, _, rfl, SqT.of et, rfl, ?_⟩
    cases px with
    | op x =>
      walk_at "rd1"
      refine ⟨_, _, .inr hat, at0, ?_⟩
      walk_at "rd1"
      refine ⟨_, _, .inr hat, at1, hd, _, .inr x, rfl, rfl, hk1, small' (by omega), ?_⟩
      obtain ⟨p1, p2, p3, p4⟩ := put (putK kvs (.inr x) (.int (st.opened : Int))) sm1 hk1 hd1 hes1
      generalize upd H1 hd _ = H2 at p1 p2 p3 p4 ⊢
      walk_at "nx"
      refine ⟨⟨_, SqL.of p3⟩, by decide, fun t2 ht2 => ?_⟩
      obtain ⟨xs, a1, a2, H3, a3, a4, a5, a6, a7⟩ := add (e := [.int i, .int st.opened, .str "open", .int 0]) p1 p2 p3 p4 ht2
      refine ⟨xs, a1, a2, ?_⟩
      rw [a3]
      have hat3 := SqT.of (K := K) (a4 _ _ hpa)
      walk_at "nx"
      walk_at "nx"
      refine ⟨_, _, .inr hat3, at0, ?_⟩
      walk_at "rd1"
      refine ite2 (fun c => absurd c (by decide)) (fun _ => ?_)
      walk_at "nx"
      refine ⟨_, _, .inr hat3, at0, ?_⟩
      walk_at "rd1"
      refine ite2 (fun c => absurd c (by decide)) (fun _ => ?_)
      walk_at "nx"
      refine ⟨_, _, .inr hat3, at0, ?_⟩
      walk_at "rd1"
      refine ite2 (fun c => absurd c (by decide)) (fun _ => ?_)
      walk_at "nx"
      refine ⟨_, _, .inr hat3, at0, ?_⟩
      walk_at "rd1"
      refine ite2 (fun c => absurd c (by decide)) (fun _ => ?_)
      rw [plainR_open] at hlp ⊢
      refine ⟨_, _, _, _, _, es ++ [t2], openR i (.inr x) st, rfl, a4, a5, a6, ?_, HeldI.hold (HeldI.of hH rfl) (.inr x) (some st.opened), hlp, ?_, ?_, rfl⟩
      · show Paired _ _ (st.log ++ [[.int i, .int st.opened, .str "open", .int st.last]])
        rw [hlast]; exact a7
      · have := length_putK kvs (.inr x) (.int (st.opened : Int)); omega
      · rw [List.length_append]; simp; omega
    | dr x =>
      walk_at "rd1"
      refine ⟨_, _, .inr hat, at0, ?_⟩
      walk_at "rd1"
      refine ite2 (fun c => absurd c (by decide)) (fun _ => ?_)
      walk_at "nx"
      refine ⟨_, _, .inr hat, at0, ?_⟩
      walk_at "rd1"
      refine ite2 (fun c => absurd c (by decide)) (fun _ => ?_)
      walk_at "nx"
      refine ⟨_, _, .inr hat, at0, ?_⟩
      walk_at "rd1"
      refine ite2 (fun c => absurd c (by decide)) (fun _ => ?_)
      walk_at "nx"
      refine ⟨_, _, .inr hat, at0, ?_⟩
      walk_at "rd1"
      refine ⟨_, _, .inr hat, at1, hd, _, .inr x, rfl, rfl, hk1, small' (by omega), ?_⟩
      obtain ⟨p1, p2, p3, p4⟩ := put (putK kvs (.inr x) (.int (-1))) sm1 hk1 hd1 hes1
      generalize upd H1 hd _ = H2 at p1 p2 p3 p4 ⊢
      have hat3 := SqT.of (K := K) (p1 _ _ hpa)
      walk_at "nx"
      refine ⟨_, _, .inr hat3, at0, ?_⟩
      walk_at "rd1"
      refine ite2 (fun c => absurd c (by decide)) (fun _ => ?_)
      rw [plainR_drop] at hlp ⊢
      refine ⟨_, _, _, _, _, es, holdR (.inr x) none st, rfl, p1, p2, p3, p4, HeldI.hold hH (.inr x) none, hlp, ?_, by omega, rfl⟩
      have := length_putK kvs (.inr x) (.int (-1)); omega
    | cp x y =>
      walk_at "rd1"
      refine ⟨_, _, .inr hat, at0, ?_⟩
      walk_at "rd1"
      refine ite2 (fun c => absurd c (by decide)) (fun _ => ?_)
      walk_at "nx"
      refine ⟨_, _, .inr hat, at0, ?_⟩
      walk_at "rd1"
      refine ite2 (fun c => absurd c (by decide)) (fun _ => ?_)
      walk_at "nx"
      refine ⟨_, _, .inr hat, at0, ?_⟩
      walk_at "rd1"
      refine ⟨isD_of hk1, _, _, .inr hat, at2, _, DGet.k (k := .inr y) hk1, ?_⟩
      rw [show (-1 : Int) = -1 from rfl, hH (.inr y)]
      refine ⟨_, _, .inr hat, at1, hd, _, .inr x, rfl, rfl, hk1, small' (by omega), ?_⟩
      obtain ⟨p1, p2, p3, p4⟩ := put (putK kvs (.inr x) (.int (hI (getH st (.inr y))))) sm1 hk1 hd1 hes1
      generalize upd H1 hd _ = H2 at p1 p2 p3 p4 ⊢
      have hat3 := SqT.of (K := K) (p1 _ _ hpa)
      walk_at "nx"
      refine ⟨_, _, .inr hat3, at0, ?_⟩
      walk_at "rd1"
      refine ite2 (fun c => absurd c (by decide)) (fun _ => ?_)
      walk_at "nx"
      refine ⟨_, _, .inr hat3, at0, ?_⟩
      walk_at "rd1"
      refine ite2 (fun c => absurd c (by decide)) (fun _ => ?_)
      rw [plainR_copy] at hlp ⊢
      refine ⟨_, _, _, _, _, es, holdR (.inr x) (getH st (.inr y)) st, rfl, p1, p2, p3, p4, HeldI.hold hH (.inr x) _, hlp, ?_, by omega, rfl⟩
      have := length_putK kvs (.inr x) (.int (hI (getH st (.inr y)))); omega
    | dd u x =>
      walk_at "rd1"
      refine ⟨_, _, .inr hat, at0, ?_⟩
      walk_at "rd1"
      refine ite2 (fun c => absurd c (by decide)) (fun _ => ?_)
      walk_at "nx"
      refine ⟨_, _, .inr hat, at0, ?_⟩
      walk_at "rd1"
      refine ⟨isD_of hk1, _, _, .inr hat, at2, _, DGet.k (k := .inr x) hk1, ?_⟩
      rw [hH (.inr x)]
      walk_at "rd1"
      rw [plainR_do] at hlp ⊢
      cases h : getH st (.inr x) with
      | none =>
        rw [h] at hlp
        refine ite2 (fun c => absurd c (by simp [hI])) (fun _ => ?_)
        walk_at "nx"
        refine ⟨_, _, .inr hat, at0, ?_⟩
        walk_at "rd1"
        refine ite2 (fun c => absurd c (by decide)) (fun _ => ?_)
        walk_at "nx"
        refine ⟨_, _, .inr hat, at0, ?_⟩
        walk_at "rd1"
        refine ite2 (fun c => absurd c (by decide)) (fun _ => ?_)
        walk_at "nx"
        refine ⟨_, _, .inr hat, at0, ?_⟩
        walk_at "rd1"
        refine ite2 (fun c => absurd c (by decide)) (fun _ => ?_)
        exact ⟨_, _, _, _, kvs, es, st, rfl, sm1, hk1, hd1, hes1, hH, hlast, by omega, by omega, rfl⟩
      | some n =>
        rw [h] at hlp
        refine ite2 (fun _ => ?_) (fun c => absurd (show (0 : Int) ≤ (n : Int) by omega) c)
        refine ⟨⟨_, SqL.of hd1⟩, _, _, .inr hat, at2, .inr ⟨hd, _, .inr x, _, rfl, rfl, hk1, hH.at h, ?_⟩⟩
        refine ⟨_, _, .inr hat, at1, by decide, fun t2 ht2 => ?_⟩
        walk_at "rd1"
        obtain ⟨xs, a1, a2, H3, a3, a4, a5, a6, a7⟩ := add (e := [.int i, .int n, .str u, .int 0]) sm1 hk1 hd1 hes1 ht2
        refine ⟨xs, a1, a2, ?_⟩
        rw [a3]
        have hat3 := SqT.of (K := K) (a4 _ _ hpa)
        walk_at "nx"
        refine ⟨_, _, .inr hat3, at0, ?_⟩
        walk_at "rd1"
        refine ite2 (fun c => absurd c (by decide)) (fun _ => ?_)
        walk_at "nx"
        refine ⟨_, _, .inr hat3, at0, ?_⟩
        walk_at "rd1"
        refine ite2 (fun c => absurd c (by decide)) (fun _ => ?_)
        walk_at "nx"
        refine ⟨_, _, .inr hat3, at0, ?_⟩
        walk_at "rd1"
        refine ite2 (fun c => absurd c (by decide)) (fun _ => ?_)
        refine ⟨_, _, _, _, kvs, es ++ [t2], deedR i (some n) u st, rfl, a4, a5, a6, ?_, HeldI.of hH (deedR_held _ _ _ _), hlp, by omega, ?_, rfl⟩
        · show Paired _ _ (st.log ++ [[.int i, .int n, .str u, .int st.last]])
          rw [hlast]; exact a7
        · rw [List.length_append]; simp; omega
    | ti x y =>
      walk_at "rd1"
      refine ⟨_, _, .inr hat, at0, ?_⟩
      walk_at "rd1"
      refine ite2 (fun c => absurd c (by decide)) (fun _ => ?_)
      walk_at "nx"
      refine ⟨_, _, .inr hat, at0, ?_⟩
      walk_at "rd1"
      refine ite2 (fun c => absurd c (by decide)) (fun _ => ?_)
      walk_at "nx"
      refine ⟨_, _, .inr hat, at0, ?_⟩
      walk_at "rd1"
      refine ite2 (fun c => absurd c (by decide)) (fun _ => ?_)
      walk_at "nx"
      refine ⟨_, _, .inr hat, at0, ?_⟩
      walk_at "rd1"
      refine ite2 (fun c => absurd c (by decide)) (fun _ => ?_)
      walk_at "nx"
      refine ⟨_, _, .inr hat, at0, ?_⟩
      walk_at "rd1"
      refine ⟨isD_of hk1, _, _, .inr hat, at1, _, DGet.k (k := .inr x) hk1, ?_⟩
      rw [hH (.inr x)]
      walk_at "nx"
      refine ⟨isD_of hk1, _, _, .inr hat, at2, _, DGet.k (k := .inr y) hk1, ?_⟩
      rw [hH (.inr y)]
      walk_at "nx"
      rw [plainR_tie] at hlp ⊢
      cases h : getH st (.inr x) with
      | none =>
        refine ite2 (fun c => absurd c (by simp [hI])) (fun _ => ?_)
        exact ⟨_, _, _, _, kvs, es, st, rfl, sm1, hk1, hd1, hes1, hH, hlast, by omega, by omega, rfl⟩
      | some n =>
        refine ite2 (fun _ => ?_) (fun c => absurd (show (0 : Int) ≤ (n : Int) by omega) c)
        cases h' : getH st (.inr y) with
        | none =>
          refine ite2 (fun c => absurd c (by simp [hI])) (fun _ => ?_)
          exact ⟨_, _, _, _, kvs, es, st, rfl, sm1, hk1, hd1, hes1, hH, hlast, by omega, by omega, rfl⟩
        | some m =>
          refine ite2 (fun _ => ?_) (fun c => absurd (show (0 : Int) ≤ (m : Int) by omega) c)
          rw [h, h'] at hlp
          by_cases e : n = m
          · refine ite2 (fun c => absurd c (by simp [hI, e])) (fun _ => ?_)
            have e' : tieR i (some n) (some m) st = st := by show (if n = m then st else _) = st; rw [if_pos e]
            rw [e']
            exact ⟨_, _, _, _, kvs, es, st, rfl, sm1, hk1, hd1, hes1, hH, hlast, by omega, by omega, rfl⟩
          · refine ite2 (fun _ => ?_) (fun c => absurd (show (!decide ((n : Int) = (m : Int))) = true by simp; omega) c)
            have e' : tieR i (some n) (some m) st = { st with log := st.log ++ [[.int i, .int n, .int m]] } := by show (if n = m then st else _) = _; rw [if_neg e]
            rw [e'] at hlp ⊢
            refine ⟨⟨_, SqL.of hd1⟩, by decide, fun t2 ht2 => ?_⟩
            obtain ⟨xs, a1, a2, H3, a3, a4, a5, a6, a7⟩ := add (e := [.int i, .int n, .int m]) sm1 hk1 hd1 hes1 ht2
            refine ⟨xs, a1, a2, ?_⟩
            have a3' : upd (upd H1 t2 (HO.tup [V.int i, V.int (hI (some n)), V.int (hI (some m))])) du (HO.lst (xs ++ [V.ref t2])) = H3 := a3
            rw [a3']
            exact ⟨_, _, _, _, kvs, es ++ [t2], { st with log := st.log ++ [[.int i, .int n, .int m]] }, rfl, a4, a5, a6, a7, HeldI.of hH rfl, hlp, by omega, by rw [List.length_append]; simp; omega, rfl⟩
  · rintro σ H' ⟨o4, o5, o6, o7, kvs, es, st, rfl, sm, hk, hdu', hes, hH, hlast, hkl, hel, hst⟩
    rw [List.length_map, hlen, List.take_length] at hst
    walk_at "nx"
    rw [List.length_map] at hel
    have ho : st.opened ≤ 200 := by
      have z := out_sz [] 1 (Ws.map Stp.plain)
      rw [run_plains [] 0, cnt_plains, ← hst] at z
      unfold RS.sz at z
      simp only [List.length_nil] at z
      omega
    refine ⟨by omega, by omega, fun C hC => ?_⟩
    rw [show ((st.opened : Int)).toNat = st.opened from Int.toNat_natCast _]
    refine compW_range (fun j ys H2 => ∃ ts : List Addr, Same H' H2 ∧ H2 C = some (.lst ys) ∧ ys = ts.map V.ref ∧ ts.length = j ∧ Paired (fun a e => H2 a = some (.tup e)) ts ((List.range j).map fun (h : Nat) => ([.int Ws.length, .int h, .str "end", .int 0] : List V))) ⟨[], same_new hC _, upd_same, rfl, rfl, .nil⟩ ?_ ?_
    · rintro j ys H2 hj ⟨ts, sm2, hl2, rfl, hn2, hp2⟩
      walk_at "rd1"
      refine ⟨_, .inl (SqL.of (sm2 _ _ (sm _ _ hs))), ?_⟩
      refine ⟨by decide, fun t ht => ?_⟩
      have sn := same_new ht (.tup [V.int ((as.map V.ref).length : Nat), .int (0 + (j : Int)), .str "end", .int 0])
      have en : upd H2 t (.tup [V.int ((as.map V.ref).length : Nat), .int (0 + (j : Int)), .str "end", .int 0]) t = some (.tup [V.int (Ws.length : Nat), .int (j : Int), .str "end", .int 0]) := by rw [upd_same, List.length_map, hlen, Int.zero_add]
      generalize upd H2 t _ = H3 at sn en ⊢
      refine cstep hj (by rw [List.length_map]; exact hn2) (smallL (by omega)) (sn _ _ hl2) ⟨ts ++ [t], (sm2.trans sn).upd hC _, upd_same, by rw [List.map_append]; rfl, by simp [hn2], ?_⟩
      rw [List.range_succ, List.map_append]
      have nC : ∀ {a : Addr} {e : List V}, H3 a = some (.tup e) → a ≠ C := fun z => ne_of z (sn _ _ hl2) (fun z => nomatch z)
      exact paired_snoc (R := fun a e => upd H3 C (.lst (ts.map V.ref ++ [.ref t])) a = some (.tup e)) (by rw [upd_ne (nC en)]; exact en) (Paired.imp' (fun a e y => by rw [upd_ne (nC (sn _ _ y))]; exact sn _ _ y) hp2)
    · rintro ys H2 ⟨ts, sm2, hl2, rfl, hn2, hp2⟩
      walk_at "rd1"
      refine ⟨_, _, sm2 _ _ hdu', hl2, smallL (by rw [List.length_map, List.length_map]; omega), fun r hr' => ?_⟩
      have sr := same_new hr' (.lst (es.map V.ref ++ ts.map V.ref))
      refine q r _ (es ++ ts) ((sm.trans sm2).trans sr) ((sm.trans sm2).free hr') (by rw [upd_same, List.map_append]) ?_
      have el : (endR Ws.length (plainsR 0 Ws rs0)).log = st.log ++ (List.range st.opened).map fun (h : Nat) => ([.int Ws.length, .int h, .str "end", .int 0] : List V) := by
        rw [← hst]; unfold endR; rw [hlast]
      rw [el]
      exact paired_app (Paired.imp' (fun a e y => sr _ _ (sm2 _ _ y)) hes) (Paired.imp' (fun a e y => sr _ _ y) hp2)
theorem out_plains (xs : List Int) (Ws : List (List Str)) : outR xs 1 (Ws.map Stp.plain) = endR Ws.length (plainsR 0 Ws rs0) := by
  unfold outR; rw [run_plains xs 0, cnt_plains]
theorem paired_mapR {α β γ : Type} {R : α → β → Prop} {R' : α → γ → Prop} {g : β → γ} (h : ∀ a b, R a b → R' a (g b)) : ∀ {xs : List α} {ys : List β}, Paired R xs ys → Paired R' xs (ys.map g)
  | _, _, .nil => .nil
  | _, _, .cons a t => .cons (h _ _ a) (paired_mapR h t)
theorem Paired.rev {α β : Type} {R : α → β → Prop} : ∀ {xs : List α} {ys : List β}, Paired R xs ys → ∀ {i : Nat} (hi : i < ys.length), ∃ x, R x ys[i]
  | _, _, .cons (a := a) h _, 0, _ => ⟨a, h⟩
  | _, _, .cons _ t, i + 1, hi => by
    obtain ⟨x, hx⟩ := Paired.rev t (i := i) (by simpa using hi)
    exact ⟨x, by simpa using hx⟩
theorem ok_law {f : Addr} {fd : FuncData} (F : Fun K "law" "law" s_law f fd) (z_range : mg "range" = none) (z_list : mg "list" = none) (c_law_cell_at : Cal P w K mg base 1 "_law_cell_at" ["_law_script", "_law_k"] (spCell K)) (c_law_names : Cal P w K mg base 1 "_law_names" ["_law_cell"] (spNames fun c => 2 + c / 3 % 3))
    (c_law_step : Cal P w K mg base 1 "_law_step" ["_law_cell", "_law_names_here"] (spStep K)) (c_law_logged : Cal P w K mg base 1 "_law_logged" ["_law_steps"] spLogged) (c_run_plain : Cal P w K mg base 7 "run_plain" ["program", "inputs"] (spPlain K 1)) (c_law_right : Cal P w K mg base 3 "_law_right" ["_law_found", "_law_due"] spLR) : FnOk P w K mg base CX0 8 f fd ["_law_script"] (spLaw K) := by
  refine F.ok sc_law (fun vs H Q E h => by obtain ⟨a, ns, rfl, _⟩ := h; rfl) (fun cdv A outer s H vs Q E hr h => ?_)
  obtain ⟨a, ns, rfl, hS, hn, q⟩ := h
  refine ⟨_, (pss_cons (ps_let 1 sc_law.nd (pe_cal c_law_names hr (pa_cons (pe_cal c_law_cell_at hr (pa_cons (pv 0 (hv := v_law__law_script)) (pa_cons pe_int pa_nil)) (hg := gl_law__law_cell_at)) pa_nil) (hg := gl_law__law_names)) (hx := l_law__law_names_here))
      (pss_cons (ps_setcomp (CompSc.to (fsc := (defScope s_law)) (N := ["_law_script", "_law_names_here", "_law_steps", "_law_due", "_law_inputs", "_law_handed", "_law_found"]) (N0 := ["_law_script", "_law_names_here", "_law_steps", "_law_due", "_law_inputs", "_law_handed", "_law_found"]) (T := ["_law_cell"]) ⟨by decide +kernel, by decide +kernel, by decide +kernel, by decide +kernel, by decide +kernel, by decide +kernel, by decide +kernel⟩ rfl rfl) rfl sc_law.nd (i := 2) rfl k_law__law_steps (pi_listK K (pe_slice (sl_listK K) (pv 0 (hv := v_law__law_script)) (po_some pe_int) (po_some pe_int))) (fun _ _ _ _ => (pg_let 7 (show (["_law_script", "_law_names_here", "_law_steps", "_law_due", "_law_inputs", "_law_handed", "_law_found", "_law_cell"] : List Str).Nodup from by decide +kernel) (hx := (locC (defScope s_law) (by decide +kernel))) (hf := fnC (defScope s_law) (by decide +kernel)))) (gfr_name (show (["_law_script", "_law_names_here", "_law_steps", "_law_due", "_law_inputs", "_law_handed", "_law_found"] : List Str).length ≤ 7 from by decide)) (fun _ _ _ _ => pifs_nil) (fun _ _ _ _ => (pe_cal c_law_step hr (pa_cons (pv 7 (hv := (visC (defScope s_law) (by decide +kernel)))) (pa_cons (pv 1 (hv := (visC (defScope s_law) (by decide +kernel)))) pa_nil)) (hg := (glC (defScope s_law) (by decide +kernel))))))
      (pss_cons (ps_let 3 sc_law.nd (pe_cal c_law_logged hr (pa_cons (pv 2 (hv := v_law__law_steps)) pa_nil) (hg := gl_law__law_logged)) (hx := l_law__law_due))
      (pss_cons (ps_setcomp (CompSc.to (fsc := (defScope s_law)) (N := ["_law_script", "_law_names_here", "_law_steps", "_law_due", "_law_inputs", "_law_handed", "_law_found"]) (N0 := ["_law_script", "_law_names_here", "_law_steps", "_law_due", "_law_inputs", "_law_handed", "_law_found"]) (T := ["_law_k"]) ⟨by decide +kernel, by decide +kernel, by decide +kernel, by decide +kernel, by decide +kernel, by decide +kernel, by decide +kernel⟩ rfl rfl) rfl sc_law.nd (i := 4) rfl k_law__law_inputs (pi_range1 gl_law_range z_range (pa_cons (pe_op op_mod (pe_cal c_law_cell_at hr (pa_cons (pv 0 (hv := v_law__law_script)) (pa_cons pe_int pa_nil)) (hg := gl_law__law_cell_at)) pe_int) pa_nil)) (fun _ _ _ _ => (pg_let 7 (show (["_law_script", "_law_names_here", "_law_steps", "_law_due", "_law_inputs", "_law_handed", "_law_found", "_law_k"] : List Str).Nodup from by decide +kernel) (hx := (locC (defScope s_law) (by decide +kernel))) (hf := fnC (defScope s_law) (by decide +kernel)))) (gfr_name (show (["_law_script", "_law_names_here", "_law_steps", "_law_due", "_law_inputs", "_law_handed", "_law_found"] : List Str).length ≤ 7 from by decide)) (fun _ _ _ _ => pifs_nil) (fun _ _ _ _ => (pe_op op_mod (pe_op op_fdiv (pe_cal c_law_cell_at hr (pa_cons (pv 0 (hv := (visC (defScope s_law) (by decide +kernel)))) (pa_cons pe_int pa_nil)) (hg := (glC (defScope s_law) (by decide +kernel)))) (pe_op op_addA (pv 7 (hv := (visC (defScope s_law) (by decide +kernel)))) pe_int)) (pe_op op_pow pe_int pe_int))))
      (pss_cons (ps_let 5 sc_law.nd (pe_lst (pa_cons (pe_bty (call_listA K) z_list bt_list (pa_cons (pv 2 (hv := v_law__law_steps)) pa_nil) (hg := gl_law_list)) (pa_cons (pe_bty (call_listA K) z_list bt_list (pa_cons (pv 4 (hv := v_law__law_inputs)) pa_nil) (hg := gl_law_list)) pa_nil))) (hx := l_law__law_handed))
      (pss_cons (ps_let 6 sc_law.nd (pe_cal c_run_plain hr (pa_cons (pe_ix (ix_K K) (pv 5 (hv := v_law__law_handed)) pe_int (fun _ _ => rfl)) (pa_cons (pe_ix (ix_K K) (pv 5 (hv := v_law__law_handed)) pe_int (fun _ _ => rfl)) pa_nil)) (hg := gl_law_run_plain)) (hx := l_law__law_found))
      (pss_cons (ps_if (PW.pt' (pw_or (pt_not (pt_val (pe_cal c_law_right hr (pa_cons (pv 6 (hv := v_law__law_found)) (pa_cons (pv 3 (hv := v_law__law_due)) pa_nil)) (hg := gl_law__law_right)))) (pw_or1 (pt_cmpR (op_neKD K hr) (pv 5 (hv := v_law__law_handed)) (pe_lst (pa_cons (pv 2 (hv := v_law__law_steps)) (pa_cons (pv 4 (hv := v_law__law_inputs)) pa_nil))) (nomark _))))) (pss_one (ps_ret pe_bl)) pss_nil)
      (pss_cons (ps_expr (pe_bmK K PySem.F.plainAttrs_list PySem.F.slot_list_append PySem.F.type_list_append mt_appendA (pv 6 (hv := v_law__law_found)) (pa_cons (pe_tup (pa_cons pe_int (pa_cons pe_int (pa_cons pe_str (pa_cons pe_int pa_nil))))) pa_nil)))
      (pss_one (ps_ret (pe_cal c_law_right hr (pa_cons (pe_cal c_run_plain hr (pa_cons (pe_ix (ix_K K) (pv 5 (hv := v_law__law_handed)) pe_int (fun _ _ => rfl)) (pa_cons (pe_ix (ix_K K) (pv 5 (hv := v_law__law_handed)) pe_int (fun _ _ => rfl)) pa_nil)) (hg := gl_law_run_plain)) (pa_cons (pv 3 (hv := v_law__law_due)) pa_nil)) (hg := gl_law__law_right)))))))))))), ?_⟩
  walk_at "rd1"
  refine ⟨a, ns, 0, rfl, hS, by decide, ?_⟩
  walk_at "rd1"
  refine ⟨_, rfl, fun np H1 nm sm1 hnp hl1 n1 n7 hb _ => ?_⟩
  walk_at "nx"
  refine ⟨_, sm1.seq hS, fun cp hcp => ?_⟩
  rw [cut_map]
  have hcl := cutS_len ns (some 2) (some 62)
  generalize cutS ns (some 2) (some 62) = cs at hcl ⊢
  have s2 := same_new hcp (.lst (cs.map V.int))
  have e2 : upd H1 cp (.lst (cs.map V.int)) cp = some (.lst (cs.map V.int)) := upd_same
  generalize upd H1 cp (.lst (cs.map V.int)) = H2 at s2 e2 ⊢
  refine ⟨⟨_, SqL.of e2⟩, fun sp hsp => ?_⟩
  refine compW_list (xs := cs.map V.int) (fun i ys H' => ∃ (as : List Addr) (Ws : List (List Str)), Same H2 H' ∧ H' sp = some (.lst ys) ∧ ys = as.map V.ref ∧ as.length = i ∧ Paired (Plain H') as Ws ∧ ∀ ws ∈ Ws, PlainX ws) ⟨[], [], same_new hsp _, upd_same, rfl, rfl, .nil, by simp⟩ (fun i ys H' _ h => by obtain ⟨_, _, sm, _⟩ := h; exact SqL.of (sm _ _ e2)) ?_ ?_
  · rintro i ys H' v hv hi ⟨as, Ws, sm, hl, rfl, hn', hp, hx⟩
    rw [List.length_map] at hi
    rw [List.getElem?_map, List.getElem?_eq_getElem hi] at hv
    cases hv
    walk_at "rd1"
    refine ⟨cs[i], np, nm, rfl, sm _ _ (s2 _ _ hl1), n1, n7, hb, fun t H3 ws sm3 ht hat pw px => ?_⟩
    refine cstep (by rw [List.length_map]; exact hi) (by rw [List.length_map]; exact hn') (by rw [List.length_map]; exact smallL (by omega)) (sm3 _ _ hl) ⟨as ++ [t], Ws ++ [ws], (sm.trans sm3).upd hsp _, upd_same, by rw [List.map_append]; rfl, by simp [hn'], ?_, ?_⟩
    · have up : ∀ {a : Addr} {ws : List Str}, Plain H3 a ws → Plain (upd H3 sp (.lst (as.map V.ref ++ [.ref t]))) a ws := fun z => ⟨by rw [upd_ne (ne_of z.1 (sm3 _ _ hl) (fun z => nomatch z))]; exact z.1, z.2⟩
      exact paired_snoc (up ⟨hat, pw⟩) (Paired.imp' (fun a ws z => up (z.mono sm3)) hp)
    · intro u hu
      rcases List.mem_append.mp hu with z | z
      · exact hx u z
      · rw [List.mem_singleton.mp z]; exact px
  rintro ys H3 ⟨as, Ws, sm3, hl3, rfl, hn3, hp3, hx3⟩
  rw [List.length_map] at hn3
  have hlen := paired_len hp3
  have sm13 := s2.trans sm3
  walk_at "nx"
  refine ⟨sp, as, Ws, rfl, hl3, hp3, hx3, by omega, fun dp H4 es sm4 hdp hd4 hes4 => ?_⟩
  walk_at "nx"
  have sm04 := (sm1.trans sm13).trans sm4
  refine ⟨a, ns, 1, rfl, sm04.seq hS, by decide, ?_⟩
  walk_at "rd1"
  refine ⟨by decide, by omega, by omega, fun ip hip => ?_⟩
  generalize hc1 : (ns.getD (Int.toNat 1) 0) = c1
  refine compW_range (fun j ys H' => ∃ xs : List Int, Same H4 H' ∧ H' ip = some (.lst ys) ∧ ys = xs.map V.int ∧ xs.length = j) ⟨[], same_new hip _, upd_same, rfl, rfl⟩ ?_ ?_
  · rintro j ys H' hj ⟨xs, sm, hl, rfl, hn'⟩
    walk_at "rd1"
    refine ⟨a, ns, 1, rfl, (sm04.trans sm).seq hS, by decide, ?_⟩
    walk_at "rd1"
    refine ⟨⟨by omega, by omega⟩, ⟨by decide, by decide, by decide⟩, by decide, ?_⟩
    exact cstep hj (by rw [List.length_map]; exact hn') (smallL (by omega)) hl ⟨xs ++ [_], sm.upd hip _, upd_same, by rw [List.map_append]; rfl, by simp [hn']⟩
  rintro ys H5 ⟨xs, sm5, hl5, rfl, hn5⟩
  have hx4 : xs.length ≤ 4 := by omega
  walk_at "nx"
  have hl35 := sm5 _ _ (sm4 _ _ hl3)
  refine ⟨_, .inl (SqL.of hl35), fun s2p hs2p => ?_⟩
  generalize hA : upd H5 s2p _ = HA
  have sA := al_same hA hs2p
  have eA := al_at hA
  refine ⟨_, .inl (SqL.of (sA _ _ hl5)), fun i2p hi2p => ?_⟩
  generalize hB : upd HA i2p _ = HB
  have sB := al_same hB hi2p
  have eB := al_at hB
  refine ⟨by decide, fun hp hhp => ?_⟩
  generalize hC : upd HB hp _ = HC
  have sC := al_same hC hhp
  have eC := al_at hC
  have s5C := (sA.trans sB).trans sC
  have sHC := (sm4.trans sm5).trans s5C
  have hp4 : ∀ {H' : Hp}, Same HC H' → Paired (Plain H') as Ws := fun sm => Paired.imp' (fun a ws z => z.mono (sHC.trans sm)) hp3
  have prog : ∀ {H' : Hp}, Same HC H' → ProgAt (fun _ => True) 1 H' s2p (Ws.map Stp.plain) := fun sm => ⟨trivial, as, sm _ _ (sC _ _ (sB _ _ eA)), paired_mapR (fun a ws z => z.1) (hp4 sm)⟩
  have okp : okT 1 (Ws.map Stp.plain) := fun s hs => by
    obtain ⟨ws, hw, rfl⟩ := List.mem_map.mp hs
    obtain ⟨i, hi, rfl⟩ := List.mem_iff_getElem.mp hw
    obtain ⟨x, hx⟩ := Paired.rev hp3 hi
    exact hx.2
  have shp : shpT 1 (Ws.map Stp.plain) := fun s hs => by
    obtain ⟨ws, hw, rfl⟩ := List.mem_map.mp hs
    exact hx3 ws hw
  have hcnt : cntT 1 (Ws.map Stp.plain) ≤ 100 := by rw [cnt_plains]; omega
  have inp : ∀ {H' : Hp}, Same HC H' → SqL K H' i2p (xs.map V.int) := fun sm => SqL.of (sm _ _ (sC _ _ eB))
  have hand : ∀ {H' : Hp}, Same HC H' → SqL K H' hp [V.ref s2p, V.ref i2p] := fun sm => SqL.of (sm _ _ eC)
  have due : ∀ {H' : Hp}, Same HC H' → Same H4 H' := fun sm => (sm5.trans s5C).trans sm
  have olog := out_log xs 1 (Ws.map Stp.plain)
  rw [out_plains] at olog
  walk_at "nx"
  refine ⟨_, _, .inl (hand (Same.refl HC)), at0, _, _, .inl (hand (Same.refl HC)), at1, ?_⟩
  refine ⟨s2p, i2p, _, _, xs, rfl, prog (Same.refl HC), okp, shp, hcnt, inp (Same.refl HC), by omega, fun fp HD fs sD hfp eD pD lD => ?_⟩
  rw [out_plains] at pD lD
  walk_at "nx"
  refine ⟨fp, dp, fs, es, _, rfl, eD, due sD _ _ hd4, pD, Paired.imp' (fun a e y => due sD _ _ y) hes4, olog, fun HE sE => ?_⟩
  walk_at "rd1"
  refine ⟨by decide, fun p2 hp2 => ?_⟩
  generalize hG : upd HE p2 _ = HG
  have sG := al_same hG hp2
  have eG := al_at hG
  have sCG := (sD.trans sE).trans sG
  have spG : SqL K HG sp (as.map V.ref) := SqL.of (sCG _ _ (s5C _ _ hl35))
  have ipG : SqL K HG ip (xs.map V.int) := SqL.of (sCG _ _ (s5C _ _ hl5))
  have s2G : SqL K HG s2p (as.map V.ref) := SqL.of (sCG _ _ (sC _ _ (sB _ _ eA)))
  refine ⟨2, true, by decide, EqN.seq (.inl ⟨hand sCG, SqL.of eG⟩) rfl (fun i x y e1 e2 => ?_), ?_⟩
  · match i, e1, e2 with
    | 0, e1, e2 =>
      cases e1; cases e2
      refine EqN.seq (.inl ⟨s2G, spG⟩) rfl (fun i x y e1 e2 => ?_)
      rw [e1] at e2
      cases e2
      have hi : i < as.length := by have := (List.getElem?_eq_some_iff.mp e1).1; simpa using this
      rw [List.getElem?_map, List.getElem?_eq_getElem hi] at e1
      cases e1
      obtain ⟨ws, _, hw, _⟩ := paired_at (hp4 sCG) (List.getElem?_eq_getElem hi)
      exact EqN.seqFlat (.inr ⟨SqT.of hw, SqT.of hw⟩) (strs_flat _)
    | 1, e1, e2 =>
      cases e1; cases e2
      have := EqN.ints (n := 1) (inp sCG) ipG
      rw [decide_eq_true rfl] at this
      exact this
    | i + 2, e1, e2 => simp at e1
  walk_at "rd1"
  walk_at "nx"
  have eDG := sG _ _ (sE _ _ eD)
  refine ⟨⟨_, SqL.of eDG⟩, by decide, fun t ht => ?_⟩
  have st := same_new ht (.tup [V.int 0, .int 0, .str "open", .int 0])
  generalize upd HG t _ = HI at st ⊢
  have eDI := st _ _ eDG
  have lfs := paired_len pD
  refine ⟨_, eDI, small' (by rw [List.length_map]; omega), ?_⟩
  have sCJ : Same HC (upd HI fp (.lst (fs.map V.ref ++ [.ref t]))) := (sCG.trans st).upd hfp _
  generalize upd HI fp (.lst (fs.map V.ref ++ [.ref t])) = HJ at sCJ ⊢
  walk_at "nx"
  refine ⟨_, _, .inl (hand sCJ), at0, _, _, .inl (hand sCJ), at1, ?_⟩
  refine ⟨s2p, i2p, _, _, xs, rfl, prog sCJ, okp, shp, hcnt, inp sCJ, by omega, fun gp HK gs sK hgp eK pK lK => ?_⟩
  rw [out_plains] at pK lK
  walk_at "rd1"
  exact ⟨gp, dp, gs, es, _, rfl, eK, due (sCJ.trans sK) _ _ hd4, pK, Paired.imp' (fun a e y => due (sCJ.trans sK) _ _ y) hes4, olog, fun HL _ => q HL⟩
end
theorem all_mk {l : PySem.W.OpenLaw} {w : World} {K : PySem.W.Frag} {h : Heap} {mg : Str → Option Value} {fa : Addr} (X : K.In h) (G : h.Ns mainGlobals mg) (hfa : mg "law" = some (.ref fa))
    {f0 : Addr} {od0 an0 : Option Addr} {sl0 : Array (Option Value)} {oc0 kV0 dc0 pm0 cd0 ct0 : Value} {f1 : Addr} {od1 an1 : Option Addr} {sl1 : Array (Option Value)} {oc1 kV1 dc1 pm1 cd1 ct1 : Value} {f2 : Addr} {od2 an2 : Option Addr} {sl2 : Array (Option Value)} {oc2 kV2 dc2 pm2 cd2 ct2 : Value} {f3 : Addr} {od3 an3 : Option Addr} {sl3 : Array (Option Value)} {oc3 kV3 dc3 pm3 cd3 ct3 : Value} {f4 : Addr} {od4 an4 : Option Addr} {sl4 : Array (Option Value)} {oc4 kV4 dc4 pm4 cd4 ct4 : Value} {f5 : Addr} {od5 an5 : Option Addr} {sl5 : Array (Option Value)} {oc5 kV5 dc5 pm5 cd5 ct5 : Value} {f6 : Addr} {od6 an6 : Option Addr} {sl6 : Array (Option Value)} {oc6 kV6 dc6 pm6 cd6 ct6 : Value} {f7 : Addr} {od7 an7 : Option Addr} {sl7 : Array (Option Value)} {oc7 kV7 dc7 pm7 cd7 ct7 : Value} {f8 : Addr} {od8 an8 : Option Addr} {sl8 : Array (Option Value)} {oc8 kV8 dc8 pm8 cd8 ct8 : Value} {f9 : Addr} {od9 an9 : Option Addr} {sl9 : Array (Option Value)} {oc9 kV9 dc9 pm9 cd9 ct9 : Value} {f10 : Addr} {od10 an10 : Option Addr} {sl10 : Array (Option Value)} {oc10 kV10 dc10 pm10 cd10 ct10 : Value} {f11 : Addr} {od11 an11 : Option Addr} {sl11 : Array (Option Value)} {oc11 kV11 dc11 pm11 cd11 ct11 : Value} {f12 : Addr} {od12 an12 : Option Addr} {sl12 : Array (Option Value)} {oc12 kV12 dc12 pm12 cd12 ct12 : Value} {f13 : Addr} {od13 an13 : Option Addr} {sl13 : Array (Option Value)} {oc13 kV13 dc13 pm13 cd13 ct13 : Value} {f14 : Addr} {od14 an14 : Option Addr} {sl14 : Array (Option Value)} {oc14 kV14 dc14 pm14 cd14 ct14 : Value} {f15 : Addr} {od15 an15 : Option Addr} {sl15 : Array (Option Value)} {oc15 kV15 dc15 pm15 cd15 ct15 : Value} {f16 : Addr} {od16 an16 : Option Addr} {sl16 : Array (Option Value)} {oc16 kV16 dc16 pm16 cd16 ct16 : Value} {f17 : Addr} {od17 an17 : Option Addr} {sl17 : Array (Option Value)} {oc17 kV17 dc17 pm17 cd17 ct17 : Value} {f18 : Addr} {od18 an18 : Option Addr} {sl18 : Array (Option Value)} {oc18 kV18 dc18 pm18 cd18 ct18 : Value} {f19 : Addr} {od19 an19 : Option Addr} {sl19 : Array (Option Value)} {oc19 kV19 dc19 pm19 cd19 ct19 : Value} {f20 : Addr} {od20 an20 : Option Addr} {sl20 : Array (Option Value)} {oc20 kV20 dc20 pm20 cd20 ct20 : Value} {f21 : Addr} {od21 an21 : Option Addr} {sl21 : Array (Option Value)} {oc21 kV21 dc21 pm21 cd21 ct21 : Value} {C_NumberedStep : Addr} {fNumberedStep___init__ : Addr} {odNumberedStep___init__ anNumberedStep___init__ : Option Addr} {slNumberedStep___init__ : Array (Option Value)} {ocNumberedStep___init__ kVNumberedStep___init__ dcNumberedStep___init__ pmNumberedStep___init__ cdNumberedStep___init__ ctNumberedStep___init__ : Value} {C_Run : Addr} {fRun___init__ : Addr} {odRun___init__ anRun___init__ : Option Addr} {slRun___init__ : Array (Option Value)} {ocRun___init__ kVRun___init__ dcRun___init__ pmRun___init__ cdRun___init__ ctRun___init__ : Value} {fRun_takes_more : Addr} {odRun_takes_more anRun_takes_more : Option Addr} {slRun_takes_more : Array (Option Value)} {ocRun_takes_more kVRun_takes_more dcRun_takes_more pmRun_takes_more cdRun_takes_more ctRun_takes_more : Value} {fRun_handle_of : Addr} {odRun_handle_of anRun_handle_of : Option Addr} {slRun_handle_of : Array (Option Value)} {ocRun_handle_of kVRun_handle_of dcRun_handle_of pmRun_handle_of cdRun_handle_of ctRun_handle_of : Value} {fRun_hold : Addr} {odRun_hold anRun_hold : Option Addr} {slRun_hold : Array (Option Value)} {ocRun_hold kVRun_hold dcRun_hold pmRun_hold cdRun_hold ctRun_hold : Value} {fRun_deed : Addr} {odRun_deed anRun_deed : Option Addr} {slRun_deed : Array (Option Value)} {ocRun_deed kVRun_deed dcRun_deed pmRun_deed cdRun_deed ctRun_deed : Value} {fRun_new_handle : Addr} {odRun_new_handle anRun_new_handle : Option Addr} {slRun_new_handle : Array (Option Value)} {ocRun_new_handle kVRun_new_handle dcRun_new_handle pmRun_new_handle cdRun_new_handle ctRun_new_handle : Value} {fRun_tie : Addr} {odRun_tie anRun_tie : Option Addr} {slRun_tie : Array (Option Value)} {ocRun_tie kVRun_tie dcRun_tie pmRun_tie cdRun_tie ctRun_tie : Value} {fRun_end_all : Addr} {odRun_end_all anRun_end_all : Option Addr} {slRun_end_all : Array (Option Value)} {ocRun_end_all kVRun_end_all dcRun_end_all pmRun_end_all cdRun_end_all ctRun_end_all : Value} {d_CLOSERS : Addr} {n_CLOSERS : Nat} {k_CLOSERS_0 : Tok} {a_CLOSERS_0 : Addr} {od_CLOSERS_0 : Option Addr} {m_CLOSERS_0 : Nat} {sl_CLOSERS_0 : Array (Option Value)} {k_CLOSERS_0_0 : Tok} {k_CLOSERS_1 : Tok} {a_CLOSERS_1 : Addr} {od_CLOSERS_1 : Option Addr} {m_CLOSERS_1 : Nat} {sl_CLOSERS_1 : Array (Option Value)} {k_CLOSERS_1_0 : Tok} {k_CLOSERS_1_1 : Tok} {k_CLOSERS_2 : Tok} {a_CLOSERS_2 : Addr} {od_CLOSERS_2 : Option Addr} {m_CLOSERS_2 : Nat} {sl_CLOSERS_2 : Array (Option Value)} {k_CLOSERS_2_0 : Tok}
    (a0 : PySem.W.nsIn K mainGlobals "closers_of" = some (some (.ref f0))) (l0 : K.lookup f0 = some ⟨oc0, od0, .func (PySem.W.fnOf "closers_of" "closers_of" (defArgs s_closers_of) (defBody s_closers_of) (defScope s_closers_of) .none kV0 dc0 pm0 an0 cd0 ct0), sl0⟩) (c0 : PySem.W.codeIn K cd0 "closers_of" = true) (k0 : PySem.W.keepIn K (.ref f0) = true)
    (a1 : PySem.W.nsIn K mainGlobals "head_of" = some (some (.ref f1))) (l1 : K.lookup f1 = some ⟨oc1, od1, .func (PySem.W.fnOf "head_of" "head_of" (defArgs s_head_of) (defBody s_head_of) (defScope s_head_of) .none kV1 dc1 pm1 an1 cd1 ct1), sl1⟩) (c1 : PySem.W.codeIn K cd1 "head_of" = true) (k1 : PySem.W.keepIn K (.ref f1) = true)
    (a2 : PySem.W.nsIn K mainGlobals "blocks_of" = some (some (.ref f2))) (l2 : K.lookup f2 = some ⟨oc2, od2, .func (PySem.W.fnOf "blocks_of" "blocks_of" (defArgs s_blocks_of) (defBody s_blocks_of) (defScope s_blocks_of) .none kV2 dc2 pm2 an2 cd2 ct2), sl2⟩) (c2 : PySem.W.codeIn K cd2 "blocks_of" = true) (k2 : PySem.W.keepIn K (.ref f2) = true)
    (a3 : PySem.W.nsIn K mainGlobals "all_begin_tie" = some (some (.ref f3))) (l3 : K.lookup f3 = some ⟨oc3, od3, .func (PySem.W.fnOf "all_begin_tie" "all_begin_tie" (defArgs s_all_begin_tie) (defBody s_all_begin_tie) (defScope s_all_begin_tie) .none kV3 dc3 pm3 an3 cd3 ct3), sl3⟩) (c3 : PySem.W.codeIn K cd3 "all_begin_tie" = true) (k3 : PySem.W.keepIn K (.ref f3) = true)
    (a4 : PySem.W.nsIn K mainGlobals "broken_or_gone_on" = some (some (.ref f4))) (l4 : K.lookup f4 = some ⟨oc4, od4, .func (PySem.W.fnOf "broken_or_gone_on" "broken_or_gone_on" (defArgs s_broken_or_gone_on) (defBody s_broken_or_gone_on) (defScope s_broken_or_gone_on) .none kV4 dc4 pm4 an4 cd4 ct4), sl4⟩) (c4 : PySem.W.codeIn K cd4 "broken_or_gone_on" = true) (k4 : PySem.W.keepIn K (.ref f4) = true)
    (a5 : PySem.W.nsIn K mainGlobals "line_behind" = some (some (.ref f5))) (l5 : K.lookup f5 = some ⟨oc5, od5, .func (PySem.W.fnOf "line_behind" "line_behind" (defArgs s_line_behind) (defBody s_line_behind) (defScope s_line_behind) .none kV5 dc5 pm5 an5 cd5 ct5), sl5⟩) (c5 : PySem.W.codeIn K cd5 "line_behind" = true) (k5 : PySem.W.keepIn K (.ref f5) = true)
    (a6 : PySem.W.nsIn K mainGlobals "numbered_step" = some (some (.ref f6))) (l6 : K.lookup f6 = some ⟨oc6, od6, .func (PySem.W.fnOf "numbered_step" "numbered_step" (defArgs s_numbered_step) (defBody s_numbered_step) (defScope s_numbered_step) .none kV6 dc6 pm6 an6 cd6 ct6), sl6⟩) (c6 : PySem.W.codeIn K cd6 "numbered_step" = true) (k6 : PySem.W.keepIn K (.ref f6) = true)
    (a7 : PySem.W.nsIn K mainGlobals "numbered_steps" = some (some (.ref f7))) (l7 : K.lookup f7 = some ⟨oc7, od7, .func (PySem.W.fnOf "numbered_steps" "numbered_steps" (defArgs s_numbered_steps) (defBody s_numbered_steps) (defScope s_numbered_steps) .none kV7 dc7 pm7 an7 cd7 ct7), sl7⟩) (c7 : PySem.W.codeIn K cd7 "numbered_steps" = true) (k7 : PySem.W.keepIn K (.ref f7) = true)
    (a8 : PySem.W.nsIn K mainGlobals "do_simple" = some (some (.ref f8))) (l8 : K.lookup f8 = some ⟨oc8, od8, .func (PySem.W.fnOf "do_simple" "do_simple" (defArgs s_do_simple) (defBody s_do_simple) (defScope s_do_simple) .none kV8 dc8 pm8 an8 cd8 ct8), sl8⟩) (c8 : PySem.W.codeIn K cd8 "do_simple" = true) (k8 : PySem.W.keepIn K (.ref f8) = true)
    (a9 : PySem.W.nsIn K mainGlobals "do_lend" = some (some (.ref f9))) (l9 : K.lookup f9 = some ⟨oc9, od9, .func (PySem.W.fnOf "do_lend" "do_lend" (defArgs s_do_lend) (defBody s_do_lend) (defScope s_do_lend) .none kV9 dc9 pm9 an9 cd9 ct9), sl9⟩) (c9 : PySem.W.codeIn K cd9 "do_lend" = true) (k9 : PySem.W.keepIn K (.ref f9) = true)
    (a10 : PySem.W.nsIn K mainGlobals "do_if" = some (some (.ref f10))) (l10 : K.lookup f10 = some ⟨oc10, od10, .func (PySem.W.fnOf "do_if" "do_if" (defArgs s_do_if) (defBody s_do_if) (defScope s_do_if) .none kV10 dc10 pm10 an10 cd10 ct10), sl10⟩) (c10 : PySem.W.codeIn K cd10 "do_if" = true) (k10 : PySem.W.keepIn K (.ref f10) = true)
    (a11 : PySem.W.nsIn K mainGlobals "do_while" = some (some (.ref f11))) (l11 : K.lookup f11 = some ⟨oc11, od11, .func (PySem.W.fnOf "do_while" "do_while" (defArgs s_do_while) (defBody s_do_while) (defScope s_do_while) .none kV11 dc11 pm11 an11 cd11 ct11), sl11⟩) (c11 : PySem.W.codeIn K cd11 "do_while" = true) (k11 : PySem.W.keepIn K (.ref f11) = true)
    (a12 : PySem.W.nsIn K mainGlobals "do_steps" = some (some (.ref f12))) (l12 : K.lookup f12 = some ⟨oc12, od12, .func (PySem.W.fnOf "do_steps" "do_steps" (defArgs s_do_steps) (defBody s_do_steps) (defScope s_do_steps) .none kV12 dc12 pm12 an12 cd12 ct12), sl12⟩) (c12 : PySem.W.codeIn K cd12 "do_steps" = true) (k12 : PySem.W.keepIn K (.ref f12) = true)
    (a13 : PySem.W.nsIn K mainGlobals "run_plain" = some (some (.ref f13))) (l13 : K.lookup f13 = some ⟨oc13, od13, .func (PySem.W.fnOf "run_plain" "run_plain" (defArgs s_run_plain) (defBody s_run_plain) (defScope s_run_plain) .none kV13 dc13 pm13 an13 cd13 ct13), sl13⟩) (c13 : PySem.W.codeIn K cd13 "run_plain" = true) (k13 : PySem.W.keepIn K (.ref f13) = true)
    (a14 : PySem.W.nsIn K mainGlobals "_law_cell_at" = some (some (.ref f14))) (l14 : K.lookup f14 = some ⟨oc14, od14, .func (PySem.W.fnOf "_law_cell_at" "_law_cell_at" (defArgs s_law_cell_at) (defBody s_law_cell_at) (defScope s_law_cell_at) .none kV14 dc14 pm14 an14 cd14 ct14), sl14⟩) (c14 : PySem.W.codeIn K cd14 "_law_cell_at" = true) (k14 : PySem.W.keepIn K (.ref f14) = true)
    (a15 : PySem.W.nsIn K mainGlobals "_law_names" = some (some (.ref f15))) (l15 : K.lookup f15 = some ⟨oc15, od15, .func (PySem.W.fnOf "_law_names" "_law_names" (defArgs s_law_names) (defBody s_law_names) (defScope s_law_names) .none kV15 dc15 pm15 an15 cd15 ct15), sl15⟩) (c15 : PySem.W.codeIn K cd15 "_law_names" = true) (k15 : PySem.W.keepIn K (.ref f15) = true)
    (a16 : PySem.W.nsIn K mainGlobals "_law_step" = some (some (.ref f16))) (l16 : K.lookup f16 = some ⟨oc16, od16, .func (PySem.W.fnOf "_law_step" "_law_step" (defArgs s_law_step) (defBody s_law_step) (defScope s_law_step) .none kV16 dc16 pm16 an16 cd16 ct16), sl16⟩) (c16 : PySem.W.codeIn K cd16 "_law_step" = true) (k16 : PySem.W.keepIn K (.ref f16) = true)
    (a17 : PySem.W.nsIn K mainGlobals "_law_logged" = some (some (.ref f17))) (l17 : K.lookup f17 = some ⟨oc17, od17, .func (PySem.W.fnOf "_law_logged" "_law_logged" (defArgs s_law_logged) (defBody s_law_logged) (defScope s_law_logged) .none kV17 dc17 pm17 an17 cd17 ct17), sl17⟩) (c17 : PySem.W.codeIn K cd17 "_law_logged" = true) (k17 : PySem.W.keepIn K (.ref f17) = true)
    (a18 : PySem.W.nsIn K mainGlobals "_law_whole" = some (some (.ref f18))) (l18 : K.lookup f18 = some ⟨oc18, od18, .func (PySem.W.fnOf "_law_whole" "_law_whole" (defArgs s_law_whole) (defBody s_law_whole) (defScope s_law_whole) .none kV18 dc18 pm18 an18 cd18 ct18), sl18⟩) (c18 : PySem.W.codeIn K cd18 "_law_whole" = true) (k18 : PySem.W.keepIn K (.ref f18) = true)
    (a19 : PySem.W.nsIn K mainGlobals "_law_entry" = some (some (.ref f19))) (l19 : K.lookup f19 = some ⟨oc19, od19, .func (PySem.W.fnOf "_law_entry" "_law_entry" (defArgs s_law_entry) (defBody s_law_entry) (defScope s_law_entry) .none kV19 dc19 pm19 an19 cd19 ct19), sl19⟩) (c19 : PySem.W.codeIn K cd19 "_law_entry" = true) (k19 : PySem.W.keepIn K (.ref f19) = true)
    (a20 : PySem.W.nsIn K mainGlobals "_law_right" = some (some (.ref f20))) (l20 : K.lookup f20 = some ⟨oc20, od20, .func (PySem.W.fnOf "_law_right" "_law_right" (defArgs s_law_right) (defBody s_law_right) (defScope s_law_right) .none kV20 dc20 pm20 an20 cd20 ct20), sl20⟩) (c20 : PySem.W.codeIn K cd20 "_law_right" = true) (k20 : PySem.W.keepIn K (.ref f20) = true)
    (a21 : PySem.W.nsIn K mainGlobals "law" = some (some (.ref f21))) (l21 : K.lookup f21 = some ⟨oc21, od21, .func (PySem.W.fnOf "law" "law" (defArgs s_law) (defBody s_law) (defScope s_law) .none kV21 dc21 pm21 an21 cd21 ct21), sl21⟩) (c21 : PySem.W.codeIn K cd21 "law" = true) (k21 : PySem.W.keepIn K (.ref f21) = true)
    (y_isinstance : PySem.W.nsIn K mainGlobals "isinstance" = some none)
    (y_str : PySem.W.nsIn K mainGlobals "str" = some none)
    (y_int : PySem.W.nsIn K mainGlobals "int" = some none)
    (y_bool : PySem.W.nsIn K mainGlobals "bool" = some none)
    (y_tuple : PySem.W.nsIn K mainGlobals "tuple" = some none)
    (y_len : PySem.W.nsIn K mainGlobals "len" = some none)
    (y_range : PySem.W.nsIn K mainGlobals "range" = some none)
    (y_list : PySem.W.nsIn K mainGlobals "list" = some none)
    (y_zip : PySem.W.nsIn K mainGlobals "zip" = some none)
    (y_enumerate : PySem.W.nsIn K mainGlobals "enumerate" = some none)
    (n_NumberedStep : PySem.W.nsIn K mainGlobals "NumberedStep" = some (some (.ref C_NumberedStep))) (pg_NumberedStep : PySem.W.plainGet K C_NumberedStep Str.empty = true) (hd_NumberedStep : PySem.W.hasDictIn K C_NumberedStep = true) (po_NumberedStep : PySem.W.plainOver K C_NumberedStep = true) (sa_NumberedStep : PySem.W.findIn K (.ref C_NumberedStep) "__setattr__" = some (some (.builtin "object.__setattr__"))) (mk_NumberedStep : PySem.W.makesIn K C_NumberedStep = true) (kc_NumberedStep : PySem.W.keepIn K (.ref C_NumberedStep) = true)
    (nf_kind : PySem.W.findIn K (.ref C_NumberedStep) "kind" = some none)
    (nf_parts : PySem.W.findIn K (.ref C_NumberedStep) "parts" = some none)
    (nf_lines : PySem.W.findIn K (.ref C_NumberedStep) "lines" = some none)
    (nf_blocks : PySem.W.findIn K (.ref C_NumberedStep) "blocks" = some none)
    (aNumberedStep___init__ : PySem.W.findIn K (.ref C_NumberedStep) "__init__" = some (some (.ref fNumberedStep___init__))) (iNumberedStep___init__ : PySem.W.isFn K (.ref fNumberedStep___init__) = true) (lNumberedStep___init__ : K.lookup fNumberedStep___init__ = some ⟨ocNumberedStep___init__, odNumberedStep___init__, .func (PySem.W.fnOf "__init__" "NumberedStep.__init__" (defArgs s_NumberedStep___init__) (defBody s_NumberedStep___init__) (defScope s_NumberedStep___init__) .none kVNumberedStep___init__ dcNumberedStep___init__ pmNumberedStep___init__ anNumberedStep___init__ cdNumberedStep___init__ ctNumberedStep___init__), slNumberedStep___init__⟩) (cNumberedStep___init__ : PySem.W.codeIn K cdNumberedStep___init__ "NumberedStep.__init__" = true) (kNumberedStep___init__ : PySem.W.keepIn K (.ref fNumberedStep___init__) = true)
    (n_Run : PySem.W.nsIn K mainGlobals "Run" = some (some (.ref C_Run))) (pg_Run : PySem.W.plainGet K C_Run Str.empty = true) (hd_Run : PySem.W.hasDictIn K C_Run = true) (po_Run : PySem.W.plainOver K C_Run = true) (sa_Run : PySem.W.findIn K (.ref C_Run) "__setattr__" = some (some (.builtin "object.__setattr__"))) (mk_Run : PySem.W.makesIn K C_Run = true) (kc_Run : PySem.W.keepIn K (.ref C_Run) = true)
    (nf_inputs : PySem.W.findIn K (.ref C_Run) "inputs" = some none)
    (nf_watches : PySem.W.findIn K (.ref C_Run) "watches" = some none)
    (nf_at : PySem.W.findIn K (.ref C_Run) "at" = some none)
    (nf_taken : PySem.W.findIn K (.ref C_Run) "taken" = some none)
    (nf_last : PySem.W.findIn K (.ref C_Run) "last" = some none)
    (nf_opened : PySem.W.findIn K (.ref C_Run) "opened" = some none)
    (nf_held : PySem.W.findIn K (.ref C_Run) "held" = some none)
    (nf_log : PySem.W.findIn K (.ref C_Run) "log" = some none)
    (aRun___init__ : PySem.W.findIn K (.ref C_Run) "__init__" = some (some (.ref fRun___init__))) (iRun___init__ : PySem.W.isFn K (.ref fRun___init__) = true) (lRun___init__ : K.lookup fRun___init__ = some ⟨ocRun___init__, odRun___init__, .func (PySem.W.fnOf "__init__" "Run.__init__" (defArgs s_Run___init__) (defBody s_Run___init__) (defScope s_Run___init__) .none kVRun___init__ dcRun___init__ pmRun___init__ anRun___init__ cdRun___init__ ctRun___init__), slRun___init__⟩) (cRun___init__ : PySem.W.codeIn K cdRun___init__ "Run.__init__" = true) (kRun___init__ : PySem.W.keepIn K (.ref fRun___init__) = true)
    (aRun_takes_more : PySem.W.findIn K (.ref C_Run) "takes_more" = some (some (.ref fRun_takes_more))) (iRun_takes_more : PySem.W.isFn K (.ref fRun_takes_more) = true) (lRun_takes_more : K.lookup fRun_takes_more = some ⟨ocRun_takes_more, odRun_takes_more, .func (PySem.W.fnOf "takes_more" "Run.takes_more" (defArgs s_Run_takes_more) (defBody s_Run_takes_more) (defScope s_Run_takes_more) .none kVRun_takes_more dcRun_takes_more pmRun_takes_more anRun_takes_more cdRun_takes_more ctRun_takes_more), slRun_takes_more⟩) (cRun_takes_more : PySem.W.codeIn K cdRun_takes_more "Run.takes_more" = true) (kRun_takes_more : PySem.W.keepIn K (.ref fRun_takes_more) = true)
    (aRun_handle_of : PySem.W.findIn K (.ref C_Run) "handle_of" = some (some (.ref fRun_handle_of))) (iRun_handle_of : PySem.W.isFn K (.ref fRun_handle_of) = true) (lRun_handle_of : K.lookup fRun_handle_of = some ⟨ocRun_handle_of, odRun_handle_of, .func (PySem.W.fnOf "handle_of" "Run.handle_of" (defArgs s_Run_handle_of) (defBody s_Run_handle_of) (defScope s_Run_handle_of) .none kVRun_handle_of dcRun_handle_of pmRun_handle_of anRun_handle_of cdRun_handle_of ctRun_handle_of), slRun_handle_of⟩) (cRun_handle_of : PySem.W.codeIn K cdRun_handle_of "Run.handle_of" = true) (kRun_handle_of : PySem.W.keepIn K (.ref fRun_handle_of) = true)
    (aRun_hold : PySem.W.findIn K (.ref C_Run) "hold" = some (some (.ref fRun_hold))) (iRun_hold : PySem.W.isFn K (.ref fRun_hold) = true) (lRun_hold : K.lookup fRun_hold = some ⟨ocRun_hold, odRun_hold, .func (PySem.W.fnOf "hold" "Run.hold" (defArgs s_Run_hold) (defBody s_Run_hold) (defScope s_Run_hold) .none kVRun_hold dcRun_hold pmRun_hold anRun_hold cdRun_hold ctRun_hold), slRun_hold⟩) (cRun_hold : PySem.W.codeIn K cdRun_hold "Run.hold" = true) (kRun_hold : PySem.W.keepIn K (.ref fRun_hold) = true)
    (aRun_deed : PySem.W.findIn K (.ref C_Run) "deed" = some (some (.ref fRun_deed))) (iRun_deed : PySem.W.isFn K (.ref fRun_deed) = true) (lRun_deed : K.lookup fRun_deed = some ⟨ocRun_deed, odRun_deed, .func (PySem.W.fnOf "deed" "Run.deed" (defArgs s_Run_deed) (defBody s_Run_deed) (defScope s_Run_deed) .none kVRun_deed dcRun_deed pmRun_deed anRun_deed cdRun_deed ctRun_deed), slRun_deed⟩) (cRun_deed : PySem.W.codeIn K cdRun_deed "Run.deed" = true) (kRun_deed : PySem.W.keepIn K (.ref fRun_deed) = true)
    (aRun_new_handle : PySem.W.findIn K (.ref C_Run) "new_handle" = some (some (.ref fRun_new_handle))) (iRun_new_handle : PySem.W.isFn K (.ref fRun_new_handle) = true) (lRun_new_handle : K.lookup fRun_new_handle = some ⟨ocRun_new_handle, odRun_new_handle, .func (PySem.W.fnOf "new_handle" "Run.new_handle" (defArgs s_Run_new_handle) (defBody s_Run_new_handle) (defScope s_Run_new_handle) .none kVRun_new_handle dcRun_new_handle pmRun_new_handle anRun_new_handle cdRun_new_handle ctRun_new_handle), slRun_new_handle⟩) (cRun_new_handle : PySem.W.codeIn K cdRun_new_handle "Run.new_handle" = true) (kRun_new_handle : PySem.W.keepIn K (.ref fRun_new_handle) = true)
    (aRun_tie : PySem.W.findIn K (.ref C_Run) "tie" = some (some (.ref fRun_tie))) (iRun_tie : PySem.W.isFn K (.ref fRun_tie) = true) (lRun_tie : K.lookup fRun_tie = some ⟨ocRun_tie, odRun_tie, .func (PySem.W.fnOf "tie" "Run.tie" (defArgs s_Run_tie) (defBody s_Run_tie) (defScope s_Run_tie) .none kVRun_tie dcRun_tie pmRun_tie anRun_tie cdRun_tie ctRun_tie), slRun_tie⟩) (cRun_tie : PySem.W.codeIn K cdRun_tie "Run.tie" = true) (kRun_tie : PySem.W.keepIn K (.ref fRun_tie) = true)
    (aRun_end_all : PySem.W.findIn K (.ref C_Run) "end_all" = some (some (.ref fRun_end_all))) (iRun_end_all : PySem.W.isFn K (.ref fRun_end_all) = true) (lRun_end_all : K.lookup fRun_end_all = some ⟨ocRun_end_all, odRun_end_all, .func (PySem.W.fnOf "end_all" "Run.end_all" (defArgs s_Run_end_all) (defBody s_Run_end_all) (defScope s_Run_end_all) .none kVRun_end_all dcRun_end_all pmRun_end_all anRun_end_all cdRun_end_all ctRun_end_all), slRun_end_all⟩) (cRun_end_all : PySem.W.codeIn K cdRun_end_all "Run.end_all" = true) (kRun_end_all : PySem.W.keepIn K (.ref fRun_end_all) = true)
    (h_CLOSERS : PySem.W.nsIn K mainGlobals "CLOSERS" = some (some (.ref d_CLOSERS)))
    (ld_CLOSERS : K.lookup d_CLOSERS = some ⟨.type "dict", none, .dict #[⟨PyData.keyHash w.params "lend", .str "lend" k_CLOSERS_0, .ref a_CLOSERS_0⟩, ⟨PyData.keyHash w.params "if", .str "if" k_CLOSERS_1, .ref a_CLOSERS_1⟩, ⟨PyData.keyHash w.params "while", .str "while" k_CLOSERS_2, .ref a_CLOSERS_2⟩] n_CLOSERS, #[]⟩)
    (la_CLOSERS_0 : K.lookup a_CLOSERS_0 = some ⟨.type "tuple", od_CLOSERS_0, .seq #[.str "back" k_CLOSERS_0_0] m_CLOSERS_0, sl_CLOSERS_0⟩)
    (la_CLOSERS_1 : K.lookup a_CLOSERS_1 = some ⟨.type "tuple", od_CLOSERS_1, .seq #[.str "else" k_CLOSERS_1_0, .str "fi" k_CLOSERS_1_1] m_CLOSERS_1, sl_CLOSERS_1⟩)
    (la_CLOSERS_2 : K.lookup a_CLOSERS_2 = some ⟨.type "tuple", od_CLOSERS_2, .seq #[.str "done" k_CLOSERS_2_0] m_CLOSERS_2, sl_CLOSERS_2⟩)
    (dz_CLOSERS : (d_CLOSERS == sysModules) = false) :
    ∃ fd : FuncData, (∀ (s : Shared) (v : Value), BindsTo s fd ⟨[v], []⟩ [("_law_script", v)]) ∧ ∀ base : Heap, K.In base → base.Ns mainGlobals mg → FnOk l.prog w K mg base CX0 8 fa fd ["_law_script"] (spLaw K) := by
  have e := hfa.symm.trans (PySem.W.mg_of X G a21)
  cases e
  have D_closers_of : DefAt K mg "closers_of" s_closers_of := ⟨f0, _, fun_mk (st := s_closers_of) l0 c0 k0, PySem.W.mg_of X G a0⟩
  have D_head_of : DefAt K mg "head_of" s_head_of := ⟨f1, _, fun_mk (st := s_head_of) l1 c1 k1, PySem.W.mg_of X G a1⟩
  have D_blocks_of : DefAt K mg "blocks_of" s_blocks_of := ⟨f2, _, fun_mk (st := s_blocks_of) l2 c2 k2, PySem.W.mg_of X G a2⟩
  have D_all_begin_tie : DefAt K mg "all_begin_tie" s_all_begin_tie := ⟨f3, _, fun_mk (st := s_all_begin_tie) l3 c3 k3, PySem.W.mg_of X G a3⟩
  have D_broken_or_gone_on : DefAt K mg "broken_or_gone_on" s_broken_or_gone_on := ⟨f4, _, fun_mk (st := s_broken_or_gone_on) l4 c4 k4, PySem.W.mg_of X G a4⟩
  have D_line_behind : DefAt K mg "line_behind" s_line_behind := ⟨f5, _, fun_mk (st := s_line_behind) l5 c5 k5, PySem.W.mg_of X G a5⟩
  have D_numbered_step : DefAt K mg "numbered_step" s_numbered_step := ⟨f6, _, fun_mk (st := s_numbered_step) l6 c6 k6, PySem.W.mg_of X G a6⟩
  have D_numbered_steps : DefAt K mg "numbered_steps" s_numbered_steps := ⟨f7, _, fun_mk (st := s_numbered_steps) l7 c7 k7, PySem.W.mg_of X G a7⟩
  have D_do_simple : DefAt K mg "do_simple" s_do_simple := ⟨f8, _, fun_mk (st := s_do_simple) l8 c8 k8, PySem.W.mg_of X G a8⟩
  have D_do_lend : DefAt K mg "do_lend" s_do_lend := ⟨f9, _, fun_mk (st := s_do_lend) l9 c9 k9, PySem.W.mg_of X G a9⟩
  have D_do_if : DefAt K mg "do_if" s_do_if := ⟨f10, _, fun_mk (st := s_do_if) l10 c10 k10, PySem.W.mg_of X G a10⟩
  have D_do_while : DefAt K mg "do_while" s_do_while := ⟨f11, _, fun_mk (st := s_do_while) l11 c11 k11, PySem.W.mg_of X G a11⟩
  have D_do_steps : DefAt K mg "do_steps" s_do_steps := ⟨f12, _, fun_mk (st := s_do_steps) l12 c12 k12, PySem.W.mg_of X G a12⟩
  have D_run_plain : DefAt K mg "run_plain" s_run_plain := ⟨f13, _, fun_mk (st := s_run_plain) l13 c13 k13, PySem.W.mg_of X G a13⟩
  have D_law_cell_at : DefAt K mg "_law_cell_at" s_law_cell_at := ⟨f14, _, fun_mk (st := s_law_cell_at) l14 c14 k14, PySem.W.mg_of X G a14⟩
  have D_law_names : DefAt K mg "_law_names" s_law_names := ⟨f15, _, fun_mk (st := s_law_names) l15 c15 k15, PySem.W.mg_of X G a15⟩
  have D_law_step : DefAt K mg "_law_step" s_law_step := ⟨f16, _, fun_mk (st := s_law_step) l16 c16 k16, PySem.W.mg_of X G a16⟩
  have D_law_logged : DefAt K mg "_law_logged" s_law_logged := ⟨f17, _, fun_mk (st := s_law_logged) l17 c17 k17, PySem.W.mg_of X G a17⟩
  have D_law_whole : DefAt K mg "_law_whole" s_law_whole := ⟨f18, _, fun_mk (st := s_law_whole) l18 c18 k18, PySem.W.mg_of X G a18⟩
  have D_law_entry : DefAt K mg "_law_entry" s_law_entry := ⟨f19, _, fun_mk (st := s_law_entry) l19 c19 k19, PySem.W.mg_of X G a19⟩
  have D_law_right : DefAt K mg "_law_right" s_law_right := ⟨f20, _, fun_mk (st := s_law_right) l20 c20 k20, PySem.W.mg_of X G a20⟩
  have z_isinstance : mg "isinstance" = none := PySem.W.mg_none_of X G y_isinstance
  have z_str : mg "str" = none := PySem.W.mg_none_of X G y_str
  have z_int : mg "int" = none := PySem.W.mg_none_of X G y_int
  have z_bool : mg "bool" = none := PySem.W.mg_none_of X G y_bool
  have z_tuple : mg "tuple" = none := PySem.W.mg_none_of X G y_tuple
  have z_len : mg "len" = none := PySem.W.mg_none_of X G y_len
  have z_range : mg "range" = none := PySem.W.mg_none_of X G y_range
  have z_list : mg "list" = none := PySem.W.mg_none_of X G y_list
  have z_zip : mg "zip" = none := PySem.W.mg_none_of X G y_zip
  have z_enumerate : mg "enumerate" = none := PySem.W.mg_none_of X G y_enumerate
  have cl_NumberedStep : Cls K C_NumberedStep := ⟨pg_NumberedStep, hd_NumberedStep, po_NumberedStep, sa_NumberedStep⟩
  have a_kind : Fl K C_NumberedStep "kind" := ⟨cl_NumberedStep, nf_kind⟩
  have a_parts : Fl K C_NumberedStep "parts" := ⟨cl_NumberedStep, nf_parts⟩
  have a_lines : Fl K C_NumberedStep "lines" := ⟨cl_NumberedStep, nf_lines⟩
  have a_blocks : Fl K C_NumberedStep "blocks" := ⟨cl_NumberedStep, nf_blocks⟩
  have D_NumberedStep : MakeAt K mg "NumberedStep" C_NumberedStep "NumberedStep.__init__" s_NumberedStep___init__ := ⟨fNumberedStep___init__, _, fun_mk (st := s_NumberedStep___init__) lNumberedStep___init__ cNumberedStep___init__ kNumberedStep___init__, ⟨mk_NumberedStep, aNumberedStep___init__, iNumberedStep___init__, kc_NumberedStep⟩, PySem.W.mg_of X G n_NumberedStep⟩
  have cl_Run : Cls K C_Run := ⟨pg_Run, hd_Run, po_Run, sa_Run⟩
  have a_inputs : Fl K C_Run "inputs" := ⟨cl_Run, nf_inputs⟩
  have a_watches : Fl K C_Run "watches" := ⟨cl_Run, nf_watches⟩
  have a_at : Fl K C_Run "at" := ⟨cl_Run, nf_at⟩
  have a_taken : Fl K C_Run "taken" := ⟨cl_Run, nf_taken⟩
  have a_last : Fl K C_Run "last" := ⟨cl_Run, nf_last⟩
  have a_opened : Fl K C_Run "opened" := ⟨cl_Run, nf_opened⟩
  have a_held : Fl K C_Run "held" := ⟨cl_Run, nf_held⟩
  have a_log : Fl K C_Run "log" := ⟨cl_Run, nf_log⟩
  have D_Run : MakeAt K mg "Run" C_Run "Run.__init__" s_Run___init__ := ⟨fRun___init__, _, fun_mk (st := s_Run___init__) lRun___init__ cRun___init__ kRun___init__, ⟨mk_Run, aRun___init__, iRun___init__, kc_Run⟩, PySem.W.mg_of X G n_Run⟩
  have D_Run_takes_more : MethAt K C_Run "takes_more" "Run.takes_more" s_Run_takes_more := ⟨⟨fRun_takes_more, _, fun_mk (st := s_Run_takes_more) lRun_takes_more cRun_takes_more kRun_takes_more, ⟨aRun_takes_more, iRun_takes_more, kRun_takes_more⟩⟩, cl_Run⟩
  have D_Run_handle_of : MethAt K C_Run "handle_of" "Run.handle_of" s_Run_handle_of := ⟨⟨fRun_handle_of, _, fun_mk (st := s_Run_handle_of) lRun_handle_of cRun_handle_of kRun_handle_of, ⟨aRun_handle_of, iRun_handle_of, kRun_handle_of⟩⟩, cl_Run⟩
  have D_Run_hold : MethAt K C_Run "hold" "Run.hold" s_Run_hold := ⟨⟨fRun_hold, _, fun_mk (st := s_Run_hold) lRun_hold cRun_hold kRun_hold, ⟨aRun_hold, iRun_hold, kRun_hold⟩⟩, cl_Run⟩
  have D_Run_deed : MethAt K C_Run "deed" "Run.deed" s_Run_deed := ⟨⟨fRun_deed, _, fun_mk (st := s_Run_deed) lRun_deed cRun_deed kRun_deed, ⟨aRun_deed, iRun_deed, kRun_deed⟩⟩, cl_Run⟩
  have D_Run_new_handle : MethAt K C_Run "new_handle" "Run.new_handle" s_Run_new_handle := ⟨⟨fRun_new_handle, _, fun_mk (st := s_Run_new_handle) lRun_new_handle cRun_new_handle kRun_new_handle, ⟨aRun_new_handle, iRun_new_handle, kRun_new_handle⟩⟩, cl_Run⟩
  have D_Run_tie : MethAt K C_Run "tie" "Run.tie" s_Run_tie := ⟨⟨fRun_tie, _, fun_mk (st := s_Run_tie) lRun_tie cRun_tie kRun_tie, ⟨aRun_tie, iRun_tie, kRun_tie⟩⟩, cl_Run⟩
  have D_Run_end_all : MethAt K C_Run "end_all" "Run.end_all" s_Run_end_all := ⟨⟨fRun_end_all, _, fun_mk (st := s_Run_end_all) lRun_end_all cRun_end_all kRun_end_all, ⟨aRun_end_all, iRun_end_all, kRun_end_all⟩⟩, cl_Run⟩
  have g_CLOSERS : mg "CLOSERS" = some (.ref d_CLOSERS) := PySem.W.mg_of X G h_CLOSERS
  have m_CLOSERS : ModD w K d_CLOSERS [("lend", .ref a_CLOSERS_0), ("if", .ref a_CLOSERS_1), ("while", .ref a_CLOSERS_2)] := ⟨dz_CLOSERS, (show (["lend", "if", "while"] : List Str).Nodup from by decide), _, [⟨PyData.keyHash w.params "lend", .str "lend" k_CLOSERS_0, .ref a_CLOSERS_0⟩, ⟨PyData.keyHash w.params "if", .str "if" k_CLOSERS_1, .ref a_CLOSERS_1⟩, ⟨PyData.keyHash w.params "while", .str "while" k_CLOSERS_2, .ref a_CLOSERS_2⟩], n_CLOSERS, ld_CLOSERS, ⟨rfl, rfl, rfl⟩, rfl, .cons rfl (.cons rfl (.cons rfl (.nil)))⟩
  have q_CLOSERS_0 : ∀ H : Hp, SqT K H a_CLOSERS_0 [.str "back"] := fun H => .inr ⟨_, _, _, la_CLOSERS_0, rfl, rfl, smallL (show 1 ≤ 1000000 from by decide), .cons ⟨_, rfl⟩ (.nil)⟩
  have q_CLOSERS_1 : ∀ H : Hp, SqT K H a_CLOSERS_1 [.str "else", .str "fi"] := fun H => .inr ⟨_, _, _, la_CLOSERS_1, rfl, rfl, smallL (show 2 ≤ 1000000 from by decide), .cons ⟨_, rfl⟩ (.cons ⟨_, rfl⟩ (.nil))⟩
  have q_CLOSERS_2 : ∀ H : Hp, SqT K H a_CLOSERS_2 [.str "done"] := fun H => .inr ⟨_, _, _, la_CLOSERS_2, rfl, rfl, smallL (show 1 ≤ 1000000 from by decide), .cons ⟨_, rfl⟩ (.nil)⟩
  have F := fun_mk (st := s_law) l21 c21 k21
  refine ⟨PySem.W.fnOf "law" "law" (defArgs s_law) (defBody s_law) (defScope s_law) .none kV21 dc21 pm21 an21 cd21 ct21, fun s v => .of_eq rfl, fun base _ _ => ?_⟩
  have c1 := ok_cell (P := l.prog) (w := w) (base := base) D_law_cell_at z_len
  have d1 := ok_closers (P := l.prog) (w := w) (base := base) D_closers_of g_CLOSERS m_CLOSERS q_CLOSERS_0 q_CLOSERS_1 q_CLOSERS_2
  have d2 := ok_head D_head_of z_len d1
  have d3 := ok_blocks D_blocks_of z_len d2
  have k0 := ok_ninit (P := l.prog) (w := w) (base := base) D_NumberedStep a_kind a_parts a_lines a_blocks
  have b0 := ok_behind (P := l.prog) (w := w) (base := base) D_line_behind z_len a_lines
  have mt := ok_takes (P := l.prog) (w := w) (mg := mg) (base := base) D_Run_takes_more z_len a_taken a_inputs a_last
  have mh := ok_handle (P := l.prog) (w := w) (mg := mg) (base := base) D_Run_handle_of a_held
  have mo := ok_hold (P := l.prog) (w := w) (mg := mg) (base := base) D_Run_hold a_held
  have bg := ok_brk (P := l.prog) (w := w) (base := base) D_broken_or_gone_on z_len
  have ab := ok_abt (P := l.prog) (w := w) (base := base) D_all_begin_tie
  have md := ok_deed D_Run_deed a_log a_last a_watches a_at bg
  have mn := ok_newh D_Run_new_handle a_opened md mo
  have mi := ok_tie D_Run_tie z_len a_log a_watches ab
  have me := ok_end D_Run_end_all z_range a_opened md
  have kr := ok_rinit (P := l.prog) (w := w) (base := base) D_Run a_inputs a_watches a_at a_taken a_last a_opened a_held a_log
  have dd := ok_do D_do_steps a_kind (fun d => ok_simple (d := d) D_do_simple a_lines a_parts a_kind mn md mh mo mi) (fun d h => ok_dolend D_do_lend a_lines a_parts a_blocks md mh mo h) (fun d h => ok_doif D_do_if a_parts a_blocks mt h) (fun d h => ok_dowhile D_do_while a_parts a_blocks mt h)
  have n0 := ok_nums D_numbered_step D_numbered_steps d2 d3 b0 k0 1
  have dn := dd 1
  have rp := ok_run D_run_plain a_log kr me b0 n0 dn
  exact ok_law F z_range z_list c1 (ok_names D_law_names z_range) (ok_step D_law_step z_len) (ok_logged D_law_logged z_enumerate z_len z_range) rp (ok_lr D_law_right z_isinstance z_list z_len z_zip (ok_entry D_law_entry z_isinstance z_tuple z_len z_str (ok_wh D_law_whole z_isinstance z_int z_bool)))
theorem walk {l : PySem.W.OpenLaw} {q : Program} {loose : List Str} {XP : (Str → Option Value) → Heap → Prop} {YP : World → Heap → Prop} {d : DefRec} {K : Params → PySem.W.Frag} (hn : l.most = some 63) (hdf : d.params.defaults = [])
    (hY : ∀ (w : World) (h : Heap), YP w h → (K w.params).In h)
    (F : ∀ (w : World) (mg : Str → Option Value) (fa : Addr) (h : Heap), (K w.params).In h → h.Ns mainGlobals mg → mg d.name = some (.ref fa) →
      ∃ fd : FuncData, (∀ (s : Shared) (u : Value), BindsTo s fd ⟨[u], []⟩ [("_law_script", u)]) ∧ ∀ base : Heap, (K w.params).In base → base.Ns mainGlobals mg → FnOk l.prog w (K w.params) mg base CX0 8 fa fd ["_law_script"] (spLaw (K w.params))) :
    PySem.W.WalkO q loose XP YP l.row.toRowW d [] (fun f vs => PySem.call f vs) :=
  L2.walk_of (n := 63) (k := 8) (x := "_law_script") (CX := fun _ => CX0) (sp := fun w => spLaw (K w.params)) hn (by decide) hdf ⟨rfl, by decide, by decide⟩ hY F (fun _ _ a ns hl _ hS => ⟨a, ns, rfl, hS, hl, fun _ => rfl⟩) fun _ _ _ _ _ z => z
end K30
end
open PySem PySem.W PyProof.Rows
set_option maxRecDepth 100000 in
set_option maxHeartbeats 0 in
theorem PySem.Challenge.cw_usewarden_k30_steps_behind_one_another_holds : PySem.Challenge.rw_usewarden_k30_steps_behind_one_another.Holds := by
  w_on
  refine holds_law (by decide +kernel) fun said => ?_
  refine holds_open (q := K30.qq) (loose := K30.loo) (Xt := K30.xt) (XP := XL K30.qq []) (Yf := Hook.obs (kHook K30.KK K30.kk K30.kk_eq)) (Ya := Hook.val (kHook K30.KK K30.kk K30.kk_eq)) (YP := Hook.says (kHook K30.KK K30.kk K30.kk_eq)) (N := 4344) K30.hl (Hook.of (kHook K30.KK K30.kk K30.kk_eq)) (Hook.keeps (kHook K30.KK K30.kk K30.kk_eq)) (fun s e => xl_of s (Bool.and_eq_true_iff.mp e).1) XL.keeps (by rfl) (by rfl) (by rfl) (fun s e => recFacts_of (Bool.and_eq_true_iff.mp e).2) (by rfl) said (by decide +kernel) ⟨rfl, rfl, rfl, rfl, rfl, by decide +kernel⟩ ?hw ?hc
  (case hw => w_witness2)
  k_fill
  refine K30.walk (l := PySem.Challenge.rw_usewarden_k30_steps_behind_one_another) rfl rfl (fun w h Y => PySem.W.kIn_of Y) ?F
  case F =>
    intro w mg fa h KX G hmg
    refine' K30.all_mk KX G hmg ?a0 ?l0 ?c0 ?k0 ?a1 ?l1 ?c1 ?k1 ?a2 ?l2 ?c2 ?k2 ?a3 ?l3 ?c3 ?k3 ?a4 ?l4 ?c4 ?k4 ?a5 ?l5 ?c5 ?k5 ?a6 ?l6 ?c6 ?k6 ?a7 ?l7 ?c7 ?k7 ?a8 ?l8 ?c8 ?k8 ?a9 ?l9 ?c9 ?k9 ?a10 ?l10 ?c10 ?k10 ?a11 ?l11 ?c11 ?k11 ?a12 ?l12 ?c12 ?k12 ?a13 ?l13 ?c13 ?k13 ?a14 ?l14 ?c14 ?k14 ?a15 ?l15 ?c15 ?k15 ?a16 ?l16 ?c16 ?k16 ?a17 ?l17 ?c17 ?k17 ?a18 ?l18 ?c18 ?k18 ?a19 ?l19 ?c19 ?k19 ?a20 ?l20 ?c20 ?k20 ?a21 ?l21 ?c21 ?k21 ?y_isinstance ?y_str ?y_int ?y_bool ?y_tuple ?y_len ?y_range ?y_list ?y_zip ?y_enumerate ?n_NumberedStep ?pg_NumberedStep ?hd_NumberedStep ?po_NumberedStep ?sa_NumberedStep ?mk_NumberedStep ?kc_NumberedStep ?nf_kind ?nf_parts ?nf_lines ?nf_blocks ?aNumberedStep___init__ ?iNumberedStep___init__ ?lNumberedStep___init__ ?cNumberedStep___init__ ?kNumberedStep___init__ ?n_Run ?pg_Run ?hd_Run ?po_Run ?sa_Run ?mk_Run ?kc_Run ?nf_inputs ?nf_watches ?nf_at ?nf_taken ?nf_last ?nf_opened ?nf_held ?nf_log ?aRun___init__ ?iRun___init__ ?lRun___init__ ?cRun___init__ ?kRun___init__ ?aRun_takes_more ?iRun_takes_more ?lRun_takes_more ?cRun_takes_more ?kRun_takes_more ?aRun_handle_of ?iRun_handle_of ?lRun_handle_of ?cRun_handle_of ?kRun_handle_of ?aRun_hold ?iRun_hold ?lRun_hold ?cRun_hold ?kRun_hold ?aRun_deed ?iRun_deed ?lRun_deed ?cRun_deed ?kRun_deed ?aRun_new_handle ?iRun_new_handle ?lRun_new_handle ?cRun_new_handle ?kRun_new_handle ?aRun_tie ?iRun_tie ?lRun_tie ?cRun_tie ?kRun_tie ?aRun_end_all ?iRun_end_all ?lRun_end_all ?cRun_end_all ?kRun_end_all ?h_CLOSERS ?ld_CLOSERS ?la_CLOSERS_0 ?la_CLOSERS_1 ?la_CLOSERS_2 ?dz_CLOSERS
    (case a0 => k_is)
    (case l0 => k_is)
    (case c0 => k_is)
    (case k0 => k_is)
    (case a1 => k_is)
    (case l1 => k_is)
    (case c1 => k_is)
    (case k1 => k_is)
    (case a2 => k_is)
    (case l2 => k_is)
    (case c2 => k_is)
    (case k2 => k_is)
    (case a3 => k_is)
    (case l3 => k_is)
    (case c3 => k_is)
    (case k3 => k_is)
    (case a4 => k_is)
    (case l4 => k_is)
    (case c4 => k_is)
    (case k4 => k_is)
    (case a5 => k_is)
    (case l5 => k_is)
    (case c5 => k_is)
    (case k5 => k_is)
    (case a6 => k_is)
    (case l6 => k_is)
    (case c6 => k_is)
    (case k6 => k_is)
    (case a7 => k_is)
    (case l7 => k_is)
    (case c7 => k_is)
    (case k7 => k_is)
    (case a8 => k_is)
    (case l8 => k_is)
    (case c8 => k_is)
    (case k8 => k_is)
    (case a9 => k_is)
    (case l9 => k_is)
    (case c9 => k_is)
    (case k9 => k_is)
    (case a10 => k_is)
    (case l10 => k_is)
    (case c10 => k_is)
    (case k10 => k_is)
    (case a11 => k_is)
    (case l11 => k_is)
    (case c11 => k_is)
    (case k11 => k_is)
    (case a12 => k_is)
    (case l12 => k_is)
    (case c12 => k_is)
    (case k12 => k_is)
    (case a13 => k_is)
    (case l13 => k_is)
    (case c13 => k_is)
    (case k13 => k_is)
    (case a14 => k_is)
    (case l14 => k_is)
    (case c14 => k_is)
    (case k14 => k_is)
    (case a15 => k_is)
    (case l15 => k_is)
    (case c15 => k_is)
    (case k15 => k_is)
    (case a16 => k_is)
    (case l16 => k_is)
    (case c16 => k_is)
    (case k16 => k_is)
    (case a17 => k_is)
    (case l17 => k_is)
    (case c17 => k_is)
    (case k17 => k_is)
    (case a18 => k_is)
    (case l18 => k_is)
    (case c18 => k_is)
    (case k18 => k_is)
    (case a19 => k_is)
    (case l19 => k_is)
    (case c19 => k_is)
    (case k19 => k_is)
    (case a20 => k_is)
    (case l20 => k_is)
    (case c20 => k_is)
    (case k20 => k_is)
    (case a21 => k_is)
    (case l21 => k_is)
    (case c21 => k_is)
    (case k21 => k_is)
    (case y_isinstance => k_is)
    (case y_str => k_is)
    (case y_int => k_is)
    (case y_bool => k_is)
    (case y_tuple => k_is)
    (case y_len => k_is)
    (case y_range => k_is)
    (case y_list => k_is)
    (case y_zip => k_is)
    (case y_enumerate => k_is)
    (case n_NumberedStep => k_is)
    (case pg_NumberedStep => k_is)
    (case hd_NumberedStep => k_is)
    (case po_NumberedStep => k_is)
    (case sa_NumberedStep => k_is)
    (case mk_NumberedStep => k_is)
    (case kc_NumberedStep => k_is)
    (case nf_kind => k_is)
    (case nf_parts => k_is)
    (case nf_lines => k_is)
    (case nf_blocks => k_is)
    (case aNumberedStep___init__ => k_is)
    (case iNumberedStep___init__ => k_is)
    (case lNumberedStep___init__ => k_is)
    (case cNumberedStep___init__ => k_is)
    (case kNumberedStep___init__ => k_is)
    (case n_Run => k_is)
    (case pg_Run => k_is)
    (case hd_Run => k_is)
    (case po_Run => k_is)
    (case sa_Run => k_is)
    (case mk_Run => k_is)
    (case kc_Run => k_is)
    (case nf_inputs => k_is)
    (case nf_watches => k_is)
    (case nf_at => k_is)
    (case nf_taken => k_is)
    (case nf_last => k_is)
    (case nf_opened => k_is)
    (case nf_held => k_is)
    (case nf_log => k_is)
    (case aRun___init__ => k_is)
    (case iRun___init__ => k_is)
    (case lRun___init__ => k_is)
    (case cRun___init__ => k_is)
    (case kRun___init__ => k_is)
    (case aRun_takes_more => k_is)
    (case iRun_takes_more => k_is)
    (case lRun_takes_more => k_is)
    (case cRun_takes_more => k_is)
    (case kRun_takes_more => k_is)
    (case aRun_handle_of => k_is)
    (case iRun_handle_of => k_is)
    (case lRun_handle_of => k_is)
    (case cRun_handle_of => k_is)
    (case kRun_handle_of => k_is)
    (case aRun_hold => k_is)
    (case iRun_hold => k_is)
    (case lRun_hold => k_is)
    (case cRun_hold => k_is)
    (case kRun_hold => k_is)
    (case aRun_deed => k_is)
    (case iRun_deed => k_is)
    (case lRun_deed => k_is)
    (case cRun_deed => k_is)
    (case kRun_deed => k_is)
    (case aRun_new_handle => k_is)
    (case iRun_new_handle => k_is)
    (case lRun_new_handle => k_is)
    (case cRun_new_handle => k_is)
    (case kRun_new_handle => k_is)
    (case aRun_tie => k_is)
    (case iRun_tie => k_is)
    (case lRun_tie => k_is)
    (case cRun_tie => k_is)
    (case kRun_tie => k_is)
    (case aRun_end_all => k_is)
    (case iRun_end_all => k_is)
    (case lRun_end_all => k_is)
    (case cRun_end_all => k_is)
    (case kRun_end_all => k_is)
    (case h_CLOSERS => k_is)
    (case ld_CLOSERS => k_is)
    (case la_CLOSERS_0 => k_is)
    (case la_CLOSERS_1 => k_is)
    (case la_CLOSERS_2 => k_is)
    (case dz_CLOSERS => decide)
#print axioms PySem.Challenge.cw_usewarden_k30_steps_behind_one_another_holds
