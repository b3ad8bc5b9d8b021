import PyProof.Rows.All
import Wide.All
import OpenK.AllK
import Wide.FinOn
import Lean
import PyProof.EqAt
import PyProof.EqKinds
import PyProof.TupleCall
import PyProof.SetScanFacts
import PyProof.SetKind
import PyProof.SetRoads
import PyProof.Rows.SetFrom
import PyProof.FactsBase
import PyProof.TableTree
import PyProof.FactsTree
import PyProof.PlainAttrs
import PyProof.FactsAll.set_1
import PyProof.CollectIter
import PyProof.FactsAll.set
import PyProof.ZipIter
import PyProof.EnumIter
import PyProof.TupleIter
import KE.KRevIter
import KE.KDictList
import PyProof.Rows.SumAny
import KE.KIntText
import PyProof.StrLawsTight
import PyProof.StrLawsChain
import PyProof.Rows.SortStr
import PyProof.Rows.StrNews2
import PyProof.StrLawsFirst
import PyProof.AutoSeq1
import KE.KDictOf
import PyProof.DictItems
import PyProof.NeKinds
import KE.KPairComp
import PyProof.FactsAll.tuple_2
import PyProof.FactsAll.tuple_3
import KE.KDictLaws
import PyProof.FactsAll.dict_3
import PyProof.MinMaxWalk
import PyProof.WalkInts
import KE.BitLaws
import PySem.Challenge.RW_usewarden_k54_which_break
set_option Elab.async false
set_option linter.all false
set_option maxRecDepth 100000
set_option maxHeartbeats 4000000
namespace L2
open PySem
def inClass(s:Stmt)(j:Nat):Stmt:=match s with
 | .ClassDef _ _ _ body _ _ _ _ _ _ _=>body.getD j (.Pass ⟨0,0,0,0⟩)
 | _=>.Pass ⟨0,0,0,0⟩
def defArgs(s:Stmt):Arguments:=match s with
 | .FunctionDef _ a _ _ _ _ _ _ _ _=>a
 | _=>{ posonlyargs:=[],args:=[],vararg:=none,kwonlyargs:=[],kw_defaults:=[],kwarg:=none,defaults:=[] }
def defBody(s:Stmt):List Stmt:=match s with
 | .FunctionDef _ _ b _ _ _ _ _ _ _=>b
 | _=>[]
def defScope(s:Stmt):Scope:=match s with
 | .FunctionDef _ _ _ _ _ _ sc _ _ _=>sc
 | _=>{ kind:=.function,names:=[],isGenerator:=false,isCoroutine:=false }
end L2
namespace K54
open PySem PySem.W
def top (i:Nat):Stmt:=PySem.Challenge.pw_usewarden_k54_which_break.main.body.getD i (.Pass ⟨0,0,0,0⟩)
abbrev tUp(x:Array Value):Obj:=⟨.type "tuple", none,.seq x 0,#[]⟩
abbrev cOd(n:Str)(a b c:Nat)(l g:Int)(p q r s u:Addr)(i:Int)(d:Nat):Obj:=⟨.type "code", none,.fields #[.str n a,.str n b,.str "/claim/cut.py" c,.int l 0,.int g 0,.int 0 0,.int 0 0,.int 3 0,.ref p,.bool true,.int 181 0,.ref q,.none,.ref r,.ref s,.ref u,.int i 0,.int l 0,.str "/claim/cut.py" d],#[]⟩
abbrev fUn(n:Str)(i:Nat)(m:Str)(a:Nat)(c:Addr):Obj:=⟨.type "function", none,.func ⟨n,n,L2.defArgs (top i),.stmts (L2.defBody (top i)),L2.defScope (top i),3,[],.none,.none,.none,.str m a,none,.ref c,.none,0⟩,#[]⟩
noncomputable def KK(P:Params):Frag:=
 (nat_lit 2,⟨.none,none,.dict #[] 0,#[]⟩) ::
 (nat_lit 3,⟨.type "dict", none,.dict #[⟨PyData.keyHash P "__name__", .str "__name__" 165,.str "law_usewarden_k54_which_break" 582⟩,⟨PyData.keyHash P "__doc__", .str "__doc__" 166,.none⟩,⟨PyData.keyHash P "__package__", .str "__package__" 167,.none⟩,⟨PyData.keyHash P "__loader__", .str "__loader__" 168,.builtin "__main__.__loader__#opaque"⟩,⟨PyData.keyHash P "__spec__", .str "__spec__" 169,.none⟩,⟨PyData.keyHash P "__annotations__", .str "__annotations__" 170,.ref 6⟩,⟨PyData.keyHash P "__builtins__", .str "__builtins__" 171,.ref 4⟩,⟨PyData.keyHash P "__file__", .str "__file__" 173,.str "/claim/cut.py" 172⟩,⟨PyData.keyHash P "__cached__", .str "__cached__" 174,.none⟩,⟨PyData.keyHash P "next_room", .str "next_room" 198,.ref 21⟩,⟨PyData.keyHash P "room_from", .str "room_from" 208,.ref 28⟩,⟨PyData.keyHash P "is_in", .str "is_in" 218,.ref 35⟩,⟨PyData.keyHash P "without", .str "without" 226,.ref 42⟩,⟨PyData.keyHash P "held_behind", .str "held_behind" 234,.ref 49⟩,⟨PyData.keyHash P "is_of_two", .str "is_of_two" 241,.ref 56⟩,⟨PyData.keyHash P "has_room", .str "has_room" 248,.ref 63⟩,⟨PyData.keyHash P "texts_done", .str "texts_done" 254,.ref 68⟩,⟨PyData.keyHash P "texts_at", .str "texts_at" 262,.ref 75⟩,⟨PyData.keyHash P "room_behind", .str "room_behind" 271,.ref 82⟩,⟨PyData.keyHash P "behind_at", .str "behind_at" 277,.ref 87⟩,⟨PyData.keyHash P "rooms_at", .str "rooms_at" 288,.ref 94⟩,⟨PyData.keyHash P "breaks_at", .str "breaks_at" 298,.ref 101⟩,⟨PyData.keyHash P "PARTS", .str "PARTS" 333,.ref 102⟩,⟨PyData.keyHash P "CLOSERS", .str "CLOSERS" 344,.ref 111⟩,⟨PyData.keyHash P "closers_of", .str "closers_of" 351,.ref 121⟩,⟨PyData.keyHash P "head_of", .str "head_of" 358,.ref 128⟩,⟨PyData.keyHash P "blocks_of", .str "blocks_of" 365,.ref 135⟩,⟨PyData.keyHash P "steps_within", .str "steps_within" 375,.ref 142⟩,⟨PyData.keyHash P "names_in", .str "names_in" 386,.ref 149⟩,⟨PyData.keyHash P "lines_of", .str "lines_of" 392,.ref 154⟩,⟨PyData.keyHash P "names_of", .str "names_of" 399,.ref 161⟩,⟨PyData.keyHash P "NumberedStep", .str "NumberedStep" 435,.ref 178⟩,⟨PyData.keyHash P "line_behind", .str "line_behind" 443,.ref 189⟩,⟨PyData.keyHash P "numbered_step", .str "numbered_step" 455,.ref 196⟩,⟨PyData.keyHash P "numbered_steps", .str "numbered_steps" 465,.ref 203⟩,⟨PyData.keyHash P "lend_lines", .str "lend_lines" 473,.ref 208⟩,⟨PyData.keyHash P "slots_of", .str "slots_of" 483,.ref 215⟩,⟨PyData.keyHash P "simple_row", .str "simple_row" 489,.ref 220⟩,⟨PyData.keyHash P "lend_rows", .str "lend_rows" 506,.ref 227⟩,⟨PyData.keyHash P "if_rows", .str "if_rows" 521,.ref 234⟩,⟨PyData.keyHash P "loop_rows", .str "loop_rows" 532,.ref 241⟩,⟨PyData.keyHash P "while_rows", .str "while_rows" 545,.ref 248⟩,⟨PyData.keyHash P "rows_of", .str "rows_of" 558,.ref 255⟩,⟨PyData.keyHash P "rows_and_end", .str "rows_and_end" 567,.ref 262⟩,⟨PyData.keyHash P "code_of", .str "code_of" 574,.ref 269⟩,⟨PyData.keyHash P "turned_code", .str "turned_code" 581,.ref 276⟩,⟨PyData.keyHash P "_law_cell_at", .str "_law_cell_at" 591,.ref 283⟩,⟨PyData.keyHash P "_law_words", .str "_law_words" 597,.ref 288⟩,⟨PyData.keyHash P "_law_step", .str "_law_step" 611,.ref 295⟩,⟨PyData.keyHash P "_law_put", .str "_law_put" 619,.ref 302⟩,⟨PyData.keyHash P "_law_close", .str "_law_close" 630,.ref 309⟩,⟨PyData.keyHash P "_law_program", .str "_law_program" 644,.ref 316⟩,⟨PyData.keyHash P "_law_rule", .str "_law_rule" 664,.ref 323⟩,⟨PyData.keyHash P "_law_slots", .str "_law_slots" 673,.ref 330⟩,⟨PyData.keyHash P "_law_has", .str "_law_has" 681,.ref 337⟩,⟨PyData.keyHash P "_law_next", .str "_law_next" 690,.ref 344⟩,⟨PyData.keyHash P "_law_code", .str "_law_code" 705,.ref 351⟩,⟨PyData.keyHash P "_law_pair", .str "_law_pair" 717,.ref 358⟩,⟨PyData.keyHash P "_law_tokens", .str "_law_tokens" 731,.ref 365⟩,⟨PyData.keyHash P "_law_texts", .str "_law_texts" 740,.ref 372⟩,⟨PyData.keyHash P "_law_room", .str "_law_room" 751,.ref 379⟩,⟨PyData.keyHash P "_law_due", .str "_law_due" 760,.ref 386⟩,⟨PyData.keyHash P "_law_right", .str "_law_right" 771,.ref 393⟩,⟨PyData.keyHash P "law", .str "law" 777,.ref 398⟩] 64,#[]⟩) ::
 (nat_lit 15,tUp #[]) ::
 (nat_lit 17,tUp #[.str "rule" 192,.str "room" 193,.str "text" 194,.str "words" 195]) ::
 (nat_lit 18,tUp #[]) ::
 (nat_lit 20,cOd "next_room" 189 190 191 2 3 15 16 17 18 19 196 197) ::
 (nat_lit 21,fUn "next_room" 1 "usewarden.rules" 187 20) ::
 (nat_lit 22,tUp #[]) ::
 (nat_lit 24,tUp #[.str "rule" 202,.str "room" 203,.str "row" 204,.str "text" 205]) ::
 (nat_lit 25,tUp #[]) ::
 (nat_lit 27,cOd "room_from" 199 200 201 7 3 22 23 24 25 26 206 207) ::
 (nat_lit 28,fUn "room_from" 2 "usewarden.rules" 187 27) ::
 (nat_lit 29,tUp #[]) ::
 (nat_lit 31,tUp #[.str "slot" 214,.str "held" 215]) ::
 (nat_lit 32,tUp #[]) ::
 (nat_lit 34,cOd "is_in" 211 212 213 14 2 29 30 31 32 33 216 217) ::
 (nat_lit 35,fUn "is_in" 4 "usewarden.tokens" 209 34) ::
 (nat_lit 36,tUp #[]) ::
 (nat_lit 38,tUp #[.str "slot" 222,.str "held" 223]) ::
 (nat_lit 39,tUp #[]) ::
 (nat_lit 41,cOd "without" 219 220 221 16 2 36 37 38 39 40 224 225) ::
 (nat_lit 42,fUn "without" 5 "usewarden.tokens" 209 41) ::
 (nat_lit 43,tUp #[]) ::
 (nat_lit 45,tUp #[.str "row" 230,.str "held" 231]) ::
 (nat_lit 46,tUp #[]) ::
 (nat_lit 48,cOd "held_behind" 227 228 229 18 2 43 44 45 46 47 232 233) ::
 (nat_lit 49,fUn "held_behind" 6 "usewarden.tokens" 209 48) ::
 (nat_lit 50,tUp #[]) ::
 (nat_lit 52,tUp #[.str "token" 238]) ::
 (nat_lit 53,tUp #[]) ::
 (nat_lit 55,cOd "is_of_two" 235 236 237 24 1 50 51 52 53 54 239 240) ::
 (nat_lit 56,fUn "is_of_two" 7 "usewarden.tokens" 209 55) ::
 (nat_lit 57,tUp #[]) ::
 (nat_lit 59,tUp #[.str "token" 245]) ::
 (nat_lit 60,tUp #[]) ::
 (nat_lit 62,cOd "has_room" 242 243 244 26 1 57 58 59 60 61 246 247) ::
 (nat_lit 63,fUn "has_room" 8 "usewarden.tokens" 209 62) ::
 (nat_lit 64,tUp #[]) ::
 (nat_lit 67,⟨.type "code", none,.fields #[.str "texts_done" 249,.str "texts_done" 250,.str "/claim/cut.py" 251,.int 28 0,.int 2 0,.int 0 0,.int 0 0,.int 3 0,.ref 64,.bool true,.int 181 0,.ref 65,.none,.none,.none,.ref 66,.int 252 0,.int 28 0,.str "/claim/cut.py" 253],#[]⟩) ::
 (nat_lit 68,fUn "texts_done" 9 "usewarden.tokens" 209 67) ::
 (nat_lit 69,tUp #[]) ::
 (nat_lit 71,tUp #[.str "row" 258,.str "token" 259]) ::
 (nat_lit 72,tUp #[]) ::
 (nat_lit 74,cOd "texts_at" 255 256 257 34 2 69 70 71 72 73 260 261) ::
 (nat_lit 75,fUn "texts_at" 10 "usewarden.tokens" 209 74) ::
 (nat_lit 76,tUp #[]) ::
 (nat_lit 78,tUp #[.str "rule" 266,.str "row" 267,.str "token" 268]) ::
 (nat_lit 79,tUp #[]) ::
 (nat_lit 81,cOd "room_behind" 263 264 265 42 3 76 77 78 79 80 269 270) ::
 (nat_lit 82,fUn "room_behind" 11 "usewarden.tokens" 209 81) ::
 (nat_lit 83,tUp #[]) ::
 (nat_lit 86,⟨.type "code", none,.fields #[.str "behind_at" 272,.str "behind_at" 273,.str "/claim/cut.py" 274,.int 44 0,.int 4 0,.int 0 0,.int 0 0,.int 3 0,.ref 83,.bool true,.int 181 0,.ref 84,.none,.none,.none,.ref 85,.int 275 0,.int 44 0,.str "/claim/cut.py" 276],#[]⟩) ::
 (nat_lit 87,fUn "behind_at" 12 "usewarden.tokens" 209 86) ::
 (nat_lit 88,tUp #[]) ::
 (nat_lit 90,tUp #[.str "code" 281,.str "rule" 282,.str "at" 283,.str "token" 284,.str "row" 285]) ::
 (nat_lit 91,tUp #[]) ::
 (nat_lit 93,cOd "rooms_at" 278 279 280 54 4 88 89 90 91 92 286 287) ::
 (nat_lit 94,fUn "rooms_at" 13 "usewarden.tokens" 209 93) ::
 (nat_lit 95,tUp #[]) ::
 (nat_lit 97,tUp #[.str "code" 292,.str "rule" 293,.str "at" 294,.str "token" 295]) ::
 (nat_lit 98,tUp #[]) ::
 (nat_lit 100,cOd "breaks_at" 289 290 291 61 4 95 96 97 98 99 296 297) ::
 (nat_lit 101,fUn "breaks_at" 14 "usewarden.tokens" 209 100) ::
 (nat_lit 102,⟨.type "dict", none,.dict #[⟨PyData.keyHash P "open", .str "open" 301,.ref 103⟩,⟨PyData.keyHash P "do", .str "do" 303,.ref 104⟩,⟨PyData.keyHash P "copy", .str "copy" 306,.ref 105⟩,⟨PyData.keyHash P "drop", .str "drop" 309,.ref 106⟩,⟨PyData.keyHash P "tie", .str "tie" 311,.ref 107⟩,⟨PyData.keyHash P "lend", .str "lend" 314,.ref 108⟩,⟨PyData.keyHash P "if", .str "if" 318,.ref 109⟩,⟨PyData.keyHash P "while", .str "while" 322,.ref 110⟩] 8,#[]⟩) ::
 (nat_lit 103,tUp #[.str "name" 302]) ::
 (nat_lit 104,tUp #[.str "word" 304,.str "name" 305]) ::
 (nat_lit 105,tUp #[.str "name" 307,.str "name" 308]) ::
 (nat_lit 106,tUp #[.str "name" 310]) ::
 (nat_lit 107,tUp #[.str "name" 312,.str "name" 313]) ::
 (nat_lit 108,tUp #[.str "name" 315,.str "name" 316,.str "steps" 317]) ::
 (nat_lit 109,tUp #[.str "bound" 319,.str "steps" 320,.str "steps" 321]) ::
 (nat_lit 110,tUp #[.str "bound" 323,.str "steps" 324]) ::
 (nat_lit 111,⟨.type "dict", none,.dict #[⟨PyData.keyHash P "lend", .str "lend" 334,.ref 112⟩,⟨PyData.keyHash P "if", .str "if" 336,.ref 113⟩,⟨PyData.keyHash P "while", .str "while" 339,.ref 114⟩] 3,#[]⟩) ::
 (nat_lit 112,tUp #[.str "back" 335]) ::
 (nat_lit 113,tUp #[.str "else" 337,.str "fi" 338]) ::
 (nat_lit 114,tUp #[.str "done" 340]) ::
 (nat_lit 115,tUp #[]) ::
 (nat_lit 117,tUp #[.str "kind" 348]) ::
 (nat_lit 118,tUp #[]) ::
 (nat_lit 120,cOd "closers_of" 345 346 347 66 1 115 116 117 118 119 349 350) ::
 (nat_lit 121,fUn "closers_of" 18 "usewarden.programs" 299 120) ::
 (nat_lit 122,tUp #[]) ::
 (nat_lit 124,tUp #[.str "step" 355]) ::
 (nat_lit 125,tUp #[]) ::
 (nat_lit 127,cOd "head_of" 352 353 354 68 1 122 123 124 125 126 356 357) ::
 (nat_lit 128,fUn "head_of" 19 "usewarden.programs" 299 127) ::
 (nat_lit 129,tUp #[]) ::
 (nat_lit 131,tUp #[.str "step" 362]) ::
 (nat_lit 132,tUp #[]) ::
 (nat_lit 134,cOd "blocks_of" 359 360 361 70 1 129 130 131 132 133 363 364) ::
 (nat_lit 135,fUn "blocks_of" 20 "usewarden.programs" 299 134) ::
 (nat_lit 136,tUp #[]) ::
 (nat_lit 138,tUp #[.str "program" 369,.str "steps" 370,.str "step" 371,.str "block" 372]) ::
 (nat_lit 139,tUp #[]) ::
 (nat_lit 141,cOd "steps_within" 366 367 368 72 1 136 137 138 139 140 373 374) ::
 (nat_lit 142,fUn "steps_within" 21 "usewarden.programs" 299 141) ::
 (nat_lit 143,tUp #[]) ::
 (nat_lit 145,tUp #[.str "steps" 379,.str "names" 380,.str "step" 381,.str "part" 382,.str "kind" 383]) ::
 (nat_lit 146,tUp #[]) ::
 (nat_lit 148,cOd "names_in" 376 377 378 79 1 143 144 145 146 147 384 385) ::
 (nat_lit 149,fUn "names_in" 22 "usewarden.programs" 299 148) ::
 (nat_lit 150,tUp #[]) ::
 (nat_lit 153,⟨.type "code", none,.fields #[.str "lines_of" 387,.str "lines_of" 388,.str "/claim/cut.py" 389,.int 86 0,.int 1 0,.int 0 0,.int 0 0,.int 3 0,.ref 150,.bool true,.int 181 0,.ref 151,.none,.none,.none,.ref 152,.int 390 0,.int 86 0,.str "/claim/cut.py" 391],#[]⟩) ::
 (nat_lit 154,fUn "lines_of" 23 "usewarden.programs" 299 153) ::
 (nat_lit 155,tUp #[]) ::
 (nat_lit 157,tUp #[.str "program" 396]) ::
 (nat_lit 158,tUp #[]) ::
 (nat_lit 160,cOd "names_of" 393 394 395 94 1 155 156 157 158 159 397 398) ::
 (nat_lit 161,fUn "names_of" 24 "usewarden.programs" 299 160) ::
 (nat_lit 169,tUp #[]) ::
 (nat_lit 171,tUp #[.str "self" 417,.str "head" 418,.str "lines" 419,.str "blocks" 420]) ::
 (nat_lit 172,tUp #[]) ::
 (nat_lit 174,⟨.type "code", none,.fields #[.str "__init__" 414,.str "NumberedStep.__init__" 415,.str "/claim/cut.py" 416,.int 99 0,.int 4 0,.int 0 0,.int 0 0,.int 3 0,.ref 169,.bool true,.int 181 0,.ref 170,.none,.ref 171,.ref 172,.ref 173,.int 421 0,.int 99 0,.str "/claim/cut.py" 422],#[]⟩) ::
 (nat_lit 175,⟨.type "function", none,.func ⟨"__init__", "NumberedStep.__init__", L2.defArgs (L2.inClass (top 26) 0),.stmts (L2.defBody (L2.inClass (top 26) 0)),L2.defScope (L2.inClass (top 26) 0),3,[],.none,.none,.none,.str "usewarden.numbered" 400,none,.ref 174,.none,0⟩,#[]⟩) ::
 (nat_lit 176,tUp #[.str "blocks" 424,.str "kind" 425,.str "lines" 426,.str "parts" 427]) ::
 (nat_lit 177,⟨.type "dict", none,.dict #[⟨PyData.keyHash P "__module__", .str "__module__" 409,.str "usewarden.numbered" 400⟩,⟨PyData.keyHash P "__firstlineno__", .str "__firstlineno__" 413,.int 97 412⟩,⟨PyData.keyHash P "__init__", .str "__init__" 423,.ref 175⟩,⟨PyData.keyHash P "__static_attributes__", .str "__static_attributes__" 428,.ref 176⟩,⟨PyData.keyHash P "__dict__", .str "__dict__" 430,.ref 179⟩,⟨PyData.keyHash P "__weakref__", .str "__weakref__" 432,.ref 180⟩,⟨PyData.keyHash P "__doc__", .str "__doc__" 433,.none⟩] 4,#[]⟩) ::
 (nat_lit 178,⟨.type "type", none,.cls ⟨"NumberedStep", [.type "object"],[.ref 178,.type "object"],177, "NumberedStep", true,[],[],false,none,false⟩,#[none,none,some (.str "NumberedStep" 402),some (.str "NumberedStep" 410),some (.builtin "object.__new__"),some (.bool true)]⟩) ::
 (nat_lit 179,⟨.type "getset_descriptor", none,.fields #[.str "__dict__" 429,.ref 178,.builtin "function.__dict__", .builtin "function.__dict__#set"],#[]⟩) ::
 (nat_lit 180,⟨.type "getset_descriptor", none,.fields #[.str "__weakref__" 431,.ref 178,.builtin "ExceptionGroup.__weakref__", .none],#[]⟩) ::
 (nat_lit 183,tUp #[]) ::
 (nat_lit 185,tUp #[.str "steps" 439,.str "line" 440]) ::
 (nat_lit 186,tUp #[]) ::
 (nat_lit 188,cOd "line_behind" 436 437 438 104 2 183 184 185 186 187 441 442) ::
 (nat_lit 189,fUn "line_behind" 27 "usewarden.numbered" 400 188) ::
 (nat_lit 190,tUp #[]) ::
 (nat_lit 192,tUp #[.str "step" 447,.str "line" 448,.str "lines" 449,.str "blocks" 450,.str "block" 451,.str "steps" 452]) ::
 (nat_lit 193,tUp #[]) ::
 (nat_lit 195,cOd "numbered_step" 444 445 446 106 2 190 191 192 193 194 453 454) ::
 (nat_lit 196,fUn "numbered_step" 28 "usewarden.numbered" 400 195) ::
 (nat_lit 197,tUp #[]) ::
 (nat_lit 199,tUp #[.str "steps" 459,.str "line" 460,.str "numbered" 461,.str "step" 462]) ::
 (nat_lit 200,tUp #[]) ::
 (nat_lit 202,cOd "numbered_steps" 456 457 458 114 2 197 198 199 200 201 463 464) ::
 (nat_lit 203,fUn "numbered_steps" 29 "usewarden.numbered" 400 202) ::
 (nat_lit 204,tUp #[]) ::
 (nat_lit 207,⟨.type "code", none,.fields #[.str "lend_lines" 468,.str "lend_lines" 469,.str "/claim/cut.py" 470,.int 120 0,.int 1 0,.int 0 0,.int 0 0,.int 3 0,.ref 204,.bool true,.int 181 0,.ref 205,.none,.none,.none,.ref 206,.int 471 0,.int 120 0,.str "/claim/cut.py" 472],#[]⟩) ::
 (nat_lit 208,fUn "lend_lines" 31 "usewarden.codes" 466 207) ::
 (nat_lit 209,tUp #[]) ::
 (nat_lit 211,tUp #[.str "program" 477,.str "slots" 478,.str "slot" 479,.str "holder" 480]) ::
 (nat_lit 212,tUp #[]) ::
 (nat_lit 214,cOd "slots_of" 474 475 476 122 1 209 210 211 212 213 481 482) ::
 (nat_lit 215,fUn "slots_of" 32 "usewarden.codes" 466 214) ::
 (nat_lit 216,tUp #[]) ::
 (nat_lit 219,⟨.type "code", none,.fields #[.str "simple_row" 484,.str "simple_row" 485,.str "/claim/cut.py" 486,.int 127 0,.int 2 0,.int 0 0,.int 0 0,.int 3 0,.ref 216,.bool true,.int 181 0,.ref 217,.none,.none,.none,.ref 218,.int 487 0,.int 127 0,.str "/claim/cut.py" 488],#[]⟩) ::
 (nat_lit 220,fUn "simple_row" 33 "usewarden.codes" 466 219) ::
 (nat_lit 221,tUp #[]) ::
 (nat_lit 223,tUp #[.str "step" 493,.str "at" 494,.str "slots" 495,.str "turned" 496,.str "line" 497,.str "back" 498,.str "giver" 499,.str "taker" 500,.str "lent" 501,.str "ahead" 502,.str "within" 503]) ::
 (nat_lit 224,tUp #[]) ::
 (nat_lit 226,cOd "lend_rows" 490 491 492 132 4 221 222 223 224 225 504 505) ::
 (nat_lit 227,fUn "lend_rows" 34 "usewarden.codes" 466 226) ::
 (nat_lit 228,tUp #[]) ::
 (nat_lit 230,tUp #[.str "step" 510,.str "at" 511,.str "slots" 512,.str "turned" 513,.str "more" 514,.str "jump" 515,.str "rest" 516,.str "behind" 517,.str "test" 518]) ::
 (nat_lit 231,tUp #[]) ::
 (nat_lit 233,cOd "if_rows" 507 508 509 141 4 228 229 230 231 232 519 520) ::
 (nat_lit 234,fUn "if_rows" 35 "usewarden.codes" 466 233) ::
 (nat_lit 235,tUp #[]) ::
 (nat_lit 237,tUp #[.str "step" 525,.str "at" 526,.str "slots" 527,.str "within" 528,.str "behind" 529]) ::
 (nat_lit 238,tUp #[]) ::
 (nat_lit 240,cOd "loop_rows" 522 523 524 148 3 235 236 237 238 239 530 531) ::
 (nat_lit 241,fUn "loop_rows" 36 "usewarden.codes" 466 240) ::
 (nat_lit 242,tUp #[]) ::
 (nat_lit 244,tUp #[.str "step" 536,.str "at" 537,.str "slots" 538,.str "turned" 539,.str "first" 540,.str "loop" 541,.str "behind" 542]) ::
 (nat_lit 245,tUp #[]) ::
 (nat_lit 247,cOd "while_rows" 533 534 535 152 4 242 243 244 245 246 543 544) ::
 (nat_lit 248,fUn "while_rows" 37 "usewarden.codes" 466 247) ::
 (nat_lit 249,tUp #[]) ::
 (nat_lit 251,tUp #[.str "steps" 549,.str "at" 550,.str "slots" 551,.str "turned" 552,.str "rows" 553,.str "step" 554,.str "place" 555]) ::
 (nat_lit 252,tUp #[]) ::
 (nat_lit 254,cOd "rows_of" 546 547 548 159 4 249 250 251 252 253 556 557) ::
 (nat_lit 255,fUn "rows_of" 38 "usewarden.codes" 466 254) ::
 (nat_lit 256,tUp #[]) ::
 (nat_lit 258,tUp #[.str "program" 562,.str "turned" 563,.str "steps" 564]) ::
 (nat_lit 259,tUp #[]) ::
 (nat_lit 261,cOd "rows_and_end" 559 560 561 172 2 256 257 258 259 260 565 566) ::
 (nat_lit 262,fUn "rows_and_end" 39 "usewarden.codes" 466 261) ::
 (nat_lit 263,tUp #[]) ::
 (nat_lit 265,tUp #[.str "program" 571]) ::
 (nat_lit 266,tUp #[]) ::
 (nat_lit 268,cOd "code_of" 568 569 570 175 1 263 264 265 266 267 572 573) ::
 (nat_lit 269,fUn "code_of" 40 "usewarden.codes" 466 268) ::
 (nat_lit 270,tUp #[]) ::
 (nat_lit 272,tUp #[.str "program" 578]) ::
 (nat_lit 273,tUp #[]) ::
 (nat_lit 275,cOd "turned_code" 575 576 577 177 1 270 271 272 273 274 579 580) ::
 (nat_lit 276,fUn "turned_code" 41 "usewarden.codes" 466 275) ::
 (nat_lit 277,tUp #[]) ::
 (nat_lit 279,tUp #[.str "_law_script" 587,.str "_law_k" 588]) ::
 (nat_lit 280,tUp #[]) ::
 (nat_lit 282,cOd "_law_cell_at" 584 585 586 180 2 277 278 279 280 281 589 590) ::
 (nat_lit 283,fUn "_law_cell_at" 43 "law_usewarden_k54_which_break" 582 282) ::
 (nat_lit 284,tUp #[]) ::
 (nat_lit 287,⟨.type "code", none,.fields #[.str "_law_words" 592,.str "_law_words" 593,.str "/claim/cut.py" 594,.int 184 0,.int 2 0,.int 0 0,.int 0 0,.int 3 0,.ref 284,.bool true,.int 181 0,.ref 285,.none,.none,.none,.ref 286,.int 595 0,.int 184 0,.str "/claim/cut.py" 596],#[]⟩) ::
 (nat_lit 288,fUn "_law_words" 44 "law_usewarden_k54_which_break" 582 287) ::
 (nat_lit 289,tUp #[]) ::
 (nat_lit 291,tUp #[.str "_law_cell" 601,.str "_law_names" 602,.str "_law_words_here" 603,.str "_law_x" 604,.str "_law_y" 605,.str "_law_word" 606,.str "_law_bound" 607,.str "_law_some" 608]) ::
 (nat_lit 292,tUp #[]) ::
 (nat_lit 294,cOd "_law_step" 598 599 600 197 3 289 290 291 292 293 609 610) ::
 (nat_lit 295,fUn "_law_step" 45 "law_usewarden_k54_which_break" 582 294) ::
 (nat_lit 296,tUp #[]) ::
 (nat_lit 298,tUp #[.str "_law_pile" 615,.str "_law_step_here" 616]) ::
 (nat_lit 299,tUp #[]) ::
 (nat_lit 301,cOd "_law_put" 612 613 614 206 2 296 297 298 299 300 617 618) ::
 (nat_lit 302,fUn "_law_put" 46 "law_usewarden_k54_which_break" 582 301) ::
 (nat_lit 303,tUp #[]) ::
 (nat_lit 305,tUp #[.str "_law_pile" 623,.str "_law_head" 624,.str "_law_first" 625,.str "_law_second" 626,.str "_law_side" 627]) ::
 (nat_lit 306,tUp #[]) ::
 (nat_lit 308,cOd "_law_close" 620 621 622 208 1 303 304 305 306 307 628 629) ::
 (nat_lit 309,fUn "_law_close" 47 "law_usewarden_k54_which_break" 582 308) ::
 (nat_lit 310,tUp #[]) ::
 (nat_lit 312,tUp #[.str "_law_cells" 634,.str "_law_names" 635,.str "_law_words_here" 636,.str "_law_lends" 637,.str "_law_deep" 638,.str "_law_pile" 639,.str "_law_cell" 640,.str "_law_step_here" 641]) ::
 (nat_lit 313,tUp #[]) ::
 (nat_lit 315,cOd "_law_program" 631 632 633 214 5 310 311 312 313 314 642 643) ::
 (nat_lit 316,fUn "_law_program" 48 "law_usewarden_k54_which_break" 582 315) ::
 (nat_lit 317,tUp #[]) ::
 (nat_lit 319,tUp #[.str "_law_cells" 648,.str "_law_sides" 649,.str "_law_words_here" 650,.str "_law_most" 651,.str "_law_texts_here" 652,.str "_law_k" 653,.str "_law_bits" 654,.str "_law_many" 655,.str "_law_share" 656,.str "_law_rooms" 657,.str "_law_rest" 658,.str "_law_room_here" 659,.str "_law_text" 660,.str "_law_digit" 661]) ::
 (nat_lit 320,tUp #[]) ::
 (nat_lit 322,cOd "_law_rule" 645 646 647 231 4 317 318 319 320 321 662 663) ::
 (nat_lit 323,fUn "_law_rule" 49 "law_usewarden_k54_which_break" 582 322) ::
 (nat_lit 324,tUp #[]) ::
 (nat_lit 326,tUp #[.str "_law_code_here" 668,.str "_law_most" 669,.str "_law_row" 670]) ::
 (nat_lit 327,tUp #[]) ::
 (nat_lit 329,cOd "_law_slots" 665 666 667 257 1 324 325 326 327 328 671 672) ::
 (nat_lit 330,fUn "_law_slots" 50 "law_usewarden_k54_which_break" 582 329) ::
 (nat_lit 331,tUp #[]) ::
 (nat_lit 333,tUp #[.str "_law_held" 677,.str "_law_slot" 678]) ::
 (nat_lit 334,tUp #[]) ::
 (nat_lit 336,cOd "_law_has" 674 675 676 265 2 331 332 333 334 335 679 680) ::
 (nat_lit 337,fUn "_law_has" 51 "law_usewarden_k54_which_break" 582 336) ::
 (nat_lit 338,tUp #[]) ::
 (nat_lit 340,tUp #[.str "_law_rule_here" 685,.str "_law_room_here" 686,.str "_law_text" 687]) ::
 (nat_lit 341,tUp #[]) ::
 (nat_lit 343,cOd "_law_next" 682 683 684 267 3 338 339 340 341 342 688 689) ::
 (nat_lit 344,fUn "_law_next" 52 "law_usewarden_k54_which_break" 582 343) ::
 (nat_lit 345,tUp #[]) ::
 (nat_lit 347,tUp #[.str "_law_script" 694,.str "_law_start" 695,.str "_law_lends" 696,.str "_law_deep" 697,.str "_law_first" 698,.str "_law_second" 699,.str "_law_names" 700,.str "_law_words_here" 701,.str "_law_program_here" 702]) ::
 (nat_lit 348,tUp #[]) ::
 (nat_lit 350,cOd "_law_code" 691 692 693 271 4 345 346 347 348 349 703 704) ::
 (nat_lit 351,fUn "_law_code" 53 "law_usewarden_k54_which_break" 582 350) ::
 (nat_lit 352,tUp #[]) ::
 (nat_lit 354,tUp #[.str "_law_cell" 709,.str "_law_slots_here" 710,.str "_law_rest" 711,.str "_law_one" 712,.str "_law_other" 713,.str "_law_slot" 714]) ::
 (nat_lit 355,tUp #[]) ::
 (nat_lit 357,cOd "_law_pair" 706 707 708 280 2 352 353 354 355 356 715 716) ::
 (nat_lit 358,fUn "_law_pair" 54 "law_usewarden_k54_which_break" 582 357) ::
 (nat_lit 359,tUp #[]) ::
 (nat_lit 361,tUp #[.str "_law_cell" 721,.str "_law_rule_here" 722,.str "_law_slots_here" 723,.str "_law_number" 724,.str "_law_found" 725,.str "_law_k" 726,.str "_law_pair_here" 727,.str "_law_room_here" 728]) ::
 (nat_lit 362,tUp #[]) ::
 (nat_lit 364,cOd "_law_tokens" 718 719 720 289 3 359 360 361 362 363 729 730) ::
 (nat_lit 365,fUn "_law_tokens" 55 "law_usewarden_k54_which_break" 582 364) ::
 (nat_lit 366,tUp #[]) ::
 (nat_lit 368,tUp #[.str "_law_row" 735,.str "_law_token" 736,.str "_law_sides" 737]) ::
 (nat_lit 369,tUp #[]) ::
 (nat_lit 371,cOd "_law_texts" 732 733 734 301 3 366 367 368 369 370 738 739) ::
 (nat_lit 372,fUn "_law_texts" 56 "law_usewarden_k54_which_break" 582 371) ::
 (nat_lit 373,tUp #[]) ::
 (nat_lit 375,tUp #[.str "_law_rule_here" 744,.str "_law_row" 745,.str "_law_token" 746,.str "_law_room_here" 747,.str "_law_text" 748]) ::
 (nat_lit 376,tUp #[]) ::
 (nat_lit 378,cOd "_law_room" 741 742 743 315 3 373 374 375 376 377 749 750) ::
 (nat_lit 379,fUn "_law_room" 57 "law_usewarden_k54_which_break" 582 378) ::
 (nat_lit 380,tUp #[]) ::
 (nat_lit 382,tUp #[.str "_law_rule_here" 755,.str "_law_row" 756,.str "_law_token" 757]) ::
 (nat_lit 383,tUp #[]) ::
 (nat_lit 385,cOd "_law_due" 752 753 754 321 3 380 381 382 383 384 758 759) ::
 (nat_lit 386,fUn "_law_due" 58 "law_usewarden_k54_which_break" 582 385) ::
 (nat_lit 387,tUp #[]) ::
 (nat_lit 389,tUp #[.str "_law_code_here" 764,.str "_law_rule_here" 765,.str "_law_at" 766,.str "_law_token" 767,.str "_law_found" 768]) ::
 (nat_lit 390,tUp #[]) ::
 (nat_lit 392,cOd "_law_right" 761 762 763 327 4 387 388 389 390 391 769 770) ::
 (nat_lit 393,fUn "_law_right" 59 "law_usewarden_k54_which_break" 582 392) ::
 (nat_lit 394,tUp #[]) ::
 (nat_lit 397,⟨.type "code", none,.fields #[.str "law" 772,.str "law" 773,.str "/claim/cut.py" 774,.int 334 0,.int 1 0,.int 0 0,.int 0 0,.int 3 0,.ref 394,.bool true,.int 181 0,.ref 395,.none,.none,.none,.ref 396,.int 775 0,.int 334 0,.str "/claim/cut.py" 776],#[]⟩) ::
 (nat_lit 398,fUn "law" 60 "law_usewarden_k54_which_break" 582 397)::[]
def kk:List Addr:=[2,3,15,17,18,20,21,22,24,25,27,28,29,31,32,34,35,36,38,39,41,42,43,45,46,48,49,50,52,53,55,56,57,59,60,62,63,64,67,68,69,71,72,74,75,76,78,79,81,82,83,86,87,88,90,91,93,94,95,97,98,100,101,102,103,104,105,106,107,108,109,110,111,112,113,114,115,117,118,120,121,122,124,125,127,128,129,131,132,134,135,136,138,139,141,142,143,145,146,148,149,150,153,154,155,157,158,160,161,169,171,172,174,175,176,177,178,179,180,183,185,186,188,189,190,192,193,195,196,197,199,200,202,203,204,207,208,209,211,212,214,215,216,219,220,221,223,224,226,227,228,230,231,233,234,235,237,238,240,241,242,244,245,247,248,249,251,252,254,255,256,258,259,261,262,263,265,266,268,269,270,272,273,275,276,277,279,280,282,283,284,287,288,289,291,292,294,295,296,298,299,301,302,303,305,306,308,309,310,312,313,315,316,317,319,320,322,323,324,326,327,329,330,331,333,334,336,337,338,340,341,343,344,345,347,348,350,351,352,354,355,357,358,359,361,362,364,365,366,368,369,371,372,373,375,376,378,379,380,382,383,385,386,387,389,390,392,393,394,397,398]
theorem kk_eq:∀ P,kk=(KK P).map (·.1):=fun _=>by kernel_rfl
noncomputable abbrev HH:Hook:=kHook KK kk kk_eq
def qq:Program:=view PySem.Challenge.pw_usewarden_k54_which_break [1,2,4,5,6,7,8,9,10,11,12,13,14,16,17,18,19,20,21,22,23,24,26,27,28,29,31,32,33,34,35,36,37,38,39,40,41,43,44,45,46,47,48,49,50,51,52,53,54,55,56,57,58,59,60]
def loo:List Str:=["PARTS", "CLOSERS"]
noncomputable def xt(s:Shared):Bool:=xlAt qq [] s&&recOk (RowW.records (OpenRow.toRowW (OpenLaw.row PySem.Challenge.rw_usewarden_k54_which_break))) s
def sW(w:World):Prop:=(openEnds treeTable PySem.Challenge.pw_usewarden_k54_which_break w 4382).map (fun s=>openSeen qq loo (importedModules (Program.main PySem.Challenge.pw_usewarden_k54_which_break).body) xt true s)=some (openGood qq loo)
def sZ(w:World):Prop:=(openEnds treeTable PySem.Challenge.pw_usewarden_k54_which_break w 4382).map (fun s=>Hook.obs HH s)=some (Hook.val HH w)
set_option maxRecDepth 1000000 in
theorem Jn(w:World):sW (w.withFollow "special-get-raises" false):=by unfold sW; kernel_rfl
set_option maxRecDepth 1000000 in
theorem Il(w:World):sW (w.withFollow "special-get-raises" true):=by unfold sW; kernel_rfl
theorem Hw(w:World):sW w:=byRow2 "special-get-raises" (P:=sW) Jn Il w
set_option maxRecDepth 1000000 in
theorem G2(w:World):sZ (w.withFollow "special-get-raises" false):=by unfold sZ; kernel_rfl
set_option maxRecDepth 1000000 in
theorem Fz(w:World):sZ (w.withFollow "special-get-raises" true):=by unfold sZ; kernel_rfl
theorem GR(w:World):sZ w:=byRow2 "special-get-raises" (P:=sZ) G2 Fz w
theorem yd{α β γ : Type}{o:Option α}{f:α→β}{g:α→γ}{a:β}{b:γ}(h1:o.map f=some a)(h2:o.map g=some b):o.map (fun s=>(f s,g s))=some (a,b):=by
 cases o with
 | none=>cases h1
 | some s=>cases h1; cases h2; rfl
theorem hl(w:World):(openEnds treeTable PySem.Challenge.pw_usewarden_k54_which_break w 4382).map (fun s=>(openSeen qq loo (importedModules (Program.main PySem.Challenge.pw_usewarden_k54_which_break).body) xt true s,Hook.obs HH s))=some (openGood qq loo,Hook.val HH w):=yd (Hw w) (GR w)
end K54
-- CHANGE: your row's module here, as the last of these rows
namespace L2
open PySem PySem.Spec PyProof.Rows
abbrev aK:=Sum Int Str
def jq:aK→Value→Bool
 | .inl k,v=>Value.isInt k v
 | .inr x,v=>Value.isStrOf x v
def F6(w:World):aK→Int
 | .inl k=>hashInt k
 | .inr x=>hashStr w x
theorem cO:∀ {k:aK} {v:Value},jq k v=true→(∃ i t,k=Sum.inl i∧v=Value.int i t)∨(∃ x t,k=Sum.inr x∧v=Value.str x t)
 | .inl i,v,h=>by
  obtain⟨t,e⟩:=Value.isInt_shape (k:=i) (v:=v) h
  exact .inl ⟨i,t,rfl,e⟩
 | .inr x,v,h=>by
  obtain⟨t,e⟩:=Value.isStrOf_shape (x:=x) (v:=v) h
  exact .inr ⟨x,t,rfl,e⟩
theorem wM(i:Int)(t:Tok):jq (.inl i) (.int i t)=true:=by simp[jq,Value.isInt]
theorem w5(x:Str)(t:Tok):jq (.inr x) (.str x t)=true:=by simp[jq,Value.isStrOf]
theorem D5(a b:Int):decide ((Sum.inl a:aK)=Sum.inl b)=(a == b):=by
 by_cases e:a=b
 ·subst e; simp
 ·have h:¬ (Sum.inl a:aK)=Sum.inl b:=fun q=>e (Sum.inl.inj q)
  rw[decide_eq_false h];exact(beq_eq_false_iff_ne.mpr e).symm
theorem CO(a b:Str):decide ((Sum.inr a:aK)=Sum.inr b)=decide (a=b):=by
 by_cases e:a=b
 ·subst e; simp
 ·have h:¬ (Sum.inr a:aK)=Sum.inr b:=fun q=>e (Sum.inr.inj q)
  rw[decide_eq_false h,decide_eq_false e]
theorem Dq(a:Int)(b:Str):decide ((Sum.inl a:aK)=Sum.inr b)=false:=decide_eq_false (fun q=>nomatch q)
theorem Dr(a:Str)(b:Int):decide ((Sum.inr a:aK)=Sum.inl b)=false:=decide_eq_false (fun q=>nomatch q)
def cL(prog:Program)(w:World):PySem.KeyKind prog w aK where
 is:=jq
 hash:=F6 w
 inj:=fun v a b ha hb=>by
  rcases cO ha with ⟨i,t,rfl,rfl⟩ | ⟨x,t,rfl,rfl⟩
  ·rcases cO hb with ⟨j,u,rfl,e⟩ | ⟨y,u,rfl,e⟩
   ·injection e with e1 _; rw[e1]
   ·exact nomatch e
  ·rcases cO hb with ⟨j,u,rfl,e⟩ | ⟨y,u,rfl,e⟩
   ·exact nomatch e
   ·injection e with e1 _; rw[e1]
 byValue:=fun k v h=>by
  rcases cO h with ⟨i,t,rfl,rfl⟩ | ⟨x,t,rfl,rfl⟩ <;> rfl
 pyHash:=fun hv h=>by
  rcases cO hv with ⟨i,t,rfl,rfl⟩ | ⟨x,t,rfl,rfl⟩
  ·exact wpAny_pyHash_int h
  ·exact wpAny_pyHash_str h
 eqBool:=fun hu hv h=>by
  rcases cO hu with ⟨i,t,rfl,rfl⟩ | ⟨x,t,rfl,rfl⟩
  ·rcases cO hv with ⟨j,u,rfl,rfl⟩ | ⟨y,u,rfl,rfl⟩
   ·rw[D5]at h; exact wpAny_eqBool_int h
   ·rw[Dq]at h; exact SeqAt.EqAt.int_str i t y u _ _ _ _ h
  ·rcases cO hv with ⟨j,u,rfl,rfl⟩ | ⟨y,u,rfl,rfl⟩
   ·rw[Dr]at h; exact SeqAt.EqAt.str_int x t j u _ _ _ _ h
   ·rw[CO]at h; exact wpAny_eqBool_str h
 «strs»:=fun k x t v h=>by
  rcases cO h with ⟨i,u,rfl,e⟩ | ⟨y,u,rfl,e⟩
  ·exact nomatch e
  ·injection e with e1 _
   subst e1
   cases v <;> rfl
theorem qR(prog:Program)(w:World)(i:Int)(t:Tok):(cL prog w).is (.inl i) (.int i t)=true:=wM i t
theorem qV(prog:Program)(w:World)(x:Str)(t:Tok):(cL prog w).is (.inr x) (.str x t)=true:=w5 x t
end L2
namespace L2
open PySem PySem.Spec PyProof.Rows
set_option genSizeOf false in
inductive V where
 | non | bl (b:Bool) | int (i:Int) | str (x:Str) | byt (b:Array UInt8) | flt (b:UInt64) | ref (a:Addr) | ty (n:String)
 deriving DecidableEq
def RelV:V→Value→Prop
 | .non,u=>u=Value.none
 | .bl b,u=>u=Value.bool b
 | .int i,u=>∃ t,u=Value.int i t
 | .str x,u=>∃ t,u=Value.str x t
 | .byt b,u=>∃ t,u=Value.bytes b t
 | .flt b,u=>∃ t,u=Value.float b t
 | .ref a,u=>u=Value.ref a
 | .ty n,u=>u=Value.type n
abbrev Vals:List V→List Value→Prop:=Paired RelV
theorem Vals.length{xs:List V}{us:List Value}(r:Vals xs us):xs.length=us.length:=Paired.length r
theorem Vals.get:∀ {xs:List V} {us:List Value} {i:Nat} {x:V},Vals xs us→xs[i]? = some x→∃ u,us[i]? = some u∧RelV x u
 | _,_,_,_,.nil,e=>by simp at e
 | _,_,0,_,.cons r _,e=>by simp at e; subst e; exact⟨_,rfl,r⟩
 | _,_,i+1,x,.cons _ t,e=>by
  obtain⟨u,h1,h2⟩:=Vals.get (i:=i) (x:=x) t (by simpa using e)
  exact⟨u,by simpa using h1,h2⟩
theorem Vals.set{x:V}{u:Value}(r:RelV x u):∀ {xs:List V} {us:List Value} (i:Nat),Vals xs us→Vals (xs.set i x) (us.set i u)
 | _,_,_,.nil=>.nil
 | _,_,0,.cons _ t=>.cons r t
 | _,_,i+1,.cons q t=>.cons q (Vals.set r i t)
theorem Vals.append:∀ {xs ys:List V} {us ws:List Value},Vals xs us→Vals ys ws→Vals (xs++ys) (us++ws)
 | _,_,_,_,.nil,s=>s
 | _,_,_,_,.cons r t,s=>.cons r (Vals.append t s)
theorem Vals.take:∀ {xs:List V} {us:List Value} (n:Nat),Vals xs us→Vals (xs.take n) (us.take n)
 | _,_,0,_=>.nil
 | _,_,_+1,.nil=>.nil
 | _,_,n+1,.cons r t=>.cons r (Vals.take n t)
theorem Vals.drop:∀ {xs:List V} {us:List Value} (n:Nat),Vals xs us→Vals (xs.drop n) (us.drop n)
 | _,_,0,r=>r
 | _,_,_+1,.nil=>.nil
 | _,_,n+1,.cons _ t=>Vals.drop n t
def RelO:Option V→Option Value→Prop
 | some v,some u=>RelV v u
 | none,none=>True
 | _,_=>False
def KV{κ : Type}:List (κ × V)→List (κ × Value)→Prop:=Paired fun (p:κ × V) (q:κ × Value)=>p.1=q.1∧RelV p.2 q.2
def kV:aK→V
 | .inl i=>.int i
 | .inr x=>.str x
set_option genSizeOf false in
inductive HO where
 /-- a list -/
 | lst (xs:List V)
 /-- a tuple (never changes) -/
 | tup (xs:List V)
 /-- a dict whose keys are ints and texts; one whose keys are tuples of ints and texts (the empty one is both) -/
 | dK (kvs:List (aK × V)) | dT (kvs:List (List aK × V))
 /-- a set of ints: its members, its size -/
 | set (S:Int→Bool) (n:Nat)
 /-- an instance of the class at C, its dict at dx, its attributes -/
 | ins (C dx:Addr) (fs:List (Str × V))
 /-- the dict of the instance at x -/
 | own (x:Addr)
 /-- the dict of an exception -/
 | xd (fs:List (Str × V))
 /-- a bound method, f of x -/
 | met (f x:Addr)
 /-- a range object lo, lo+1, .. below hi -/
 | rng (lo hi:Int)
 /-- a thing that is known to the object (the script; a dict while a loop walks it): read, never written while it is so -/
 | frz (o:Obj) (u:HO)
 /-- a code object's table -/
 | tbl (ps:Array Value)
 /-- any other thing, by what is true of its one object (a def of one's own: SetO a S n := HO.ext fun h => ..) -/
 | ext (φ : Heap→Prop)
abbrev Hp:=Addr→Option HO
def upd(H:Hp)(a:Addr)(o:HO):Hp:=fun b=>if b=a then some o else H b
theorem af{H:Hp}{a:Addr}{o:HO}:upd H a o a=some o:=by unfold upd; rw[if_pos rfl]
theorem ax{H:Hp}{a b:Addr}{o:HO}(h:b≠a):upd H a o b=H b:=by unfold upd; rw[if_neg h]
theorem cP{H:Hp}{a b:Addr}{o u:HO}(h:H a=some o)(h':H b=some u)(d:o≠u):a≠b:=by
 intro e; subst e; rw[h]at h'; exact d (Option.some.inj h')
theorem aF{H:Hp}{a b:Addr}{o:HO}(h:H a=some o)(h':H b=none):a≠b:=by
 intro e; subst e; rw[h]at h'; cases h'
def IsTupN(h:Heap)(a:Addr)(items:Array Value):Prop:=∃ o,h.get? a=some o∧o.cls = .type "tuple" ∧ o.dict=none∧∃ n,o.data = .seq items n
theorem IsTupN.tup{h:Heap}{a:Addr}{items:Array Value}(x:IsTupN h a items):IsTup h a items:=let ⟨o,e,c,_,d⟩:=x; ⟨o,e,c,d⟩
theorem IsTupN.lt{h:Heap}{a:Addr}{items:Array Value}(x:IsTupN h a items):a<h.objs.size:=let ⟨_,e,_⟩:=x; Heap.lt_size e
theorem IsTupN.new(h:Heap)(items:Array Value):IsTupN (h.push { cls:=.type "tuple", data:=.seq items }) h.objs.size items:=⟨_,Heap.get?_push_size _ rfl,rfl,rfl,_,rfl⟩
section
variable(P:Program)(w:World)
def ObjOk(H:Hp)(h:Heap)(a:Addr):HO→Prop
 | .lst xs=>xs.length≤sizeLine∧∃ (its:List Value) (n:Nat),Vals xs its∧h.get? a=some { cls:=.type "list", data:=.seq its.toArray n }
 | .tup xs=>xs.length≤sizeLine∧∃ its:List Value,Vals xs its∧IsTupN h a its.toArray
 | .dK kvs=>kvs.length≤sizeLine∧(a == sysModules)=false∧∃ vs,KV kvs vs∧h.DictOf (cL P w) a vs
 | .dT kvs=>kvs.length≤sizeLine∧(a == sysModules)=false∧∃ xs:List (List aK × Addr × Value),
   Paired (fun (p:List aK × V) (q:List aK × Addr × Value)=>p.1=q.1∧H q.2.1=some (.tup (p.1.map kV))∧RelV p.2 q.2.2) kvs xs∧
   ∃ o es ep,h.get? a=some o∧o.ExactDict∧o.data = .dict es ep∧es.toList=xs.map (entryOfKey (tupleKind (cL P w)))∧(xs.map (·.1)).Nodup
 | .set S n=>h.SetOf (intKind P w) a S n
 | .ins C dx fs=>H dx=some (.own a)∧fs.length≤1000∧dx≠a∧h.get? a=some (PySem.W.instObj C dx)∧
   ∃ mA,h.Ns1 dx mA∧(∀ f,RelO (fs.lookup f) (mA f))∧PySem.Within mA (fs.map (·.1))
 | .own _=>∃ o,h.get? a=some o
 | .xd fs=>∃ mA,h.Ns1 a mA∧∀ f,RelO (fs.lookup f) (mA f)
 | .rng lo hi=>∃ t u v,h.get? a=some { cls:=.type "range", data:=.fields #[.int lo t,.int hi u,.int 1 v] }
 | .frz o u=>h.get? a=some o∧ObjOk H h a u
 | .tbl ps=>h.get? a=some { cls:=.none,data:=.fields ps }
 | .met f x=>h.get? a=some (PySem.W.methodObj (.ref f) (.ref x))
 | .ext φ=>φ h∧(∃ o,h.get? a=some o)∧∀ h1 h2:Heap,φ h1→(∀ o,h1.get? a=some o→h2.get? a=some o)→φ h2
def HOk(H:Hp)(h:Heap):Prop:=∀ a o,H a=some o→ObjOk P w H h a o
end
section
variable{P:Program}{w:World}{H H':Hp}{h h':Heap}{a:Addr}{o:HO}
theorem ObjOk.lt(x:ObjOk P w H h a o):a<h.objs.size:=by
 cases o with
 | lst xs=>obtain⟨_,_,_,_,e⟩:=x; exact Heap.lt_size e
 | tup xs=>obtain⟨_,_,_,p⟩:=x; exact p.lt
 | dK kvs=>obtain⟨_,_,_,_,o,_,_,e,_⟩:=x; exact Heap.lt_size e
 | dT kvs=>obtain⟨_,_,_,_,o,_,_,e,_⟩:=x; exact Heap.lt_size e
 | set S n=>obtain⟨o,_,_,_,e,_⟩:=x; exact Heap.lt_size e
 | ins C dx fs=>obtain⟨_,_,_,e,_⟩:=x; exact Heap.lt_size e
 | own y=>obtain⟨_,e⟩:=x; exact Heap.lt_size e
 | xd fs=>obtain⟨_,⟨_,_,_,e,_⟩,_⟩:=x; exact Heap.lt_size e
 | rng lo hi=>obtain⟨_,_,_,e⟩:=x; exact Heap.lt_size e
 | frz ob u=>obtain⟨e,_⟩:=x; exact Heap.lt_size e
 | tbl ps=>exact Heap.lt_size (show h.get? a=some _ from x)
 | met f y=>exact Heap.lt_size (show h.get? a=some _ from x)
 | ext φ=>obtain⟨_,⟨_,e⟩,_⟩:=x; exact Heap.lt_size e
theorem Paired.mapP{α β : Type}{F G:α→β→Prop}:∀ {l₁:List α} {l₂:List β},Paired F l₁ l₂→(∀ a b,F a b→G a b)→Paired G l₁ l₂
 | _,_,.nil,_=>.nil
 | _,_,.cons r t,f=>.cons (f _ _ r) (Paired.mapP t f)
theorem Paired.imp'{α β : Type}{F G:α→β→Prop}(f:∀ a b,F a b→G a b){l₁:List α}{l₂:List β}(r:Paired F l₁ l₂):Paired G l₁ l₂:=Paired.mapP r f
theorem ObjOk.stay(x:ObjOk P w H h a o)(k:∀ b u,(b=a∨H b=some (.own a))→h.get? b=some u→h'.get? b=some u)
  (ho:∀ b,H b=some (.own a)→H' b=some (.own a)) (ht:∀ b xs,H b=some (.tup xs)→H' b=some (.tup xs)):ObjOk P w H' h' a o:=by
 induction o with
 | lst xs=>obtain⟨z,its,n,r,e⟩:=x; exact⟨z,its,n,r,k _ _ (.inl rfl) e⟩
 | tup xs=>obtain⟨z,its,r,ob,e,c⟩:=x; exact⟨z,its,r,ob,k _ _ (.inl rfl) e,c⟩
 | dK kvs=>obtain⟨z,y,vs,r,ob,es,ep,e,c⟩:=x; exact⟨z,y,vs,r,ob,es,ep,k _ _ (.inl rfl) e,c⟩
 | dT kvs=>
  obtain⟨z,y,xs,r,ob,es,ep,e,c⟩:=x
  exact⟨z,y,xs,Paired.mapP r fun p q z=>⟨z.1,ht _ _ z.2.1,z.2.2⟩,ob,es,ep,k _ _ (.inl rfl) e,c⟩
 | set S n=>obtain⟨ob,es,ep,t,e,c⟩:=x; exact⟨ob,es,ep,t,k _ _ (.inl rfl) e,c⟩
 | ins C dx fs=>
  obtain⟨d,z,ne,e,mA,⟨od,es,ep,e2,c⟩,r⟩:=x
  exact⟨ho _ d,z,ne,k _ _ (.inl rfl) e,mA,⟨od,es,ep,k _ _ (.inr d) e2,c⟩,r⟩
 | own y=>obtain⟨ob,e⟩:=x; exact⟨ob,k _ _ (.inl rfl) e⟩
 | xd fs=>obtain⟨mA,⟨od,es,ep,e,c⟩,r⟩:=x; exact⟨mA,⟨od,es,ep,k _ _ (.inl rfl) e,c⟩,r⟩
 | rng lo hi=>obtain⟨t,u,v,e⟩:=x; exact⟨t,u,v,k _ _ (.inl rfl) e⟩
 | frz ob u ih=>obtain⟨e,q⟩:=x; exact⟨k _ _ (.inl rfl) e,ih q⟩
 | tbl ps=>
  have e:h.get? a=some { cls:=.none,data:=.fields ps }:=x
  show h'.get? a=some { cls:=.none,data:=.fields ps }
  exact k a _ (.inl rfl) e
 | met f y=>
  have e:h.get? a=some (PySem.W.methodObj (.ref f) (.ref y)):=x
  show h'.get? a=some (PySem.W.methodObj (.ref f) (.ref y))
  exact k a _ (.inl rfl) e
 | ext φ=>obtain⟨p,⟨o,e⟩,st⟩:=x; exact⟨st _ _ p fun o q=>k _ _ (.inl rfl) q,⟨o,k _ _ (.inl rfl) e⟩,st⟩
theorem HOk.lt(x:HOk P w H h)(e:H a=some o):a<h.objs.size:=(x a o e).lt
theorem HOk.fresh(x:HOk P w H h)(e:h.objs.size≤a):H a=none:=by
 cases q:H a with
 | none=>rfl
 | some u=>exact absurd (Nat.lt_of_lt_of_le (x.lt q) e) (Nat.lt_irrefl _)
theorem HOk.kept(x:HOk P w H h)(k:∀ b u,h.get? b=some u→h'.get? b=some u):HOk P w H h':=fun a o e=>
 (x a o e).stay (fun b u _ q=>k b u q) (fun _ q=>q) fun _ _ q=>q
theorem HOk.laid(x:HOk P w H h)(k:∀ b u,h.get? b=some u→h'.get? b=some u)(hp:h.objs.size≤a)(new:ObjOk P w (upd H a o) h' a o):HOk P w (upd H a o) h':=fun b u e=>by
 have hn:=x.fresh hp
 by_cases hb:b=a
 ·subst hb; rw[af]at e; cases e; exact new
 ·rw[ax hb]at e
  exact(x b u e).stay (fun c v _ q=>k c v q) (fun c q=>by rw[ax (aF q hn)]; exact q) fun c xs q=>by rw[ax (aF q hn)]; exact q
end
def Rd(H:Hp)(a:Addr)(u:HO):Prop:=H a=some u∨∃ o,H a=some (.frz o u)
theorem Rd.ok{P:Program}{w:World}{H:Hp}{h:Heap}{a:Addr}{u:HO}(r:Rd H a u)(x:HOk P w H h):ObjOk P w H h a u:=by
 rcases r with r | ⟨o,r⟩
 ·exact x a u r
 ·obtain⟨_,q⟩:=x a _ r
  exact q
def wx:Option HO→Prop
 | some (.lst _)=>True
 | some (.dK _)=>True
 | some (.dT _)=>True
 | some (.set _ _)=>True
 | some (.ins _ _ _)=>True
 | some (.ext _)=>True
 | _=>False
section
variable{P:Program}{w:World}{H:Hp}{h h':Heap}{x e:Addr}{o':HO}
theorem HOk.write(ok:HOk P w H h)(mu:wx (H x))(he:e=x∨H e=some (.own x))(k:∀ b u,b≠e→h.get? b=some u→h'.get? b=some u)(heo:∃ u,h'.get? e=some u)
  (new:ObjOk P w (upd H x o') h' x o'):HOk P w (upd H x o') h':=fun b u q=>by
 have nown:∀ c y,H c=some (.own y)→c≠x:=fun c y r z=>by subst z; rw[r]at mu; exact mu
 have ntup:∀ c xs,H c=some (.tup xs)→c≠x:=fun c xs r z=>by subst z; rw[r]at mu; exact mu
 by_cases hb:b=x
 ·subst hb; rw[af]at q; cases q; exact new
 ·rw[ax hb]at q
  by_cases hbe:b=e
  ·have q':H b=some (.own x):=by
    rcases he with z | z
    ·exact absurd (hbe.trans z) hb
    ·rw[hbe]; exact z
   rw[q]at q'; cases q'
   obtain⟨v,hv⟩:=heo
   exact⟨v,by rw[hbe]; exact hv⟩
  ·refine(ok b u q).stay (fun c v hc r=>k c v ?_ r) (fun c r=>by rw[ax (nown c b r)]; exact r) fun c xs r=>by rw[ax (ntup c xs r)]; exact r
   rcases hc with rfl | hc
   ·exact hbe
   ·rintro rfl
    rcases he with z | z
    ·exact nown c b hc z
    ·rw[hc]at z; cases z; exact hb rfl
end
structure Un (fs ex:List Addr) (H H':Hp) (h h':Heap):Prop where
 keep:∀ b o,h.get? b=some o→H b=none→b∉fs→b∉ex→h'.get? b=some o
 slot:∀ b o,h.get? b=some o→H b=none→b∈fs→b∉ex→∃ sl,h'.get? b=some { o with slots:=sl }
 free:∀ b o,h.get? b=some o→H b=none→b∉ex→H' b=none
 there:∀ b o,h.get? b=some o→b∉ex→∃ o',h'.get? b=some o'
 tups:∀ b xs,H b=some (.tup xs)→H' b=some (.tup xs)
 frzs:∀ b o u,H b=some (.frz o u)→H' b=some (.frz o u)
 tbls:∀ b ps,H b=some (.tbl ps)→∃ more,H' b=some (.tbl (ps++more))
section
variable{fs fs' ex ex':List Addr}{H H1 H2:Hp}{h h1 h2 h':Heap}{a x e:Addr}{o:HO}
theorem Un.any(u:Un fs ex H H1 h h1){b:Addr}{ob:Obj}(q:h.get? b=some ob)(n:H b=none)(hx:b∉ex):∃ sl,h1.get? b=some { ob with slots:=sl }:=by
 by_cases hb:b∈fs
 ·exact u.slot b ob q n hb hx
 ·exact⟨ob.slots,u.keep b ob q n hb hx⟩
theorem Un.kept(k:∀ b u,h.get? b=some u→h'.get? b=some u):Un fs ex H H h h':=
 ⟨fun b ob q _ _ _=>k b ob q,fun b ob q _ _ _=>⟨ob.slots,k b ob q⟩,fun _ _ _ n _=>n,fun b ob q _=>⟨ob,k b ob q⟩,fun _ _ q=>q,fun _ _ _ q=>q,fun _ ps q=>⟨#[],by rw[q]; simp⟩⟩
theorem Un.refl:Un fs ex H H h h:=Un.kept fun _ _ q=>q
theorem Un.laid(k:∀ b u,h.get? b=some u→h'.get? b=some u)(hp:h.objs.size≤a)(hn:H a=none):Un fs ex H (upd H a o) h h' where
 keep:=fun b u q _ _ _=>k b u q
 slot:=fun b u q _ _ _=>⟨u.slots,k b u q⟩
 free:=fun b u q n _=>by rw[ax (Nat.ne_of_lt (Nat.lt_of_lt_of_le (Heap.lt_size q) hp))]; exact n
 there:=fun b u q _=>⟨u,k b u q⟩
 tups:=fun b xs q=>by rw[ax (aF q hn)]; exact q
 frzs:=fun b u xs q=>by rw[ax (aF q hn)]; exact q
 tbls:=fun b ps q=>⟨#[],by rw[ax (aF q hn),q]; simp⟩
theorem Un.write(mu:wx (H x))(he:e=x∨H e=some (.own x))(k:∀ b u,b≠e→h.get? b=some u→h'.get? b=some u)(heo:∃ u,h'.get? e=some u):Un fs ex H (upd H x o) h h':=by
 have hx:∀ b,H b=none→b≠x:=fun b n z=>by subst z; rw[n]at mu; exact mu
 have hb:∀ b,H b=none→b≠e:=fun b n z=>by
  subst z;rcases he with r | r
  ·exact hx b n r
  ·rw[n]at r; cases r
 have hm:∀ b u,H b=some u→¬ wx (some u)→b≠x:=fun b u q nm z=>by subst z; rw[q]at mu; exact nm mu
 refine⟨fun b u q n _ _=>k b u (hb b n) q,fun b u q n _ _=>⟨u.slots,k b u (hb b n) q⟩,fun b u q n _=>by rw[ax (hx b n)]; exact n,fun b u q _=>?_,
  fun b xs q=>by rw[ax (hm b _ q fun z=>z)]; exact q,fun b u xs q=>by rw[ax (hm b _ q fun z=>z)]; exact q,fun b ps q=>⟨#[],by rw[ax (hm b _ q fun z=>z),q]; simp⟩⟩
 by_cases hbe:b=e
 ·subst hbe; exact heo
 ·exact⟨u,k b u hbe q⟩
end
def AB(h:Heap)(H:Hp):List Addr:=(List.range h.objs.size).filter fun a=>(H a).isSome
def h9(h:Heap)(H:Hp):Heap:=PySem.W.hideAll h (AB h H)
theorem wF(h:Heap)(H:Hp):(h9 h H).objs.size=h.objs.size:=PySem.W.hideAll_size _ _
theorem zl{h:Heap}{H:Hp}{b:Addr}{o:Obj}(e:h.get? b=some o)(n:H b=none):(h9 h H).get? b=some o:=
 PySem.W.hideAll_get _ e fun hm=>by
  have q:(H b).isSome=true:=(List.mem_filter.mp hm).2
  rw[n]at q; simp at q
theorem AJ{h:Heap}{H:Hp}{b:Addr}{o:Obj}(e:(h9 h H).get? b=some o):h.get? b=some o∧H b=none:=by
 have e':h.get? b=some o:=PySem.W.of_hideAll (AB h H) e
 refine⟨e',?_⟩
 cases q:H b with
 | none=>rfl
 | some x=>
  have hm:b∈AB h H:=List.mem_filter.mpr ⟨List.mem_range.mpr (Heap.lt_size e'),by simp[q]⟩
  have z:(h9 h H).get? b=none:=PySem.W.hideAll_none (AB h H) hm
  rw[z]at e; cases e
def AK(g h:Heap)(L:Addr):List (Addr × Obj):=(List.range h.objs.size).filterMap fun a=>if a=L∨(g.get? a).isSome=true then none else (h.get? a).map fun o=>(a,o)
def rest(g h:Heap)(L d:Addr):List (Addr × Obj):=(AK g h L).filter fun p=>decide (p.1≠d)
end L2
namespace L2
open PySem PySem.Spec PyProof.Rows
structure Mod (K:PySem.W.Frag) (mg:Str→Option Value) (base:Heap):Prop where
 kin:K.In base
 glob:base.Ns mainGlobals mg
 blt:∃ mb,base.Ns builtinsNs mb∧∀ x:Str,x ≠ "__name__" → mb x=bootBuiltins x
 nolimit:base.NoLimit
set_option genInjectivity false in
set_option genSizeOf false in
structure Cx where
 prog:Program
 w:World
 K:PySem.W.Frag
 mg:Str→Option Value
 base:Heap
 A:Around
 N:List Str
 s₀ : Shared
 H₀ : Hp
 env:Env
 outer:List Env
 stack:List Env
 ex:List Addr
 fn:Str→Bool
 calm:Bool
 pn:List (Addr × Obj)
 xe:Value→Shared→Prop
def iF(l:List Env):List Addr:=l.filterMap (·.frame)
abbrev Cx.fs (X:Cx):List Addr:=iF X.outer
def ao(sc:Scope)(x:Str):Prop:=sc.names.lookup x=some .local∨sc.names.lookup x=some .cell∨sc.names.lookup x=some .free
def aG(sc:Scope)(x:Str):Prop:=sc.names.lookup x=some .local∨sc.names.lookup x=some .cell
def IM(env:Env)(h:Heap)(m:Str→Option Value)(x:Str)(u:Value):Prop:=
 (env.kindOf x=some .local∧m x=some u)∨((env.kindOf x=some .cell∨env.kindOf x=some .free)∧∃ c,env.cells.lookup x=some c∧h.IsCell c (some u))
structure Cx.Ok (X:Cx):Prop where
 mod:Mod X.K X.mg X.base
 kind:X.env.scope.kind = .function
 glob:X.env.globals=mainGlobals
 blt:X.env.builtins=builtinsNs
 above:X.s₀.heap.objs.size≤X.env.locals
 inj:∀ x y c,X.env.cells.lookup x=some c→X.env.cells.lookup y=some c→x=y
 has:∀ x,(X.env.kindOf x=some .cell∨X.env.kindOf x=some .free)→∃ c,X.env.cells.lookup x=some c
 cab:∀ x c,X.fn x=true→X.env.cells.lookup x=some c→X.s₀.heap.objs.size≤c
 hd:X.calm=true→X.A.handled=none
 frames:X.A.frames=some X.stack
 stk:X.stack=X.outer∨(X.stack=X.env::X.outer∧X.env.frame=some X.env.locals)
 exf:∀ b∈X.ex,b≠X.env.locals∧∀ x c,X.env.cells.lookup x=some c→c≠b
 bs:∀ b o,X.base.get? b=some o→X.s₀.heap.get? b=some o∧X.H₀ b=none
 bsz:X.base.objs.size≤X.s₀.heap.objs.size
 noex:∀ b o,X.base.get? b=some o→b∉X.ex
 exfs:∀ b∈X.ex,b∉X.fs
 funs:X.s₀.heap.FunFrames X.base X.outer
 frf:∀ b∈X.fs,X.H₀ b=none
structure Inv (X:Cx) (pins:List (Addr × Obj)) (σ : List (Option V)) (H:Hp) (s:Shared):Prop where
 ok:X.Ok
 os:s.os=X.s₀.os
 bare:AllBare s.gens
 base:Un X.fs X.ex X.H₀ H X.s₀.heap s.heap
 loc:∃ m,s.heap.Ns X.env.locals m∧∀ (i:Nat) (x:Str) (v:V),X.N[i]? = some x→σ[i]? = some (some v)→ao X.env.scope x→∃ u,RelV v u∧IM X.env s.heap m x u
 cell:∀ x c,X.env.cells.lookup x=some c→∃ v,s.heap.IsCell c v
 free:H X.env.locals=none
 freeC:∀ x c,X.env.cells.lookup x=some c→H c=none
 pin:∀ p∈X.pn++pins,s.heap.get? p.1=some p.2∧H p.1=none∧p.1≠X.env.locals∧p.1∉X.fs∧∀ v,p.2.data ≠ .cell v
 hok:HOk X.prog X.w H s.heap
 len:σ.length=X.N.length
section
variable{X:Cx}{pins:List (Addr × Obj)}{σ : List (Option V)}{H H':Hp}{s:Shared}{h':Heap}
theorem Cx.Ok.nofr(ok:X.Ok){b:Addr}{o:Obj}(e:X.base.get? b=some o):b∉X.fs:=fun hb=>by
 have:=(ok.funs.mem hb).1
 rw[e]at this; cases this
theorem Inv.bs(I:Inv X pins σ H s):∀ b o,X.base.get? b=some o→s.heap.get? b=some o∧H b=none:=fun b o e=>
 ⟨I.base.keep b o (I.ok.bs b o e).1 (I.ok.bs b o e).2 (I.ok.nofr e) (I.ok.noex b o e),I.base.free b o (I.ok.bs b o e).1 (I.ok.bs b o e).2 (I.ok.noex b o e)⟩
theorem Inv.bk(I:Inv X pins σ H s):∀ b o,X.base.get? b=some o→s.heap.get? b=some o:=fun b o e=>(I.bs b o e).1
theorem Inv.mod(I:Inv X pins σ H s):Mod X.K X.mg X.base:=I.ok.mod
theorem Inv.kIn(I:Inv X pins σ H s):X.K.In s.heap:=I.ok.mod.kin.keeps I.bk
theorem Inv.lt(I:Inv X pins σ H s):X.env.locals<s.heap.objs.size:=let ⟨_,hn,_⟩:=I.loc; hn.lt
theorem Inv.sz(I:Inv X pins σ H s):X.s₀.heap.objs.size≤s.heap.objs.size:=Nat.le_trans I.ok.above (Nat.le_of_lt I.lt)
theorem Inv.nofs(I:Inv X pins σ H s){a:Addr}(h:s.heap.objs.size≤a):a∉X.fs:=fun hb=>by
 obtain⟨_,o,ho,_⟩:=I.ok.funs.mem hb
 exact absurd (Nat.lt_of_lt_of_le (Heap.lt_size ho) (Nat.le_trans I.sz h)) (Nat.lt_irrefl _)
theorem Inv.cne(I:Inv X pins σ H s):∀ x c,X.env.cells.lookup x=some c→c≠X.env.locals:=fun x c e z=>by
 obtain⟨v,o,ho,hd⟩:=I.cell x c e
 obtain⟨m,⟨o',es,ep,ho',hd',_⟩,_⟩:=I.loc
 rw[z,ho']at ho; cases ho; rw[hd']at hd; cases hd
theorem Inv.funs(I:Inv X pins σ H s):s.heap.FunFrames X.base X.outer:=by
 have all:∀ (l:List Env),(∀ b∈iF l,b∈X.fs)→X.s₀.heap.FunFrames X.base l→s.heap.FunFrames X.base l:=by
  intro l
  induction l with
  | nil=>intro _ _; trivial
  | cons env r ih=>
   intro hs hl
   obtain⟨hk,⟨L,o,hf,hn,ho,hd⟩,hr⟩:=hl
   have hL:L∈X.fs:=hs L (by unfold iF; rw[List.filterMap_cons,hf]; exact List.mem_cons_self)
   obtain⟨sl,e⟩:=I.base.slot L o ho (I.ok.frf L hL) hL fun z=>I.ok.exfs L z hL
   exact⟨hk,⟨L,_,hf,hn,e,hd⟩,ih (fun b hb=>hs b (by unfold iF; rw[List.filterMap_cons,hf]; exact List.mem_cons_of_mem _ hb)) hr⟩
 exact all X.outer (fun _ hb=>hb) I.ok.funs
theorem Inv.stack(I:Inv X pins σ H s):s.heap.FunFrames X.base X.stack:=by
 rcases I.ok.stk with e | ⟨e,hf⟩
 ·rw[e]; exact I.funs
 ·rw[e]
  obtain⟨m,hn,_⟩:=I.loc
  refine .cons (by rw[I.ok.kind]; decide) hf hn ?_ I.funs
  exact Heap.get?_none_of_le (Nat.le_trans I.ok.bsz I.ok.above)
theorem Inv.stkSub(I:Inv X pins σ H s):∀ b∈iF X.stack,b∈X.env.locals::X.fs:=fun b hb=>by
 rcases I.ok.stk with e | ⟨e,hf⟩
 ·rw[e]at hb; exact List.mem_cons_of_mem _ hb
 ·rw[e]at hb
  unfold iF at hb;rw[List.filterMap_cons,hf]at hb
  exact hb
theorem Inv.stkFree(I:Inv X pins σ H s):∀ b∈iF X.stack,H b=none:=fun b hb=>by
 rcases List.mem_cons.mp (I.stkSub b hb) with e | hb
 ·rw[e]; exact I.free
 ·obtain⟨_,o,ho,_⟩:=I.ok.funs.mem hb
  exact I.base.free b o ho (I.ok.frf b hb) fun z=>I.ok.exfs b z hb
theorem Inv.step{g':Array GenState}{t':Nat}{d':Drawn}{ch:List Addr}(I:Inv X pins σ H s)
  (hch:∀ b∈ch,(b∈X.ex∨X.s₀.heap.objs.size≤b)∧b≠X.env.locals∧(∀ x c,X.env.cells.lookup x=some c→c≠b)∧∀ p∈X.pn++pins,p.1≠b)
  (keep:∀ b o,b≠X.env.locals→b∉X.fs→b∉ch→s.heap.get? b=some o→H b=none→h'.get? b=some o)
  (slot:∀ b o,b≠X.env.locals→b∈X.fs→b∉ch→s.heap.get? b=some o→H b=none→∃ sl,h'.get? b=some { o with slots:=sl }) (free:∀ b o,b∉ch→s.heap.get? b=some o→H b=none→H' b=none)
  (there:∀ b o,b∉ch→s.heap.get? b=some o→∃ o',h'.get? b=some o')
  (tups:∀ b xs,H b=some (.tup xs)→H' b=some (.tup xs)) (frzs:∀ b o u,H b=some (.frz o u)→H' b=some (.frz o u)) (tbls:∀ b ps,H b=some (.tbl ps)→∃ more,H' b=some (.tbl (ps++more)))
  (ns:∀ m,s.heap.Ns X.env.locals m→h'.Ns X.env.locals m) (hok:HOk X.prog X.w H' h') (hg:AllBare g') :
  Inv X pins σ H' { s with heap:=h',gens:=g',drawn:=d',toks:=t' }:=by
 have neL:∀ b o,X.s₀.heap.get? b=some o→b≠X.env.locals:=fun b o e=>Nat.ne_of_lt (Nat.lt_of_lt_of_le (Heap.lt_size e) I.ok.above)
 have neC:∀ b o,X.s₀.heap.get? b=some o→b∉X.ex→b∉ch:=fun b o e hx hb=>by
  rcases(hch b hb).1 with z | z
  ·exact hx z
  ·exact absurd (Nat.lt_of_lt_of_le (Heap.lt_size e) z) (Nat.lt_irrefl _)
 have cellK:∀ x c,X.env.cells.lookup x=some c→∀ v,s.heap.IsCell c v→h'.IsCell c v:=fun x c e v ⟨o,ho,hd⟩=>by
  have nch:c∉ch:=fun z=>(hch c z).2.2.1 x c e rfl
  by_cases hc:c∈X.fs
  ·obtain⟨sl,q⟩:=slot c o (I.cne x c e) hc nch ho (I.freeC x c e)
   exact⟨_,q,hd⟩
  ·exact⟨o,keep c o (I.cne x c e) hc nch ho (I.freeC x c e),hd⟩
 refine⟨I.ok,I.os,hg,⟨fun b o e n hb hx=>?_,fun b o e n hb hx=>?_,fun b o e n hx=>?_,fun b o e hx=>?_,fun b xs e=>tups b xs (I.base.tups b xs e),fun b o xs e=>frzs b o xs (I.base.frzs b o xs e),fun b ps e=>?_⟩,?_,fun x c e=>?_,?_,fun x c e=>?_,fun p hp=>?_,hok,I.len⟩
 ·exact keep b o (neL b o e) hb (neC b o e hx) (I.base.keep b o e n hb hx) (I.base.free b o e n hx)
 ·obtain⟨sl,e1⟩:=I.base.slot b o e n hb hx
  obtain⟨sl',e2⟩:=slot b _ (neL b o e) hb (neC b o e hx) e1 (I.base.free b o e n hx)
  exact⟨sl',e2⟩
 ·obtain⟨o',e1⟩:=I.base.there b o e hx
  exact free b o' (neC b o e hx) e1 (I.base.free b o e n hx)
 ·obtain⟨o',e1⟩:=I.base.there b o e hx
  exact there b o' (neC b o e hx) e1
 ·obtain⟨m1,e1⟩:=I.base.tbls b ps e
  obtain⟨m2,e2⟩:=tbls b _ e1
  exact⟨m1++m2,by rw[e2,Array.append_assoc]⟩
 ·obtain⟨m,hn,hl⟩:=I.loc
  refine⟨m,ns m hn,fun i x v e1 e2 e3=>?_⟩
  obtain⟨u,r,l⟩:=hl i x v e1 e2 e3
  refine⟨u,r,?_⟩
  rcases l with l | ⟨k,c,e,z⟩
  ·exact .inl l
  ·exact .inr ⟨k,c,e,cellK x c e _ z⟩
 ·obtain⟨v,z⟩:=I.cell x c e
  exact⟨v,cellK x c e v z⟩
 ·obtain⟨m,⟨o,_,_,ho,_⟩,_⟩:=I.loc
  exact free _ o (fun z=>(hch _ z).2.1 rfl) ho I.free
 ·obtain⟨v,o,ho,hd⟩:=I.cell x c e
  exact free c o (fun z=>(hch c z).2.2.1 x c e rfl) ho (I.freeC x c e)
 ·obtain⟨e,n,ne,nf,d⟩:=I.pin p hp
  have nch:p.1∉ch:=fun z=>(hch p.1 z).2.2.2 p hp rfl
  exact⟨keep p.1 p.2 ne nf nch e n,free p.1 p.2 nch e n,ne,nf,d⟩
theorem Inv.un{t':Nat}(I:Inv X pins σ H s)(u:Un X.fs [] H H' s.heap h')(hok:HOk X.prog X.w H' h'):Inv X pins σ H' { s with heap:=h',toks:=t' }:=by
 obtain⟨m,⟨o,es,ep,ho,r⟩,_⟩:=id I.loc
 obtain⟨sl,hL⟩:=u.any ho I.free (by simp)
 exact I.step (g':=s.gens) (d':=s.drawn) (ch:=[]) (fun _ z=>nomatch z) (fun b o _ hb _ e n=>u.keep b o e n hb (by simp)) (fun b o _ hb _ e n=>u.slot b o e n hb (by simp)) (fun b o _ e n=>u.free b o e n (by simp)) (fun b o _ e=>u.there b o e (by simp)) u.tups u.frzs u.tbls (fun m' hm=>by
  obtain⟨o',es',ep',ho',r'⟩:=hm
  rw[ho]at ho'; cases ho'
  exact⟨_,es',ep',hL,r'⟩) hok I.bare
theorem Inv.call{g':Array GenState}{t':Nat}{d':Drawn}{ch:List Addr}(I:Inv X pins σ H s)(u:Un (iF X.stack) ch H H' s.heap h')(hok:HOk X.prog X.w H' h')(hg:AllBare g')
  (hch:∀ b∈ch,(b∈X.ex∨X.s₀.heap.objs.size≤b)∧b≠X.env.locals∧(∀ x c,X.env.cells.lookup x=some c→c≠b)∧∀ p∈X.pn++pins,p.1≠b) :
  Inv X pins σ H' { s with heap:=h',gens:=g',drawn:=d',toks:=t' }:=by
 obtain⟨m,⟨o,es,ep,ho,r⟩,_⟩:=id I.loc
 obtain⟨sl,hL⟩:=u.any ho I.free fun z=>(hch _ z).2.1 rfl
 exact I.step (ch:=ch) hch (fun b o hL hb hc e n=>u.keep b o e n (fun z=>(List.mem_cons.mp (I.stkSub b z)).elim hL hb) hc) (fun b o _ _ hc e n=>u.any e n hc) (fun b o hc e n=>u.free b o e n hc) (fun b o hc e=>u.there b o e hc) u.tups u.frzs u.tbls (fun m' hm=>by
  obtain⟨o',es',ep',ho',r'⟩:=hm
  rw[ho]at ho'; cases ho'
  exact⟨_,es',ep',hL,r'⟩) hok hg
theorem Inv.turned{t':Nat}{it:Addr}(I:Inv X pins σ H s)(k:∀ b o,b≠it→s.heap.get? b=some o→h'.get? b=some o)(hn:H it=none)(hL:it≠X.env.locals)
  (h1:it∈X.ex∨X.s₀.heap.objs.size≤it) (h2:∀ x c,X.env.cells.lookup x=some c→c≠it) (h3:∀ p∈X.pn++pins,p.1≠it):Inv X pins σ H { s with heap:=h',toks:=t' }:=by
 have nit:∀ b u,H b=some u→b≠it:=fun b u e z=>by rw[z,hn]at e; cases e
 refine I.step (g':=s.gens) (d':=s.drawn) (ch:=[it]) (fun b hb=>?_) (fun b o _ _ hc e _=>k b o (fun z=>hc (by simp[z])) e) (fun b o _ _ hc e _=>⟨o.slots,k b o (fun z=>hc (by simp[z])) e⟩) (fun _ _ _ _ n=>n)
  (fun b o hc e=>⟨o,k b o (fun z=>hc (by simp[z])) e⟩) (fun _ _ e=>e) (fun _ _ _ e=>e) (fun b ps e=>⟨#[],by rw[e]; simp⟩) (fun m hm=>?_) (fun b u e=>?_) I.bare
 ·have e:b=it:=by simpa using hb
  subst e;exact⟨h1,hL,h2,h3⟩
 ·obtain⟨o,es,ep,ho,r⟩:=hm
  exact⟨o,es,ep,k _ o (Ne.symm hL) ho,r⟩
 ·refine(I.hok b u e).stay (fun c v hc q=>k c v ?_ q) (fun _ q=>q) fun _ _ q=>q
  rcases hc with z | z
  ·rw[z]; exact nit b u e
  ·exact nit c _ z
theorem Inv.tok(I:Inv X pins σ H s)(t:Nat):Inv X pins σ H { s with toks:=t }:=I.un (h':=s.heap) (t':=t) Un.refl I.hok
theorem Inv.kept{t':Nat}(I:Inv X pins σ H s)(k:∀ b u,s.heap.get? b=some u→h'.get? b=some u):Inv X pins σ H { s with heap:=h',toks:=t' }:=I.un (Un.kept k) (I.hok.kept k)
theorem Inv.laid{a:Addr}{o:HO}{t':Nat}(I:Inv X pins σ H s)(k:∀ b u,s.heap.get? b=some u→h'.get? b=some u)(hp:s.heap.objs.size≤a)(new:ObjOk X.prog X.w (upd H a o) h' a o) :
  Inv X pins σ (upd H a o) { s with heap:=h',toks:=t' }:=I.un (Un.laid k hp (I.hok.fresh hp)) (I.hok.laid k hp new)
theorem Inv.write{x e:Addr}{o:HO}{t':Nat}(I:Inv X pins σ H s)(mu:wx (H x))(he:e=x∨H e=some (.own x))(k:∀ b u,b≠e→s.heap.get? b=some u→h'.get? b=some u)(heo:∃ u,h'.get? e=some u)
  (new:ObjOk X.prog X.w (upd H x o) h' x o):Inv X pins σ (upd H x o) { s with heap:=h',toks:=t' }:=I.un (Un.write mu he k heo) (I.hok.write mu he k heo new)
theorem Inv.weak{σ':List (Option V)}(I:Inv X pins σ H s)(hl:σ'.length=σ.length)(w:∀ (i:Nat) v,σ'[i]? = some (some v)→σ[i]? = some (some v)):Inv X pins σ' H s:=
 ⟨I.ok,I.os,I.bare,I.base,let ⟨m,hn,hl'⟩:=I.loc; ⟨m,hn,fun i x v e1 e2 e3=>hl' i x v e1 (w i v e2) e3⟩,I.cell,I.free,I.freeC,I.pin,I.hok,hl.trans I.len⟩
theorem Inv.pins_of{pins':List (Addr × Obj)}(I:Inv X pins σ H s)(h:∀ p∈pins',s.heap.get? p.1=some p.2∧H p.1=none∧p.1≠X.env.locals∧p.1∉X.fs∧∀ v,p.2.data ≠ .cell v):Inv X pins' σ H s:=
 ⟨I.ok,I.os,I.bare,I.base,I.loc,I.cell,I.free,I.freeC,fun p hp=>(List.mem_append.mp hp).elim (fun z=>I.pin p (List.mem_append_left _ z)) (h p),I.hok,I.len⟩
theorem ou{N:List Str}(hN:N.Nodup){i j:Nat}{x:Str}(a:N[i]? = some x)(b:N[j]? = some x):i=j:=by
 obtain⟨h1,e1⟩:=List.getElem?_eq_some_iff.mp a
 obtain⟨h2,e2⟩:=List.getElem?_eq_some_iff.mp b
 exact(List.getElem_inj hN).mp (e1.trans e2.symm)
theorem mW{M:Model}{A:Around}{E:Value→Shared→Prop}{i:Nat}{x:Str}{v:V}{u:Value}{Q:Unit→Shared→Prop}(I:Inv X pins σ H s)(hN:X.N.Nodup)(hi:X.N[i]? = some x)(hx:aG X.env.scope x)(r:RelV v u)
  (h:∀ s',Inv X pins (σ.set i (some v)) H s'→(∃ a,Heap.SameBut a s.heap s'.heap∧(a=X.env.locals∨X.env.cells.lookup x=some a))→Q () s') (hf:X.fn x=true∨X.env.scope.names.lookup x=some .local:=by first | exact .inl rfl | exact .inr rfl | assumption):wpAny M A (storeName X.env x u) Q E s:=by
 obtain⟨m,hn,hl⟩:=id I.loc
 have hcls:(X.env.scope.kind == .class||(X.env.scope.kind == .module&&X.env.locals != X.env.globals))=false:=by rw[I.ok.kind]; rfl
 have hiσ : i<σ.length:=by rw[I.len]; exact(List.getElem?_eq_some_iff.mp hi).1
 have cne:=I.cne
 have tracked:∀ {a:Addr} {h':Heap},(∃ o,s.heap.get? a=some o∧H a=none)→Heap.SameBut a s.heap h'→HOk X.prog X.w H h':=fun {a h'} ha hs b ob e=>by
  obtain⟨_,_,hfree⟩:=ha
  refine(I.hok b ob e).stay (fun c w' hc q=>(hs.2 c ?_).trans q) (fun _ q=>q) fun _ _ q=>q
  rintro rfl
  rcases hc with rfl | hc
  ·rw[hfree]at e; cases e
  ·rw[hfree]at hc; cases hc
 rcases hx with hk | hk
 ·refine wpAny_storeName_local hk hn (fun h' hn' hs=>?_) hcls
  obtain⟨oL,_,_,hoL,_⟩:=id hn
  refine h _ ⟨I.ok,I.os,I.bare,⟨fun b o e n hb hx=>?_,fun b o e n hb hx=>?_,I.base.free,fun b o e hx=>?_,I.base.tups,I.base.frzs,I.base.tbls⟩,⟨_,hn',fun j y v' e1 e2 e3=>?_⟩,fun y c e=>?_,I.free,I.freeC,fun p hp=>?_,tracked ⟨oL,hoL,I.free⟩ hs,by simpa using I.len⟩ ⟨_,hs,.inl rfl⟩
  ·exact(hs.2 b (Nat.ne_of_lt (Nat.lt_of_lt_of_le (Heap.lt_size e) I.ok.above))).trans (I.base.keep b o e n hb hx)
  ·obtain⟨sl,e1⟩:=I.base.slot b o e n hb hx
   exact⟨sl,(hs.2 b (Nat.ne_of_lt (Nat.lt_of_lt_of_le (Heap.lt_size e) I.ok.above))).trans e1⟩
  ·obtain⟨o',e1⟩:=I.base.there b o e hx
   exact⟨o',(hs.2 b (Nat.ne_of_lt (Nat.lt_of_lt_of_le (Heap.lt_size e) I.ok.above))).trans e1⟩
  ·by_cases hj:j=i
   ·subst hj
    rw[hi]at e1; cases e1
    rw[List.getElem?_set_self hiσ]at e2
    cases e2;exact⟨u,r,.inl ⟨hk,by simp⟩⟩
   ·rw[List.getElem?_set_ne (Ne.symm hj)]at e2
    obtain⟨u',r',q⟩:=hl j y v' e1 e2 e3
    refine⟨u',r',?_⟩
    rcases q with ⟨k,e⟩ | ⟨k,c,e,z⟩
    ·refine .inl ⟨k,?_⟩
     have:y≠x:=fun e=>hj (ou hN e1 (e ▸ hi))
     simp[this,e]
    ·exact .inr ⟨k,c,e,z.sameBut hs (cne y c e)⟩
  ·obtain⟨w',z⟩:=I.cell y c e
   exact⟨w',z.sameBut hs (cne y c e)⟩
  ·obtain⟨e,n,ne,nf,d⟩:=I.pin p hp
   exact⟨(hs.2 p.1 ne).trans e,n,ne,nf,d⟩
 ·have hfn:X.fn x=true:=by
   rcases hf with z | z
   ·exact z
   ·rw[z]at hk; cases hk
  obtain⟨c,hc⟩:=I.ok.has x (.inl hk)
  obtain⟨w',z⟩:=I.cell x c hc
  refine wpAny_storeName_cell I.ok.kind hk hc z (fun h' hc' hs=>?_)
  obtain⟨oc,hoc,hocd⟩:=id z
  refine h { s with heap:=h' } ⟨I.ok,I.os,I.bare,⟨fun b o e n hb hx=>?_,fun b o e n hb hx=>?_,I.base.free,fun b o e hx=>?_,I.base.tups,I.base.frzs,I.base.tbls⟩,⟨m,hn.sameBut hs (Ne.symm (cne x c hc)),fun j y v' e1 e2 e3=>?_⟩,fun y c' e=>?_,I.free,I.freeC,fun p hp=>?_,tracked ⟨oc,hoc,I.freeC x c hc⟩ hs,by simpa using I.len⟩ ⟨c,hs,.inr hc⟩
  ·exact(hs.2 b (Nat.ne_of_lt (Nat.lt_of_lt_of_le (Heap.lt_size e) (I.ok.cab x c hfn hc)))).trans (I.base.keep b o e n hb hx)
  ·obtain⟨sl,e1⟩:=I.base.slot b o e n hb hx
   exact⟨sl,(hs.2 b (Nat.ne_of_lt (Nat.lt_of_lt_of_le (Heap.lt_size e) (I.ok.cab x c hfn hc)))).trans e1⟩
  ·obtain⟨o',e1⟩:=I.base.there b o e hx
   exact⟨o',(hs.2 b (Nat.ne_of_lt (Nat.lt_of_lt_of_le (Heap.lt_size e) (I.ok.cab x c hfn hc)))).trans e1⟩
  ·by_cases hj:j=i
   ·subst hj
    rw[hi]at e1; cases e1
    rw[List.getElem?_set_self hiσ]at e2
    cases e2;exact⟨u,r,.inr ⟨.inl hk,c,hc,hc'⟩⟩
   ·rw[List.getElem?_set_ne (Ne.symm hj)]at e2
    obtain⟨u',r',q⟩:=hl j y v' e1 e2 e3
    refine⟨u',r',?_⟩
    rcases q with q | ⟨k,c',e,z'⟩
    ·exact .inl q
    ·refine .inr ⟨k,c',e,z'.sameBut hs ?_⟩
     rintro rfl
     exact hj (ou hN e1 (I.ok.inj _ _ _ e hc ▸ hi))
  ·by_cases hcc:c'=c
   ·subst hcc; exact⟨_,hc'⟩
   ·obtain⟨w2,z2⟩:=I.cell y c' e
    exact⟨w2,z2.sameBut hs hcc⟩
  ·obtain⟨e,n,ne,nf,d⟩:=I.pin p hp
   refine⟨(hs.2 p.1 ?_).trans e,n,ne,nf,d⟩
   intro q
   rw[q,hoc]at e
   have q':oc=p.2:=Option.some.inj e
   exact d w' (by rw[← q']; exact hocd)
theorem oo{M:Model}{A:Around}{E:Value→Shared→Prop}{i:Nat}{x:Str}{v:V}{u:Value}{Q:Unit→Shared→Prop}(I:Inv X pins σ H s)(hN:X.N.Nodup)(hi:X.N[i]? = some x)(hx:aG X.env.scope x)(r:RelV v u)
  (h:∀ s',Inv X pins (σ.set i (some v)) H s'→Q () s') (hf:X.fn x=true∨X.env.scope.names.lookup x=some .local:=by first | exact .inl rfl | exact .inr rfl | assumption):wpAny M A (storeName X.env x u) Q E s:=
 mW I hN hi hx r (fun s' I' _=>h s' I') hf
theorem Inv.call'{s':Shared}{ch:List Addr}(I:Inv X pins σ H s)(ho:s'.os=s.os)(u:Un (iF X.stack) ch H H' s.heap s'.heap)(hok:HOk X.prog X.w H' s'.heap)(hg:AllBare s'.gens)
  (hch:∀ b∈ch,(b∈X.ex∨X.s₀.heap.objs.size≤b)∧b≠X.env.locals∧(∀ x c,X.env.cells.lookup x=some c→c≠b)∧∀ p∈X.pn++pins,p.1≠b):Inv X pins σ H' s':=by
 obtain⟨h',g',d',t',o'⟩:=s'
 have e:o'=s.os:=ho
 subst e;exact I.call (g':=g') (t':=t') (d':=d') u hok hg hch
end
abbrev XK:=Value→Option Addr→Hp→Prop
abbrev St:=List (Option V)
abbrev VK:=V→Hp→Prop
abbrev TE:=St→Hp→VK→Prop
abbrev TT:=St→Hp→(Bool→Hp→Prop)→Prop
abbrev TA:=St→Hp→(List V→Hp→Prop)→Prop
set_option genInjectivity false in
set_option genSizeOf false in
structure dO where
 nx:St→Hp→Prop
 rt:VK
 bk:St→Hp→Prop:=fun _ _=>False
 ct:St→Hp→Prop:=fun _ _=>False
abbrev TS:=dO→St→Hp→Prop
def EP(X:Cx)(pins:List (Addr × Obj))(σ : St)(Q:VK)(u:Value)(s':Shared):Prop:=∃ v H',Inv X pins σ H' s'∧RelV v u∧Q v H'
def TP(X:Cx)(pins:List (Addr × Obj))(σ : St)(Q:Bool→Hp→Prop)(b:Bool)(s':Shared):Prop:=∃ H',Inv X pins σ H' s'∧Q b H'
def AP(X:Cx)(pins:List (Addr × Obj))(σ : St)(Q:List V→Hp→Prop)(us:List Value)(s':Shared):Prop:=∃ vs H',Inv X pins σ H' s'∧Vals vs us∧Q vs H'
def SP(X:Cx)(pins:List (Addr × Obj))(D:dO)(f:Flow)(s':Shared):Prop:=
 match f with
 | .next=>∃ σ' H',Inv X pins σ' H' s'∧D.nx σ' H'
 | .brk=>∃ σ' H',Inv X pins σ' H' s'∧D.bk σ' H'
 | .cont=>∃ σ' H',Inv X pins σ' H' s'∧D.ct σ' H'
 | .ret u=>∃ v σ' H',Inv X pins σ' H' s'∧RelV v u∧D.rt v H'
def PE(X:Cx)(e:Expr)(t:TE):Prop:=
 ∀ (pins:List (Addr × Obj)) (s:Shared) (σ : St) (H:Hp) (Q:VK),Inv X pins σ H s→t σ H Q→wpAny (model X.prog X.w) X.A (eval e X.env) (EP X pins σ Q) X.xe s
def PT(X:Cx)(e:Expr)(t:TT):Prop:=
 ∀ (pins:List (Addr × Obj)) (s:Shared) (σ : St) (H:Hp) (Q:Bool→Hp→Prop),Inv X pins σ H s→t σ H Q→wpAny (model X.prog X.w) X.A (isTrue e X.env (eval e X.env)) (TP X pins σ Q) X.xe s
def PW(X:Cx)(e:Expr)(t:TT):Prop:=
 ∀ (whole:Sem Value) (pins:List (Addr × Obj)) (s:Shared) (σ : St) (H:Hp) (Q:Bool→Hp→Prop),Inv X pins σ H s→t σ H Q→wpAny (model X.prog X.w) X.A (isTrue e X.env whole) (TP X pins σ Q) X.xe s
theorem PW.pt{X:Cx}{e:Expr}{t:TT}(h:PW X e t):PT X e t:=h _
def PA(X:Cx)(es:List Expr)(t:TA):Prop:=
 ∀ (pos:Pos) (pins:List (Addr × Obj)) (s:Shared) (σ : St) (H:Hp) (Q:List V→Hp→Prop),Inv X pins σ H s→t σ H Q→wpAny (model X.prog X.w) X.A (spliced (backTo pos (starEach es X.env))) (AP X pins σ Q) X.xe s
def PS(X:Cx)(st:Stmt)(t:TS):Prop:=
 ∀ (pins:List (Addr × Obj)) (s:Shared) (σ : St) (H:Hp) (D:dO),Inv X pins σ H s→t D σ H→wpAny (model X.prog X.w) X.A (exec st X.env) (SP X pins D) X.xe s
def PSs(X:Cx)(st:List Stmt)(t:TS):Prop:=
 ∀ (pins:List (Addr × Obj)) (s:Shared) (σ : St) (H:Hp) (D:dO),Inv X pins σ H s→t D σ H→wpAny (model X.prog X.w) X.A (execs st X.env) (SP X pins D) X.xe s
theorem bx{α : Type}{t:Sem α}{Q Q':α→Shared→Prop}{M:Model}{A:Around}{E:Value→Shared→Prop}{s:Shared}(h:wpAny M A t Q E s)(hQ:∀ a s,Q a s→Q' a s):wpAny M A t Q' E s:=wpAny_mono h hQ fun _ _ x=>x
end L2
namespace L2
open PySem PySem.Spec PyProof.Rows
section
variable{X:Cx}
def eO(i:Nat):TE:=fun σ H Q=>∃ v,σ[i]? = some (some v)∧Q v H
def tC(v:V):TE:=fun _ H Q=>Q v H
theorem Dk{i:Nat}{x:Str}{pos:Pos}(hN:X.N[i]? = some x)(hv:ao X.env.scope x)(hd:(x == ("__debug__" : Str))=false:=by decide) (hcd:(x == ("__classdict__" : Str))=false:=by decide):PE X (.Name x pos) (eO i):=by
 intro pins s σ H Q I h
 obtain⟨v,e,h⟩:=h
 obtain⟨m,hn,hl⟩:=I.loc
 obtain⟨u,r,l⟩:=hl i x v hN e hv
 have fin:EP X pins σ Q u s:=⟨v,H,I,r,h⟩
 rcases l with ⟨hk,hm⟩ | ⟨hk,c,hc,hcell⟩
 ·exact wpAny_Name (wpAny_loadName_local I.ok.kind hk hn hm fin) hd
 ·rcases hk with hk | hk
  ·exact wpAny_Name (wpAny_loadName_cell I.ok.kind hk hc hcell fin) hd
  ·exact wpAny_Name (wpAny_loadName_free I.ok.kind hk hc hcell fin hcd) hd
theorem ac{i j pos}:PE X (.Constant (.int i) j pos) (tC (.int i)):=fun _ _ _ H _ I h=>wpAny_Constant_int ⟨.int i,H,I.tok _,⟨_,rfl⟩,h⟩
theorem fm{b j pos}:PE X (.Constant (.bool b) j pos) (tC (.bl b)):=fun _ _ _ H _ I h=>Constant_bool ⟨.bl b,H,I,rfl,h⟩
theorem cZ{j pos}:PE X (.Constant .none j pos) (tC .non):=fun _ _ _ H _ I h=>Constant_none ⟨.non,H,I,rfl,h⟩
theorem av{x j pos}:PE X (.Constant (.str x) j pos) (tC (.str x)):=fun _ _ _ H _ I h=>Calls.Constant_str ⟨.str x,H,I.tok _,⟨_,rfl⟩,h⟩
def Gl(X:Cx)(x:Str):Prop:=X.env.kindOf x=some .globalImplicit
theorem vSs{s:Stmt}{x:Str}(h:(L2.defScope s).names.lookup x=some .local):ao (L2.defScope s) x:=Or.inl h
theorem vLl{s:Stmt}{x:Str}(h:(L2.defScope s).names.lookup x=some .local):aG (L2.defScope s) x:=Or.inl h
theorem vGg{s:Stmt}{x:Str}(h:(L2.defScope s).names.lookup x=some .globalImplicit):(L2.defScope s).names.lookup x=some .globalImplicit:=h
theorem lg{E:Value→Shared→Prop}{pins:List (Addr × Obj)}{s:Shared}{σ : St}{H:Hp}{x:Str}{u:Value}{pos:Pos}{Q:Value→Shared→Prop}(I:Inv X pins σ H s)(hg:Gl X x)(hm:X.mg x=some u)(h:Q u s)
  (hd:(x == ("__debug__" : Str))=false:=by decide):wpAny (model X.prog X.w) X.A (eval (.Name x pos) X.env) Q E s:=
 Calls.Name_function_global I.ok.kind hg (Calls.loadGlobal_global (by rw[I.ok.glob]; exact I.mod.glob.keeps I.bk) hm h) hd
theorem hX{E:Value→Shared→Prop}{pins:List (Addr × Obj)}{s:Shared}{σ : St}{H:Hp}{x:Str}{u:Value}{pos:Pos}{Q:Value→Shared→Prop}(I:Inv X pins σ H s)(hg:Gl X x)(hm:X.mg x=none)(hv:bootBuiltins x=some u)(h:Q u s)
  (hn:x ≠ "__name__" := by decide) (hd:(x == ("__debug__" : Str))=false:=by decide):wpAny (model X.prog X.w) X.A (eval (.Name x pos) X.env) Q E s:=by
 obtain⟨mb,h1,h2⟩:=I.mod.blt
 exact Calls.Name_function_global I.ok.kind hg (Calls.loadGlobal_builtin (by rw[I.ok.glob]; exact I.mod.glob.keeps I.bk) hm (by rw[I.ok.blt]; exact h1.keeps I.bk) ((h2 x hn).trans hv) h) hd
theorem Bn{x:Str}{v:V}{u:Value}{pos:Pos}(hg:Gl X x)(hm:X.mg x=some u)(r:RelV v u)(hd:(x == ("__debug__" : Str))=false:=by decide):PE X (.Name x pos) (tC v):=
 fun _ _ _ H _ I h=>lg I hg hm ⟨v,H,I,r,h⟩ hd
theorem Bz{x:Str}{v:V}{u:Value}{pos:Pos}(hg:Gl X x)(hm:X.mg x=none)(hv:bootBuiltins x=some u)(r:RelV v u)(hn:x ≠ "__name__" := by decide) (hd:(x == ("__debug__" : Str))=false:=by decide):PE X (.Name x pos) (tC v):=
 fun _ _ _ H _ I h=>hX I hg hm hv ⟨v,H,I,r,h⟩ hn hd
variable{a b:Expr}{ta tb:TE}{pos:Pos}
def tB(t:TE):TT:=fun σ H Q=>t σ H fun x H1=>∃ c,x = .bl c∧Q c H1
theorem dj{e:Expr}{t:TE}(h:PE X e t)(he:∀ whole,isTrue e X.env whole=(do let v ← whole; standAt e.pos; holding [v] (truthy v)):=by intro _; rfl):PT X e (tB t):=by
 intro pins s σ H Q I hw
 refine isTrue_plain (bx (h pins s σ H _ I hw) fun v s1 ⟨x,H1,I1,r1,q1⟩=>?_) (he _)
 obtain⟨d,rfl,q⟩:=q1
 cases r1;exact wpAny_truthy_bool ⟨H1,I1,q⟩
variable{tA tB':TT}{rest:List Expr}
def Cs(t u:TT):TT:=fun σ H Q=>t σ H fun c H1=>if c=true then u σ H1 Q else Q false H1
def Fc(t u:TT):TT:=fun σ H Q=>t σ H fun c H1=>if c=true then Q true H1 else u σ H1 Q
def Df(t:TT):TT:=fun σ H Q=>t σ H fun c H1=>Q (!c) H1
theorem cT(ha:PT X a tA):PW X (.BoolOp .And [a] pos) tA:=by
 intro wh pins s σ H Q I h
 refine isTrue_and (bx (ha pins s σ H Q I h) fun c s1 e=>?_)
 cases c with
 | true=>exact isTrue_and_nil e
 | false=>exact e
theorem km(ha:PT X a tA):PW X (.BoolOp .Or [a] pos) tA:=by
 intro wh pins s σ H Q I h
 refine isTrue_or (bx (ha pins s σ H Q I h) fun c s1 e=>?_)
 cases c with
 | false=>exact isTrue_or_nil e
 | true=>exact e
theorem cB(ha:PT X a tA)(hb:PW X (.BoolOp .And (b::rest) pos) tB'):PW X (.BoolOp .And (a::b::rest) pos) (Cs tA tB'):=by
 intro wh pins s σ H Q I h
 refine isTrue_and (bx (ha pins s σ H _ I h) fun c s1 ⟨H1,I1,q1⟩=>?_)
 cases c with
 | true=>exact hb wh pins s1 σ H1 Q I1 q1
 | false=>exact⟨H1,I1,q1⟩
theorem nD(ha:PT X a tA)(hb:PW X (.BoolOp .Or (b::rest) pos) tB'):PW X (.BoolOp .Or (a::b::rest) pos) (Fc tA tB'):=by
 intro wh pins s σ H Q I h
 refine isTrue_or (bx (ha pins s σ H _ I h) fun c s1 ⟨H1,I1,q1⟩=>?_)
 cases c with
 | true=>exact⟨H1,I1,q1⟩
 | false=>exact hb wh pins s1 σ H1 Q I1 q1
theorem gk(ha:PT X a tA):PT X (.UnaryOp .Not a pos) (Df tA):=by
 intro pins s σ H Q I h
 exact isTrue_not (ha pins s σ H (fun c H1=>Q (!c) H1) I h)
def Av(ta tb:TE):TE:=fun σ H Q=>ta σ H fun x H1=>∃ c,x = .bl c∧if c=true then tb σ H1 Q else Q (.bl false) H1
theorem w4{op}{t:TE}(h:PE X a t):PE X (.BoolOp op [a] pos) t:=fun pins s σ H Q I hw=>BoolOp_one (h pins s σ H Q I hw)
theorem kC(ha:PE X a ta)(hb:PE X (.BoolOp .And (b::rest) pos) tb):PE X (.BoolOp .And (a::b::rest) pos) (Av ta tb):=by
 intro pins s σ H Q I h
 refine BoolOp_and (bx (ha pins s σ H _ I h) fun v s1 ⟨x,H1,I1,r1,q1⟩=>?_)
 obtain⟨c,rfl,q1⟩:=q1
 cases r1;refine wpAny_truthy_bool ?_
 cases c with
 | true=>exact hb pins s1 σ H1 Q I1 q1
 | false=>exact⟨.bl false,H1,I1,rfl,q1⟩
def Cf(t:TT)(ta tb:TE):TE:=fun σ H Q=>t σ H fun c H1=>if c=true then ta σ H1 Q else tb σ H1 Q
theorem fE{c:Expr}(hc:PT X c tA)(ha:PE X a ta)(hb:PE X b tb):PE X (.IfExp c a b pos) (Cf tA ta tb):=by
 intro pins s σ H Q I h
 refine wpAny_IfExp (bx (hc pins s σ H _ I h) fun d s1 ⟨H1,I1,q1⟩=>?_)
 cases d with
 | true=>exact ha pins s1 σ H1 Q I1 q1
 | false=>exact hb pins s1 σ H1 Q I1 q1
end
end L2
namespace L2
open PySem PySem.Spec PyProof.Rows
def SqL(K:PySem.W.Frag)(H:Hp)(a:Addr)(xs:List V):Prop:=
 Rd H a (.lst xs)∨
  ∃ (o:Obj) (its:Array Value) (n:Nat),K.lookup a=some o∧o.cls = .type "list" ∧ o.dict=none∧o.data = .seq its n∧its.size≤sizeLine∧Vals xs its.toList
def SqT(K:PySem.W.Frag)(H:Hp)(a:Addr)(xs:List V):Prop:=
 Rd H a (.tup xs)∨
  ∃ (o:Obj) (its:Array Value) (n:Nat),K.lookup a=some o∧o.cls = .type "tuple" ∧ o.data = .seq its n∧its.size≤sizeLine∧Vals xs its.toList
def GX:Value→Option V
 | .none=>some .non
 | .bool b=>some (.bl b)
 | .int i _=>some (.int i)
 | .str x _=>some (.str x)
 | .bytes b _=>some (.byt b)
 | .float b _=>some (.flt b)
 | .ref a=>some (.ref a)
 | .type n=>some (.ty n)
 | _=>none
theorem RelV.abs{x:V}{u:Value}(r:RelV x u):GX u=some x:=by
 cases x with
 | non=>cases r; rfl
 | bl _=>cases r; rfl
 | int _=>obtain⟨t,rfl⟩:=r; rfl
 | str _=>obtain⟨t,rfl⟩:=r; rfl
 | byt _=>obtain⟨t,rfl⟩:=r; rfl
 | flt _=>obtain⟨t,rfl⟩:=r; rfl
 | ref _=>cases r; rfl
 | ty _=>cases r; rfl
theorem RelV.inj{x y:V}{u:Value}(r:RelV x u)(q:RelV y u):x=y:=Option.some.inj (r.abs.symm.trans q.abs)
theorem Vals.inj:∀ {xs ys:List V} {us:List Value},Vals xs us→Vals ys us→xs=ys
 | _,_,_,.nil,.nil=>rfl
 | _,_,_,.cons r t,.cons r' t'=>by rw[r.inj r',Vals.inj t t']
section
variable{X:Cx}{pins:List (Addr × Obj)}{σ : St}{H:Hp}{s:Shared}{a:Addr}{xs ys:List V}
theorem SqL.of{K:PySem.W.Frag}(h:H a=some (.lst xs)):SqL K H a xs:=.inl (.inl h)
theorem SqT.of{K:PySem.W.Frag}(h:H a=some (.tup xs)):SqT K H a xs:=.inl (.inl h)
theorem Inv.list(I:Inv X pins σ H s)(h:SqL X.K H a xs):∃ its:List Value,Vals xs its∧PlainL s.heap a its.toArray∧xs.length≤sizeLine:=by
 rcases h with h | ⟨o,its,n,hk,hc,hd,hs,hz,r⟩
 ·obtain⟨z,its,n,r,e⟩:=h.ok I.hok
  exact⟨its,r,⟨_,n,e,rfl,rfl,rfl⟩,z⟩
 ·refine⟨its.toList,r,⟨o,n,I.kIn a o hk,hc,hd,by simpa using hs⟩,?_⟩
  have e:=r.length;simp only[Array.length_toList]at e
  omega
theorem Inv.tuple(I:Inv X pins σ H s)(h:SqT X.K H a xs):∃ its:List Value,Vals xs its∧IsTup s.heap a its.toArray∧xs.length≤sizeLine:=by
 rcases h with h | ⟨o,its,n,hk,hc,hs,hz,r⟩
 ·obtain⟨z,its,r,p⟩:=h.ok I.hok
  exact⟨its,r,p.tup,z⟩
 ·refine⟨its.toList,r,⟨o,I.kIn a o hk,hc,n,by simpa using hs⟩,?_⟩
  have e:=r.length;simp only[Array.length_toList]at e
  omega
theorem Inv.list_inj(I:Inv X pins σ H s)(h:SqL X.K H a xs)(h':SqL X.K H a ys):xs=ys:=by
 obtain⟨its,r,⟨o,n,e,_,_,d⟩,_⟩:=I.list h
 obtain⟨its',r',⟨o',n',e',_,_,d'⟩,_⟩:=I.list h'
 rw[e]at e'; cases e'
 rw[d]at d'
 injection d' with d1 _
 have:its=its':=by simpa using congrArg Array.toList d1
 subst this;exact r.inj r'
theorem Inv.tuple_inj(I:Inv X pins σ H s)(h:SqT X.K H a xs)(h':SqT X.K H a ys):xs=ys:=by
 obtain⟨its,r,⟨o,e,_,n,d⟩,_⟩:=I.tuple h
 obtain⟨its',r',⟨o',e',_,n',d'⟩,_⟩:=I.tuple h'
 rw[e]at e'; cases e'
 rw[d]at d'
 injection d' with d1 _
 have:its=its':=by simpa using congrArg Array.toList d1
 subst this;exact r.inj r'
end
abbrev Cx.wish (X:Cx) (E:Value→Shared→Prop):Cx:={ X with xe:=E }
abbrev Cx.nox (X:Cx):Cx:=X.wish fun _ _=>False
theorem Cx.Ok.wish{X:Cx}(ok:X.Ok)(E:Value→Shared→Prop):(X.wish E).Ok:=
 ⟨ok.mod,ok.kind,ok.glob,ok.blt,ok.above,ok.inj,ok.has,ok.cab,ok.hd,ok.frames,ok.stk,ok.exf,ok.bs,ok.bsz,ok.noex,ok.exfs,ok.funs,ok.frf⟩
theorem Cx.Ok.unwish{X:Cx}{E:Value→Shared→Prop}(ok:(X.wish E).Ok):X.Ok:=
 ⟨ok.mod,ok.kind,ok.glob,ok.blt,ok.above,ok.inj,ok.has,ok.cab,ok.hd,ok.frames,ok.stk,ok.exf,ok.bs,ok.bsz,ok.noex,ok.exfs,ok.funs,ok.frf⟩
section
variable{X:Cx}{pins:List (Addr × Obj)}{σ : St}{H:Hp}{s:Shared}{E:Value→Shared→Prop}
theorem Inv.wish(I:Inv X pins σ H s)(E:Value→Shared→Prop):Inv (X.wish E) pins σ H s:=⟨I.ok.wish E,I.os,I.bare,I.base,I.loc,I.cell,I.free,I.freeC,I.pin,I.hok,I.len⟩
theorem Inv.unwish(I:Inv (X.wish E) pins σ H s):Inv X pins σ H s:=⟨I.ok.unwish,I.os,I.bare,I.base,I.loc,I.cell,I.free,I.freeC,I.pin,I.hok,I.len⟩
theorem SP.unwish{D:dO}{f:Flow}{s':Shared}(h:SP (X.wish E) pins D f s'):SP X pins D f s':=by
 cases f with
 | next=>obtain⟨σ',H',I,q⟩:=h; exact⟨σ',H',I.unwish,q⟩
 | brk=>obtain⟨σ',H',I,q⟩:=h; exact⟨σ',H',I.unwish,q⟩
 | cont=>obtain⟨σ',H',I,q⟩:=h; exact⟨σ',H',I.unwish,q⟩
 | ret u=>obtain⟨v,σ',H',I,r,q⟩:=h; exact⟨v,σ',H',I.unwish,r,q⟩
theorem PSs.nox{st:List Stmt}{t:TS}(h:PSs X.nox st t):PSs X st t:=fun pins s σ H D I hw=>
 wpAny_mono (h pins s σ H D (I.wish _) hw) (fun _ _ q=>q.unwish) fun _ _ z=>False.elim z
end
section
variable{X:Cx}{st:Stmt}{rest:List Stmt}{t u:TS}{e:Expr}{te:TE}{pos:Pos}
def Aj:TS:=fun D σ H=>D.nx σ H
def uW(t u:TS):TS:=fun D σ H=>t { D with nx:=u D } σ H
theorem aY:PSs X [] Aj:=fun _ _ σ H _ I h=>wpAny_execs_nil ⟨σ,H,I,h⟩
theorem ai(h1:PS X st t)(h2:PSs X rest u):PSs X (st::rest) (uW t u):=by
 intro pins s σ H D I h
 refine wpAny_execs_cons (bx (h1 pins s σ H { D with nx:=u D } I h) fun f s1 q=>?_)
 cases f with
 | next=>
  obtain⟨σ',H',I',q⟩:=q
  exact h2 pins s1 σ' H' D I' q
 | ret v=>exact q
 | brk=>exact q
 | cont=>exact q
theorem aj(h1:PS X st t):PSs X [st] t:=by
 intro pins s σ H D I h
 refine wpAny_execs_cons (bx (h1 pins s σ H D I h) fun f s1 q=>?_)
 cases f with
 | next=>exact wpAny_execs_nil q
 | ret v=>exact q
 | brk=>exact q
 | cont=>exact q
theorem Inv.quiet{pins:List (Addr × Obj)}{σ : St}{H:Hp}{s:Shared}(I:Inv X pins σ H s):interactive X.env=false:=by simp[interactive,I.ok.kind]
def zX(te:TE):TS:=fun D σ H=>te σ H fun _ H1=>D.nx σ H1
theorem bJ(he:PE X e te)(hs:swapsWith e none pos.line X.env=pure false:=by rfl):PS X (.Expr e pos) (zX te):=by
 intro pins s σ H D I h
 exact wpAny_Expr_any (bx (he pins s σ H _ I h) fun v s1 ⟨x,H1,I1,r1,q1⟩=>⟨σ,H1,I1,q1⟩) I.quiet hs
def nZ(te:TE):TS:=fun D σ H=>te σ H D.rt
theorem az(he:PE X e te):PS X (.Return (some e) pos) (nZ te):=by
 intro pins s σ H D I h
 exact wpAny_Return_some (bx (he pins s σ H _ I h) fun v s1 ⟨x,H1,I1,r1,q1⟩=>⟨x,σ,H1,I1,r1,q1⟩)
def CQ(c:TT)(t u:TS):TS:=fun D σ H=>c σ H fun b H1=>if b=true then t D σ H1 else u D σ H1
theorem bj{c:Expr}{a b:List Stmt}{tc:TT}(hc:PT X c tc)(ha:PSs X a t)(hb:PSs X b u):PS X (.If c a b pos) (CQ tc t u):=by
 intro pins s σ H D I h
 refine wpAny_If (bx (hc pins s σ H _ I h) fun d s1 ⟨H1,I1,q1⟩=>?_)
 cases d with
 | true=>exact ha pins s1 σ H1 D I1 q1
 | false=>exact hb pins s1 σ H1 D I1 q1
end
abbrev TG:=V→St→Hp→(St→Hp→Prop)→Prop
abbrev fC:=List V→St→Hp→(St→Hp→Prop)→Prop
def PG(X:Cx)(target:Expr)(t:TG):Prop:=
 ∀ (pins:List (Addr × Obj)) (s:Shared) (σ : St) (H:Hp) (v:V) (u:Value) (Q:St→Hp→Prop),Inv X pins σ H s→RelV v u→t v σ H Q→
  wpAny (model X.prog X.w) X.A (assign target X.env u) (fun _ s'=>∃ σ' H',Inv X pins σ' H' s'∧Q σ' H') X.xe s
def PGs(X:Cx)(ts:List Expr)(t:fC):Prop:=
 ∀ (pins:List (Addr × Obj)) (s:Shared) (σ : St) (H:Hp) (vs:List V) (us:List Value) (Q:St→Hp→Prop),Inv X pins σ H s→Vals vs us→t vs σ H Q→
  wpAny (model X.prog X.w) X.A (assignInOrder ((assignEach ts X.env).map (·.2)) us) (fun _ s'=>∃ σ' H',Inv X pins σ' H' s'∧Q σ' H') X.xe s
abbrev lM:=V→V→V→Hp→(Hp→Prop)→Prop
def PSet(X:Cx)(t:lM):Prop:=
 ∀ (pins:List (Addr × Obj)) (s:Shared) (σ : St) (H:Hp) (o i v:V) (ov iv u:Value) (Q:Hp→Prop),Inv X pins σ H s→RelV o ov→RelV i iv→RelV v u→t o i v H Q→
  wpAny (model X.prog X.w) X.A (setItem ov iv u) (fun _ s'=>∃ H',Inv X pins σ H' s'∧Q H') X.xe s
section
variable{X:Cx}{pos:Pos}
def fZ(i:Nat):TG:=fun v σ H Q=>Q (σ.set i (some v)) H
theorem A8{i:Nat}{x:Str}(hN:X.N.Nodup)(hi:X.N[i]? = some x)(hx:aG X.env.scope x)(hf:X.fn x=true∨X.env.scope.names.lookup x=some .local:=by first | exact .inl rfl | exact .inr rfl | assumption):PG X (.Name x pos) (fZ i):=by
 intro pins s σ H v u Q I r h
 exact wpAny_assign_Name (oo I hN hi hx r (fun s' I'=>⟨_,H,I',h⟩) hf)
def tX:fC:=fun vs σ H Q=>vs=[]∧Q σ H
def nO(t:TG)(u:fC):fC:=fun vs σ H Q=>∃ v r,vs=v::r∧t v σ H fun σ' H'=>u r σ' H' Q
theorem hG:PGs X [] tX:=by
 intro pins s σ H vs us Q I r h
 obtain⟨e,h⟩:=h
 subst e
 cases r;exact assignInOrder_nil ⟨σ,H,I,h⟩
theorem cW{e:Expr}{es:List Expr}{t:TG}{u:fC}(h1:PG X e t)(h2:PGs X es u)
  (hs:(assignEach (e::es) X.env).map (·.2)=assign e X.env::(assignEach es X.env).map (·.2):=by rfl):PGs X (e::es) (nO t u):=by
 intro pins s σ H vs us Q I r h
 obtain⟨v,vr,e1,h⟩:=h
 subst e1
 cases r with
 | cons r rr=>
  rw[hs];refine assignInOrder_cons (bx (h1 pins s σ H _ _ _ I r h) fun _ s1 ⟨σ1,H1,I1,q1⟩=>?_)
  exact h2 pins s1 σ1 H1 _ _ Q I1 rr q1
def tO(K:PySem.W.Frag)(n:Nat)(t:fC):TG:=fun v σ H Q=>∃ a xs,v = .ref a∧SqT K H a xs∧xs.length=n∧t xs σ H Q
theorem D7{es:List Expr}{k:Nat}{t:fC}{n:Nat}(hc:X.calm=true)(h:PGs X es t)
  (hn:(assignEach es X.env).length=n:=by rfl) (hst:(assignEach es X.env).findIdx? (·.1)=none:=by rfl):PG X (.Tuple es k pos) (tO X.K n t):=by
 intro pins s σ H v u Q I r hw
 obtain⟨a,xs,e1,hq,hl,hw⟩:=hw
 subst e1
 cases r;obtain⟨its,rv,ht,hz⟩:=I.tuple hq
 refine assign_Tuple_tuple (I.ok.hd hc) ht (by simp[hn,← hl,rv.length]) hst fun h' hx=>?_
 have I1:Inv X pins σ H { s with heap:=h' }:=I.kept (t':=s.toks) fun b o e=>hx b o (Nat.ne_of_lt (Heap.lt_size e)) e
 exact h pins _ σ H xs _ Q I1 (by simpa using rv) hw
def Cm(to ti:TE)(t:lM):TG:=fun v σ H Q=>to σ H fun o H1=>ti σ H1 fun i H2=>t o i v H2 fun H3=>Q σ H3
theorem jc{o i:Expr}{to ti:TE}{t:lM}(ho:PE X o to)(hi:PE X i ti)(hs:PSet X t)
  (ha:∀ v,assign (.Subscript o i pos) X.env v=(do
   let ov ← holding [v] (eval o X.env)
   let iv ← holding [v,ov] (eval i X.env)
   standAt pos
   holding [v,ov,iv] (setItem ov iv v)
   release [v,ov,iv] []):=by intro _; rfl):PG X (.Subscript o i pos) (Cm to ti t):=by
 intro pins s σ H v u Q I r h
 rw[ha];refine wpAny_bind (wpAny_holding (bx (ho pins s σ H _ I h) fun ov s1 ⟨x,H1,I1,r1,q1⟩=>?_))
 refine wpAny_bind (wpAny_holding (bx (hi pins s1 σ H1 _ I1 q1) fun iv s2 ⟨y,H2,I2,r2,q2⟩=>?_))
 refine wpAny_bind (wpAny_standAt (wpAny_bind (wpAny_holding (bx (hs pins s2 σ H2 x y v ov iv u _ I2 r1 r2 r q2) fun _ s3 ⟨H3,I3,q3⟩=>?_))))
 exact wpAny_release ⟨σ,H3,I3,q3⟩
def lX(te:TE)(g:TG):TS:=fun D σ H=>te σ H fun x H1=>g x σ H1 D.nx
theorem gU{tg e:Expr}{te:TE}{g:TG}(he:PE X e te)(hg:PG X tg g)(hs:swapsWithSole [tg] e pos.line X.env=pure false:=by rfl)(hw:swappedStores [tg] e X.env=pure none:=by rfl)
  (h1:(assignEach [tg] X.env).map (·.2)=[assign tg X.env]:=by rfl):PS X (.Assign [tg] e pos) (lX te g):=by
 intro pins s σ H D I h
 refine wpAny_Assign_stores (bx (he pins s σ H _ I h) fun v s1 ⟨x,H1,I1,r1,q1⟩=>?_) hs hw
 rw[h1];exact bx (hg pins s1 σ H1 x v _ I1 r1 q1) fun _ s2 q=>q
theorem Ek{i:Nat}{x:Str}{e:Expr}{te:TE}{pos':Pos}(hN:X.N.Nodup)(hi:X.N[i]? = some x)(hx:aG X.env.scope x)(he:PE X e te)(hs:swapsWith e (some (.Name x pos')) pos.line X.env=pure false:=by rfl)(hf:X.fn x=true∨X.env.scope.names.lookup x=some .local:=by first | exact .inl rfl | exact .inr rfl | assumption) :
  PS X (.Assign [.Name x pos'] e pos) (lX te (fZ i)):=by
 intro pins s σ H D I h
 refine wpAny_Assign_Name (bx (he pins s σ H _ I h) fun v s1 ⟨y,H1,I1,r1,q1⟩=>?_) hs
 exact oo I1 hN hi hx r1 (fun s2 I2=>⟨_,H1,I2,q1⟩) hf
end
section
variable{X:Cx}{pos:Pos}
def CA(c:TT)(tb:TS):TS:=fun D σ H=>∃ W:Nat→St→Hp→Prop,(∃ m,W m σ H)∧∀ m σ H,W m σ H→
 c σ H fun b H1=>if b=true then ∃ N:St→Hp→Prop,(∀ σ' H',N σ' H'→∃ m',m'<m∧W m' σ' H')∧tb { D with nx:=N,ct:=N,bk:=D.nx } σ H1 else D.nx σ H1
theorem yr{c:Expr}{body:List Stmt}{tc:TT}{tb:TS}(hp:PassesOwn (model X.prog X.w) X.A X.env X.xe)(hc:PT X c tc)(hb:PSs X body tb):PS X (.While c body [] pos) (CA tc tb):=by
 intro pins s σ H D I h
 obtain⟨W,⟨m0,w0⟩,turn⟩:=h
 refine wpAny_While (codeAny_whileLoop (fun n s'=>∃ σ' H',Inv X pins σ' H' s'∧W n σ' H') ?_ m0 ⟨σ,H,I,w0⟩)
 rintro n s1 ⟨σ1,H1,I1,w1⟩
 refine wpAny_passesOwn hp (bx (hc pins s1 σ1 H1 _ I1 (turn n σ1 H1 w1)) fun b s2 ⟨H2,I2,q2⟩=>?_)
 cases b with
 | true=>
  obtain⟨N,hN,q2⟩:=q2
  rw[if_pos rfl];refine wpAny_passesOwn hp (bx (hb pins s2 σ1 H2 _ I2 q2) fun f s3 q3=>?_)
  cases f with
  | next=>
   obtain⟨σ3,H3,I3,n3⟩:=q3
   obtain⟨m',hm,w3⟩:=hN σ3 H3 n3
   exact⟨m',hm,σ3,H3,I3,w3⟩
  | cont=>
   obtain⟨σ3,H3,I3,n3⟩:=q3
   obtain⟨m',hm,w3⟩:=hN σ3 H3 n3
   exact⟨m',hm,σ3,H3,I3,w3⟩
  | brk=>exact q3
  | ret v=>exact q3
 | false=>
  rw[if_neg Bool.false_ne_true];exact wpAny_execs_nil ⟨σ1,H2,I2,q2⟩
end
set_option genInjectivity false in
set_option genSizeOf false in
structure It where
 go:Nat→Hp→Prop
 yld:Nat→Hp→V→Hp→Prop
 stop:Nat→Hp→Prop
def gD(X:Cx)(pins:List (Addr × Obj))(H:Hp)(b:Addr):Prop:=
 H b=none∧b≠X.env.locals∧b∉X.fs∧(b∈X.ex∨X.s₀.heap.objs.size≤b)∧(∀ x c,X.env.cells.lookup x=some c→c≠b)∧∀ p∈X.pn++pins,p.1≠b
theorem Inv.fpOk{X:Cx}{pins:List (Addr × Obj)}{σ : St}{H H':Hp}{s:Shared}{b:Addr}(I:Inv X pins σ H s)(hb:s.heap.objs.size≤b)(hn:H' b=none):gD X pins H' b:=by
 refine⟨hn,Nat.ne_of_gt (Nat.lt_of_lt_of_le I.lt hb),I.nofs hb,.inr (Nat.le_trans I.sz hb),fun x c e z=>?_,fun p hp z=>?_⟩
 ·obtain⟨v,q⟩:=I.cell x c e
  exact absurd (Nat.lt_of_lt_of_le q.lt (by rw[z]; exact hb)) (Nat.lt_irrefl _)
 ·exact absurd (Nat.lt_of_lt_of_le (Heap.lt_size (I.pin p hp).1) (by rw[z]; exact hb)) (Nat.lt_irrefl _)
structure jZ (P:Program) (w:World) (K:PySem.W.Frag) (tg:Expr) (J:It) (fp:List Addr) (it:Addr) (tn:Nat→Heap→Prop):Prop where
 mem:it∈fp
 obj:∀ i h,tn i h→∀ b∈fp,∃ o,h.get? b=some o∧∀ v,o.data ≠ .cell v
 keep:∀ i h h',tn i h→(∀ b∈fp,∀ o,h.get? b=some o→h'.get? b=some o)→tn i h'
 item:∀ (X:Cx),X.prog=P→X.w=w→X.K=K→X.calm=true→∀ (i:Nat) (pins:List (Addr × Obj)) (s:Shared) (σ : St) (H:Hp) (E:Value→Shared→Prop),Inv X pins σ H s→(∀ b∈fp,gD X pins H b)→tn i s.heap→J.go i H→
  wpAny (model P w) X.A (pyNext (.ref it)) (fun r s1=>∃ u,r=some u∧
   wpAny (model P w) X.A (letOwnedTupleGo tg (.ref it) u) (fun _ s2=>∃ x H',Inv X pins σ H' s2∧RelV x u∧J.yld i H x H'∧tn (i+1) s2.heap∧∀ b∈fp,H' b=none) E s1) E s
 done:∀ (X:Cx),X.prog=P→X.w=w→X.K=K→X.calm=true→∀ (i:Nat) (pins:List (Addr × Obj)) (s:Shared) (σ : St) (H:Hp) (E:Value→Shared→Prop),Inv X pins σ H s→(∀ b∈fp,gD X pins H b)→tn i s.heap→J.stop i H→
  wpAny (model P w) X.A (pyNext (.ref it)) (fun r s1=>r=none∧Inv X pins σ H s1) E s
 self:∀ (A:Around) (i:Nat) (s:Shared) (Q:Value→Shared→Prop) (E:Value→Shared→Prop),tn i s.heap→Q (.ref it) s→wpAny (model P w) A (pyIter (.ref it)) Q E s
abbrev TI:=St→Hp→(It→Hp→Prop)→Prop
def Fd(X:Cx)(pins:List (Addr × Obj))(σ : St)(tg:Expr)(R:It→Hp→Prop)(itv:Value)(s2:Shared):Prop:=
 ∃ (it:Addr) (fp:List Addr) (tn:Nat→Heap→Prop) (J:It) (H':Hp),itv = .ref it∧Inv X pins σ H' s2∧jZ X.prog X.w X.K tg J fp it tn∧tn 0 s2.heap∧(∀ b∈fp,gD X pins H' b)∧R J H'
def PI(X:Cx)(tg iter:Expr)(wi:TI):Prop:=
 ∀ (pins:List (Addr × Obj)) (s:Shared) (σ : St) (H:Hp) (R:It→Hp→Prop),Inv X pins σ H s→wi σ H R→
  wpAny (model X.prog X.w) X.A (eval iter X.env) (fun v s1=>wpAny (model X.prog X.w) X.A (pyIter v) (Fd X pins σ tg R) X.xe s1) X.xe s
theorem tL{M:Model}{A:Around}{E:Value→Shared→Prop}{s:Shared}{tg:Expr}{it:Addr}{u:Value}{o:Obj}{n:String}{vs:Array Value}{Q:Unit→Shared→Prop}(ho:s.heap.get? it=some o)(hc:o.cls = .type n)(hd:o.data = .fields vs)
    (hn:["enumerate", "zip", "dict_itemiterator", "dict_reverseitemiterator", "odict_iterator", "itertools.zip_longest", "itertools.pairwise"].contains n=false) (hQ:Q () s):wpAny M A (letOwnedTupleGo tg (.ref it) u) Q E s:=by
  unfold letOwnedTupleGo
  cases tg <;> first
    | exact wpAny_pure hQ
    | (cases u <;> first
        | exact wpAny_pure hQ
        | (refine wpAny_bind (wpAny_load ho ?_)
           rw[hc,hd];show wpAny M A (if (["enumerate", "zip", "dict_itemiterator", "dict_reverseitemiterator", "odict_iterator", "itertools.zip_longest", "itertools.pairwise"].contains n&&vs[0]? == some (rawInt _))=true then _ else _) Q E s
           rw[if_neg (by intro h; rw[hn,Bool.false_and]at h; cases h)]
           exact wpAny_pure hQ))
def kz(K:PySem.W.Frag)(a:Addr):It:=
 ⟨fun i H=>∃ xs x,SqL K H a xs∧xs[i]? = some x,fun i H x H'=>H'=H∧∀ xs,SqL K H a xs→xs[i]? = some x,fun i H=>∃ xs,SqL K H a xs∧xs.length≤i⟩
def tu(K:PySem.W.Frag)(a:Addr):It:=
 ⟨fun i H=>∃ xs x,SqT K H a xs∧xs[i]? = some x,fun i H x H'=>H'=H∧∀ xs,SqT K H a xs→xs[i]? = some x,fun i H=>∃ xs,SqT K H a xs∧xs.length≤i⟩
def kE(lo:Int)(n:Nat):It:=⟨fun i _=>i<n,fun i H x H'=>H'=H∧x = .int (lo+i),fun i _=>n≤i⟩
theorem xQ{P:Program}{w:World}{K:PySem.W.Frag}{tg:Expr}(a it:Addr):jZ P w K tg (kz K a) [it] it (fun i h=>h.IsListIter it a i) where
 mem:=by simp
 obj:=fun i h st b hb=>by
  have e:b=it:=by simpa using hb
  subst e;obtain⟨o,e,c,d⟩:=st
  exact⟨o,e,fun v z=>by rw[d]at z; cases z⟩
 keep:=fun i h h' st k=>st.at fun o e=>k it (by simp) o e
 item:=by
  intro X hP hw hK hc i pins s σ H E I hf st hg
  subst hP hw hK;obtain⟨xs,x,hq,hx⟩:=hg
  obtain⟨its,rv,p,hz⟩:=I.list hq
  obtain⟨u,hu,ru⟩:=rv.get hx
  obtain⟨f0,f1,f2,f3,f4,f5⟩:=hf it (by simp)
  refine wpAny_pyNext_list_item st p.isList (x:=u) (by simpa using hu) fun h' st' sb=>?_
  have I1:Inv X pins σ H { s with heap:=h' }:=I.turned (t':=s.toks) (fun b o hb e=>(sb.2 b hb).trans e) f0 f1 f3 f4 f5
  obtain⟨o,e,c,d⟩:=id st'
  exact⟨u,rfl,tL (s:={ s with heap:=h' }) e c d (by decide) ⟨x,H,I1,ru,⟨rfl,fun ys hy=>by rw[I.list_inj hy hq]; exact hx⟩,st',fun b hb=>(hf b hb).1⟩⟩
 done:=by
  intro X hP hw hK hc i pins s σ H E I hf st hg
  subst hP hw hK;obtain⟨xs,hq,hx⟩:=hg
  obtain⟨its,rv,p,hz⟩:=I.list hq
  obtain⟨f0,f1,f2,f3,f4,f5⟩:=hf it (by simp)
  have hl:=rv.length;exact wpAny_pyNext_list_end (I.ok.hd hc) st p.isList (by simp; omega) fun h' eb=>⟨rfl,I.turned (t':=s.toks) (fun b o hb e=>eb b o hb e) f0 f1 f3 f4 f5⟩
 self:=fun _ _ _ _ _ st h=>wpAny_pyIter_listiter st h
theorem uY{P:Program}{w:World}{K:PySem.W.Frag}{tg:Expr}(a it:Addr):jZ P w K tg (tu K a) [it] it (fun i h=>h.IsTupleIter it a i) where
 mem:=by simp
 obj:=fun i h st b hb=>by
  have e:b=it:=by simpa using hb
  subst e;obtain⟨o,e,c,d⟩:=st
  exact⟨o,e,fun v z=>by rw[d]at z; cases z⟩
 keep:=fun i h h' st k=>st.at fun o e=>k it (by simp) o e
 item:=by
  intro X hP hw hK hc i pins s σ H E I hf st hg
  subst hP hw hK;obtain⟨xs,x,hq,hx⟩:=hg
  obtain⟨its,rv,p,hz⟩:=I.tuple hq
  obtain⟨u,hu,ru⟩:=rv.get hx
  obtain⟨f0,f1,f2,f3,f4,f5⟩:=hf it (by simp)
  refine wpAny_pyNext_tuple_item st (show s.heap.IsTuple a its.toArray from p) (x:=u) (by simpa using hu) fun h' st' sb=>?_
  have I1:Inv X pins σ H { s with heap:=h' }:=I.turned (t':=s.toks) (fun b o hb e=>(sb.2 b hb).trans e) f0 f1 f3 f4 f5
  obtain⟨o,e,c,d⟩:=id st'
  exact⟨u,rfl,tL (s:={ s with heap:=h' }) e c d (by decide) ⟨x,H,I1,ru,⟨rfl,fun ys hy=>by rw[I.tuple_inj hy hq]; exact hx⟩,st',fun b hb=>(hf b hb).1⟩⟩
 done:=by
  intro X hP hw hK hc i pins s σ H E I hf st hg
  subst hP hw hK;obtain⟨xs,hq,hx⟩:=hg
  obtain⟨its,rv,p,hz⟩:=I.tuple hq
  obtain⟨f0,f1,f2,f3,f4,f5⟩:=hf it (by simp)
  have hl:=rv.length;exact wpAny_pyNext_tuple_end (I.ok.hd hc) st (show s.heap.IsTuple a its.toArray from p) (by simp; omega) fun h' eb=>⟨rfl,I.turned (t':=s.toks) (fun b o hb e=>eb b o hb e) f0 f1 f3 f4 f5⟩
 self:=fun _ _ _ _ _ st h=>wpAny_pyIter_tupleiter st h
theorem vx{P:Program}{w:World}{K:PySem.W.Frag}{tg:Expr}(it:Addr)(lo:Int)(n:Nat):jZ P w K tg (kE lo n) [it] it (fun i h=>IsRangeIter h it (lo+(i:Nat) * 1) ((n:Int) - (i:Nat)) 1) where
 mem:=by simp
 obj:=fun i h st b hb=>by
  have e:b=it:=by simpa using hb
  subst e
  exact⟨_,st,fun v z=>by
   have z':Data.fields _=Data.cell v:=z
   cases z'⟩
 keep:=fun i h h' st k=>k it (by simp) _ st
 item:=by
  intro X hP hw hK hc i pins s σ H E I hf st hg
  subst hP hw hK;obtain⟨f0,f1,f2,f3,f4,f5⟩:=hf it (by simp)
  have W:=Walks.range (prog:=X.prog) (w:=X.w) (I.ok.hd hc) it lo 1 n;refine W.item i s _ _ hg st fun v h' tk hv st' kk=>?_
  obtain⟨t,rfl⟩:=hv
  have I1:Inv X pins σ H { s with heap:=h',toks:=tk }:=I.turned (fun b o hb e=>kk b o (by simpa using hb) e) f0 f1 f3 f4 f5
  refine⟨_,rfl,tL (s:={ s with heap:=h',toks:=tk }) (n := "range_iterator") st' rfl rfl (by decide) ⟨.int (lo+i),H,I1,⟨t,?_⟩,⟨rfl,rfl⟩,st',fun b hb=>(hf b hb).1⟩⟩
  rw[Int.mul_one]
 done:=by
  intro X hP hw hK hc i pins s σ H E I hf st hg
  subst hP hw hK;obtain⟨f0,f1,f2,f3,f4,f5⟩:=hf it (by simp)
  exact wpAny_pyNext_range_end (I.ok.hd hc) st (by have:n≤i:=hg; omega) fun h' eb=>⟨rfl,I.turned (t':=s.toks) (fun b o hb e=>eb b o hb e) f0 f1 f3 f4 f5⟩
 self:=fun _ _ _ _ _ st h=>wpAny_pyIter_rangeiter st h
end L2
namespace L2
open PySem PySem.Spec PyProof.Rows
section
variable{X:Cx}{tg:Expr}
def uj(K:PySem.W.Frag)(tl:TE):TI:=fun σ H R=>tl σ H fun x H1=>∃ a,x = .ref a∧(∃ xs,SqL K H1 a xs)∧R (kz K a) H1
def yj(K:PySem.W.Frag)(tl:TE):TI:=fun σ H R=>tl σ H fun x H1=>∃ a,x = .ref a∧(∃ xs,SqT K H1 a xs)∧R (tu K a) H1
theorem By{l:Expr}{tl:TE}(hl:PE X l tl):PI X tg l (uj X.K tl):=by
 intro pins s σ H R I h
 refine bx (hl pins s σ H _ I h) fun v s1 ⟨x,H1,I1,r1,q1⟩=>?_
 obtain⟨a,e,⟨xs,hq⟩,q⟩:=q1
 subst e
 cases r1;obtain⟨its,rv,p,hz⟩:=I1.list hq
 refine wpAny_pyIter_list p.isList ?_
 refine⟨s1.heap.objs.size,[s1.heap.objs.size],_,_,H1,rfl,I1.kept (t':=s1.toks) fun b o e=>Heap.get?_push_of_some _ e,xQ a _,⟨_,Heap.get?_push_size _ rfl,rfl,rfl⟩,fun b hb=>?_,q⟩
 have e:b=s1.heap.objs.size:=by simpa using hb
 subst e;exact I1.fpOk (Nat.le_refl _) (I1.hok.fresh (Nat.le_refl _))
theorem DE{l:Expr}{tl:TE}(hl:PE X l tl):PI X tg l (yj X.K tl):=by
 intro pins s σ H R I h
 refine bx (hl pins s σ H _ I h) fun v s1 ⟨x,H1,I1,r1,q1⟩=>?_
 obtain⟨a,e,⟨xs,hq⟩,q⟩:=q1
 subst e
 cases r1;obtain⟨its,rv,p,hz⟩:=I1.tuple hq
 refine wpAny_pyIter_tuple (show s1.heap.IsTuple a its.toArray from p) ?_
 refine⟨s1.heap.objs.size,[s1.heap.objs.size],_,_,H1,rfl,I1.kept (t':=s1.toks) fun b o e=>Heap.get?_push_of_some _ e,uY a _,⟨_,Heap.get?_push_size _ rfl,rfl,rfl⟩,fun b hb=>?_,q⟩
 have e:b=s1.heap.objs.size:=by simpa using hb
 subst e;exact I1.fpOk (Nat.le_refl _) (I1.hok.fresh (Nat.le_refl _))
theorem yD{pins:List (Addr × Obj)}{σ : St}{H:Hp}{s:Shared}{R:It→Hp→Prop}{E:Value→Shared→Prop}{lo hi:Int}{t u v:Tok}{tk:Nat}(I:Inv X pins σ H s)(h1:-(2 ^ 62)≤lo)(h2:lo<2 ^ 62)(h3:-(2 ^ 62)≤hi)(h4:hi<2 ^ 62)
  (q:R (kE lo (hi - lo).toNat) H):wpAny (model X.prog X.w) X.A (pyIter (.ref s.heap.objs.size)) (Fd X pins σ tg R) E { s with heap:=s.heap.push { cls:=.type "range", data:=.fields #[.int lo t,.int hi u,.int 1 v] },toks:=tk }:=by
 refine wpAny_pyIter_range (IsRange.new ..) (small_one h1 h2 h3 h4) ?_
 have I1:Inv X pins σ H { s with heap:=s.heap.push { cls:=.type "range", data:=.fields #[.int lo t,.int hi u,.int 1 v] },toks:=tk }:=I.kept fun b o e=>Heap.get?_push_of_some _ e
 refine⟨(s.heap.push { cls:=.type "range", data:=.fields #[.int lo t,.int hi u,.int 1 v] }).objs.size,[(s.heap.push { cls:=.type "range", data:=.fields #[.int lo t,.int hi u,.int 1 v] }).objs.size],_,_,H,rfl,
  I1.kept (t':=tk) fun b o e=>Heap.get?_push_of_some _ e,vx _ lo (hi - lo).toNat,?_,fun b hb=>?_,q⟩
 ·have e1:lo+((0:Nat):Int) * 1=lo:=by simp
  have e2:(((hi - lo).toNat:Nat):Int) - ((0:Nat):Int)=Builtin.Range.rangeSize lo hi 1:=by rw[rangeSize_one]; split <;> omega
  show IsRangeIter _ _ (lo+((0:Nat):Int) * 1) ((((hi - lo).toNat:Nat):Int) - ((0:Nat):Int)) 1
  rw[e1,e2];exact Heap.get?_push_size _ rfl
 ·have e:b=(s.heap.push { cls:=.type "range", data:=.fields #[.int lo t,.int hi u,.int 1 v] }).objs.size:=by simpa using hb
  subst e;exact I1.fpOk (Nat.le_refl _) (I1.hok.fresh (Nat.le_refl _))
def Ae(ta:TA):TI:=fun σ H R=>ta σ H fun vs H1=>∃ j:Int,vs=[.int j]∧-(2 ^ 62)≤j∧j<2 ^ 62∧R (kE 0 j.toNat) H1
theorem de{a:Expr}{ta:TA}{p pos:Pos}(hg:Gl X "range") (hm:X.mg "range" = none) (ha:PA X [a] ta) (hs:starEach [a] X.env=[(false,eval a X.env)]:=by rfl):PI X tg (.Call (.Name "range" p) [a] [] pos) (Ae ta):=by
 intro pins s σ H R I h
 refine Call_ (hX I hg hm boot_range (PyProof.Rows.callWith_type1 (bx (ha pos pins s σ H _ I h) fun us s1 ⟨vs,H1,I1,r1,q1⟩=>?_) hs rfl))
 obtain⟨j,e,q1,q2,q⟩:=q1
 subst e
 cases r1 with
 | cons r rr=>
  cases rr;obtain⟨t,rfl⟩:=r
  exact call_range_1 (yD I1 (by omega) (by omega) q1 q2 (by simpa using q))
def DC(wi:TI)(g:TG)(tb:TS):TS:=fun D σ H=>wi σ H fun J H1=>∃ W:Nat→Nat→St→Hp→Prop,(∃ m,W 0 m σ H1)∧∀ i m σ H,W i m σ H→
 (J.stop i H∧D.nx σ H)∨(J.go i H∧∃ N:St→Hp→Prop,(∀ σ' H',N σ' H'→∃ m',m'<m∧W (i+1) m' σ' H')∧∀ x H',J.yld i H x H'→g x σ H' fun σ2 H2=>tb { D with nx:=N,ct:=N,bk:=D.nx } σ2 H2)
def je(fp:List Addr)(h:Heap):List (Addr × Obj):=fp.filterMap fun b=>(h.get? b).map fun o=>(b,o)
theorem fX{fp:List Addr}{h:Heap}{b:Addr}{o:Obj}(hb:b∈fp)(e:h.get? b=some o):(b,o)∈je fp h:=List.mem_filterMap.mpr ⟨b,hb,by rw[e]; rfl⟩
theorem xM{fp:List Addr}{h:Heap}{p:Addr × Obj}(hp:p∈je fp h):p.1∈fp∧h.get? p.1=some p.2:=by
 obtain⟨b,hb,e⟩:=List.mem_filterMap.mp hp
 cases q:h.get? b with
 | none=>rw[q]at e; cases e
 | some o=>
  rw[q]at e
  have e':(b,o)=p:=Option.some.inj e
  subst e';exact⟨hb,q⟩
theorem Inv.pinned{pins:List (Addr × Obj)}{σ : St}{H:Hp}{s:Shared}{fp:List Addr}(I:Inv X pins σ H s)(hf:∀ b∈fp,gD X pins H b)(ho:∀ b∈fp,∃ o,s.heap.get? b=some o∧∀ v,o.data ≠ .cell v):Inv X (pins++je fp s.heap) σ H s:=
 I.pins_of fun p hp=>(List.mem_append.mp hp).elim (fun z=>I.pin p (List.mem_append_right _ z)) fun z=>by
  obtain⟨hb,e⟩:=xM z
  obtain⟨f0,f1,f2,_⟩:=hf p.1 hb
  obtain⟨o,e',d⟩:=ho p.1 hb
  rw[e]at e'; cases e'
  exact⟨e,f0,f1,f2,d⟩
theorem Inv.unpinned{pins pl:List (Addr × Obj)}{σ : St}{H:Hp}{s:Shared}(I:Inv X (pins++pl) σ H s):Inv X pins σ H s:=I.pins_of fun p hp=>I.pin p (List.mem_append_right _ (List.mem_append_left _ hp))
theorem b_{iter:Expr}{body:List Stmt}{wi:TI}{g:TG}{tb:TS}{pos:Pos}(hp:PassesOwn (model X.prog X.w) X.A X.env X.xe)(hc:X.calm=true)(hi:PI X tg iter wi)(hg:PG X tg g)(hb:PSs X body tb)
  (hs:∀ x,foldedSetIterable iter X.env x=pure x:=by intro _; rfl):PS X (.For tg iter body [] pos) (DC wi g tb):=by
 intro pins s σ H D I h
 refine wpAny_For (bx (hi pins s σ H _ I h) fun v s1 h1=>bx h1 fun itv s2 h2=>?_) hs
 obtain⟨it,fp,tn,J,H2,e,I2,T,st2,f2,W,⟨m0,w0⟩,turn⟩:=h2
 subst e
 -- what stays true of the iterator's objects through the loop
 have stat:∀ {H':Hp},(∀ b∈fp,H' b=none)→∀ b∈fp,gD X pins H' b:=fun hn b hb=>⟨hn b hb,(f2 b hb).2⟩
 refine codeAny_forLoop_any (fun n s'=>∃ i σ' H',Inv X pins σ' H' s'∧tn i s'.heap∧(∀ b∈fp,H' b=none)∧W i n σ' H') ?_ m0 ⟨0,σ,H2,I2,st2,fun b hb=>(f2 b hb).1,w0⟩
 rintro n s3 ⟨i,σ3,H3,I3,st3,fr3,w3⟩
 rcases turn i n σ3 H3 w3 with ⟨stop,qn⟩ | ⟨go,N,hN,step⟩
 ·refine wpAny_passesOwn hp (bx (T.done X rfl rfl rfl hc i pins s3 σ3 H3 X.xe I3 (stat fr3) st3 stop) fun r s4 ⟨hr,I4⟩=>?_)
  subst hr;exact wpAny_execs_nil ⟨σ3,H3,I4,qn⟩
 ·refine wpAny_passesOwn hp (bx (T.item X rfl rfl rfl hc i pins s3 σ3 H3 X.xe I3 (stat fr3) st3 go) fun r s4 ⟨u,hr,h4⟩=>?_)
  subst hr;refine wpAny_passesOwn hp (bx h4 fun _ s5 ⟨x,H5,I5,r5,y5,st5,fr5⟩=>?_)
  have I5':=I5.pinned (stat fr5) (T.obj _ _ st5);refine wpAny_passesOwn hp (bx (hg _ s5 σ3 H5 x u _ I5' r5 (step x H5 y5)) fun _ s6 ⟨σ6,H6,I6,q6⟩=>?_)
  refine wpAny_passesOwn hp (bx (hb _ s6 σ6 H6 _ I6 q6) fun f s7 q7=>?_)
  have again:∀ {σ7:St} {H7:Hp},Inv X (pins++je fp s5.heap) σ7 H7 s7→N σ7 H7→∃ m,m<n∧∃ i σ' H',Inv X pins σ' H' s7∧tn i s7.heap∧(∀ b∈fp,H' b=none)∧W i m σ' H':=fun {σ7 H7} I7 n7=>by
   obtain⟨m',hm,w7⟩:=hN σ7 H7 n7
   refine⟨m',hm,i+1,σ7,H7,I7.unpinned,T.keep _ _ _ st5 fun b hb o e=>(I7.pin (b,o) (List.mem_append_right _ (List.mem_append_right _ (fX hb e)))).1,fun b hb=>?_,w7⟩
   obtain⟨o,e,d⟩:=T.obj _ _ st5 b hb
   exact(I7.pin (b,o) (List.mem_append_right _ (List.mem_append_right _ (fX hb e)))).2.1
  cases f with
  | next=>obtain⟨σ7,H7,I7,n7⟩:=q7; exact again I7 n7
  | cont=>obtain⟨σ7,H7,I7,n7⟩:=q7; exact again I7 n7
  | brk=>obtain⟨σ7,H7,I7,q7⟩:=q7; exact⟨σ7,H7,I7.unpinned,q7⟩
  | ret v=>obtain⟨x7,σ7,H7,I7,r7,q7⟩:=q7; exact⟨x7,σ7,H7,I7.unpinned,r7,q7⟩
end
theorem zE{K:PySem.W.Frag}{a:Addr}{xs:List V}{g:TG}{tb:TS}{D:dO}{σ : St}{H:Hp}(Pv:Nat→St→Hp→Prop)(h0:Pv 0 σ H)(hl:∀ i σ H,i≤xs.length→Pv i σ H→SqL K H a xs)
  (hs:∀ i x σ H,xs[i]? = some x→Pv i σ H→g x σ H fun σ2 H2=>tb { D with nx:=Pv (i+1),ct:=Pv (i+1),bk:=D.nx } σ2 H2) (hd:∀ σ H,Pv xs.length σ H→D.nx σ H) :
  ∃ W:Nat→Nat→St→Hp→Prop,(∃ m,W 0 m σ H)∧∀ i m σ H,W i m σ H→
   ((kz K a).stop i H∧D.nx σ H)∨((kz K a).go i H∧∃ N:St→Hp→Prop,(∀ σ' H',N σ' H'→∃ m',m'<m∧W (i+1) m' σ' H')∧∀ x H',(kz K a).yld i H x H'→g x σ H' fun σ2 H2=>tb { D with nx:=N,ct:=N,bk:=D.nx } σ2 H2):=by
 refine⟨fun i m σ H=>m=xs.length - i∧i≤xs.length∧Pv i σ H,⟨xs.length,by simp,Nat.zero_le _,h0⟩,?_⟩
 rintro i m σ H ⟨rfl,hi,p⟩
 have q:=hl i σ H hi p
 by_cases hlt:i<xs.length
 ·refine .inr ⟨⟨xs,xs[i],q,by simp[hlt]⟩,Pv (i+1),fun σ' H' p'=>⟨xs.length - (i+1),by omega,rfl,hlt,p'⟩,fun x H' y=>?_⟩
  obtain⟨e,y⟩:=y
  subst e;exact hs i x σ _ (y xs q) p
 ·have e:i=xs.length:=by omega
  subst e;exact .inl ⟨⟨xs,q,Nat.le_refl _⟩,hd σ H p⟩
theorem xq{lo:Int}{n:Nat}{g:TG}{tb:TS}{D:dO}{σ : St}{H:Hp}(Pv:Nat→St→Hp→Prop)(h0:Pv 0 σ H)
  (hs:∀ i σ H,i<n→Pv i σ H→g (.int (lo+i)) σ H fun σ2 H2=>tb { D with nx:=Pv (i+1),ct:=Pv (i+1),bk:=D.nx } σ2 H2) (hd:∀ σ H,Pv n σ H→D.nx σ H) :
  ∃ W:Nat→Nat→St→Hp→Prop,(∃ m,W 0 m σ H)∧∀ i m σ H,W i m σ H→
   ((kE lo n).stop i H∧D.nx σ H)∨((kE lo n).go i H∧∃ N:St→Hp→Prop,(∀ σ' H',N σ' H'→∃ m',m'<m∧W (i+1) m' σ' H')∧∀ x H',(kE lo n).yld i H x H'→g x σ H' fun σ2 H2=>tb { D with nx:=N,ct:=N,bk:=D.nx } σ2 H2):=by
 refine⟨fun i m σ H=>m=n - i∧i≤n∧Pv i σ H,⟨n,by simp,Nat.zero_le _,h0⟩,?_⟩
 rintro i m σ H ⟨rfl,hi,p⟩
 by_cases hlt:i<n
 ·refine .inr ⟨hlt,Pv (i+1),fun σ' H' p'=>⟨n - (i+1),by omega,rfl,hlt,p'⟩,fun x H' y=>?_⟩
  obtain⟨e,y⟩:=y
  subst e y;exact hs i σ _ hlt p
 ·have e:i=n:=by omega
  subst e;exact .inl ⟨Nat.le_refl _,hd σ H p⟩
end L2
namespace L2
open PySem PySem.Spec PyProof.Rows
abbrev R2:=V→V→Hp→VK→Prop
def OpR(X:Cx)(f:Value→Value→Sem Value)(r:R2):Prop:=
 ∀ (pins:List (Addr × Obj)) (s:Shared) (σ : St) (H:Hp) (x y:V) (v u:Value) (Q:VK),Inv X pins σ H s→RelV x v→RelV y u→r x y H Q→
  wpAny (model X.prog X.w) X.A (f v u) (EP X pins σ Q) X.xe s
def UnR(X:Cx)(f:Value→Sem Value)(r:V→Hp→VK→Prop):Prop:=
 ∀ (pins:List (Addr × Obj)) (s:Shared) (σ : St) (H:Hp) (x:V) (v:Value) (Q:VK),Inv X pins σ H s→RelV x v→r x H Q→
  wpAny (model X.prog X.w) X.A (f v) (EP X pins σ Q) X.xe s
def CallR(X:Cx)(f:Value)(r:List V→Hp→VK→Prop):Prop:=
 ∀ (pins:List (Addr × Obj)) (s:Shared) (σ : St) (H:Hp) (xs:List V) (us:List Value) (Q:VK),Inv X pins σ H s→Vals xs us→r xs H Q→
  wpAny (model X.prog X.w) X.A (call f us) (EP X pins σ Q) X.xe s
def kF(r:R2)(ta tb:TE):TE:=fun σ H Q=>ta σ H fun x H1=>tb σ H1 fun y H2=>r x y H2 Q
def AA(r:V→Hp→VK→Prop)(ta:TE):TE:=fun σ H Q=>ta σ H fun x H1=>r x H1 Q
def rI(C:Int→Int→Prop)(g:Int→Int→V):R2:=fun x y H Q=>∃ i j,x = .int i∧y = .int j∧C i j∧Q (g i j) H
def jw(g:Int→Int→V):R2:=fun x y H Q=>∃ i j,x = .int i∧y = .int j∧Q (g i j) H
def rU(g:Int→V):V→Hp→VK→Prop:=fun x H Q=>∃ i,x = .int i∧Q (g i) H
section
variable{X:Cx}{a b c:Expr}{ta tb tc:TE}{pos:Pos}
theorem yx(ha:PE X a ta)(hb:PE X b tb){pins:List (Addr × Obj)}{s:Shared}{σ : St}{H:Hp}{R:V→V→Hp→Prop}(I:Inv X pins σ H s)
  (h:ta σ H fun x H1=>tb σ H1 fun y H2=>R x y H2) {Q:Value→Shared→Prop} {f:Value→Value→Sem Value}
  (hf:∀ v u s2 x y H2,Inv X pins σ H2 s2→RelV x v→RelV y u→R x y H2→wpAny (model X.prog X.w) X.A (f v u) Q X.xe s2) :
  wpAny (model X.prog X.w) X.A (eval a X.env) (fun v s₁=>wpAny (model X.prog X.w) X.A (eval b X.env) (fun u s₂=>wpAny (model X.prog X.w) X.A (f v u) Q X.xe s₂) X.xe s₁) X.xe s:=by
 refine bx (ha pins s σ H _ I h) fun v s1 ⟨x,H1,I1,r1,q1⟩=>?_
 refine bx (hb pins s1 σ H1 _ I1 q1) fun u s2 ⟨y,H2,I2,r2,q2⟩=>?_
 exact hf v u s2 x y H2 I2 r1 r2 q2
theorem ak{op:Operator}{r:R2}(ho:OpR X (binaryOp op) r)(ha:PE X a ta)(hb:PE X b tb):PE X (.BinOp a op b pos) (kF r ta tb):=by
 intro pins s σ H Q I h
 exact wpAny_BinOp (yx ha hb I h fun v u s2 x y H2 I2 rx ry q=>ho pins s2 σ H2 x y v u Q I2 rx ry q)
theorem d_{op:UnaryOp}{r:V→Hp→VK→Prop}(ho:UnR X (unaryOp op) r)(ha:PE X a ta):PE X (.UnaryOp op a pos) (AA r ta):=by
 intro pins s σ H Q I h
 exact UnaryOp_ (bx (ha pins s σ H _ I h) fun v s1 ⟨x,H1,I1,r1,q1⟩=>ho pins s1 σ H1 x v Q I1 r1 q1)
theorem qw{f:Value→Value→Sem Value}{C:Int→Int→Prop}{g:Int→Int→Int}
  (rule:∀ (i j:Int) (t u:Tok) (s:Shared) (Q:Value→Shared→Prop) (E:Value→Shared→Prop),C i j→Q (.int (g i j) s.toks) { s with toks:=s.toks+1 }→wpAny (model X.prog X.w) X.A (f (.int i t) (.int j u)) Q E s) :
  OpR X f (rI C fun i j=>.int (g i j)):=by
 intro pins s σ H x y v u Q I rx ry h
 obtain⟨i,j,rfl,rfl,hc,q⟩:=h
 obtain⟨t,rfl⟩:=rx
 obtain⟨t',rfl⟩:=ry
 exact rule i j t t' s _ _ hc ⟨.int (g i j),H,I.tok _,⟨_,rfl⟩,q⟩
theorem vD{f:Value→Value→Sem Value}{g:Int→Int→Int}
  (rule:∀ (i j:Int) (t u:Tok) (s:Shared) (Q:Value→Shared→Prop) (E:Value→Shared→Prop),Q (.int (g i j) s.toks) { s with toks:=s.toks+1 }→wpAny (model X.prog X.w) X.A (f (.int i t) (.int j u)) Q E s) :
  OpR X f (jw fun i j=>.int (g i j)):=by
 intro pins s σ H x y v u Q I rx ry h
 obtain⟨i,j,rfl,rfl,q⟩:=h
 obtain⟨t,rfl⟩:=rx
 obtain⟨t',rfl⟩:=ry
 exact rule i j t t' s _ _ ⟨.int (g i j),H,I.tok _,⟨_,rfl⟩,q⟩
theorem x3{f:Value→Value→Sem Value}{g:Int→Int→Bool}
  (rule:∀ (i j:Int) (t u:Tok) (s:Shared) (Q:Value→Shared→Prop) (E:Value→Shared→Prop),Q (.bool (g i j)) s→wpAny (model X.prog X.w) X.A (f (.int i t) (.int j u)) Q E s) :
  OpR X f (jw fun i j=>.bl (g i j)):=by
 intro pins s σ H x y v u Q I rx ry h
 obtain⟨i,j,rfl,rfl,q⟩:=h
 obtain⟨t,rfl⟩:=rx
 obtain⟨t',rfl⟩:=ry
 exact rule i j t t' s _ _ ⟨.bl (g i j),H,I,rfl,q⟩
def F2(i j:Int):Prop:=0<j∧j<1073741824
def BJ(i j:Int):Prop:=0≤j∧j≤1000000∧i.natAbs<2 ^ 64
def CMul(i j:Int):Prop:=(-(2 ^ 64)<i∧i<2 ^ 64)∨(-(2 ^ 64)<j∧j<2 ^ 64)
theorem CMul.ok{i j:Int}(h:CMul i j):IntMulOk i j:=by
 rcases h with ⟨h1,h2⟩ | ⟨h1,h2⟩
 ·exact .of_left (intBits_le_64 h1 h2)
 ·exact .of_right (intBits_le_64 h1 h2)
theorem ul(k:Nat):(0:Int)≤2 ^ k:=by
 rw[two_pow_cast];exact Int.natCast_nonneg _
theorem B6:OpR X (binaryOp .Add) (jw fun i j=>.int (i+j)):=vD fun _ _ _ _ _ _ _ q=>add_int q
theorem jg:OpR X (binaryOp .Sub) (jw fun i j=>.int (i - j)):=vD fun _ _ _ _ _ _ _ q=>sub_int q
theorem C6:OpR X (binaryOp .Mult) (rI CMul fun i j=>.int (i * j)):=qw fun _ _ _ _ _ _ _ hc q=>mul_int q hc.ok
theorem cM:OpR X (binaryOp .FloorDiv) (rI F2 fun i j=>.int (i / j)):=qw fun i j _ _ _ _ _ hc q=>by
 have h1:(0:Int)<j:=hc.1
 have h2:j<1073741824:=hc.2
 exact floordiv_int (by omega) (by rw[Int.fdiv_eq_ediv_of_nonneg i (by omega)]; exact q) (.inl (PyProof.noPylong_small (by omega)))
theorem bo:OpR X (binaryOp .Mod) (rI (fun _ j=>0<j) fun i j=>.int (i % j)):=qw fun i j _ _ _ _ _ hc q=>by
 have h1:(0:Int)<j:=hc
 exact mod_int' (by omega) (by rw[Int.fmod_eq_emod_of_nonneg i (by omega)]; exact q)
theorem jd:OpR X (binaryOp .Pow) (rI BJ fun i j=>.int (i ^ j.toNat)):=qw fun _ _ _ _ _ _ _ hc q=>pow_int_small hc.1 hc.2.1 hc.2.2 q
theorem i0:OpR X (binaryOp .LShift) (rI BJ fun i j=>.int (i * 2 ^ j.toNat)):=qw fun _ _ _ _ _ _ _ hc q=>lshift_int_small hc.1 hc.2.1 hc.2.2 q
theorem p_:OpR X (binaryOp .RShift) (rI (fun _ j=>0≤j) fun i j=>.int (i / 2 ^ j.toNat)):=qw fun i j _ _ _ _ _ hc q=>
 rshift_int hc (by rw[Int.fdiv_eq_ediv_of_nonneg i (ul _)]; exact q)
theorem jb:OpR X (binaryOp .BitAnd) (jw fun i j=>.int (Builtin.bitAnd i j)):=vD fun _ _ _ _ _ _ _ q=>and_int q
theorem Eu:OpR X (binaryOp .BitOr) (jw fun i j=>.int (Builtin.bitOr i j)):=vD fun _ _ _ _ _ _ _ q=>or_int q
theorem EV{f:Value→Sem Value}{g:Int→Int}
  (rule:∀ (i:Int) (t:Tok) (s:Shared) (Q:Value→Shared→Prop) (E:Value→Shared→Prop),Q (.int (g i) s.toks) { s with toks:=s.toks+1 }→wpAny (model X.prog X.w) X.A (f (.int i t)) Q E s) :
  UnR X f (rU fun i=>.int (g i)):=by
 intro pins s σ H x v Q I rx h
 obtain⟨i,rfl,q⟩:=h
 obtain⟨t,rfl⟩:=rx
 exact rule i t s _ _ ⟨.int (g i),H,I.tok _,⟨_,rfl⟩,q⟩
theorem dI:UnR X (unaryOp .USub) (rU fun i=>.int (-i)):=EV fun _ _ _ _ _ q=>neg_int q
theorem D4:UnR X (unaryOp .Invert) (rU fun i=>.int (Builtin.bitNot i)):=EV fun _ _ _ _ _ q=>invert_int q
end
def j7:V→V→Bool
 | .non,.non=>true | .non,.int _=>true | .int _,.non=>true | .non,.bl _=>true | .bl _,.non=>true | .non,.str _=>true | .str _,.non=>true
 | .int _,.int _=>true | .bl _,.bl _=>true | .str _,.str _=>true | .byt _,.byt _=>true
 | .int _,.str _=>true | .str _,.int _=>true | .bl _,.str _=>true | .str _,.bl _=>true
 | _,_=>false
def Fe:R2:=fun x y H Q=>j7 x y=true∧Q (.bl (decide (x=y))) H
def EX:R2:=fun x y H Q=>j7 x y=true∧Q (.bl (!decide (x=y))) H
theorem sT{i j:Int}:decide (V.int i=V.int j)=(i == j):=by
 rw[Bool.eq_iff_iff];simp
theorem kG{i j:Bool}:decide (V.bl i=V.bl j)=(i == j):=by
 rw[Bool.eq_iff_iff];simp
theorem se{i j:Str}:decide (V.str i=V.str j)=(i == j):=by
 rw[Bool.eq_iff_iff];simp
theorem sH{i j:Array UInt8}:decide (V.byt i=V.byt j)=(i.toList == j.toList):=by
 rw[Bool.eq_iff_iff]
 cases i
 cases j;simp
section
variable{X:Cx}{a b c:Expr}{ta tb tc:TE}{pos:Pos}
theorem bA{pins:List (Addr × Obj)}{σ : St}{H:Hp}{s:Shared}{Q:VK}{k k':Bool}(I:Inv X pins σ H s)(q:Q (.bl k) H)(e:k=k'):EP X pins σ Q (.bool k') s:=by
 subst e;exact⟨.bl k,H,I,rfl,q⟩
theorem EG:OpR X (compareOp .Eq) Fe:=by
 intro pins s σ H x y v u Q I rx ry h
 obtain⟨hs,q⟩:=h
 cases x with
 | non=>
  cases rx
  cases y with
  | non=>cases ry; exact PySem.EqNone.eq_none_none (bA I q (by simp))
  | bl j=>cases ry; exact PySem.EqNone.eq_none_bool (bA I q (by simp))
  | int j=>obtain⟨t',rfl⟩:=ry; exact PySem.EqNone.eq_none_int (bA I q (by simp))
  | str j=>obtain⟨t',rfl⟩:=ry; exact PySem.EqNone.eq_none_str (bA I q (by simp))
  | _=>exact absurd (show false=true from hs) Bool.false_ne_true
 | bl i=>
  cases rx
  cases y with
  | non=>cases ry; exact PySem.EqNone.eq_bool_none (bA I q (by simp))
  | bl j=>cases ry; exact eq_bool (bA I q kG)
  | str j=>obtain⟨t',rfl⟩:=ry; exact PySem.EqMixed.eq_bool_str (bA I q (by simp))
  | _=>exact absurd (show false=true from hs) Bool.false_ne_true
 | int i=>
  obtain⟨t,rfl⟩:=rx
  cases y with
  | non=>cases ry; exact PySem.EqNone.eq_int_none (bA I q (by simp))
  | int j=>obtain⟨t',rfl⟩:=ry; exact eq_int (bA I q sT)
  | str j=>obtain⟨t',rfl⟩:=ry; exact PySem.EqMixed.eq_int_str (bA I q (by simp))
  | _=>exact absurd (show false=true from hs) Bool.false_ne_true
 | str i=>
  obtain⟨t,rfl⟩:=rx
  cases y with
  | non=>cases ry; exact PySem.EqNone.eq_str_none (bA I q (by simp))
  | bl j=>cases ry; exact PySem.EqMixed.eq_str_bool (bA I q (by simp))
  | int j=>obtain⟨t',rfl⟩:=ry; exact PySem.EqMixed.eq_str_int (bA I q (by simp))
  | str j=>obtain⟨t',rfl⟩:=ry; exact eq_str (bA I q se)
  | _=>exact absurd (show false=true from hs) Bool.false_ne_true
 | byt i=>
  obtain⟨t,rfl⟩:=rx
  cases y with
  | byt j=>obtain⟨t',rfl⟩:=ry; exact PySem.W.eq_bytes (bA I q sH)
  | _=>exact absurd (show false=true from hs) Bool.false_ne_true
 | _=>cases y <;> exact absurd (show false=true from hs) Bool.false_ne_true
theorem EO:OpR X (compareOp .NotEq) EX:=by
 intro pins s σ H x y v u Q I rx ry h
 obtain⟨hs,q⟩:=h
 cases x with
 | non=>
  cases rx
  cases y with
  | non=>cases ry; exact PySem.EqNone.ne_none_none (bA I q (by simp))
  | bl j=>cases ry; exact PySem.EqNone.ne_none_bool (bA I q (by simp))
  | int j=>obtain⟨t',rfl⟩:=ry; exact PySem.EqNone.ne_none_int (bA I q (by simp))
  | str j=>obtain⟨t',rfl⟩:=ry; exact PySem.EqNone.ne_none_str (bA I q (by simp))
  | _=>exact absurd (show false=true from hs) Bool.false_ne_true
 | bl i=>
  cases rx
  cases y with
  | non=>cases ry; exact PySem.EqNone.ne_bool_none (bA I q (by simp))
  | bl j=>cases ry; exact ne_bool (bA I q (congrArg not kG))
  | str j=>obtain⟨t',rfl⟩:=ry; exact PySem.EqMixed.ne_bool_str (bA I q (by simp))
  | _=>exact absurd (show false=true from hs) Bool.false_ne_true
 | int i=>
  obtain⟨t,rfl⟩:=rx
  cases y with
  | non=>cases ry; exact PySem.EqNone.ne_int_none (bA I q (by simp))
  | int j=>obtain⟨t',rfl⟩:=ry; exact ne_int (bA I q (congrArg not sT))
  | str j=>obtain⟨t',rfl⟩:=ry; exact PySem.EqMixed.ne_int_str (bA I q (by simp))
  | _=>exact absurd (show false=true from hs) Bool.false_ne_true
 | str i=>
  obtain⟨t,rfl⟩:=rx
  cases y with
  | non=>cases ry; exact PySem.EqNone.ne_str_none (bA I q (by simp))
  | bl j=>cases ry; exact PySem.EqMixed.ne_str_bool (bA I q (by simp))
  | int j=>obtain⟨t',rfl⟩:=ry; exact PySem.EqMixed.ne_str_int (bA I q (by simp))
  | str j=>obtain⟨t',rfl⟩:=ry; exact ne_str (bA I q (congrArg not se))
  | _=>exact absurd (show false=true from hs) Bool.false_ne_true
 | byt i=>
  obtain⟨t,rfl⟩:=rx
  cases y with
  | byt j=>obtain⟨t',rfl⟩:=ry; exact PySem.W.ne_bytes (bA I q (congrArg not sH))
  | _=>exact absurd (show false=true from hs) Bool.false_ne_true
 | _=>cases y <;> exact absurd (show false=true from hs) Bool.false_ne_true
theorem Er:OpR X (compareOp .Lt) (jw fun i j=>.bl (decide (i<j))):=x3 fun _ _ _ _ _ _ _ q=>lt_int q
theorem En:OpR X (compareOp .LtE) (jw fun i j=>.bl (decide (i≤j))):=x3 fun _ _ _ _ _ _ _ q=>le_int q
theorem kq:OpR X (compareOp .Gt) (jw fun i j=>.bl (decide (j<i))):=x3 fun _ _ _ _ _ _ _ q=>gt_int q
theorem xm:OpR X (compareOp .Lt) (fun x y H Q=>∃ i j,x = .str i∧y = .str j∧Q (.bl (decide (i.cps.toList<j.cps.toList))) H):=by
 intro pins s σ H x y v u Q I rx ry h
 obtain⟨i,j,rfl,rfl,q⟩:=h
 obtain⟨t,rfl⟩:=rx
 obtain⟨t',rfl⟩:=ry
 exact lt_str (bA I q rfl)
theorem wj:OpR X (compareOp .In) (fun x y H Q=>∃ i j,x = .str i∧y = .str j∧Q (.bl (!(Builtin.Str.occurrences j i 0 j.length 1).isEmpty)) H):=by
 intro pins s σ H x y v u Q I rx ry h
 obtain⟨i,j,rfl,rfl,q⟩:=h
 obtain⟨t,rfl⟩:=rx
 obtain⟨t',rfl⟩:=ry
 exact in_str (bA I q rfl)
theorem Do:OpR X (compareOp .Is) (fun x y H Q=>y = .non∧Q (.bl (decide (x = .non))) H):=by
 intro pins s σ H x y v u Q I rx ry h
 obtain⟨rfl,q⟩:=h
 cases ry;refine is_none_gen (bA I q ?_)
 cases x <;> first
  | (cases rx; rfl)
  | (obtain⟨t,rfl⟩:=rx; rfl)
theorem Bf:OpR X (compareOp .IsNot) (fun x y H Q=>y = .non∧Q (.bl (!decide (x = .non))) H):=by
 intro pins s σ H x y v u Q I rx ry h
 obtain⟨rfl,q⟩:=h
 cases ry;refine isnot_none_gen (bA I q ?_)
 cases x <;> first
  | (cases rx; rfl)
  | (obtain⟨t,rfl⟩:=rx; rfl)
theorem nU:OpR X (compareOp .NotIn) (fun x y H Q=>∃ i j,x = .str i∧y = .str j∧Q (.bl (!(!(Builtin.Str.occurrences j i 0 j.length 1).isEmpty))) H):=by
 intro pins s σ H x y v u Q I rx ry h
 obtain⟨i,j,rfl,rfl,q⟩:=h
 obtain⟨t,rfl⟩:=rx
 obtain⟨t',rfl⟩:=ry
 exact notIn_str (bA I q rfl)
theorem aA(b:Expr){op:CmpOp}(h:op ≠ .In:=by decide)(h2:op ≠ .NotIn:=by decide):behindInMarks op b=false:=by
 have e1:(op == CmpOp.In)=false:=by cases op <;> first | rfl | exact absurd rfl h
 have e2:(op == CmpOp.NotIn)=false:=by cases op <;> first | rfl | exact absurd rfl h2
 cases b <;> simp[behindInMarks,e1,e2]
theorem ck{op:CmpOp}{r:R2}(ho:OpR X (compareOp op) r)(ha:PE X a ta)(hb:PE X b tb)(hm:behindInMarks op b=false):PE X (.Compare a [op] [b] pos) (kF r ta tb):=by
 intro pins s σ H Q I h
 exact wpAny_Compare1 (yx ha hb I h fun v u s2 x y H2 I2 rx ry q=>ho pins s2 σ H2 x y v u Q I2 rx ry q) hm
def um(t:TE):TT:=fun σ H Q=>t σ H fun x H'=>∃ k,x = .bl k∧Q k H'
theorem aB{op:CmpOp}{r:R2}(ho:OpR X (compareOp op) r)(ha:PE X a ta)(hb:PE X b tb)(hm:behindInMarks op b=false):PT X (.Compare a [op] [b] pos) (um (kF r ta tb)):=by
 intro pins s σ H Q I h
 refine wpAny_isTrue_Compare1 (bx (ha pins s σ H _ I h) fun v s1 ⟨x,H1,I1,r1,q1⟩=>bx (hb pins s1 σ H1 _ I1 q1) fun u s2 ⟨y,H2,I2,r2,q2⟩=>
  bx (ho pins s2 σ H2 x y v u _ I2 r1 r2 q2) fun c s3 ⟨z,H3,I3,r3,k,e,q3⟩=>?_) hm
 subst e
 cases r3;exact wpAny_truthy_bool ⟨H3,I3,q3⟩
theorem gW:(sizeLine:Nat)<2 ^ 63:=by rw[sizeLine_eq]; decide
theorem uV:OpR X (binaryOp .Add) (fun x y H Q=>∃ i j,x = .str i∧y = .str j∧i.length+j.length≤sizeLine∧Q (.str (i++j)) H):=by
 intro pins s σ H x y v u Q I rx ry h
 obtain⟨i,j,rfl,rfl,hz,q⟩:=h
 obtain⟨t,rfl⟩:=rx
 obtain⟨t',rfl⟩:=ry
 exact add_str (fun t' tk=>⟨.str (i++j),H,I.tok _,⟨_,rfl⟩,q⟩) hz
theorem dG{x:V}{us:List Value}(r:Vals [x] us):∃ u,us=[u]∧RelV x u:=by
 cases r with
 | cons r1 r2=>cases r2; exact⟨_,rfl,r1⟩
theorem j_{x y:V}{us:List Value}(r:Vals [x,y] us):∃ u w',us=[u,w']∧RelV x u∧RelV y w':=by
 cases r with
 | cons r1 r2=>
  cases r2 with
  | cons r3 r4=>cases r4; exact⟨_,_,rfl,r1,r3⟩
theorem xi(hc:X.calm=true):CallR X (.builtin "max") (fun xs H Q=>∃ i j,xs=[.int i,.int j]∧Q (.int (if j>i then j else i)) H):=by
 intro pins s σ H xs us Q I r h
 obtain⟨i,j,rfl,q⟩:=h
 obtain⟨u,w',rfl,⟨t,rfl⟩,⟨t',rfl⟩⟩:=j_ r
 refine max_two_ints (I.ok.hd hc) fun h' tk k=>⟨_,H,I.kept k,?_,q⟩
 by_cases hj:j>i
 ·rw[if_pos hj,if_pos hj]; exact⟨_,rfl⟩
 ·rw[if_neg hj,if_neg hj]; exact⟨_,rfl⟩
theorem wD:CallR X (.type "int") (fun xs H Q=>(∃ i,xs=[.int i]∧Q (.int i) H)∨∃ k,xs=[.bl k]∧Q (.int (if k then 1 else 0)) H):=by
 intro pins s σ H xs us Q I r h
 rcases h with ⟨i,rfl,q⟩ | ⟨k,rfl,q⟩
 ·obtain⟨u,rfl,t,rfl⟩:=dG r
  exact call_int_int ⟨.int i,H,I,⟨_,rfl⟩,q⟩
 ·obtain⟨u,rfl,r1⟩:=dG r
  cases r1;exact call_int_bool ⟨.int (if k then 1 else 0),H,I.tok _,⟨_,rfl⟩,q⟩
theorem nW:CallR X (.type "str") (fun xs H Q=>∃ i,xs=[.int i]∧i.natAbs.log2<1920∧Q (.str (toString i)) H):=by
 intro pins s σ H xs us Q I r h
 obtain⟨i,rfl,hz,q⟩:=h
 obtain⟨u,rfl,t,rfl⟩:=dG r
 exact PySem.P.str_of_int hz ⟨.str _,H,I.tok _,⟨_,rfl⟩,q⟩
end
end L2
namespace L2
open PySem PySem.Spec PyProof.Rows
structure ObjM (h:Heap) (x dx C:Addr) (mA:Str→Option Value):Prop where
 obj:h.get? x=some (PySem.W.instObj C dx)
 ns:h.Ns1 dx mA
 ne:dx≠x
theorem vZ{h:Heap}{dx:Addr}{mA:Str→Option Value}(n:h.Ns1 dx mA):∃ od,h.get? dx=some od∧∀ name,PySem.W.lookIn name od=some (mA name):=by
 obtain⟨o,es,ep,ho,hd,hk,_,hm⟩:=n
 refine⟨o,ho,fun name=>?_⟩
 have e:=hm name;unfold nsFind findBy at e;rw[← Array.find?_toList]at e
 unfold PySem.W.lookIn;rw[hd]
 dsimp only
 split
 ·rename_i y q
  rw[q]at e
  exact congrArg some e
 ·rename_i q
  rw[q]at e
  have a:es.toList.any (·.refKey)=false:=by
   rw[List.any_eq_false];intro y hy
   obtain⟨z,t,hkey⟩:=hk y (Array.mem_toList_iff.mp hy)
   simp[DictEntry.refKey,hkey]
  have a':¬ es.toList.any (·.refKey)=true:=by rw[a]; exact Bool.false_ne_true
  rw[if_neg a'];exact congrArg some e
theorem ObjM.look{h:Heap}{x dx C:Addr}{mA:Str→Option Value}(I:ObjM h x dx C mA):∃ od,PySem.W.InstAt h x (PySem.W.instObj C dx) C (some od)∧∀ name,PySem.W.lookIn name od=some (mA name):=
 let ⟨od,ho,hl⟩:=vZ I.ns
 ⟨od,⟨I.obj,rfl,rfl,ho⟩,hl⟩
section
variable{prog:Program}{w:World}{A:Around}{E:Value→Shared→Prop}{s:Shared}{K:PySem.W.Frag}{x dx C f:Addr}{mA:Str→Option Value}{name:Str}{v:Value}
theorem Bj{expr:Bool}{Q:Value→Shared→Prop}(X:K.In s.heap)(I:ObjM s.heap x dx C mA)(hg:PySem.W.plainGet K C name=true)(hh:PySem.W.hasDictIn K C=true)
  (ha:PySem.W.findIn K (.ref C) name=some none) (hv:mA name=some v) (hv':PySem.W.handedIn v=true) (h:Q v { s with toks:=s.toks+1 }) :
  wpAny (model prog w) A (getAttr (.ref x) name expr) Q E s:=by
 obtain⟨od,J,hl⟩:=I.look
 exact PySem.W.get_value X J (PySem.W.plainGet_of hg).1 (PySem.W.findObj_own hh ha rfl (by rw[hl,hv])) hv' h
theorem Ba{ns:List Str}{Q:Unit→Shared→Prop}(X:K.In s.heap)(I:ObjM s.heap x dx C mA)
  (hs:PySem.W.findIn K (.ref C) "__setattr__" = some (some (.builtin "object.__setattr__"))) (hp:PySem.W.plainOver K C=true) (ht:PySem.W.takerIn K C name=some none) (hh:PySem.W.hasDictIn K C=true)
  (hw:PySem.Within mA ns) (hsz:ns.length≤sizeLine)
  (h:∀ h',ObjM h' x dx C (fun y=>if y=name then some v else mA y)→Heap.SameBut dx s.heap h'→Q () { s with heap:=h',toks:=s.toks+2 }) :
  wpAny (model prog w) A (setAttr (.ref x) name v) Q E s:=by
 obtain⟨od,J,hl⟩:=I.look
 refine PySem.W.set_plain X J hs (PySem.W.osa_open (s:={ s with toks:=s.toks+1 }) (r:=none) X J hp ht fun b=>?_)
 obtain⟨cd,hc,hd'⟩:=PySem.W.any_some hh
 have hx:s.heap.get? x=some ⟨.ref C,some dx,.plain,#[]⟩:=I.obj
 refine wpAny_bind (wpAny_pure (wpAny_bind (wpAny_bind (wpAny_loadPart hx (wpAny_bind (PySem.W.Looks.here (s:={ s with toks:=s.toks+1 }) (PySem.W.looks_clsIn X hc) ?_))))))
 rw[hd'];refine wpAny_pure (a:=some dx) (wpAny_bind (wpAny_pure (wpAny_bind ?_)))
 refine wpAny_nsSet1 (s:={ s with toks:=s.toks+1 }) I.ns fun h' hn2 hs2=>?_
 obtain⟨oD,esD,epD,hoD,hdD,hcD⟩:=hn2.count (PySem.Within.cons name v hw)
 refine wpAny_bind (wpAny_lookBehind hoD (by rw[hdD]; exact pastItsLine_dict (Nat.le_trans hcD (by rw[List.length_cons]; omega))) ?_)
 exact wpAny_pure (h _ ⟨(hs2.2 _ (Ne.symm I.ne)).trans I.obj,hn2,I.ne⟩ hs2)
theorem yh{R:Result→Shared→Prop}{vs:List Value}{kw:List (Str × Value)}(X:K.In s.heap)(hm:PySem.W.makesIn K C=true)
  (hi:PySem.W.findIn K (.ref C) "__init__" = some (some (.ref f))) (hf:PySem.W.typeIn K (.ref f)=some (.type "function"))
  (h:codeAny (model prog w) (A.under (.builtin "type.__call__" ⟨.ref C::vs,kw⟩)) (.call (.ref f) ⟨.ref (s.heap.objs.size+1)::vs,kw⟩) (PySem.W.InitBack (s.heap.objs.size+1) R)
   { s with heap:=(s.heap.push PySem.W.emptyDict).push (PySem.W.instObj C s.heap.objs.size) }) :
  codeAny (model prog w) A (.call (.ref C) ⟨vs,kw⟩) R s:=by
 obtain⟨hh,g,d,t,os⟩:=s
 exact PySem.W.make_core (PySem.W.makes_of X hm) (PySem.W.looks_findIn X hi) (fun self=>PySem.W.bind_fn X self hf) (.inl rfl) h
end
def bK(f:Str)(v:V):List (Str × V)→List (Str × V)
 | []=>[(f,v)]
 | (g,x)::r=>if g=f then (g,v)::r else (g,x)::bK f v r
theorem jH(f g:Str)(v:V):∀ fs:List (Str × V),(bK f v fs).lookup g=if g=f then some v else fs.lookup g
 | []=>by
  show List.lookup g [(f,v)]=_
  by_cases h:g=f
  ·have hb:(g == f)=true:=beq_iff_eq.mpr h
   simp only[List.lookup,hb,if_pos h]
  ·have hb:(g == f)=false:=beq_eq_false_iff_ne.mpr h
   simp only[List.lookup,hb,if_neg h]
 | (k,x)::r=>by
  have ih:=jH f g v r;rw[show bK f v ((k,x)::r)=(if k=f then (k,v)::r else (k,x)::bK f v r) from rfl]
  by_cases hk:k=f
  ·rw[if_pos hk]
   by_cases h:g=k
   ·have hb:(g == k)=true:=beq_iff_eq.mpr h
    simp only[List.lookup,hb,if_pos (h.trans hk)]
   ·have hb:(g == k)=false:=beq_eq_false_iff_ne.mpr h
    simp only[List.lookup,hb,if_neg (fun e:g=f=>h (e.trans hk.symm))]
  ·rw[if_neg hk]
   by_cases h:g=k
   ·have hb:(g == k)=true:=beq_iff_eq.mpr h
    simp only[List.lookup,hb,if_neg (fun e:g=f=>hk (h.symm.trans e))]
   ·have hb:(g == k)=false:=beq_eq_false_iff_ne.mpr h
    simp only[List.lookup,hb]
    exact ih
theorem i9(f:Str)(v:V):∀ fs:List (Str × V),f∈(bK f v fs).map (·.1)∧∀ g,g∈fs.map (·.1)→g∈(bK f v fs).map (·.1)
 | []=>⟨by simp[bK],fun g h=>by simp at h⟩
 | (k,x)::r=>by
  obtain⟨i1,i2⟩:=i9 f v r
  rw[show bK f v ((k,x)::r)=(if k=f then (k,v)::r else (k,x)::bK f v r) from rfl]
  by_cases hk:k=f
  ·rw[if_pos hk]
   subst hk;exact⟨by simp,fun g h=>by simpa using h⟩
  ·rw[if_neg hk]
   refine⟨?_,fun g h=>?_⟩
   ·rw[List.map_cons]
    exact List.mem_cons_of_mem _ i1
   ·rw[List.map_cons]at h ⊢
    rcases List.mem_cons.mp h with e | e
    ·exact List.mem_cons.mpr (.inl e)
    ·exact List.mem_cons_of_mem _ (i2 g e)
theorem jC(f:Str)(v:V):∀ fs:List (Str × V),(bK f v fs).length≤fs.length+1
 | []=>by simp[bK]
 | (k,x)::r=>by
  have ih:=jC f v r;rw[show bK f v ((k,x)::r)=(if k=f then (k,v)::r else (k,x)::bK f v r) from rfl]
  by_cases hk:k=f
  ·rw[if_pos hk,List.length_cons,List.length_cons]; omega
  ·rw[if_neg hk,List.length_cons,List.length_cons]; omega
theorem RelO.some_of{v:V}{o:Option Value}(r:RelO (some v) o):∃ u,o=some u∧RelV v u:=by
 cases o with
 | none=>exact(show False from r).elim
 | some u=>exact⟨u,rfl,r⟩
theorem xK{v:V}{u:Value}(r:RelV v u):PySem.W.handedIn u=true:=by
 cases v with
 | non=>cases (show u=Value.none from r); rfl
 | bl b=>cases (show u=Value.bool b from r); rfl
 | int i=>obtain⟨t,e⟩:=(show ∃ t,u=Value.int i t from r); cases e; rfl
 | str x=>obtain⟨t,e⟩:=(show ∃ t,u=Value.str x t from r); cases e; rfl
 | byt b=>obtain⟨t,e⟩:=(show ∃ t,u=Value.bytes b t from r); cases e; rfl
 | flt b=>obtain⟨t,e⟩:=(show ∃ t,u=Value.float b t from r); cases e; rfl
 | ref a=>cases (show u=Value.ref a from r); rfl
 | ty n=>cases (show u=Value.type n from r); rfl
section
variable{P:Program}{w:World}{H H':Hp}{h h':Heap}{a C dx:Addr}{fs fs':List (Str × V)}
theorem lu(hok:HOk P w H h)(e:H a=some (.ins C dx fs)):∃ mA,ObjM h a dx C mA∧(∀ f,RelO (fs.lookup f) (mA f))∧PySem.Within mA (fs.map (·.1))∧fs.length≤1000∧H dx=some (.own a):=by
 obtain⟨d,z,ne,ob,mA,n,r,q⟩:=(show ObjOk P w H h a (.ins C dx fs) from hok a _ e)
 exact⟨mA,⟨ob,n,ne⟩,r,q,z,d⟩
end
structure Cls (K:PySem.W.Frag) (C:Addr):Prop where
 pg:PySem.W.plainGet K C Str.empty=true
 hd:PySem.W.hasDictIn K C=true
 po:PySem.W.plainOver K C=true
 sa:PySem.W.findIn K (.ref C) "__setattr__" = some (some (.builtin "object.__setattr__"))
theorem Cls.get{K:PySem.W.Frag}{C:Addr}(c:Cls K C)(f:Str):PySem.W.plainGet K C f=true:=c.pg
def NoAttr(K:PySem.W.Frag)(C:Addr)(f:Str):Prop:=PySem.W.findIn K (.ref C) f=some none
theorem NoAttr.taker{K:PySem.W.Frag}{C:Addr}{f:Str}(n:NoAttr K C f):PySem.W.takerIn K C f=some none:=by
 unfold PySem.W.takerIn;rw[show PySem.W.findIn K (.ref C) f=some none from n]
 rfl
section
variable{X:Cx}{pins:List (Addr × Obj)}{σ : St}{H:Hp}{s:Shared}{a C dx:Addr}{fs:List (Str × V)}{f:Str}{v:V}{A:Around}{E:Value→Shared→Prop}
theorem vE{b:Bool}{Q:Value→Shared→Prop}(I:Inv X pins σ H s)(e:H a=some (.ins C dx fs))(c:Cls X.K C)(n:NoAttr X.K C f)(l:fs.lookup f=some v)
  (h:∀ u s',Inv X pins σ H s'→RelV v u→Q u s'):wpAny (model X.prog X.w) A (getAttr (.ref a) f b) Q E s:=by
 obtain⟨mA,O,r,_,_,_⟩:=lu I.hok e
 obtain⟨u,hu,ru⟩:=RelO.some_of (v:=v) (o:=mA f) (by rw[← l]; exact r f)
 exact Bj I.kIn O (c.get f) c.hd n hu (xK ru) (h u _ (I.tok _) ru)
theorem ur{y:V}{u:Value}{Q:Unit→Shared→Prop}(I:Inv X pins σ H s)(e:H a=some (.ins C dx fs))(c:Cls X.K C)(n:NoAttr X.K C f)(hl:fs.length<1000)(ry:RelV y u)
  (h:∀ s',Inv X pins σ (upd H a (.ins C dx (bK f y fs))) s'→Q () s'):wpAny (model X.prog X.w) A (setAttr (.ref a) f u) Q E s:=by
 obtain⟨mA,O,r,wi,_,ho⟩:=lu I.hok e
 have hz:(fs.map (·.1)).length≤sizeLine:=by rw[List.length_map,sizeLine_eq]; omega
 refine Ba I.kIn O c.sa c.po n.taker c.hd wi hz fun h' O' sb=>h _ ?_
 have hd:∃ o,h'.get? dx=some o:=let ⟨o,_,_,e',_⟩:=O'.ns; ⟨o,e'⟩
 refine I.write (x:=a) (e:=dx) (by rw[e]; exact True.intro) (.inr ho) (fun b q hb z=>(sb.2 b hb).trans z) hd ?_
 refine⟨by rw[ax O.ne]; exact ho,?_,O.ne,O'.obj,_,O'.ns,fun g=>?_,fun g hg=>?_⟩
 ·have:=jC f y fs; omega
 ·show RelO ((bK f y fs).lookup g) (if g=f then some u else mA g)
  rw[jH]
  by_cases q:g=f
  ·rw[if_pos q,if_pos q]; exact ry
  ·rw[if_neg q,if_neg q]; exact r g
 ·by_cases q:g=f
  ·rw[q]; exact(i9 f y fs).1
  ·refine(i9 f y fs).2 g (wi g fun z=>hg ?_)
   show (if g=f then some u else mA g)=none
   rw[if_neg q]; exact z
theorem Inv.made(I:Inv X pins σ H s):Inv X pins σ (upd (upd H s.heap.objs.size (.own (s.heap.objs.size+1))) (s.heap.objs.size+1) (.ins C s.heap.objs.size []))
  { s with heap:=(s.heap.push PySem.W.emptyDict).push (PySem.W.instObj C s.heap.objs.size) }:=by
 have e1:(s.heap.push PySem.W.emptyDict).get? s.heap.objs.size=some PySem.W.emptyDict:=Heap.get?_push_size s.heap rfl
 have e2:((s.heap.push PySem.W.emptyDict).push (PySem.W.instObj C s.heap.objs.size)).get? (s.heap.objs.size+1)=some (PySem.W.instObj C s.heap.objs.size):=by
  have:=Heap.get?_push_size (s.heap.push PySem.W.emptyDict) (o:=PySem.W.instObj C s.heap.objs.size) rfl
  rwa [Heap.size_push]at this
 have e3:(s.heap.push PySem.W.emptyDict).Ns s.heap.objs.size (fun _=>none):=⟨PySem.W.emptyDict,#[],_,e1,rfl,(fun e he=>absurd he (by simp)),fun _=>rfl⟩
 have I1:=I.laid (a:=s.heap.objs.size) (o:=.own (s.heap.objs.size+1)) (h':=s.heap.push PySem.W.emptyDict) (t':=s.toks) (fun b u q=>Heap.get?_push_of_some _ q) (Nat.le_refl _) ⟨_,e1⟩
 refine I1.laid (a:=s.heap.objs.size+1) (o:=.ins C s.heap.objs.size []) (t':=s.toks) (fun b u q=>Heap.get?_push_of_some _ q) (Nat.le_of_eq (Heap.size_push _ _)) ?_
 have ne:s.heap.objs.size≠s.heap.objs.size+1:=Nat.ne_of_lt (Nat.lt_succ_self _)
 refine⟨by rw[ax ne,af],Nat.zero_le _,ne,e2,fun _=>none,(Heap.Ns1.of_empty e3).at fun o q=>Heap.get?_push_of_some _ q,fun _=>True.intro,fun y hy=>absurd rfl hy⟩
theorem AM{prog:Program}{w:World}{env:Env}{e:Expr}{f:Str}{pos:Pos}{s:Shared}{Q:Value→Shared→Prop}(hb:attributeBase e f env (eval e env)=eval e env)
  (h:wpAny (model prog w) A (eval e env) (fun o s₁=>wpAny (model prog w) A (getAttr o f true) Q E s₁) E s):wpAny (model prog w) A (eval (.Attribute e f pos) env) Q E s:=
 Attribute_any_ h (by rw[arm_eval_Attribute,hb])
end
section
variable{X:Cx}{o e value:Expr}{f:Str}{pos pos' tpos:Pos}{ta tv:TE}
end
section
variable{X:Cx}{pins:List (Addr × Obj)}{σ : St}{H:Hp}{s:Shared}{A:Around}{E:Value→Shared→Prop}{Q:Value→Shared→Prop}{c:Value}{b:Bool}
inductive fI (K:PySem.W.Frag) (H:Hp):V→Value→Prop where
 | non:fI K H .non (.type "NoneType")
 | bl (x:Bool):fI K H (.bl x) (.type "bool")
 | int (i:Int):fI K H (.int i) (.type "int")
 | str (x:Str):fI K H (.str x) (.type "str")
 | flt (x:UInt64):fI K H (.flt x) (.type "float")
 | lst {a:Addr} {xs:List V} (e:H a=some (.lst xs)):fI K H (.ref a) (.type "list")
 | frz {a:Addr} {o:Obj} {xs:List V} (e:H a=some (.frz o (.lst xs))):fI K H (.ref a) (.type "list")
 | tup {a:Addr} {xs:List V} (e:H a=some (.tup xs)):fI K H (.ref a) (.type "tuple")
 | dK {a:Addr} {kvs:List (aK × V)} (e:H a=some (.dK kvs)):fI K H (.ref a) (.type "dict")
 | dT {a:Addr} {kvs:List (List aK × V)} (e:H a=some (.dT kvs)):fI K H (.ref a) (.type "dict")
 | ins {a C dx:Addr} {fs:List (Str × V)} (e:H a=some (.ins C dx fs)) (cl:Cls K C) (ha:PySem.W.findIn K (.ref C) "__class__" = some (some (.builtin "object.__class__")))
   (hn:PySem.W.specialIn K (.builtin "object.__class__") "__get__" = some (some (.builtin "getset_descriptor.__get__"))) (htk:PySem.W.takesIn K (.builtin "object.__class__")=some true)
   (hm:PySem.W.mroIn K C (.type "object")=some true):fI K H (.ref a) (.ref C)
theorem wv{x:V}{u t:Value}(I:Inv X pins σ H s)(rx:RelV x u)(ty:fI X.K H x t)(e:PySem.W.kitOne X.K t c=some b)(h:∀ tk,Q (.bool b) { s with toks:=tk }) :
  wpAny (model X.prog X.w) A (call (.builtin "isinstance") [u,c]) Q E s:=by
 cases ty with
 | non=>cases (show u=Value.none from rx); exact PySem.W.kia_one PySem.W.kitx_none I.kIn True.intro e (fun z=>nomatch z) h
 | bl y=>cases (show u=Value.bool y from rx); exact PySem.W.kia_one PySem.W.kitx_bool I.kIn True.intro e (fun z=>nomatch z) h
 | int i=>obtain⟨t,q⟩:=(show ∃ t,u=Value.int i t from rx); cases q; exact PySem.W.kia_one PySem.W.kitx_int I.kIn True.intro e (fun z=>nomatch z) h
 | str y=>obtain⟨t,q⟩:=(show ∃ t,u=Value.str y t from rx); cases q; exact PySem.W.kia_one PySem.W.kitx_str I.kIn True.intro e (fun z=>nomatch z) h
 | flt y=>obtain⟨t,q⟩:=(show ∃ t,u=Value.float y t from rx); cases q; exact PySem.W.kia_one PySem.W.kitx_float I.kIn True.intro e (fun z=>nomatch z) h
 | @lst a xs ea=>
  cases (show u=Value.ref a from rx)
  obtain⟨_,_,n,_,h1⟩:=(show ObjOk X.prog X.w H s.heap a (.lst xs) from I.hok a _ ea)
  exact PySem.W.kia_one PySem.W.kitx_list I.kIn ⟨_,h1,rfl⟩ e (fun z=>nomatch z) h
 | @frz a ob xs ea=>
  cases (show u=Value.ref a from rx)
  obtain⟨_,_,_,n,_,h1⟩:=(show ObjOk X.prog X.w H s.heap a (.frz ob (.lst xs)) from I.hok a _ ea)
  exact PySem.W.kia_one PySem.W.kitx_list I.kIn ⟨_,h1,rfl⟩ e (fun z=>nomatch z) h
 | @tup a xs ea=>
  cases (show u=Value.ref a from rx)
  obtain⟨_,_,_,p⟩:=(show ObjOk X.prog X.w H s.heap a (.tup xs) from I.hok a _ ea)
  obtain⟨o,h1,h2,_⟩:=p
  exact PySem.W.kia_one PySem.W.kitx_tuple I.kIn ⟨o,h1,h2⟩ e (fun z=>nomatch z) h
 | @dK a kvs ea=>
  cases (show u=Value.ref a from rx)
  obtain⟨_,_,vs,_,p⟩:=(show ObjOk X.prog X.w H s.heap a (.dK kvs) from I.hok a _ ea)
  obtain⟨o,es,ep,h1,h2,_⟩:=p
  exact PySem.W.kia_one PySem.W.kitx_dict I.kIn ⟨o,h1,h2.1⟩ e (fun z=>nomatch z) h
 | @dT a kvs ea=>
  cases (show u=Value.ref a from rx)
  obtain⟨_,_,xs,_,o,es,ep,h1,h2,_⟩:=(show ObjOk X.prog X.w H s.heap a (.dT kvs) from I.hok a _ ea)
  exact PySem.W.kia_one PySem.W.kitx_dict I.kIn ⟨o,h1,h2.1⟩ e (fun z=>nomatch z) h
 | @ins a C dx fs ea cl ha hn htk hm=>
  cases (show u=Value.ref a from rx)
  obtain⟨mA,O,_⟩:=lu I.hok ea
  obtain⟨od,J,_⟩:=O.look
  exact PySem.W.kia_one (PySem.W.kitx_own (cl.get _) cl.hd ha hn htk hm) I.kIn J e (fun z=>nomatch z) h
end
end L2
namespace L2
open PySem PySem.Spec PyProof.Rows
structure Room (k:Nat) (A:Around):Prop where
 hd:A.handled=none
 dp:A.depth+3 * k+5<recursionLimit
 un:A.units+16 * k+200<cLine
theorem Room.mono{j k:Nat}{A:Around}(r:Room k A)(h:j≤k):Room j A:=⟨r.hd,by have:=r.dp; omega,by have:=r.un; omega⟩
theorem Room.deeper{k:Nat}{A:Around}(r:Room (k+1) A)(env:Env):Room k (A.deeper env):=
 ⟨r.hd,by have:=r.dp; show A.depth+1+3 * k+5<_; omega,by have:=r.un; show A.units+3+16 * k+200<_; omega⟩
theorem ue{A:Around}{C:Addr}{us:List Value}{kw:List (Str × Value)}:(A.under (.builtin "type.__call__" ⟨.ref C::us,kw⟩)).depth=A.depth+1:=by
 first | rfl | simp[Around.under,Code.weight,Code.isCreation,Code.isGuard,Code.isCaller,Code.frames,Code.isFrame,guardIds]
theorem vK{A:Around}{C:Addr}{us:List Value}{kw:List (Str × Value)}:(A.under (.builtin "type.__call__" ⟨.ref C::us,kw⟩)).units=A.units+1:=by
 first | rfl | simp[Around.under,Code.cUnits,Code.frames,Code.isFrame]
theorem Room.make{k:Nat}{A:Around}(r:Room (k+1) A)(C:Addr)(us:List Value)(kw:List (Str × Value)):Room k (A.under (.builtin "type.__call__" ⟨.ref C::us,kw⟩)):=
 ⟨r.hd,by have:=r.dp; rw[ue]; omega,by have:=r.un; rw[vK]; omega⟩
theorem Room.depth{k:Nat}{A:Around}(r:Room k A):A.depth<recursionLimit:=by have:=r.dp; omega
def jR:TA:=fun _ H Q=>Q [] H
def ee(ta:TE)(tr:TA):TA:=fun σ H Q=>ta σ H fun x H1=>tr σ H1 fun xs H2=>Q (x::xs) H2
section
variable{X:Cx}{e:Expr}{es:List Expr}{te:TE}{t:TA}{pos:Pos}
theorem ae:PA X [] jR:=fun _ _ _ _ H Q I h=>Calls.spliced_nil ⟨[],H,I,.nil,h⟩
theorem aa(ha:PE X e te)(hr:PA X es t)(hs:starEach (e::es) X.env=(false,eval e X.env)::starEach es X.env:=by rfl):PA X (e::es) (ee te t):=by
 intro pos pins s σ H Q I h
 rw[hs];show wpAny _ _ (spliced ((false,eval e X.env)::backTo pos (starEach es X.env))) _ _ s
 refine Calls.spliced_cons (bx (ha pins s σ H _ I h) fun u s1 ⟨x,H1,I1,r1,q1⟩=>?_)
 exact bx (hr pos pins s1 σ H1 _ I1 q1) fun us s2 ⟨xs,H2,I2,r2,q2⟩=>⟨x::xs,H2,I2,.cons r1 r2,q2⟩
def uC(t:TA):TE:=fun σ H Q=>t σ H fun xs H1=>xs.length≤sizeLine∧∀ p,H1 p=none→Q (.ref p) (upd H1 p (.tup xs))
def Dc(t:TA):TE:=fun σ H Q=>t σ H fun xs H1=>xs.length≤sizeLine∧∀ p,H1 p=none→Q (.ref p) (upd H1 p (.lst xs))
theorem aU{x1}(h:PA X es t):PE X (.Tuple es x1 pos) (uC t):=by
 intro pins s σ H Q I hq
 refine wpAny_Tuple_spliced (bx (h pos pins s σ H _ I hq) fun us s1 ⟨xs,H1,I1,r,z,q⟩=>⟨by rw[← r.length]; exact z,?_⟩)
 have hf:H1 s1.heap.objs.size=none:=I1.hok.fresh (Nat.le_refl _)
 refine⟨.ref s1.heap.objs.size,upd H1 s1.heap.objs.size (.tup xs),I1.laid (t':=s1.toks) (fun b u e=>Heap.get?_push_of_some _ e) (Nat.le_refl _) ?_,rfl,q _ hf⟩
 exact⟨z,us,r,⟨_,Heap.get?_push_size _ rfl,rfl,rfl,_,rfl⟩⟩
theorem aS(h:PA X es t):PE X (.List es pos) (Dc t):=by
 intro pins s σ H Q I hq
 refine wpAny_List_spliced (bx (h pos pins s σ H _ I hq) fun us s1 ⟨xs,H1,I1,r,z,q⟩=>⟨by rw[← r.length]; exact z,?_⟩)
 have hf:H1 s1.heap.objs.size=none:=I1.hok.fresh (Nat.le_refl _)
 refine⟨.ref s1.heap.objs.size,upd H1 s1.heap.objs.size (.lst xs),I1.laid (t':=s1.toks) (fun b u e=>Heap.get?_push_of_some _ e) (Nat.le_refl _) ?_,rfl,q _ hf⟩
 exact⟨z,us,0,r,Heap.get?_push_size _ rfl⟩
end
abbrev Sp:=List V→Hp→VK→XK→Prop
abbrev g_:=List Env→Hp→Shared→XK→Value→Shared→Prop
structure Env0 (P:Program) (w:World) (K:PySem.W.Frag) (mg:Str→Option Value) (base:Heap) (A:Around) (outer:List Env) (s:Shared) (H:Hp):Prop where
 frames:A.frames=some outer
 mod:Mod K mg base
 bs:∀ b o,base.get? b=some o→s.heap.get? b=some o∧H b=none
 bsz:base.objs.size≤s.heap.objs.size
 funs:s.heap.FunFrames base outer
 frf:∀ b∈iF outer,H b=none
 hok:HOk P w H s.heap
 bare:AllBare s.gens
def CE(outer:List Env)(P:Program)(w:World)(H:Hp)(s:Shared)(Q:VK)(u:Value)(s':Shared):Prop:=
 ∃ v H',s'.os=s.os∧AllBare s'.gens∧Un (iF outer) [] H H' s.heap s'.heap∧HOk P w H' s'.heap∧RelV v u∧Q v H'
def CR(CX:g_)(outer:List Env)(P:Program)(w:World)(H:Hp)(s:Shared)(Q:VK)(E:XK)(r:Result)(s':Shared):Prop:=
 match r with
 | .ok (.ret u)=>CE outer P w H s Q u s'
 | .ok _=>False
 | .error e=>CX outer H s E e s'
structure FnOk (P:Program) (w:World) (K:PySem.W.Frag) (mg:Str→Option Value) (base:Heap) (CX:g_) (k:Nat) (f:Addr) (fd:FuncData) (ps:List Str) (sp:Sp):Prop where
 len:∀ vs H Q E,sp vs H Q E→vs.length=ps.length
 run:∀ (A:Around) (outer:List Env) (s:Shared) (H:Hp) (args:Args) (us:List Value) (vs:List V) (Q:VK) (E:XK),Room k A→Env0 P w K mg base A outer s H→BindsTo s fd args (ps.zip us)→Vals vs us→sp vs H Q E→
  codeAny (model P w) A (.call (.ref f) args) (CR CX outer P w H s Q E) s
theorem FnOk.mono{P:Program}{w:World}{K:PySem.W.Frag}{mg:Str→Option Value}{base:Heap}{CX:g_}{j k:Nat}{f:Addr}{fd:FuncData}{ps:List Str}{sp:Sp}(F:FnOk P w K mg base CX j f fd ps sp)(h:j≤k) :
  FnOk P w K mg base CX k f fd ps sp:=⟨F.len,fun A outer s H args us vs Q E hr=>F.run A outer s H args us vs Q E (hr.mono h)⟩
theorem FnOk.imp{P:Program}{w:World}{K:PySem.W.Frag}{mg:Str→Option Value}{base:Heap}{CX:g_}{k:Nat}{f:Addr}{fd:FuncData}{ps:List Str}{sp sp':Sp}(F:FnOk P w K mg base CX k f fd ps sp)
  (h:∀ vs H Q E,sp' vs H Q E→sp vs H Q E):FnOk P w K mg base CX k f fd ps sp':=
 ⟨fun vs H Q E q=>F.len vs H Q E (h _ _ _ _ q),fun A outer s H args us vs Q E hr he hb hv hs=>F.run A outer s H args us vs Q E hr he hb hv (h _ _ _ _ hs)⟩
theorem Env0.make{P:Program}{w:World}{K:PySem.W.Frag}{mg:Str→Option Value}{base:Heap}{A:Around}{outer:List Env}{s:Shared}{H:Hp}(e:Env0 P w K mg base A outer s H)(C:Addr)(us:List Value)(kw:List (Str × Value)) :
  Env0 P w K mg base (A.under (.builtin "type.__call__" ⟨.ref C::us,kw⟩)) outer s H:=⟨by first | exact e.frames | (simpa [Around.under,Code.envs,Code.isFrame,pushEnvs] using e.frames),e.mod,e.bs,e.bsz,e.funs,e.frf,e.hok,e.bare⟩
section
variable{X:Cx}{pins:List (Addr × Obj)}{σ : St}{H:Hp}{s s':Shared}
theorem Inv.env0(I:Inv X pins σ H s):Env0 X.prog X.w X.K X.mg X.base X.A X.stack s H:=
 ⟨I.ok.frames,I.ok.mod,I.bs,Nat.le_trans I.ok.bsz I.sz,I.stack,I.stkFree,I.hok,I.bare⟩
theorem Inv.after{Q:VK}{u:Value}(I:Inv X pins σ H s)(h:CE X.stack X.prog X.w H s Q u s'):EP X pins σ Q u s':=by
 obtain⟨v,H',os,bare,un,hok,r,q⟩:=h
 obtain⟨hh,g,d,t,os'⟩:=s'
 obtain rfl:os'=s.os:=os
 exact⟨v,H',I.call (h':=hh) (g':=g) (d':=d) (t':=t) (ch:=[]) un hok bare (fun b z=>absurd z (by simp)),r,q⟩
end
def jt(sp:Sp)(dvs:List V)(E:XK)(t:TA):TE:=fun σ H Q=>t σ H fun vs H1=>sp (vs++dvs) H1 Q E
def Binds(K:PySem.W.Frag)(fd:FuncData)(ps:List Str)(ds:List Value):Prop:=
 ∀ (s:Shared) (us:List Value),K.In s.heap→(us++ds).length=ps.length→BindsTo s fd ⟨us,[]⟩ (ps.zip (us++ds))
theorem Binds.all{K:PySem.W.Frag}{fd:FuncData}{ps:List Str}(h:∀ us:List Value,us.length=ps.length→bindArgs fd ⟨us,[]⟩=pure (ps.zip us)):Binds K fd ps []:=fun s us _ hl=>by
 rw[List.append_nil]at hl ⊢
 exact .of_eq (h us hl)
def kL(CX:g_)(X:Cx)(E:XK):Prop:=∀ (pins:List (Addr × Obj)) (σ : St) (H:Hp) (s:Shared) (e:Value) (s':Shared),Inv X pins σ H s→CX X.stack H s E e s'→X.xe e s'
section
variable{X:Cx}{CX:g_}{k:Nat}{f C:Addr}{fd:FuncData}{ps:List Str}{sp:Sp}{dvs:List V}{ds:List Value}{E:XK}{x m:Str}{p pos apos:Pos}{e o:Expr}{es:List Expr}{ta:TE}{t:TA}
theorem CH{pins:List (Addr × Obj)}{σ : St}{H:Hp}{s:Shared}{Q:VK}{us:List Value}{vs:List V}(F:FnOk X.prog X.w X.K X.mg X.base CX k f fd ps sp)(hr:Room k X.A)(hb:Binds X.K fd ps ds)(hd:Vals dvs ds)(hx:kL CX X E)
  (I:Inv X pins σ H s) (r:Vals vs us) (h:sp (vs++dvs) H Q E):wpAny (model X.prog X.w) X.A (call (.ref f) us) (EP X pins σ Q) X.xe s:=by
 have r2:Vals (vs++dvs) (us++ds):=r.append hd
 have hl:(us++ds).length=ps.length:=by rw[← r2.length]; exact F.len _ _ _ _ h
 refine wpAny_call (codeAny_mono (F.run X.A X.stack s H ⟨us,[]⟩ (us++ds) (vs++dvs) Q E hr I.env0 (hb s us I.kIn hl) r2 h) fun r s' hq=>?_)
 cases r with
 | error e=>exact hx pins σ H s e s' I hq
 | ok fl=>
  cases fl with
  | ret u=>exact I.after hq
  | next=>exact False.elim hq
  | brk=>exact False.elim hq
  | cont=>exact False.elim hq
theorem AZ(F:FnOk X.prog X.w X.K X.mg X.base CX k f fd ps sp)(hr:Room k X.A)(hg:Gl X x)(hm:X.mg x=some (.ref f))(hk:PySem.W.keepIn X.K (.ref f)=true)(hb:Binds X.K fd ps ds)(hd:Vals dvs ds)(hx:kL CX X E)
  (ha:PA X (e::es) t) (hdb:(x == ("__debug__" : Str))=false:=by decide) (he:starEach (e::es) X.env=(false,eval e X.env)::starEach es X.env:=by rfl) (hpl:(backTo pos (starEach es X.env)).any (·.1)=false:=by rfl) :
  PE X (.Call (.Name x p) (e::es) [] pos) (jt sp dvs E t):=by
 intro pins s σ H Q I h
 refine wpAny_Call_Name_kw (lg I hg hm ?_ hdb)
 refine PySem.W.callWith_K (h₀:=X.base) I.ok.mod.kin hk (bx (ha pos pins s σ H _ I h) fun us s1 ⟨vs,H1,I1,r,q⟩=>⟨I1.kIn,?_⟩) he hpl
 exact CH F hr hb hd hx I1 r q
structure Mk (K:PySem.W.Frag) (C f:Addr):Prop where
 makes:PySem.W.makesIn K C=true
 init:PySem.W.findIn K (.ref C) "__init__" = some (some (.ref f))
 fn:PySem.W.isFn K (.ref f)=true
 kp:PySem.W.keepIn K (.ref C)=true
theorem zt{pins:List (Addr × Obj)}{σ : St}{H:Hp}{s:Shared}{Q:VK}{us:List Value}{vs:List V}(M:Mk X.K C f)(F:FnOk X.prog X.w X.K X.mg X.base CX k f fd ps sp)(hr:Room (k+1) X.A)(hb:Binds X.K fd ps ds)(hd:Vals dvs ds)
  (hx:kL CX X E) (I:Inv X pins σ H s) (r:Vals vs us)
  (h:∀ x dx,H x=none→H dx=none→dx≠x→sp (.ref x::(vs++dvs)) (upd (upd H dx (.own x)) x (.ins C dx [])) (fun v H2=>v = .non∧Q (.ref x) H2) E) :
  wpAny (model X.prog X.w) X.A (call (.ref C) us) (EP X pins σ Q) X.xe s:=by
 have hq:=h (s.heap.objs.size+1) s.heap.objs.size (I.hok.fresh (Nat.le_succ _)) (I.hok.fresh (Nat.le_refl _)) (Nat.ne_of_lt (Nat.lt_succ_self _));have I2:=Inv.made (C:=C) I;have r2:Vals (V.ref (s.heap.objs.size+1)::(vs++dvs)) (Value.ref (s.heap.objs.size+1)::(us++ds)):=.cons rfl (r.append hd)
 have hl:(Value.ref (s.heap.objs.size+1)::us++ds).length=ps.length:=by
  have e:=r2.length;rw[F.len _ _ _ _ hq]at e
  exact e.symm
 refine wpAny_call (yh (f:=f) I.kIn M.makes M.init (beq_iff_eq.mp M.fn) (codeAny_mono (F.run _ X.stack _ _ ⟨Value.ref (s.heap.objs.size+1)::us,[]⟩ (Value.ref (s.heap.objs.size+1)::(us++ds)) _ _ E (hr.make C us [])
  (I2.env0.make C us []) (hb _ (Value.ref (s.heap.objs.size+1)::us) I2.kIn hl) r2 hq) fun r s' hq'=>?_))
 cases r with
 | error e=>exact hx pins σ _ _ e s' I2 hq'
 | ok fl=>
  cases fl with
  | ret u=>
   obtain⟨v,H',I3,rv,ev,q3⟩:=I2.after hq'
   subst ev;exact⟨rv,⟨V.ref (s.heap.objs.size+1),H',I3,rfl,q3⟩⟩
  | next=>exact False.elim hq'
  | brk=>exact False.elim hq'
  | cont=>exact False.elim hq'
end
section
variable{X:Cx}{CX:g_}{k:Nat}{f C:Addr}{fd:FuncData}{ps ks:List Str}{sp:Sp}{E:XK}{x m:Str}{p pos apos kpos:Pos}{e o:Expr}{es:List Expr}{kws:List Keyword}{te ta:TE}{t tk:TA}{nm:Option Str}
variable{g:List Value→List Value→List Value}{gV:List V→List V→List V}
end
structure aD (N P:List Str) (sc:Scope):Prop where
 kind:sc.kind = .function
 co:sc.isCoroutine=false
 gen:sc.isGenerator=false
 nd:N.Nodup
 pre:N.take P.length=P
 par:∀ x∈P,sc.names.lookup x=some .local∨sc.names.lookup x=some .cell
 nofree:∀ y∈sc.names,y.2 ≠ .free
theorem mKk{N P:List Str}{s:Stmt}(h1:(L2.defScope s).kind = .function:=by rfl)(h2:(L2.defScope s).isCoroutine=false:=by rfl)(h3:(L2.defScope s).isGenerator=false:=by rfl)(h4:N.Nodup:=by decide +kernel)(h5:N.take P.length=P:=by rfl)(h6:∀ x∈P,(L2.defScope s).names.lookup x=some .local∨(L2.defScope s).names.lookup x=some .cell:=by decide +kernel)(h7:∀ y∈(L2.defScope s).names,y.2 ≠ .free:=by decide +kernel):aD N P (L2.defScope s):=⟨h1,h2,h3,h4,h5,h6,h7⟩
theorem mZ{kindOf:Str→Option NameKind}{x:Str}:∀ {binds:List (Str × Value)} {m:Str→Option Value},(∀ v,(x,v)∉binds)→bindL kindOf binds m x=m x
 | [],_,_=>rfl
 | (n,v)::r,m,h=>by
  unfold bindL;rw[mZ fun w hw=>h w (List.mem_cons_of_mem _ hw)]
  split
  ·have:x≠n:=by rintro rfl; exact h v List.mem_cons_self
   simp[this]
  ·rfl
theorem mP{kindOf:Str→Option NameKind}{x:Str}:∀ {binds:List (Str × Value)} {m:Str→Option Value},(∀ v,(x,v)∉binds)→bindC kindOf binds m x=m x
 | [],_,_=>rfl
 | (n,v)::r,m,h=>by
  unfold bindC;rw[mP fun w hw=>h w (List.mem_cons_of_mem _ hw)]
  split
  ·rfl
  ·have:x≠n:=by rintro rfl; exact h v List.mem_cons_self
   simp[this]
theorem m9{kindOf:Str→Option NameKind}{x:Str}{v:Value}:∀ {P:List Str} {vs:List Value} {i:Nat} {m:Str→Option Value},P.Nodup→P[i]? = some x→vs[i]? = some v→kindOf x=some .local→
  bindL kindOf (P.zip vs) m x=some v
 | [],_,_,_,_,h,_,_=>by simp at h
 | _::_,[],_,_,_,_,h,_=>by simp at h
 | p::P,w::vs,0,m,nd,h1,h2,hk=>by
  simp at h1 h2; subst h1; subst h2
  show bindL kindOf ((p,w)::P.zip vs) m p=_
  unfold bindL;rw[mZ fun v hv=>(List.nodup_cons.mp nd).1 (List.of_mem_zip hv).1,if_pos hk]
  simp
 | p::P,w::vs,i+1,m,nd,h1,h2,hk=>by
  show bindL kindOf ((p,w)::P.zip vs) m x=_
  unfold bindL;exact m9 (i:=i) (List.nodup_cons.mp nd).2 (by simpa using h1) (by simpa using h2) hk
theorem mD{kindOf:Str→Option NameKind}{x:Str}{v:Value}:∀ {P:List Str} {vs:List Value} {i:Nat} {m:Str→Option Value},P.Nodup→P[i]? = some x→vs[i]? = some v→kindOf x≠some .local→
  bindC kindOf (P.zip vs) m x=some v
 | [],_,_,_,_,h,_,_=>by simp at h
 | _::_,[],_,_,_,_,h,_=>by simp at h
 | p::P,w::vs,0,m,nd,h1,h2,hk=>by
  simp at h1 h2; subst h1; subst h2
  show bindC kindOf ((p,w)::P.zip vs) m p=_
  unfold bindC;rw[mP fun v hv=>(List.nodup_cons.mp nd).1 (List.of_mem_zip hv).1,if_neg hk]
  simp
 | p::P,w::vs,i+1,m,nd,h1,h2,hk=>by
  show bindC kindOf ((p,w)::P.zip vs) m x=_
  unfold bindC;exact mD (i:=i) (List.nodup_cons.mp nd).2 (by simpa using h1) (by simpa using h2) hk
def start(N:List Str)(vs:List V):St:=vs.map some++List.replicate (N.length - vs.length) none
def iZ(CX:g_)(P:Program)(w:World)(K:PySem.W.Frag)(mg:Str→Option Value)(base:Heap)(N:List Str)(qual:Str)(scope:Scope)(f:Addr)(cd:Value)(A:Around)(outer:List Env)(s:Shared)(H:Hp)(E:XK):Cx where
 prog:=P
 w:=w
 K:=K
 mg:=mg
 base:=base
 A:=A.deeper (envOfC qual scope s.heap.objs.size f cd)
 N:=N
 s₀:=s
 H₀:=H
 env:=envOfC qual scope s.heap.objs.size f cd
 outer:=outer
 stack:=envOfC qual scope s.heap.objs.size f cd::outer
 ex:=[]
 calm:=true
 fn:=fun _=>true
 pn:=[]
 xe:=fun e s'=>wpAny (model P w) (A.deeper (envOfC qual scope s.heap.objs.size f cd)) (leaving (envOfC qual scope s.heap.objs.size f cd) e) (fun _ s''=>CX outer H s E e s'') (fun e' s''=>CX outer H s E e' s'') s'
theorem pW{sc:Scope}{n:Nat}{x:Str}(h:sc.names.lookup x=some .cell):∃ c,(cellsFrom n sc.names []).lookup x=some c:=by
 have q:=PySem.W.cellsFrom_some sc.names n [] (.inl h);exact Option.isSome_iff_exists.mp q
theorem v7{CX:g_}{P:Program}{w:World}{K:PySem.W.Frag}{mg:Str→Option Value}{base:Heap}{N ps:List Str}{qual:Str}{scope:Scope}{f:Addr}{cd:Value}{A:Around}{outer:List Env}{s s1:Shared}{H:Hp}{E:XK}{us:List Value}{vs:List V}
  (S:aD N ps scope) (hd:A.handled=none) (e0:Env0 P w K mg base A outer s H) (hl:vs.length=ps.length) (r:Vals vs us)
  (x:InCallC s s.heap.objs.size (bindL (envOfC qual scope s.heap.objs.size f cd).kindOf (ps.zip us) fun _=>none) (cellsFrom (s.heap.objs.size+1) scope.names []) (bindC (envOfC qual scope s.heap.objs.size f cd).kindOf (ps.zip us) fun _=>none) s1) :
  Inv (iZ CX P w K mg base N qual scope f cd A outer s H E) [] (start N vs) H s1:=by
 have hpl:ps.length≤N.length:=by have:=congrArg List.length S.pre; rw[List.length_take]at this; omega
 obtain⟨h1,tk,rfl,hk⟩:=x.done
 have noA:∀ b:Addr,b∉(iZ CX P w K mg base N qual scope f cd A outer s H E).ex:=fun b z=>absurd (show b∈([]:List Addr) from z) (by simp)
 refine⟨⟨e0.mod,S.kind,rfl,rfl,Nat.le_refl _,fun y z c h1 h2=>?_,fun y hy=>?_,fun y c _ h=>?_,fun _=>hd,Around.frames_deeper e0.frames,.inr ⟨rfl,rfl⟩,fun b z=>absurd z (noA b),e0.bs,e0.bsz,fun b _ _=>noA b,fun b z=>absurd z (noA b),e0.funs,e0.frf⟩,
  rfl,e0.bare,Un.kept hk,⟨_,x.toInCall.ns,fun i y v h1 h2 h3=>?_⟩,fun y c h=>⟨_,x.cell y c h⟩,e0.hok.fresh (Nat.le_refl _),fun y c h=>?_,fun p hp=>absurd (show p∈([]:List (Addr × Obj)) from hp) (by simp),e0.hok.kept hk,?_⟩
 ·exact name_of_addr x.apart (PySem.mem_of_lookup h1) (PySem.mem_of_lookup h2)
 ·have hy:scope.names.lookup y=some .cell∨scope.names.lookup y=some .free:=hy
  rcases hy with hy | hy
  ·exact pW hy
  ·exact absurd rfl (S.nofree _ (PySem.mem_of_lookup hy))
 ·exact Nat.le_of_lt (x.above y c (PySem.mem_of_lookup h))
 ·have hi:i<vs.length:=by
   unfold start at h2
   by_cases hi:i<vs.length
   ·exact hi
   ·rw[List.getElem?_append_right (by simpa using hi)]at h2
    rw[List.getElem?_replicate]at h2
    split at h2 <;> cases h2
  have ha:vs[i]? = some v:=by
   unfold start at h2;rw[List.getElem?_append_left (by simpa using hi),List.getElem?_map]at h2
   cases e:vs[i]? with
   | none=>rw[e]at h2; cases h2
   | some a=>rw[e]at h2; cases h2; rfl
  obtain⟨u,hu,rv⟩:=r.get ha
  have hp:ps[i]? = some y:=by
   rw[← S.pre,List.getElem?_take_of_lt (by omega)]; exact h1
  have ndP:ps.Nodup:=by rw[← S.pre]; exact S.nd.sublist (List.take_sublist _ _)
  refine⟨u,rv,?_⟩
  rcases S.par y (List.mem_of_getElem? hp) with k | k
  ·exact .inl ⟨k,m9 ndP hp hu k⟩
  ·obtain⟨c,e⟩:=pW (n:=s.heap.objs.size+1) k
   refine .inr ⟨.inl k,c,e,?_⟩
   have q:=x.cell y c e;rw[mD ndP hp hu (by show scope.names.lookup y≠_; rw[k]; decide)]at q
   exact q
 ·exact e0.hok.fresh (Nat.le_of_lt (x.above y c (PySem.mem_of_lookup h)))
 ·unfold start
  show _=N.length
  rw[List.length_append,List.length_map,List.length_replicate];omega
theorem EQ{CX:g_}{P:Program}{w:World}{K:PySem.W.Frag}{mg:Str→Option Value}{base:Heap}{k:Nat}{f:Addr}{name qual:Str}{params:Arguments}{body:List Stmt}{scope:Scope}{dV kV doc pm cdv ct oc:Value}{an od:Option Addr}
  {osl:Array (Option Value)} {N ps:List Str} {sp:Sp} (lk:K.lookup f=some ⟨oc,od,.func (PySem.W.fnOf name qual params body scope dV kV doc pm an cdv ct),osl⟩) (hcd:PySem.W.codeIn K cdv qual=true) (S:aD N ps scope)
  (len:∀ vs H Q E,sp vs H Q E→vs.length=ps.length)
  (hbody:∀ (A:Around) (outer:List Env) (s:Shared) (H:Hp) (vs:List V) (Q:VK) (E:XK),Room k (A.deeper (envOfC qual scope s.heap.objs.size f cdv))→sp vs H Q E→
   ∃ t,PSs (iZ CX P w K mg base N qual scope f cdv A outer s H E) body t∧t { nx:=fun _ H'=>Q .non H',rt:=Q } (start N vs) H) :
  FnOk P w K mg base CX (k+1) f (PySem.W.fnOf name qual params body scope dV kV doc pm an cdv ct) ps sp:=by
 refine⟨len,fun A outer s H args us vs Q E hr e0 hb r hsp=>?_⟩
 have hl:=len _ _ _ _ hsp;have KX:K.In s.heap:=e0.mod.kin.keeps fun b o e=>(e0.bs b o e).1
 have lim:s.heap.NoLimit:=e0.mod.nolimit.keeps fun b o e=>(e0.bs b o e).1
 have hkind:∀ y∈ps.zip us,scope.names.lookup y.1=some .local∨(scope.names.lookup y.1=some .cell∧((cellsFrom (s.heap.objs.size+1) scope.names []).lookup y.1).isSome=true):=fun ⟨n,v⟩ hy=>by
  rcases S.par n (List.of_mem_zip hy).1 with q | q
  ·exact .inl q
  ·exact .inr ⟨q,PySem.W.cellsFrom_some _ _ _ (.inl q)⟩
 refine codeAny_call_function hr.depth (KX _ _ lk) rfl S.co S.gen rfl (PySem.W.codeRec_of KX hcd) (hb _ _ _ _ ?_)
 refine wpAny_newFunctionEnv_cells S.kind hkind fun env he s1 x=>?_
 subst he;refine⟨lim.keeps x.toInCall.keep,codeAny_func ?_⟩
 obtain⟨t,ht,hq⟩:=hbody A outer s H vs Q E (hr.deeper _) hsp
 have I:Inv (iZ CX P w K mg base N qual scope f cdv A outer s H E) [] (start N vs) H s1:=v7 S hr.hd e0 hl r x
 refine wpAny_mono (ht [] s1 (start N vs) H _ I hq) (fun fl s' hs=>?_) fun e s' hs=>hs
 have fin:∀ {σ':St} {H':Hp} {v:V} {u:Value},Inv (iZ CX P w K mg base N qual scope f cdv A outer s H E) [] σ' H' s'→RelV v u→Q v H'→CE outer P w H s Q u s':=
  fun {σ' H' v u} J rv q=>⟨v,H',J.os,J.bare,J.base,J.hok,rv,q⟩
 cases fl with
 | ret u=>
  obtain⟨v,σ',H',J,rv,q⟩:=hs
  exact fin J rv q
 | next=>
  obtain⟨σ',H',J,q⟩:=hs
  exact fin (v:=V.non) (u:=Value.none) J rfl q
 | brk=>
  obtain⟨_,_,_,q⟩:=hs
  exact False.elim q
 | cont=>
  obtain⟨_,_,_,q⟩:=hs
  exact False.elim q
end L2
namespace L2
open PySem PySem.Spec PyProof.Rows
section
variable{X:Cx}{x:Str}{p pos:Pos}{e:Expr}{es:List Expr}{t:TA}{id T:String}{r:List V→Hp→VK→Prop}
def wZ(r:List V→Hp→VK→Prop)(t:TA):TE:=fun σ H Q=>t σ H fun vs H1=>r vs H1 Q
theorem yL(hc:CallR X (.builtin id) r)(hg:Gl X x)(hm:X.mg x=none)(hv:bootBuiltins x=some (.builtin id))(ha:PA X (e::es) t)(hn:x ≠ "__name__" := by decide) (hdb:(x == ("__debug__" : Str))=false:=by decide)
  (he:starEach (e::es) X.env=(false,eval e X.env)::starEach es X.env:=by rfl) (hpl:(backTo pos (starEach es X.env)).any (·.1)=false:=by rfl):PE X (.Call (.Name x p) (e::es) [] pos) (wZ r t):=by
 intro pins s σ H Q I h
 refine wpAny_Call_Name_kw (hX I hg hm hv ?_ hn hdb)
 exact PyProof.Rows.callWith_builtin1 (bx (ha pos pins s σ H _ I h) fun us s1 ⟨vs,H1,I1,r1,q1⟩=>hc pins s1 σ H1 vs us Q I1 r1 q1) he hpl
theorem vX(hc:CallR X (.type T) r)(hg:Gl X x)(hm:X.mg x=none)(hv:bootBuiltins x=some (.type T))(ha:PA X (e::es) t)(hn:x ≠ "__name__" := by decide) (hdb:(x == ("__debug__" : Str))=false:=by decide)
  (he:starEach (e::es) X.env=(false,eval e X.env)::starEach es X.env:=by rfl) (hpl:(backTo pos (starEach es X.env)).any (·.1)=false:=by rfl):PE X (.Call (.Name x p) (e::es) [] pos) (wZ r t):=by
 intro pins s σ H Q I h
 refine wpAny_Call_Name_kw (hX I hg hm hv ?_ hn hdb)
 exact PyProof.Rows.callWith_type1 (bx (ha pos pins s σ H _ I h) fun us s1 ⟨vs,H1,I1,r1,q1⟩=>hc pins s1 σ H1 vs us Q I1 r1 q1) he hpl
end
end L2
namespace HT
open PySem PyProof.Rows
section
open PySem.SeqAt
open PySem.AutoSeq1 (wpAny_loadPart')
open PySem.MeetsSeq PySem.MeetsSeq2 PySem.MeetsSeq3
end
section
variable{prog:Program}{w:World}{A:Around}{E:Value→Shared→Prop}{s:Shared}
theorem cat_tup{t b:Addr}{vs ws:List Value}{Q:Value→Shared→Prop}(ht:IsTup s.heap t vs.toArray)(hb:IsTup s.heap b ws.toArray)(hv:vs≠[])
  (h1:ws=[]→Q (.ref t) s) (h2:ws≠[]→Q (.ref s.heap.objs.size) { s with heap:=s.heap.push { cls:=.type "tuple", data:=.seq (vs++ws).toArray } })
  (hsz:vs.length+ws.length≤sizeLine):wpAny (model prog w) A (binaryOp .Add (.ref t) (.ref b)) Q E s:=by
 obtain⟨⟨cls,dd,data,sl⟩,ho,hc,n,hd⟩:=id ht
 obtain⟨⟨cls2,dd2,data2,sl2⟩,ho2,hc2,n2,hd2⟩:=id hb
 simp only at hc hd hc2 hd2
 subst hc hd hc2 hd2;have e:vs.toArray++ws.toArray=(vs++ws).toArray:=by simp
 by_cases hw:ws=[]
 ·exact concat_meets ⟨_,ho,rfl⟩ ⟨_,ho2,rfl⟩ noFill_tuple_add seq_tuple_add PySem.F.slot_tuple_add PySem.F.entry_tuple_add (PySem.F.args_tuple_add_2 _ _)
   (tuple_addW1 t b vs.toArray ws.toArray n n2 dd dd2 sl sl2 (by simpa using hv) (by simp[hw])) ⟨ho,ho2,h1 hw⟩
 ·refine concat_meets ⟨_,ho,rfl⟩ ⟨_,ho2,rfl⟩ noFill_tuple_add seq_tuple_add PySem.F.slot_tuple_add PySem.F.entry_tuple_add (PySem.F.args_tuple_add_2 _ _)
   (tuple_addW2 t b vs.toArray ws.toArray n n2 dd dd2 sl sl2 (by simpa using hv) (by simpa using hw) (by rw[List.size_toArray,List.size_toArray]; exact hsz)) ⟨ho,ho2,?_⟩
  rw[e];exact h2 hw
def sIx(n d:Nat):Option Int→Nat
 | none=>d
 | some v=>if v<0 then (v+(n:Int)).toNat else min v.toNat n
theorem sIx_none(n d:Nat):sIx n d none=d:=rfl
theorem sIx_nat(n d k:Nat):sIx n d (some (k:Int))=min k n:=by
 show (if (k:Int)<0 then ((k:Int)+(n:Int)).toNat else min (k:Int).toNat n)=min k n
 rw[if_neg (by omega),Int.toNat_natCast]
theorem Ec(n d:Nat)(hd:d≤n)(o:Option Int):sIx n d o≤n:=by
 cases o with
 | none=>exact hd
 | some v=>
  show (if v<0 then (v+(n:Int)).toNat else min v.toNat n)≤n
  by_cases hv:v<0
  ·rw[if_pos hv]; omega
  ·rw[if_neg hv]; exact Nat.min_le_right _ _
theorem tD(v:Int)(n d:Nat):(if v<0 then max (v+(n:Int)) 0 else min v (n:Int))=((sIx n d (some v):Nat):Int):=by
 show (if v<0 then max (v+(n:Int)) 0 else min v (n:Int))=(((if v<0 then (v+(n:Int)).toNat else min v.toNat n):Nat):Int)
 by_cases hv:v<0
 ·simp only[if_pos hv]; omega
 ·simp only[if_neg hv]; omega
theorem vz(lo hi:Option Int)(n:Nat):Builtin.Slice.sliceAdjust lo hi 1 (n:Int)=(((sIx n 0 lo:Nat):Int),((sIx n n hi:Nat):Int)):=by
 have h1:¬ ((1:Int)<0):=by omega
 unfold Builtin.Slice.sliceAdjust;simp only[h1,if_false]
 refine Prod.ext ?_ ?_
 ·cases lo with
  | none=>rfl
  | some v=>exact tD v n 0
 ·cases hi with
  | none=>rfl
  | some v=>exact tD v n n
theorem u0(i j:Nat):Builtin.Slice.slicePlaces (i:Int) (j:Int) 1=j - i:=by
 unfold Builtin.Slice.slicePlaces;have h1:(1:Int)>0:=by omega
 simp only[h1,if_true,Int.ediv_one]
 split <;> omega
theorem kK{v:Value}{o:Option Int}{Q:Option Int→Shared→Prop}(p:IsPart v o)(h:Q o s):wpAny (model prog w) A (Builtin.Slice.slicePartIndex v) Q E s:=by
 cases p with
 | none=>exact slicePart_none h
 | int i t=>exact slicePart_int h
theorem sliceApplied_gen{sl:Addr}{vl vu:Value}{lo hi:Option Int}{n:Nat}{Q:Int × Int × Nat→Shared→Prop}(hs:s.heap.IsSliceOf sl vl vu .none)(pl:IsPart vl lo)(pu:IsPart vu hi)
  (h:Q (((sIx n 0 lo:Nat):Int),1,sIx n n hi - sIx n 0 lo) s):wpAny (model prog w) A (Builtin.Slice.sliceApplied (.ref sl) (pure (n:Int))) Q E s:=by
 obtain⟨os,hos,hcs,hds⟩:=id hs
 unfold Builtin.Slice.sliceApplied Builtin.Slice.sliceFields;refine wpAny_bind (wpAny_bind (wpAny_field hos hds (x:=vl) rfl (wpAny_bind (wpAny_field hos hds (x:=vu) rfl (wpAny_bind (wpAny_field hos hds (x:=.none) rfl (wpAny_pure ?_)))))))
 refine wpAny_bind (slicePart_none ?_)
 show wpAny _ _ (if ((1:Int) == 0)=true then _ else _) _ _ s
 rw[if_neg (by decide)]
 refine wpAny_bind (kK pl (wpAny_bind (kK pu (wpAny_bind (wpAny_pure ?_)))))
 show wpAny _ _ (match Builtin.Slice.sliceAdjust lo hi 1 (n:Int) with | (lo,hi)=>pure (lo,(1:Int),Builtin.Slice.slicePlaces lo hi 1)) _ _ s
 rw[vz lo hi n];show wpAny _ _ (pure (((sIx n 0 lo:Nat):Int),(1:Int),Builtin.Slice.slicePlaces ((sIx n 0 lo:Nat):Int) ((sIx n n hi:Nat):Int) 1)) _ _ s
 rw[u0];exact wpAny_pure h
theorem yV(xs:Array Value)(i k:Nat):((List.range k).filterMap fun (m:Nat)=>xs[((i:Int)+(m:Int) * 1).toNat]?).toArray=((xs.toList.drop i).take k).toArray:=by
 have e:(fun (m:Nat)=>xs[((i:Int)+(m:Int) * 1).toNat]?)=fun m=>xs[i+m]?:=by
  funext m
  have:((i:Int)+(m:Int) * 1).toNat=i+m:=by omega
  rw[this]
 rw[e];have:=pick_run xs i k
 rw[List.filterMap_map]at this
 have e2:((fun x=>xs[x]?) ∘ fun x=>i+x)=fun m=>xs[i+m]?:=rfl
 rw[e2]at this
 rw[this]
theorem getItem_tuple_cut{t sl:Addr}{items:Array Value}{vl vu:Value}{lo hi:Option Int}{Q:Value→Shared→Prop}(ht:IsTup s.heap t items)(hs:s.heap.IsSliceOf sl vl vu .none)(pl:IsPart vl lo)(pu:IsPart vu hi)
  (hw:¬ (sIx items.size 0 lo=0∧sIx items.size items.size hi=items.size))
  (h:Q (.ref s.heap.objs.size) { s with heap:=s.heap.push { cls:=.type "tuple", data:=.seq ((items.toList.drop (sIx items.size 0 lo)).take (sIx items.size items.size hi - sIx items.size 0 lo)).toArray } })
  (hsz:items.size≤sizeLine):wpAny (model prog w) A (getItem (.ref t) (.ref sl)) Q E s:=by
 have htake:sizeOk (.seq ((items.toList.drop (sIx items.size 0 lo)).take (sIx items.size items.size hi - sIx items.size 0 lo)).toArray):=by
  show ((items.toList.drop (sIx items.size 0 lo)).take (sIx items.size items.size hi - sIx items.size 0 lo)).toArray.size≤sizeLine
  rw[List.size_toArray,List.length_take,List.length_drop,Array.length_toList];omega
 have hj:sIx items.size items.size hi≤items.size:=Ec _ _ (Nat.le_refl _) hi
 obtain⟨os,hos,hcs,hds⟩:=id hs
 have hTs:s.TypeIs (.ref sl) "slice" := ⟨os,hos,hcs⟩
 unfold getItem
 try with_reducible refine wpAny_holding ?_
 first | refine wpAny_bind (wpAny_pure ?_) | skip
 refine wpAny_bind (wpAny_sequenceKey ht.typeIs (by decide) ?_)
 refine wpAny_bind (wpAny_callSpecial?_slot (name:=Str.ofString "__getitem__") ht.typeIs PyProof.Rows.slot_tuple_getitem
  (wpAny_call_entry PyProof.Rows.slot_tuple_getitem ht.typeIs entry_tuple_getitem ?_ (args_tuple_getitem _ _)))
 show wpAny _ _ (Builtin.Tuple.tupleItemsOf (.ref t) >>= _) _ _ s
 refine wpAny_bind (tupleItemsOf_ ht ?_)
 refine wpAny_bind (wpAny_typeOf hTs ?_)
 rw[if_pos (by decide)]
 refine wpAny_bind (sliceApplied_gen hs pl pu ?_)
 have hno:¬ ((((sIx items.size 0 lo:Nat):Int) == 0&&(1:Int) == 1&&(sIx items.size items.size hi - sIx items.size 0 lo) == items.size)=true):=by
  intro q
  rw[Bool.and_eq_true,Bool.and_eq_true]at q
  have q1:((sIx items.size 0 lo:Nat):Int)=0:=eq_of_beq q.1.1
  have q2:sIx items.size items.size hi - sIx items.size 0 lo=items.size:=eq_of_beq q.2
  exact hw ⟨by omega,by omega⟩
 show wpAny _ _ (if (((sIx items.size 0 lo:Nat):Int) == 0&&(1:Int) == 1&&(sIx items.size items.size hi - sIx items.size 0 lo) == items.size)=true then _ else _) _ _ s
 rw[if_neg hno,yV]
 first
  | exact wpAny_bind (m:=Builtin.Tuple.tupleExact _) (wpAny_newObj_type (wpAny_pure ⟨_,rfl,wpAny_pure h⟩) htake)
  | exact wpAny_bind (m:=Builtin.Tuple.tupleExact _) (wpAny_newObj_type (wpAny_bind (wpAny_pure (wpAny_pure ⟨_,rfl,wpAny_pure h⟩))) htake)
  | exact wpAny_bind (wpAny_bind (m:=Builtin.Tuple.tupleExact _) (wpAny_newObj_type (wpAny_pure (wpAny_pure ⟨_,rfl,wpAny_pure h⟩)) htake))
  | exact wpAny_bind (wpAny_bind (m:=Builtin.Tuple.tupleExact _) (wpAny_newObj_type (wpAny_pure ⟨_,rfl,wpAny_pure h⟩) htake))
end
end HT
namespace L2
open PySem PySem.Spec PyProof.Rows
abbrev TO:=St→Hp→(Option Int→Hp→Prop)→Prop
def PO(X:Cx)(e:Option Expr)(t:TO):Prop:=
 ∀ (pins:List (Addr × Obj)) (s:Shared) (σ : St) (H:Hp) (Q:Option Int→Hp→Prop),Inv X pins σ H s→t σ H Q→
  wpAny (model X.prog X.w) X.A (evalPart e X.env) (fun u s'=>∃ o H',Inv X pins σ H' s'∧IsPart u o∧Q o H') X.xe s
def ly:TO:=fun _ H Q=>Q none H
def ug(t:TE):TO:=fun σ H Q=>t σ H fun x H1=>∃ i,x = .int i∧Q (some i) H1
section
variable{X:Cx}{e:Expr}{te:TE}{lo hi:Option Expr}{tl th:TO}{pos p2:Pos}
theorem eJ:PO X none ly:=by
 intro pins s σ H Q I h
 rw[evalPart_none];exact wpAny_pure ⟨none,H,I,.none,h⟩
theorem dL(h:PE X e te):PO X (some e) (ug te):=by
 intro pins s σ H Q I hw
 rw[evalPart_some];refine bx (h pins s σ H _ I hw) fun u s1 ⟨x,H1,I1,r1,q1⟩=>?_
 obtain⟨i,rfl,q⟩:=q1
 obtain⟨t,rfl⟩:=r1
 exact⟨some i,H1,I1,.int i t,q⟩
def SlR(X:Cx)(r:V→Option Int→Option Int→Hp→VK→Prop):Prop:=
 ∀ (pins:List (Addr × Obj)) (s:Shared) (σ : St) (H:Hp) (x:V) (v vl vu:Value) (lo hi:Option Int) (sl:Addr) (Q:VK),Inv X pins σ H s→RelV x v→s.heap.IsSliceOf sl vl vu .none→IsPart vl lo→IsPart vu hi→r x lo hi H Q→
  ∃ T id,typeLookup (.type T) "__getitem__" = pure (some (.builtin id))∧s.TypeIs v T∧wpAny (model X.prog X.w) X.A (getItem v (.ref sl)) (EP X pins σ Q) X.xe s
theorem SlR.or{r r':V→Option Int→Option Int→Hp→VK→Prop}(h:SlR X r)(h':SlR X r'):SlR X (fun x lo hi H Q=>r x lo hi H Q∨r' x lo hi H Q):=by
 intro pins s σ H x v vl vu lo hi sl Q I rx hs pl pu q
 rcases q with q | q
 ·exact h pins s σ H x v vl vu lo hi sl Q I rx hs pl pu q
 ·exact h' pins s σ H x v vl vu lo hi sl Q I rx hs pl pu q
def Cc(r:V→Option Int→Option Int→Hp→VK→Prop)(te:TE)(tl th:TO):TE:=fun σ H Q=>te σ H fun x H1=>tl σ H1 fun l H2=>th σ H2 fun u H3=>r x l u H3 Q
theorem dF{r:V→Option Int→Option Int→Hp→VK→Prop}(hr:SlR X r)(he:PE X e te)(hl:PO X lo tl)(hu:PO X hi th):PE X (.Subscript e (.Slice lo hi none p2) pos) (Cc r te tl th):=by
 intro pins s σ H Q I h
 refine Subscript_ (bx (he pins s σ H _ I h) fun v s1 ⟨x,H1,I1,r1,q1⟩=>?_)
 refine wpAny_Slice (bx (hl pins s1 σ H1 _ I1 q1) fun vl s2 ⟨l,H2,I2,pl,q2⟩=>bx (hu pins s2 σ H2 _ I2 q2) fun vu s3 ⟨u,H3,I3,pu,q3⟩=>?_)
 rw[evalPart_none];refine wpAny_pure ?_
 have I4:Inv X pins σ H3 { s3 with heap:=s3.heap.push { cls:=.type "slice", data:=.fields #[vl,vu,.none] } }:=I3.kept (t':=s3.toks) fun b ob q=>Heap.get?_push_of_some _ q
 obtain⟨T,id,hT,ht,hg⟩:=hr pins { s3 with heap:=s3.heap.push { cls:=.type "slice", data:=.fields #[vl,vu,.none] } } σ H3 x v vl vu l u s3.heap.objs.size Q I4 r1 (Heap.IsSliceOf.new ..) pl pu q3
 show wpAny (model X.prog X.w) X.A (subscriptTail e (.Slice lo hi none p2) v (.ref s3.heap.objs.size)) (EP X pins σ Q) X.xe { s3 with heap:=s3.heap.push { cls:=.type "slice", data:=.fields #[vl,vu,.none] } }
 exact tail_any (ops:=[.ref s3.heap.objs.size,v]) ht hT hg (by with_unfolding_all rfl)
def di(xs:List V)(lo hi:Option Int):List V:=(xs.drop (HT.sIx xs.length 0 lo)).take (HT.sIx xs.length xs.length hi - HT.sIx xs.length 0 lo)
theorem jz(xs:List V)(lo hi:Option Int):(di xs lo hi).length≤xs.length:=by
 unfold di;rw[List.length_take,List.length_drop];omega
def HG(K:PySem.W.Frag):V→Option Int→Option Int→Hp→VK→Prop:=fun x lo hi H Q=>∃ a xs,x = .ref a∧SqT K H a xs∧
 ¬ (HT.sIx xs.length 0 lo=0∧HT.sIx xs.length xs.length hi=xs.length)∧∀ p,H p=none→Q (.ref p) (upd H p (.tup (di xs lo hi)))
theorem DP:SlR X (HG X.K):=by
 intro pins s σ H x v vl vu lo hi sl Q I rx hs pl pu h
 obtain⟨a,xs,rfl,hx,hw,q⟩:=h
 cases rx;obtain⟨its,r,ht,hz⟩:=I.tuple hx
 have hlen:its.toArray.size=xs.length:=by rw[List.size_toArray]; exact r.length.symm
 refine⟨"tuple", _,PyProof.Rows.slot_tuple_getitem.lookup,ht.typeIs,?_⟩
 refine HT.getItem_tuple_cut ht hs pl pu (by rw[hlen]; exact hw) ?_ (by rw[hlen]; exact hz)
 rw[hlen];refine⟨.ref s.heap.objs.size,_,I.laid (t':=s.toks) (o:=.tup (di xs lo hi)) (fun b ob q=>Heap.get?_push_of_some _ q) (Nat.le_refl _) ?_,rfl,q _ (I.hok.fresh (Nat.le_refl _))⟩
 exact⟨Nat.le_trans (jz xs lo hi) hz,_,(r.drop (HT.sIx xs.length 0 lo)).take (HT.sIx xs.length xs.length hi - HT.sIx xs.length 0 lo),IsTupN.new _ _⟩
def nN(K:PySem.W.Frag):R2:=fun x y H Q=>∃ a b xs ys,x = .ref a∧y = .ref b∧SqT K H a xs∧SqT K H b ys∧xs≠[]∧xs.length+ys.length≤sizeLine∧
 (ys=[]→Q (.ref a) H)∧(ys≠[]→∀ p,H p=none→Q (.ref p) (upd H p (.tup (xs++ys))))
theorem Vals.nil_iff{xs:List V}{us:List Value}(r:Vals xs us):us=[] ↔ xs=[]:=by
 cases r with
 | nil=>simp
 | cons _ _=>simp
theorem AH:OpR X (binaryOp .Add) (nN X.K):=by
 intro pins s σ H x y v u Q I rx ry h
 obtain⟨a,b,xs,ys,rfl,rfl,ha,hb,hx,hz,q1,q2⟩:=h
 cases rx
 cases ry;obtain⟨its,r1,p1,_⟩:=I.tuple ha
 obtain⟨its2,r2,p2,_⟩:=I.tuple hb
 refine HT.cat_tup p1 p2 (fun z=>hx (r1.nil_iff.mp z)) (fun z=>⟨.ref a,H,I,rfl,q1 (r2.nil_iff.mp z)⟩) (fun z=>?_) (by rw[← r1.length,← r2.length]; exact hz)
 refine⟨.ref s.heap.objs.size,_,I.laid (t':=s.toks) (o:=.tup (xs++ys)) (fun b ob q=>Heap.get?_push_of_some _ q) (Nat.le_refl _) ?_,rfl,q2 (fun w=>z (r2.nil_iff.mpr w)) _ (I.hok.fresh (Nat.le_refl _))⟩
 exact⟨by rw[List.length_append]; exact hz,_,r1.append r2,IsTupN.new _ _⟩
end
end L2
namespace L2
open PySem PySem.Spec PyProof.Rows
def iS(n:Nat)(i:Int):Option Nat:=if 0≤i then (if i<n then some i.toNat else none) else if -(n:Int)≤i then some (i+n).toNat else none
def cC{α : Type}(xs:List α)(i:Int):Option α:=(iS xs.length i).bind fun j=>xs[j]?
theorem sX{n:Nat}{i:Int}{j:Nat}(h:iS n i=some j):seqIndex? i n=some j∧j<n∧-(n:Int)≤i∧i<n:=by
 unfold iS at h
 by_cases h0:0≤i
 ·rw[if_pos h0]at h
  by_cases h1:i<n
  ·rw[if_pos h1]at h
   have e:i.toNat=j:=Option.some.inj h
   exact⟨by rw[seqIndex_of h0 h1,e],by omega,by omega,h1⟩
  ·rw[if_neg h1]at h; cases h
 ·rw[if_neg h0]at h
  by_cases h1:-(n:Int)≤i
  ·rw[if_pos h1]at h
   have e:(i+n).toNat=j:=Option.some.inj h
   exact⟨by rw[seqIndex_neg (by omega) h1,e],by omega,h1,by omega⟩
  ·rw[if_neg h1]at h; cases h
theorem lL{α : Type}{xs:List α}{i:Int}{v:α}(h:cC xs i=some v):∃ j,seqIndex? i xs.length=some j∧xs[j]? = some v∧j<xs.length∧-(xs.length:Int)≤i∧i<xs.length:=by
 unfold cC at h
 cases e:iS xs.length i with
 | none=>rw[e]at h; cases h
 | some j=>
  rw[e]at h
  obtain⟨h1,h2,h3,h4⟩:=sX e
  exact⟨j,h1,h,h2,h3,h4⟩
theorem aq{α : Type}{xs:List α}{j:Nat}{v:α}(h:xs[j]? = some v):cC xs (j:Int)=some v:=by
 have hj:j<xs.length:=(List.getElem?_eq_some_iff.mp h).1
 have e:iS xs.length (j:Int)=some j:=by
  unfold iS;rw[if_pos (by omega),if_pos (by omega)]; simp
 unfold cC; rw[e]; exact h
def A4(b:Expr):Prop:=∀ o i,subscripted b false o i=operate [o,i] (getItem o i)
def IxR(X:Cx)(r:R2):Prop:=
 ∀ (value slice:Expr) (pins:List (Addr × Obj)) (s:Shared) (σ : St) (H:Hp) (x y:V) (v u:Value) (Q:VK),Inv X pins σ H s→RelV x v→RelV y u→r x y H Q→
  subscripted slice false v u=operate [v,u] (getItem v u)→wpAny (model X.prog X.w) X.A (subscriptTail value slice v u) (EP X pins σ Q) X.xe s
def MtR(X:Cx)(id:String)(r:V→List V→Hp→VK→Prop):Prop:=
 ∀ (pins:List (Addr × Obj)) (s:Shared) (σ : St) (H:Hp) (x:V) (xs:List V) (v:Value) (us:List Value) (Q:VK),Inv X pins σ H s→RelV x v→Vals xs us→r x xs H Q→
  wpAny (model X.prog X.w) X.A (call (.builtin id) (v::us)) (EP X pins σ Q) X.xe s
section
variable{X:Cx}{a b:Expr}{ta tb:TE}{pos:Pos}
theorem IxR.or{r r':R2}(h:IxR X r)(h':IxR X r'):IxR X (fun x y H Q=>r x y H Q∨r' x y H Q):=by
 intro value slice pins s σ H x y v u Q I rx ry q hs
 rcases q with q | q
 ·exact h value slice pins s σ H x y v u Q I rx ry q hs
 ·exact h' value slice pins s σ H x y v u Q I rx ry q hs
theorem am{r:R2}(hr:IxR X r)(ha:PE X a ta)(hb:PE X b tb)(hs:A4 b):PE X (.Subscript a b pos) (kF r ta tb):=by
 intro pins s σ H Q I h
 exact Subscript_ (yx ha hb I h fun v u s2 x y H2 I2 rx ry q=>hr a b pins s2 σ H2 x y v u Q I2 rx ry q (hs _ _))
def Cd(K:PySem.W.Frag):R2:=fun x y H Q=>∃ p xs i v,x = .ref p∧y = .int i∧SqL K H p xs∧cC xs i=some v∧Q v H
def CM(K:PySem.W.Frag):R2:=fun x y H Q=>∃ p xs i v,x = .ref p∧y = .int i∧SqT K H p xs∧cC xs i=some v∧Q v H
def BQ:R2:=fun x y H Q=>∃ z i c,x = .str z∧y = .int i∧z.length≤sizeLine∧cC z.cps.toList i=some c∧Q (.str ⟨#[c]⟩) H
theorem ix_list:IxR X (Cd X.K):=by
 intro value slice pins s σ H x y v u Q I rx ry h hs
 obtain⟨p,xs,i,z,rfl,rfl,hq,he,q⟩:=h
 cases rx;obtain⟨t,rfl⟩:=ry
 obtain⟨its,r,pl,hz⟩:=I.list hq
 obtain⟨j,h1,h2,h3,h4,h5⟩:=lL he
 obtain⟨w,ew,rw'⟩:=r.get h2
 have hl:=r.length;have hn:=gW;have fin:EP X pins σ Q w s:=⟨z,H,I,rw',q⟩
 by_cases h0:0≤i
 ·have hj:i.toNat=j:=by
   rw[seqIndex_of h0 h5]at h1
   exact Option.some.inj h1
  exact item_listR pl.isList h0 (by omega) (by rw[hj]; simpa using ew) fin hs
 ·have hj:(i+(its.toArray.size:Int)).toNat=j:=by
   rw[seqIndex_neg (by omega) h4]at h1
   rw[List.size_toArray,← hl];exact Option.some.inj h1
  exact subscriptTail_builtinR (x:=w) pl.isList.typeIs slot_list_getitem.lookup
   (wpAny_getItem_list_neg (Q:=fun r s'=>r=w∧EP X pins σ Q r s') pl.isList (by omega) (by rw[List.size_toArray] <;> omega) (by omega) (by rw[hj]; simpa using ew) ⟨rfl,fin⟩) hs
theorem ix_tup:IxR X (CM X.K):=by
 intro value slice pins s σ H x y v u Q I rx ry h hs
 obtain⟨p,xs,i,z,rfl,rfl,hq,he,q⟩:=h
 cases rx;obtain⟨t,rfl⟩:=ry
 obtain⟨its,r,pl,hz⟩:=I.tuple hq
 obtain⟨j,h1,h2,h3,h4,h5⟩:=lL he
 obtain⟨w,ew,rw'⟩:=r.get h2
 have hl:=r.length;have hn:=gW;have fin:EP X pins σ Q w s:=⟨z,H,I,rw',q⟩
 exact subscriptTail_builtinR (x:=w) pl.typeIs slot_tuple_getitem.lookup
  (getItem_tuple (j:=j) (Q:=fun r s'=>r=w∧EP X pins σ Q r s') pl (by omega) (by omega) (by rw[List.size_toArray,← hl]; exact h1) (by simpa using ew) ⟨rfl,fin⟩) hs
theorem Dx:IxR X BQ:=by
 intro value slice pins s σ H x y v u Q I rx ry h hs
 obtain⟨z,i,c,rfl,rfl,hz,he,q⟩:=h
 obtain⟨t,rfl⟩:=rx
 obtain⟨t',rfl⟩:=ry
 obtain⟨j,h1,h2,h3,h4,h5⟩:=lL he
 have hl:z.cps.toList.length=z.length:=by simp[Str.length]
 rw[hl]at h1 h4 h5
 have hn:=gW
 exact tail_any (typeIs_str s z t) slot_str_getitem.lookup (getItem_str (c:=c) (by
  have e1:decide (i < -(2 ^ 63:Int))=false:=decide_eq_false (by omega)
  have e2:decide (i≥2 ^ 63)=false:=decide_eq_false (by omega)
  rw[e1,e2,Bool.or_false]) (by rw[h1]; simpa using h2) ⟨.str ⟨#[c]⟩,H,I.tok _,⟨_,rfl⟩,q⟩) hs
def JG(K:PySem.W.Frag):R2:=fun x y H Q=>Cd K x y H Q∨CM K x y H Q∨BQ x y H Q
theorem DK:IxR X (JG X.K):=ix_list.or (ix_tup.or Dx)
theorem vo(its:List Value)(n j:Nat)(u:Value):Obj.mapSeq (·.setIfInBounds j u) { cls:=.type "list", data:=.seq its.toArray n }={ cls:=.type "list", data:=.seq (its.set j u).toArray n }:=by
 simp[Obj.mapSeq]
theorem Inv.lst{pins:List (Addr × Obj)}{σ : St}{H:Hp}{s:Shared}{p:Addr}{xs:List V}(I:Inv X pins σ H s)(h:H p=some (.lst xs)) :
  ∃ (its:List Value) (n:Nat),Vals xs its∧s.heap.get? p=some { cls:=.type "list", data:=.seq its.toArray n }∧xs.length≤sizeLine:=by
 obtain⟨z,its,n,r,e⟩:=I.hok p _ h
 exact⟨its,n,r,e,z⟩
theorem Inv.lstUpd{pins:List (Addr × Obj)}{σ : St}{H:Hp}{s:Shared}{p:Addr}{xs ys:List V}{its its':List Value}{n n':Nat}{f:Obj→Obj}(I:Inv X pins σ H s)(h:H p=some (.lst xs))
  (ho:s.heap.get? p=some { cls:=.type "list", data:=.seq its.toArray n }) (hf:f { cls:=.type "list", data:=.seq its.toArray n }={ cls:=.type "list", data:=.seq its'.toArray n' }) (r:Vals ys its') (hz:ys.length≤sizeLine) (t:Nat) :
  Inv X pins σ (upd H p (.lst ys)) { s with heap:=s.heap.update p f,toks:=t }:=by
 have e:(s.heap.update p f).get? p=some { cls:=.type "list", data:=.seq its'.toArray n' }:=by
  rw[Heap.get?_update_self f ho (by rw[hf] <;> rfl),hf]
 refine I.write (x:=p) (e:=p) (by rw[h]; trivial) (.inl rfl) (fun b u hb q=>(Heap.get?_update_other _ _ (Ne.symm hb)).trans q) ⟨_,e⟩ ?_
 exact⟨hz,its',n',r,e⟩
def u6:V→V→V→Hp→(Hp→Prop)→Prop:=fun o i v H Q=>∃ p xs k j,o = .ref p∧i = .int k∧H p=some (.lst xs)∧iS xs.length k=some j∧Q (upd H p (.lst (xs.set j v)))
theorem zv:PSet X u6:=by
 intro pins s σ H o i v ov iv u Q I ro ri rv h
 obtain⟨p,xs,k,j,rfl,rfl,hp,hj,q⟩:=h
 cases ro;obtain⟨t,rfl⟩:=ri
 obtain⟨its,n,r,ho,hz⟩:=I.lst hp
 obtain⟨h1,h2,h3,h4⟩:=sX hj
 have hl:=r.length;have hn:=gW
 have I':Inv X pins σ (upd H p (.lst (xs.set j v))) { s with heap:=s.heap.update p (Obj.mapSeq (·.setIfInBounds j u)) }:=
  I.lstUpd hp ho (vo its n j u) (r.set rv j) (by rw[List.length_set]; exact hz) s.toks
 by_cases h0:0≤k
 ·have hk:k.toNat=j:=by
   rw[seqIndex_of h0 h4]at h1
   exact Option.some.inj h1
  exact PySem.W.ki_setAt ho h0 (by omega) (by rw[List.size_toArray,← hl]; exact h4) (by rw[hk]; exact⟨_,I',q⟩)
 ·have hk:(k+(its.toArray.size:Int)).toNat=j:=by
   rw[seqIndex_neg (by omega) h3]at h1
   rw[List.size_toArray,← hl];exact Option.some.inj h1
  exact PySem.W.ki_setBack ho (by omega) (by rw[List.size_toArray,← hl]; exact h3) (by omega) (by rw[hk]; exact⟨_,I',q⟩)
theorem oJ(lo hi:Option Int)(n:Nat):(sliceBounds lo hi none n).1=((HT.sIx n 0 lo:Nat):Int)∧(sliceBounds lo hi none n).2.1=((HT.sIx n n hi:Nat):Int)∧(sliceBounds lo hi none n).2.2=1:=by
 refine⟨?_,?_,rfl⟩
 ·cases lo with
  | none=>simp[sliceBounds,HT.sIx]
  | some i=>
   simp only[sliceBounds,HT.sIx,Option.getD_none,show (1:Int)>0 by decide,if_true]
   by_cases h:i<0
   ·simp only[h,if_true] <;> omega
   ·simp only[h,if_false] <;> omega
 ·cases hi with
  | none=>simp[sliceBounds,HT.sIx]
  | some i=>
   simp only[sliceBounds,HT.sIx,Option.getD_none,show (1:Int)>0 by decide,if_true]
   by_cases h:i<0
   ·simp only[h,if_true] <;> omega
   ·simp only[h,if_false] <;> omega
theorem nB(its:List Value)(lo hi:Option Int):slicePick its.toArray lo hi none=((its.drop (HT.sIx its.length 0 lo)).take (HT.sIx its.length its.length hi - HT.sIx its.length 0 lo)).toArray:=by
 obtain⟨h1,h2,h3⟩:=oJ lo hi its.toArray.size
 unfold slicePick;rw[h1,h2,h3];simp only[sliceRange_one,pick_run,List.size_toArray] <;> rfl
def ya(K:PySem.W.Frag):V→Option Int→Option Int→Hp→VK→Prop:=fun x lo hi H Q=>∃ a xs,x = .ref a∧SqL K H a xs∧∀ p,H p=none→Q (.ref p) (upd H p (.lst (di xs lo hi)))
theorem Bd:SlR X (ya X.K):=by
 intro pins s σ H x v vl vu lo hi sl Q I rx hs pl pu h
 obtain⟨a,xs,rfl,hx,q⟩:=h
 cases rx;obtain⟨its,r,ht,hz⟩:=I.list hx
 have hlen:=r.length;refine⟨"list", _,slot_list_getitem.lookup,ht.isList.typeIs,?_⟩
 refine wpAny_getItem_list_slice ht.isList hs pl pu .none (by simp) ?_ (by rw[List.size_toArray] <;> omega)
 rw[nB,← hlen];refine⟨.ref s.heap.objs.size,_,I.laid (t':=s.toks) (o:=.lst (di xs lo hi)) (fun b ob q=>Heap.get?_push_of_some _ q) (Nat.le_refl _) ?_,rfl,q _ (I.hok.fresh (Nat.le_refl _))⟩
 exact⟨Nat.le_trans (jz xs lo hi) hz,_,0,(r.drop (HT.sIx xs.length 0 lo)).take (HT.sIx xs.length xs.length hi - HT.sIx xs.length 0 lo),Heap.get?_push_size _ rfl⟩
def bQ:V→Bool
 | .non=>true
 | .bl _=>true
 | .int _=>true
 | .str _=>true
 | _=>false
def fD:V→V→Bool
 | .non,.non=>true
 | .bl a,.bl b=>a == b
 | .bl a,.int b=>(if a then 1 else 0) == b
 | .int a,.bl b=>a == (if b then 1 else 0)
 | .int a,.int b=>a == b
 | .str a,.str b=>a == b
 | _,_=>false
theorem iU{A:Around}{s:Shared}{y x:V}{u v:Value}(ry:RelV y u)(rx:RelV x v)(fy:bQ y=true)(fx:bQ x=true):SeqAt.EqAt A s u v (fD y x):=by
 cases y with
 | non=>
  cases ry
  cases x with
  | non=>cases rx; exact SeqAt.EqAt.same _
  | bl b=>cases rx; exact SeqAt.EqAt.none_bool b
  | int b=>obtain⟨t,rfl⟩:=rx; exact SeqAt.EqAt.none_int b t
  | str b=>obtain⟨t,rfl⟩:=rx; exact SeqAt.EqAt.none_str b t
  | _=>exact absurd (show false=true from fx) Bool.false_ne_true
 | bl a=>
  cases ry
  cases x with
  | non=>cases rx; exact SeqAt.EqAt.bool_none a
  | bl b=>cases rx; exact SeqAt.EqAt.bool_bool a b
  | int b=>obtain⟨t,rfl⟩:=rx; exact SeqAt.EqAt.bool_int a b t
  | str b=>obtain⟨t,rfl⟩:=rx; exact SeqAt.EqAt.bool_str a b t
  | _=>exact absurd (show false=true from fx) Bool.false_ne_true
 | int a=>
  obtain⟨t',rfl⟩:=ry
  cases x with
  | non=>cases rx; exact SeqAt.EqAt.int_none a t'
  | bl b=>cases rx; exact SeqAt.EqAt.int_bool a t' b
  | int b=>obtain⟨t,rfl⟩:=rx; exact SeqAt.EqAt.int_int a t' b t
  | str b=>obtain⟨t,rfl⟩:=rx; exact SeqAt.EqAt.int_str a t' b t
  | _=>exact absurd (show false=true from fx) Bool.false_ne_true
 | str a=>
  obtain⟨t',rfl⟩:=ry
  cases x with
  | non=>cases rx; exact SeqAt.EqAt.str_none a t'
  | bl b=>cases rx; exact SeqAt.EqAt.str_bool a t' b
  | int b=>obtain⟨t,rfl⟩:=rx; exact SeqAt.EqAt.str_int a t' b t
  | str b=>obtain⟨t,rfl⟩:=rx; exact SeqAt.EqAt.str_str a t' b t
  | _=>exact absurd (show false=true from fx) Bool.false_ne_true
 | _=>exact absurd (show false=true from fy) Bool.false_ne_true
def fA(x:V)(u:Value):Bool:=match u with
 | .none=>fD .non x
 | .bool b=>fD (.bl b) x
 | .int i _=>fD (.int i) x
 | .str z _=>fD (.str z) x
 | _=>false
theorem wt{x y:V}{u:Value}(r:RelV y u)(f:bQ y=true):fA x u=fD y x:=by
 cases y with
 | non=>cases r; rfl
 | bl b=>cases r; rfl
 | int i=>obtain⟨t,rfl⟩:=r; rfl
 | str z=>obtain⟨t,rfl⟩:=r; rfl
 | _=>exact absurd (show false=true from f) Bool.false_ne_true
theorem gZ{x:V}:∀ {xs:List V} {us:List Value},Vals xs us→xs.all bQ=true→us.any (fA x)=xs.any fun y=>fD y x
 | _,_,.nil,_=>rfl
 | y::xs,u::us,.cons r t,f=>by
  rw[List.all_cons,Bool.and_eq_true]at f
  rw[List.any_cons,List.any_cons,wt r f.1,gZ t f.2]
theorem gA{A:Around}{s:Shared}{x:V}{v:Value}(rx:RelV x v)(fx:bQ x=true):∀ {xs:List V} {us:List Value},Vals xs us→xs.all bQ=true→∀ u∈us,SeqAt.EqAt A s u v (fA x u)
 | _,_,.nil,_=>fun u hu=>by cases hu
 | y::xs,u::us,.cons r t,f=>fun u' hu=>by
  rw[List.all_cons,Bool.and_eq_true]at f
  rcases List.mem_cons.mp hu with rfl | hu
  ·rw[wt r f.1]; exact iU r rx f.1 fx
  ·exact gA rx fx t f.2 u' hu
def gT(x:V)(xs:List V):Bool:=xs.any fun y=>fD y x
def EU(K:PySem.W.Frag)(neg:Bool):R2:=fun x y H Q=>∃ p xs,y = .ref p∧(SqL K H p xs∨SqT K H p xs)∧bQ x=true∧xs.all bQ=true∧Q (.bl (if neg then !gT x xs else gT x xs)) H
theorem xI:OpR X (compareOp .In) (EU X.K false):=by
 intro pins s σ H x y v u Q I rx ry h
 obtain⟨p,xs,rfl,hq,fx,fs,q⟩:=h
 cases ry;rcases hq with hq | hq
 ·obtain⟨its,r,pl,hz⟩:=I.list hq
  refine SeqAt.in_listAt (fA x) pl.isList (fun w hw=>gA rx fx r fs w (by simpa using hw)) ⟨.bl _,H,I,rfl,?_⟩
  rw[show its.toArray.any (fA x)=its.any (fA x) by simp,gZ r fs]
  exact q
 ·obtain⟨its,r,pl,hz⟩:=I.tuple hq
  refine SeqAt.in_tupleAt (fA x) pl (fun w hw=>gA rx fx r fs w (by simpa using hw)) ⟨.bl _,H,I,rfl,?_⟩
  rw[show its.toArray.any (fA x)=its.any (fA x) by simp,gZ r fs]
  exact q
theorem oS:OpR X (compareOp .NotIn) (EU X.K true):=by
 intro pins s σ H x y v u Q I rx ry h
 obtain⟨p,xs,rfl,hq,fx,fs,q⟩:=h
 cases ry;rcases hq with hq | hq
 ·obtain⟨its,r,pl,hz⟩:=I.list hq
  refine SeqAt.notIn_listAt (fA x) pl.isList (fun w hw=>gA rx fx r fs w (by simpa using hw)) ⟨.bl _,H,I,rfl,?_⟩
  rw[show its.toArray.any (fA x)=its.any (fA x) by simp,gZ r fs]
  exact q
 ·obtain⟨its,r,pl,hz⟩:=I.tuple hq
  refine SeqAt.notIn_tupleAt (fA x) pl (fun w hw=>gA rx fx r fs w (by simpa using hw)) ⟨.bl _,H,I,rfl,?_⟩
  rw[show its.toArray.any (fA x)=its.any (fA x) by simp,gZ r fs]
  exact q
theorem qG:CallR X (.builtin "len") (fun xs H Q=>∃ p ys,xs=[.ref p]∧(SqL X.K H p ys∨SqT X.K H p ys)∧Q (.int ys.length) H):=by
 intro pins s σ H xs us Q I r h
 obtain⟨p,ys,rfl,hq,q⟩:=h
 obtain⟨u,rfl,rx⟩:=dG r
 cases rx;have hn:=gW;rcases hq with hq | hq
 ·obtain⟨its,r',pl,hz⟩:=I.list hq
  have hlen:=r'.length;exact Calls.call_len_list pl.isList (by simp only[List.size_toArray] <;> omega) ⟨.int ys.length,H,I.tok _,⟨s.toks+1,by rw[List.size_toArray,hlen]⟩,q⟩
 ·obtain⟨its,r',pl,hz⟩:=I.tuple hq
  have hlen:=r'.length;exact len_tuple pl (by simp only[List.size_toArray] <;> omega) ⟨.int ys.length,H,I.tok _,⟨s.toks+1,by rw[List.size_toArray,hlen]⟩,q⟩
theorem qH:CallR X (.builtin "len") (fun xs H Q=>∃ z,xs=[.str z]∧z.length≤sizeLine∧Q (.int z.length) H):=by
 intro pins s σ H xs us Q I r h
 obtain⟨z,rfl,hz,q⟩:=h
 obtain⟨u,rfl,t,rfl⟩:=dG r
 have hn:=gW;exact len_str (by omega) ⟨.int z.length,H,I.tok _,⟨_,rfl⟩,q⟩
theorem qM:CallR X (.type "list") (fun xs H Q=>∃ p ys,xs=[.ref p]∧(SqL X.K H p ys∨SqT X.K H p ys)∧∀ l,H l=none→Q (.ref l) (upd H l (.lst ys))):=by
 intro pins s σ H xs us Q I r h
 obtain⟨p,ys,rfl,hq,q⟩:=h
 obtain⟨u,rfl,rx⟩:=dG r
 cases rx
 have fin:∀ (its:List Value),Vals ys its→ys.length≤sizeLine→∀ (h':Heap) (c':Nat),(∀ b o',s.heap.get? b=some o'→h'.get? b=some o')→
   h'.get? s.heap.objs.size=some { cls:=.type "list", dict:=none,data:=.seq its.toArray c',slots:=#[] }→EP X pins σ Q (.ref s.heap.objs.size) { s with heap:=h' }:=fun its r' hz h' c' kp e=>
  ⟨.ref s.heap.objs.size,_,I.laid (t':=s.toks) kp (Nat.le_refl _) (show ObjOk X.prog X.w _ h' _ (.lst ys) from ⟨hz,its,c',r',e⟩),rfl,q _ (I.hok.fresh (Nat.le_refl _))⟩
 rcases hq with hq | hq
 ·obtain⟨its,r',pl,hz⟩:=I.list hq
  have hlen:=r'.length;obtain⟨o,ho,hc,n,hd⟩:=pl.isList
  exact call_list_seq p (.inl rfl) ho hc hd (fun h' c' kp e=>fin its r' hz h' c' kp e) (by simp only[List.size_toArray] <;> omega)
 ·obtain⟨its,r',pl,hz⟩:=I.tuple hq
  have hlen:=r'.length;obtain⟨o,ho,hc,n,hd⟩:=pl
  exact call_list_seq p (.inr rfl) ho hc hd (fun h' c' kp e=>fin its r' hz h' c' kp e) (by simp only[List.size_toArray] <;> omega)
theorem nu:CallR X (.type "tuple") (fun xs H Q=>∃ p ys,xs=[.ref p]∧((SqL X.K H p ys∧∀ l,H l=none→Q (.ref l) (upd H l (.tup ys)))∨(SqT X.K H p ys∧Q (.ref p) H))):=by
 intro pins s σ H xs us Q I r h
 obtain⟨p,ys,rfl,h⟩:=h
 obtain⟨u,rfl,rx⟩:=dG r
 cases rx;rcases h with ⟨hq,q⟩ | ⟨hq,q⟩
 ·obtain⟨its,r',pl,hz⟩:=I.list hq
  have hlen:=r'.length;refine call_tuple_list pl.isList (fun h' kp=>?_) (by simp only[List.size_toArray] <;> omega)
  have I1:Inv X pins σ H { s with heap:=h' }:=I.kept (t':=s.toks) kp
  have I2:Inv X pins σ (upd H h'.objs.size (.tup ys)) { s with heap:=h'.push { cls:=.type "tuple", data:=.seq its.toArray } }:=
   I1.laid (t':=s.toks) (fun b o e=>Heap.get?_push_of_some _ e) (Nat.le_refl _) (show ObjOk X.prog X.w _ _ _ (.tup ys) from ⟨hz,its,r',IsTupN.new _ _⟩)
  exact⟨.ref h'.objs.size,_,I2,rfl,q _ (I1.hok.fresh (Nat.le_refl _))⟩
 ·obtain⟨its,r',pl,hz⟩:=I.tuple hq
  exact call_tuple_same pl ⟨.ref p,H,I,rfl,q⟩
def pT(K:PySem.W.Frag)(T:String)(x:V)(H:Hp):Prop:=match x with
 | .str _=>T = "str"
 | .int _=>T = "int"
 | .ref p=>(T = "list" ∧ ∃ xs,SqL K H p xs)∨(T = "tuple" ∧ ∃ o,K.lookup p=some o∧o.cls = .type "tuple" ∧ o.dict=none)∨
   (T = "dict" ∧ ((∃ kvs,H p=some (.dK kvs))∨∃ kvs,H p=some (.dT kvs)))∨(T = "set" ∧ ∃ S n,H p=some (.set S n))
 | _=>False
theorem v6{pins:List (Addr × Obj)}{σ : St}{H:Hp}{s:Shared}{T:String}{x:V}{v:Value}(I:Inv X pins σ H s)(r:RelV x v)(ty:pT X.K T x H) :
  s.TypeIs v T∧∀ a,v = .ref a→∃ ob,s.heap.get? a=some ob∧ob.dict=none:=by
 cases x with
 | str z=>
  obtain⟨t,rfl⟩:=r
  cases (show T = "str" from ty)
  exact⟨typeIs_str s z t,fun _ e=>nomatch e⟩
 | int i=>
  obtain⟨t,rfl⟩:=r
  cases (show T = "int" from ty)
  exact⟨typeIs_int s i t,fun _ e=>nomatch e⟩
 | ref p=>
  cases r;rcases ty with ⟨rfl,xs,hq⟩ | ⟨rfl,o,hk,hc,hd⟩ | ⟨rfl,hk⟩ | ⟨rfl,S,n,hk⟩
  ·obtain⟨its,_,pl,_⟩:=I.list hq
   refine⟨pl.isList.typeIs,fun a e=>?_⟩
   cases e;obtain⟨o,n,e,c,hd,_⟩:=pl
   exact⟨o,e,hd⟩
  ·refine⟨⟨o,I.kIn p o hk,hc⟩,fun a e=>?_⟩
   cases e;exact⟨o,I.kIn _ o hk,hd⟩
  ·have z:∃ o,s.heap.get? p=some o∧o.ExactDict:=by
    rcases hk with ⟨kvs,hk⟩ | ⟨kvs,hk⟩
    ·obtain⟨_,_,_,_,o,_,_,e,ex,_⟩:=I.hok p _ hk
     exact⟨o,e,ex⟩
    ·obtain⟨_,_,_,_,o,_,_,e,ex,_⟩:=I.hok p _ hk
     exact⟨o,e,ex⟩
   obtain⟨o,e,ex⟩:=z
   refine⟨⟨o,e,ex.1⟩,fun a e2=>?_⟩
   cases e2;exact⟨o,e,ex.2.1⟩
  ·obtain⟨o,_,_,_,e,ex,_⟩:=I.hok p _ hk
   refine⟨⟨o,e,ex.1⟩,fun a e2=>?_⟩
   cases e2;exact⟨o,e,ex.2.1⟩
 | _=>exact False.elim ty
def yQ(K:PySem.W.Frag)(T:String)(r:V→List V→Hp→VK→Prop)(to:TE):TE:=fun σ H Q=>to σ H fun x H1=>pT K T x H1∧r x [] H1 Q
def B1(K:PySem.W.Frag)(T:String)(r:V→List V→Hp→VK→Prop)(to:TE)(t:TA):TE:=fun σ H Q=>to σ H fun x H1=>pT K T x H1∧t σ H1 fun xs H2=>r x xs H2 Q
variable{o e:Expr}{es:List Expr}{to:TE}{t:TA}{name:Str}{apos cpos:Pos}{T id:String}{r:V→List V→Hp→VK→Prop}
theorem Cg(pa:PlainAttrs T)(slot:Slot T name id)(hty:typeOf (.builtin id)=pure (.type "method_descriptor")) (hm:MtR X id r) (ho:PE X o to)
  (hbase:attributeBase o name X.env (eval o X.env)=eval o X.env:=by rfl) (hline:(apos.endLine == cpos.line)=true:=by rfl):PE X (.Call (.Attribute o name apos) [] [] cpos) (yQ X.K T r to):=by
 intro pins s σ H Q I h
 refine wpAny_Call_method0_late hbase hline (bx (ho pins s σ H _ I h) fun v s1 ⟨x,H1,I1,r1,ty,q1⟩=>?_)
 obtain⟨h1,h2⟩:=v6 I1 r1 ty
 exact⟨T,id,pa,slot,hty,h1,h2,Calls.callWith_builtin rfl (PySem.evalArgs_none (hm pins s1 σ H1 x [] v [] Q I1 r1 .nil q1))⟩
theorem EJ(pa:PlainAttrs T)(slot:Slot T name id)(hty:typeOf (.builtin id)=pure (.type "method_descriptor")) (hm:MtR X id r) (ho:PE X o to) (ha:PA X (e::es) t)
  (hbase:attributeBase o name X.env (eval o X.env)=eval o X.env:=by rfl)
  (hfew:((backTo cpos (starEach (e::es) X.env)).all (fun x=>!x.1)&&(backToKw cpos (keywordEach [] X.env)).all (fun x=>x.1.isSome)
   && decide ((e::es).length+([]:List Keyword).length+(if ([]:List Keyword).isEmpty then 0 else 1)<30))=true:=by rfl)
  (hline:(apos.endLine == cpos.line)=true:=by rfl) (hs:starEach (e::es) X.env=(false,eval e X.env)::starEach es X.env:=by rfl) (hplain:(backTo cpos (starEach es X.env)).any (·.1)=false:=by rfl) :
  PE X (.Call (.Attribute o name apos) (e::es) [] cpos) (B1 X.K T r to t):=by
 intro pins s σ H Q I h
 refine wpAny_Call_method_late hbase hfew hline rfl (bx (ho pins s σ H _ I h) fun v s1 ⟨x,H1,I1,r1,ty,q1⟩=>?_)
 obtain⟨h1,h2⟩:=v6 I1 r1 ty
 refine⟨T,id,pa,slot,hty,h1,h2,?_⟩
 have hA:=ha cpos pins s1 σ H1 _ I1 q1;rw[hs]at hA ⊢
 refine Calls.callWith_builtin (by show (false||(backTo cpos (starEach es X.env)).any (·.1))=false; rw[hplain] <;> rfl) (Calls.evalArgs_plain ?_)
 exact bx hA fun us s2 ⟨vs,H2,I2,r2,q2⟩=>hm pins s2 σ H2 x vs v us Q I2 r1 r2 q2
/- xs.append(e), list.index on a module's tuple .. are MtR facts of 06m -/
end
end L2
namespace L2
open PySem PySem.Spec PyProof.Rows
def Dg(X:Cx)(id:String)(r:V→List V→Hp→VK→Prop):Prop:=
 ∀ (pins:List (Addr × Obj)) (s:Shared) (σ : St) (H:Hp) (x:V) (xs:List V) (v:Value) (us:List Value) (Q:VK),Inv X pins σ H s→RelV x v→Vals xs us→r x xs H Q→
  wpAny (model X.prog X.w) X.A (call (.builtin id) (v::us)) (EP X pins σ Q) X.xe s
theorem Vals.one:∀ {x:V} {us:List Value},Vals [x] us→∃ u,us=[u]∧RelV x u
 | _,_,.cons r .nil=>⟨_,rfl,r⟩
theorem Vals.zero:∀ {us:List Value},Vals [] us→us=[]
 | _,.nil=>rfl
theorem Vals.dropLast{xs:List V}{us:List Value}(h:Vals xs us):Vals xs.dropLast us.dropLast:=by
 induction h with
 | nil=>exact .nil
 | cons r t ih=>
  cases t with
  | nil=>exact .nil
  | cons q t'=>exact .cons r ih
theorem uw{α : Type}(l:List α):l.eraseIdx (l.length - 1)=l.dropLast:=by
 induction l with
 | nil=>rfl
 | cons a r ih=>
  cases r with
  | nil=>rfl
  | cons b r=>
   have e:(a::b::r).length - 1=((b::r).length - 1)+1:=by
    have h1:(a::b::r).length=r.length+2:=rfl
    have h2:(b::r).length=r.length+1:=rfl
    omega
   rw[e,List.eraseIdx_cons_succ,ih]
   all_goals rfl
section
variable{X:Cx}{pins:List (Addr × Obj)}{σ : St}{H:Hp}{s:Shared}{l b:Addr}{xs ys zs:List V}
theorem Inv.lset{its its':List Value}{n:Nat}{f:Array Value→Array Value}{t':Nat}(I:Inv X pins σ H s)(hH:H l=some (.lst xs))
  (e:s.heap.get? l=some { cls:=.type "list", data:=.seq its.toArray n }) (hf:f its.toArray=its'.toArray) (hv:Vals ys its') (hz:ys.length≤sizeLine) :
  Inv X pins σ (upd H l (.lst ys)) { s with heap:=s.heap.update l (Obj.mapSeq f),toks:=t' }:=by
 have q:=PySem.IsL.update e f;rw[hf]at q
 refine I.write (x:=l) (e:=l) (by rw[hH]; exact trivial) (.inl rfl) (fun b' u hb hu=>(Heap.get?_update_other s.heap (Obj.mapSeq f) (Ne.symm hb)).trans hu) ⟨_,q⟩ ?_
 exact⟨hz,its',_,hv,q⟩
theorem Inv.lnew{its:List Value}{t':Nat}(I:Inv X pins σ H s)(hv:Vals ys its)(hz:ys.length≤sizeLine) :
  Inv X pins σ (upd H s.heap.objs.size (.lst ys)) { s with heap:=s.heap.push { cls:=.type "list", data:=.seq its.toArray },toks:=t' }:=
 I.laid (fun _ _ q=>Heap.get?_push_of_some _ q) (Nat.le_refl _) ⟨hz,its,0,hv,Heap.get?_push_size _ rfl⟩
theorem Inv.fresh(I:Inv X pins σ H s):H s.heap.objs.size=none:=I.hok.fresh (Nat.le_refl _)
theorem Inv.lstM(I:Inv X pins σ H s)(hH:H l=some (.lst xs)):xs.length≤sizeLine∧∃ (its:List Value) (n:Nat),Vals xs its∧xs.length=its.length∧s.heap.get? l=some { cls:=.type "list", data:=.seq its.toArray n }:=by
 obtain⟨z,its,n,r,e⟩:=I.hok l _ hH
 exact⟨z,its,n,r,r.length,e⟩
theorem yY{n:Nat}(h:n≤sizeLine):Builtin.List.listTooLong n=false:=by
 unfold Builtin.List.listTooLong;exact decide_eq_false (by omega)
end
section
variable{X:Cx}
def lx:V→List V→Hp→VK→Prop:=fun x vs H Q=>∃ l xs y,x = .ref l∧vs=[y]∧H l=some (.lst xs)∧xs.length<sizeLine∧Q .non (upd H l (.lst (xs++[y])))
theorem mw:Dg X "list.append" lx:=by
 intro pins s σ H x vs v us Q I rx rv h
 obtain⟨l,xs,y,rfl,rfl,hH,hz,q⟩:=h
 cases rx;obtain⟨u,rfl,ru⟩:=rv.one
 obtain⟨z,its,n,r,hl,e⟩:=I.lstM hH
 refine call_meets F.slot_list_append ⟨_,e,rfl⟩ F.entry_list_append (F.args_list_append_2 _ _) (PySem.list_append l its.toArray n u (by rw[List.size_toArray]; omega)) ⟨e,?_⟩
 refine⟨.non,_,I.lset (its':=its++[u]) hH e (by simp) (r.append (.cons ru .nil)) ?_,rfl,q⟩
 rw[List.length_append,List.length_singleton];omega
def lb:V→List V→Hp→VK→Prop:=fun x vs H Q=>∃ l b xs zs,x = .ref l∧vs=[.ref b]∧H l=some (.lst xs)∧H b=some (.lst zs)∧xs.length+zs.length≤sizeLine∧Q .non (upd H l (.lst (xs++zs)))
theorem ww:Dg X "list.extend" lb:=by
 intro pins s σ H x vs v us Q I rx rv h
 obtain⟨l,b,xs,zs,rfl,rfl,hH,hB,hz,q⟩:=h
 cases rx;obtain⟨u,rfl,ru⟩:=rv.one
 cases ru;obtain⟨z,its,n,r,hl,e⟩:=I.lstM hH
 obtain⟨z2,its2,n2,r2,hl2,e2⟩:=I.lstM hB
 have hsz:its.toArray.size+its2.toArray.size≤sizeLine:=by rw[List.size_toArray,List.size_toArray]; omega
 have hlong:¬ (!its.toArray.isEmpty&&Builtin.List.listTooLong (its.toArray.size+its2.toArray.size))=true:=by
  rw[yY hsz,Bool.and_false];exact Bool.false_ne_true
 refine call_meets F.slot_list_extend ⟨_,e,rfl⟩ F.entry_list_extend (F.args_list_extend_2 _ _)
  (AutoSeq1.list_extend_list_list_0 l its.toArray n b its2.toArray n2 hlong (by rw[List.size_toArray]; omega) (by omega)) ⟨e,e2,?_⟩
 refine⟨.non,_,I.lset (its':=its++its2) hH e (by simp) (r.append r2) ?_,rfl,q⟩
 rw[List.length_append];omega
def za:V→List V→Hp→VK→Prop:=fun x vs H Q=>∃ l xs y,x = .ref l∧vs=[]∧H l=some (.lst xs)∧xs[xs.length - 1]? = some y∧Q y (upd H l (.lst xs.dropLast))
theorem D8:Dg X "list.pop" za:=by
 intro pins s σ H x vs v us Q I rx rv h
 obtain⟨l,xs,y,rfl,rfl,hH,hy,q⟩:=h
 cases rx;have hus:=rv.zero;subst hus;obtain⟨z,its,n,r,hl,e⟩:=I.lstM hH
 obtain⟨u,hu,ru⟩:=r.get hy
 have hy':its.toArray[its.toArray.size - 1]? = some u:=by
  show its.toArray[its.length - 1]? = some u
  rw[← Array.getElem?_toList,← hl];exact hu
 refine call_meets F.slot_list_pop ⟨_,e,rfl⟩ F.entry_list_pop (F.args_list_pop_1 _) (MeetsSeq.list_pop_last l its.toArray n u hy' (by rw[List.size_toArray]; omega)) ⟨e,?_⟩
 refine⟨y,_,I.lset (its':=its.dropLast) hH e ?_ r.dropLast ?_,ru,q⟩
 ·show its.toArray.eraseIdxIfInBounds (its.toArray.size - 1)=its.dropLast.toArray
  rw[List.size_toArray,List.eraseIdxIfInBounds_toArray,uw]
 ·rw[List.length_dropLast]
  omega
def Fq:R2:=fun x y H Q=>∃ l b xs zs,x = .ref l∧y = .ref b∧H l=some (.lst xs)∧H b=some (.lst zs)∧xs.length+zs.length≤sizeLine∧∀ p,H p=none→Q (.ref p) (upd H p (.lst (xs++zs)))
theorem D_:OpR X (binaryOp .Add) Fq:=by
 intro pins s σ H x y v u Q I rx ry h
 obtain⟨l,b,xs,zs,rfl,rfl,hH,hB,hz,q⟩:=h
 cases rx
 cases ry;obtain⟨z,its,n,r,hl,e⟩:=I.lstM hH
 obtain⟨z2,its2,n2,r2,hl2,e2⟩:=I.lstM hB
 refine PySem.P.add_list e e2 ?_ (by rw[List.size_toArray,List.size_toArray]; omega)
 have ea:its.toArray++its2.toArray=(its++its2).toArray:=by simp
 rw[ea];exact⟨.ref _,_,I.lnew (t':=s.toks) (r.append r2) (by rw[List.length_append]; omega),rfl,q _ I.fresh⟩
end
section
variable{prog:Program}{w:World}{A:Around}{E:Value→Shared→Prop}{s:Shared}
end
section
variable{X:Cx}
end
end L2
namespace L2
open PySem PySem.Spec PyProof.Rows
section
variable{κ : Type}[DecidableEq κ]
def cr(kvs:List (κ × V))(k:κ):Option V:=(kvs.find? fun kv=>decide (kv.1=k)).map (·.2)
def cK(kvs:List (κ × V))(k:κ)(v:V):List (κ × V):=
 if (kvs.any fun kv=>decide (kv.1=k))=true then kvs.map (fun kv=>if kv.1=k then (kv.1,v) else kv) else kvs++[(k,v)]
theorem dk{p:κ × V}{r:List (κ × V)}{k:κ}(e:p.1=k):cr (p::r) k=some p.2:=by simp[cr,List.find?_cons,e]
theorem dg{p:κ × V}{r:List (κ × V)}{k:κ}(e:¬ p.1=k):cr (p::r) k=cr r k:=by simp[cr,List.find?_cons,e]
theorem ib(k:κ):∀ kvs:List (κ × V),(kvs.any fun kv=>decide (kv.1=k))=(cr kvs k).isSome
 | []=>rfl
 | p::r=>by
  rw[List.any_cons]
  by_cases e:p.1=k
  ·simp only[dk e,decide_eq_true e,Bool.true_or,Option.isSome_some]
  ·rw[dg e,decide_eq_false e,Bool.false_or]; exact ib k r
theorem pM(k j:κ)(y:V):∀ kvs:List (κ × V),cr (kvs.map fun kv=>if kv.1=k then (kv.1,y) else kv) j=(cr kvs j).map fun x=>if j=k then y else x
 | []=>rfl
 | p::r=>by
  have ih:=pM k j y r;rw[List.map_cons]
  by_cases h:p.1=k
  ·rw[if_pos h]
   by_cases e:p.1=j
   ·rw[dk (p:=(p.1,y)) e,dk e,Option.map_some,if_pos (e.symm.trans h)]
   ·rw[dg (p:=(p.1,y)) e,dg e,ih]
  ·rw[if_neg h]
   by_cases e:p.1=j
   ·rw[dk (p:=p) e,dk e,Option.map_some,if_neg (fun z=>h (e.trans z))]
   ·rw[dg (p:=p) e,dg e,ih]
theorem mN(k j:κ)(y:V):∀ kvs:List (κ × V),cr kvs k=none→cr (kvs++[(k,y)]) j=if j=k then some y else cr kvs j
 | [],_=>by
  by_cases e:k=j
  ·rw[if_pos e.symm]; exact dk (p:=(k,y)) e
  ·rw[if_neg (fun z=>e z.symm)]; exact dg (p:=(k,y)) e
 | p::r,hn=>by
  rw[List.cons_append];have hk:¬ p.1=k:=fun z=>by rw[dk z]at hn; cases hn
  rw[dg hk]at hn
  have ih:=mN k j y r hn
  by_cases e:p.1=j
  ·rw[dk e,dk e,if_neg (fun z=>hk (e.trans z))]
  ·rw[dg e,dg e,ih]
theorem jQ(kvs:List (κ × V))(k j:κ)(y:V):cr (cK kvs k y) j=if j=k then some y else cr kvs j:=by
 unfold cK
 by_cases a:(kvs.any fun kv=>decide (kv.1=k))=true
 ·rw[if_pos a,pM]
  rw[ib]at a
  by_cases e:j=k
  ·obtain⟨x,hx⟩:=Option.isSome_iff_exists.mp a
   rw[if_pos e,e,hx,Option.map_some,if_pos rfl]
  ·rw[if_neg e]
   cases cr kvs j with
   | none=>rfl
   | some x=>rw[Option.map_some,if_neg e]
 ·rw[if_neg a]
  refine mN k j y kvs ?_
  rw[ib]at a
  cases q:cr kvs k with
  | none=>rfl
  | some x=>rw[q]at a; exact(a rfl).elim
theorem jM(kvs:List (κ × V))(k:κ)(v:V):(cK kvs k v).length≤kvs.length+1:=by
 unfold cK;split
 ·rw[List.length_map]; omega
 ·rw[List.length_append,List.length_cons,List.length_nil]; omega
theorem RelO.isSome_eq{o:Option V}{u:Option Value}(r:RelO o u):o.isSome=u.isSome:=by
 cases o with
 | none=>cases u with
  | none=>rfl
  | some _=>exact(show False from r).elim
 | some _=>cases u with
  | none=>exact(show False from r).elim
  | some _=>rfl
theorem RelO.getD{o:Option V}{u:Option Value}{d:V}{d':Value}(r:RelO o u)(rd:RelV d d'):RelV (o.getD d) (u.getD d'):=by
 cases o with
 | none=>cases u with
  | none=>exact rd
  | some _=>exact(show False from r).elim
 | some _=>cases u with
  | none=>exact(show False from r).elim
  | some _=>exact r
theorem KV.val{kvs:List (κ × V)}{vs:List (κ × Value)}(r:KV kvs vs)(k:κ):RelO (cr kvs k) (valueAt vs k):=by
 unfold KV at r
 induction r with
 | nil=>exact True.intro
 | @cons p q ps qs h t ih=>
  obtain⟨h1,h2⟩:=h
  by_cases e:p.1=k
  ·have e':q.1=k:=h1.symm.trans e
   have b:valueAt (q::qs) k=some q.2:=by simp[valueAt,List.find?_cons,e']
   rw[dk e,b]; exact h2
  ·have e':¬ q.1=k:=fun z=>e (h1.trans z)
   have b:valueAt (q::qs) k=valueAt qs k:=by simp[valueAt,List.find?_cons,e']
   rw[dg e,b]; exact ih
theorem KV.any{kvs:List (κ × V)}{vs:List (κ × Value)}(r:KV kvs vs)(k:κ):(kvs.any fun kv=>decide (kv.1=k))=vs.any fun kv=>decide (kv.1=k):=by
 unfold KV at r
 induction r with
 | nil=>rfl
 | cons h t ih=>rw[List.any_cons,List.any_cons,ih,h.1]
theorem KV.repl{kvs:List (κ × V)}{vs:List (κ × Value)}(r:KV kvs vs)(k:κ){y:V}{u:Value}(ry:RelV y u) :
  KV (kvs.map fun kv=>if kv.1=k then (kv.1,y) else kv) (vs.map fun kv=>if kv.1=k then (kv.1,u) else kv):=by
 unfold KV at r ⊢
 induction r with
 | nil=>exact .nil
 | @cons p q ps qs h t ih=>
  rw[List.map_cons,List.map_cons];refine .cons ?_ ih
  obtain⟨h1,h2⟩:=h
  by_cases e:p.1=k
  ·rw[if_pos e,if_pos (h1.symm.trans e)]; exact⟨h1,ry⟩
  ·rw[if_neg e,if_neg (fun z=>e (h1.trans z))]; exact⟨h1,h2⟩
theorem KV.put{kvs:List (κ × V)}{vs:List (κ × Value)}(r:KV kvs vs)(k:κ){y:V}{u:Value}(ry:RelV y u):KV (cK kvs k y) (stored vs k u):=by
 unfold cK stored;rw[r.any k]
 by_cases e:(vs.any fun kv=>decide (kv.1=k))=true
 ·rw[if_pos e,if_pos e]; exact r.repl k ry
 ·rw[if_neg e,if_neg e]; exact Paired.snoc r ⟨rfl,ry⟩
theorem KV.length{kvs:List (κ × V)}{vs:List (κ × Value)}(r:KV kvs vs):kvs.length=vs.length:=Paired.length r
end
theorem uR{P:Program}{w:World}{k:aK}{u:Value}(r:RelV (kV k) u):(cL P w).is k u=true:=by
 cases k with
 | inl i=>obtain⟨t,e⟩:=(show ∃ t,u=Value.int i t from r); subst e; exact qR P w i t
 | inr x=>obtain⟨t,e⟩:=(show ∃ t,u=Value.str x t from r); subst e; exact qV P w x t
theorem mf{P:Program}{w:World}:∀ {ks:List aK} {us:List Value},Vals (ks.map kV) us→ItemsAre (cL P w) ks us
 | [],_,r=>by rw[List.map_nil]at r; cases r; exact .nil
 | k::ks,_,r=>by
  rw[List.map_cons]at r
  cases r with
  | cons h t=>exact .cons (uR h) (mf t)
abbrev KT (H:Hp):List (List aK × V)→List (List aK × Addr × Value)→Prop:=Paired fun p q=>p.1=q.1∧H q.2.1=some (.tup (p.1.map kV))∧RelV p.2 q.2.2
theorem KT.val{H:Hp}{kvs:List (List aK × V)}{xs:List (List aK × Addr × Value)}(r:KT H kvs xs)(k:List aK):RelO (cr kvs k) ((atKey xs k).map (·.2)):=by
 induction r with
 | nil=>exact True.intro
 | @cons p q ps qs h t ih=>
  obtain⟨h1,_,h2⟩:=h
  by_cases e:p.1=k
  ·have e':q.1=k:=h1.symm.trans e
   have b:atKey (q::qs) k=some q.2:=by simp[atKey,List.find?_cons,e']
   rw[dk e,b]; exact h2
  ·have e':¬ q.1=k:=fun z=>e (h1.trans z)
   have b:atKey (q::qs) k=atKey qs k:=by simp[atKey,List.find?_cons,e']
   rw[dg e,b]; exact ih
theorem KT.repl{H:Hp}{kvs:List (List aK × V)}{xs:List (List aK × Addr × Value)}(r:KT H kvs xs)(k:List aK){y:V}{u:Value}(ry:RelV y u) :
  KT H (kvs.map fun kv=>if kv.1=k then (kv.1,y) else kv) (xs.map (putAt k u)):=by
 induction r with
 | nil=>exact .nil
 | @cons p q ps qs h t ih=>
  rw[List.map_cons,List.map_cons];refine .cons ?_ ih
  obtain⟨h1,h2,h3⟩:=h
  unfold putAt
  by_cases e:p.1=k
  ·rw[if_pos e,if_pos (h1.symm.trans e)]; exact⟨h1,h2,ry⟩
  ·rw[if_neg e,if_neg (fun z=>e (h1.trans z))]; exact⟨h1,h2,h3⟩
theorem KT.put{H:Hp}{kvs:List (List aK × V)}{xs:List (List aK × Addr × Value)}(r:KT H kvs xs)(k:List aK){b:Addr}{y:V}{u:Value}(hb:H b=some (.tup (k.map kV)))(ry:RelV y u) :
  KT H (cK kvs k y) (storedH xs k b u):=by
 have e:(kvs.any fun kv=>decide (kv.1=k))=(atKey xs k).isSome:=by
  rw[ib,(r.val k).isSome_eq,Option.isSome_map]
 unfold cK storedH;rw[e]
 by_cases q:(atKey xs k).isSome=true
 ·rw[if_pos q,if_pos q]; exact r.repl k ry
 ·rw[if_neg q,if_neg q]; exact Paired.snoc r ⟨rfl,hb,ry⟩
theorem KT.keeps{H H':Hp}{kvs:List (List aK × V)}{xs:List (List aK × Addr × Value)}(r:KT H kvs xs)(ht:∀ b ys,H b=some (.tup ys)→H' b=some (.tup ys)):KT H' kvs xs:=
 Paired.mapP r fun _ _ z=>⟨z.1,ht _ _ z.2.1,z.2.2⟩
section
variable{P:Program}{w:World}{H:Hp}{h:Heap}{a:Addr}
theorem Ak{u:HO}(ok:HOk P w H h)(e:Rd H a u):ObjOk P w H h a u:=e.ok ok
theorem u5{kvs:List (aK × V)}(ok:HOk P w H h)(e:Rd H a (.dK kvs)):kvs.length≤sizeLine∧(a == sysModules)=false∧∃ vs,KV kvs vs∧h.DictOf (cL P w) a vs:=
 show ObjOk P w H h a (.dK kvs) from Ak ok e
theorem Es{kvs:List (aK × V)}(ok:HOk P w H h)(e:H a=some (.dK kvs)):kvs.length≤sizeLine∧(a == sysModules)=false∧∃ vs,KV kvs vs∧h.DictOf (cL P w) a vs:=u5 ok (.inl e)
theorem xw{ks:List aK}(ok:HOk P w H h)(e:H a=some (.tup (ks.map kV))):(tupleKind (cL P w)).is h ks a:=by
 obtain⟨_,its,r,o,h1,h2,_,n,h3⟩:=(show ObjOk P w H h a (.tup (ks.map kV)) from ok a _ e)
 exact⟨o,its.toArray,n,h1,h2,h3,by simpa using mf r⟩
theorem Ez{kvs:List (List aK × V)}(ok:HOk P w H h)(e:Rd H a (.dT kvs)):kvs.length≤sizeLine∧(a == sysModules)=false∧
  ∃ xs,KT H kvs xs∧h.DictOfH (tupleKind (cL P w)) a xs:=by
 obtain⟨z,y,xs,r,o,es,ep,h1,h2,h3,h4,h5⟩:=(show ObjOk P w H h a (.dT kvs) from Ak ok e)
 refine⟨z,y,xs,r,o,es,ep,h1,h2,h3,h4,fun x hx=>?_,h5⟩
 have all:∀ {l:List (List aK × V)} {m:List (List aK × Addr × Value)},KT H l m→∀ x∈m,(tupleKind (cL P w)).is h x.1 x.2.1:=by
  intro l m q
  induction q with
  | nil=>intro x hx; exact nomatch hx
  | @cons p q ps qs hq t ih=>
   intro x hx
   rcases List.mem_cons.mp hx with e | hx
   ·subst e
    exact xw ok (by rw[← hq.1]; exact hq.2.1)
   ·exact ih x hx
 exact all r x hx
theorem Ew{kvs:List (List aK × V)}(ok:HOk P w H h)(e:H a=some (.dT kvs)):kvs.length≤sizeLine∧(a == sysModules)=false∧
  ∃ xs,KT H kvs xs∧h.DictOfH (tupleKind (cL P w)) a xs:=Ez ok (.inl e)
end
def DPut(H:Hp)(a:Addr)(y v:V)(H':Hp):Prop:=
 (∃ kvs k,H a=some (.dK kvs)∧y=kV k∧kvs.length<sizeLine∧H'=upd H a (.dK (cK kvs k v)))∨
 ∃ kvs k b,H a=some (.dT kvs)∧y = .ref b∧H b=some (.tup (k.map kV))∧kvs.length<sizeLine∧H'=upd H a (.dT (cK kvs k v))
theorem DPut.k{H:Hp}{a:Addr}{kvs:List (aK × V)}{k:aK}{v:V}(e:H a=some (.dK kvs))(hl:kvs.length<sizeLine):DPut H a (kV k) v (upd H a (.dK (cK kvs k v))):=.inl ⟨kvs,k,e,rfl,hl,rfl⟩
theorem DPut.t{H:Hp}{a b:Addr}{kvs:List (List aK × V)}{k:List aK}{v:V}(e:H a=some (.dT kvs))(eb:H b=some (.tup (k.map kV)))(hl:kvs.length<sizeLine) :
  DPut H a (.ref b) v (upd H a (.dT (cK kvs k v))):=.inr ⟨kvs,k,b,e,rfl,eb,hl,rfl⟩
section
variable{X:Cx}{pins:List (Addr × Obj)}{σ : St}{H:Hp}{s:Shared}{a:Addr}{y v:V}{u r:Value}{o:Option V}{A:Around}{E:Value→Shared→Prop}
theorem Inv.big(I:Inv X pins σ H s):sysModules<s.heap.objs.size:=by
 have h:mainGlobals<s.heap.objs.size:=(I.mod.glob.keeps I.bk).lt
 exact Nat.lt_trans (by decide) h
theorem rL{h':Heap}{t':Nat}{ob:HO}(I:Inv X pins σ H s)(mu:wx (H a))(hs:Heap.SameBut a s.heap h')(he:∃ q,h'.get? a=some q)(new:ObjOk X.prog X.w (upd H a ob) h' a ob) :
  Inv X pins σ (upd H a ob) { s with heap:=h',toks:=t' }:=
 I.write (x:=a) (e:=a) mu (.inl rfl) (fun b q hb z=>(hs.2 b hb).trans z) he new
theorem CI{P:Program}{w:World}{H':Hp}{h':Heap}{kvs:List (aK × V)}{vs:List (aK × Value)}(z:kvs.length≤sizeLine)(hd:(a == sysModules)=false)(rel:KV kvs vs)(dd:h'.DictOf (cL P w) a vs) :
  ObjOk P w H' h' a (.dK kvs):=⟨z,hd,vs,rel,dd⟩
theorem mL{H':Hp}{Q:Unit→Shared→Prop}(hu:A.units+1<cLine)(I:Inv X pins σ H s)(g:DPut H a y v H')(ry:RelV y u)(rv:RelV v r)(h:∀ s',Inv X pins σ H' s'→Q () s') :
  wpAny (model X.prog X.w) A (setItem (.ref a) u r) Q E s:=by
 rcases g with ⟨kvs,k,e,ey,l,eH⟩ | ⟨kvs,k,b,e,ey,eb,l,eH⟩
 ·subst ey eH
  obtain⟨z,hd,vs,rel,dd⟩:=Es I.hok e
  have hz:vs.length≤sizeLine:=by rw[← rel.length]; exact z
  have hl:(cK kvs k v).length≤sizeLine:=by have:=jM kvs k v; omega
  refine wpAny_setItem_pairs (hsz:=hz) (uR ry) dd fun h' dd' hs=>h _ ?_
  have he:∃ q,h'.get? a=some q:=let ⟨q,_,_,hq,_⟩:=dd'; ⟨q,hq⟩
  exact rL I (by rw[e]; exact True.intro) hs he (CI hl hd (rel.put k rv) dd')
 ·subst ey eH
  cases (show u=Value.ref b from ry)
  obtain⟨z,hd,xs,rel,dd⟩:=Ew I.hok e
  have hz:xs.length≤sizeLine:=by rw[← Paired.length rel]; exact z
  have hl:(cK kvs k v).length≤sizeLine:=by have:=jM kvs k v; omega
  refine wpAny_setItem_heap (hsz:=hz) (tupleKind_room_in1 hu) (xw I.hok eb) dd fun h' dd' hs=>h _ ?_
  obtain⟨q,es,ep,hq,h2,h3,h4,_,h5⟩:=dd'
  refine rL I (by rw[e]; exact True.intro) hs ⟨q,hq⟩ ⟨hl,hd,_,(rel.put k eb rv).keeps fun c ys ec=>?_,q,es,ep,hq,h2,h3,h4,h5⟩
  rw[ax (cP ec e (fun z=>nomatch z))]
  exact ec
end
section
variable{X:Cx}{pins:List (Addr × Obj)}{σ : St}{H:Hp}{s:Shared}{a:Addr}{kvs:List (aK × V)}{k:aK}{u:Value}{A:Around}{E:Value→Shared→Prop}
end
section
variable{X:Cx}{o i e value:Expr}{pos pos' tpos:Pos}{td ty tv:TE}
end
theorem zD{P:Program}{w:World}{H:Hp}(h:Heap)(hb:sysModules<h.objs.size):ObjOk P w H (h.push { cls:=.type "dict", data:=.dict #[] }) h.objs.size (.dK []):=
 ⟨Nat.zero_le _,beq_eq_false_iff_ne.mpr (Ne.symm (Nat.ne_of_lt hb)),[],.nil,Heap.DictOf.new h⟩
theorem yz{P:Program}{w:World}{H:Hp}(h:Heap)(hb:sysModules<h.objs.size):ObjOk P w H (h.push { cls:=.type "dict", data:=.dict #[] }) h.objs.size (.dT []):=
 ⟨Nat.zero_le _,beq_eq_false_iff_ne.mpr (Ne.symm (Nat.ne_of_lt hb)),[],.nil,_,#[],0,Heap.get?_push_size _ rfl,⟨rfl,rfl,rfl⟩,rfl,rfl,List.nodup_nil⟩
def Dv:TE:=fun _ H Q=>∀ p,H p=none→Q (.ref p) (upd H p (.dK []))
def Ed:TE:=fun _ H Q=>∀ p,H p=none→Q (.ref p) (upd H p (.dT []))
section
variable{X:Cx}{pos:Pos}
theorem qr:PE X (.Dict [] [] pos) Dv:=fun pins s σ H Q I h=>
 wpAny_Dict_empty ⟨.ref s.heap.objs.size,_,I.laid (a:=s.heap.objs.size) (o:=.dK []) (t':=s.toks) (fun _ _ q=>Heap.get?_push_of_some _ q) (Nat.le_refl _) (zD s.heap I.big),rfl,h _ (I.hok.fresh (Nat.le_refl _))⟩
theorem zK:PE X (.Dict [] [] pos) Ed:=fun pins s σ H Q I h=>
 wpAny_Dict_empty ⟨.ref s.heap.objs.size,_,I.laid (a:=s.heap.objs.size) (o:=.dT []) (t':=s.toks) (fun _ _ q=>Heap.get?_push_of_some _ q) (Nat.le_refl _) (yz s.heap I.big),rfl,h _ (I.hok.fresh (Nat.le_refl _))⟩
end
def iQ:List (TE × TE)→St→Hp→(List (V × V)→Hp→Prop)→Prop
 | [],_,H,Q=>Q [] H
 | (tk,tv)::r,σ,H,Q=>tk σ H fun x H1=>tv σ H1 fun y H2=>iQ r σ H2 fun ps H3=>Q ((x,y)::ps) H3
abbrev VV:List (V × V)→List (Value × Value)→Prop:=Paired fun p q=>RelV p.1 q.1∧RelV p.2 q.2
def PPs(X:Cx)(pos:Pos)(keys:List (Option Expr))(values:List Expr)(trs:List (TE × TE)):Prop:=
 ∀ (pins:List (Addr × Obj)) (s:Shared) (σ : St) (H:Hp) (Q:List (V × V)→Hp→Prop),Inv X pins σ H s→iQ trs σ H Q→
  wpAny (model X.prog X.w) X.A (evalPairs (pairTrees keys values X.env pos)) (fun vs s'=>∃ ps H',Inv X pins σ H' s'∧VV ps vs∧Q ps H') X.xe s
structure M1 (X:Cx) (o:Expr) (m:Str) (apos:Pos) (e:Expr) (cpos:Pos):Prop where
 base:attributeBase o m X.env (eval o X.env)=eval o X.env
 few:((backTo cpos (starEach [e] X.env)).all (fun x=>!x.1)&&(backToKw cpos (keywordEach [] X.env)).all (fun x=>x.1.isSome)
  && decide (([e]:List Expr).length+([]:List Keyword).length+(if ([]:List Keyword).isEmpty then 0 else 1)<30))=true
 line:(apos.endLine == cpos.line)=true
 trees:backTo cpos (starEach [e] X.env)=[(false,eval e X.env)]
section
variable{X:Cx}{pins:List (Addr × Obj)}{σ : St}{H:Hp}{s:Shared}{a:Addr}{y d:V}{u r:Value}{o:Option V}{A:Around}{E:Value→Shared→Prop}
end
section
variable{X:Cx}{o e f:Expr}{apos cpos:Pos}{td ty tx:TE}
end
section
variable{X:Cx}{pins:List (Addr × Obj)}{σ : St}{H:Hp}{s:Shared}{a:Addr}{kvs:List (aK × V)}{A:Around}{E:Value→Shared→Prop}
end
section
variable{X:Cx}{pins:List (Addr × Obj)}{σ : St}{H:Hp}{s:Shared}{a:Addr}{y:V}{u:Value}{A:Around}{E:Value→Shared→Prop}
end
end L2
namespace Att
open PySem PySem.W PySem.Calls PyProof.Rows
theorem kM{P:Params}{h:Heap}:∀ (ns:List Int) (vs:List Value),WellAll P h vs (ns.map WData.int)→IntsAre vs ns:=by
 intro ns
 induction ns with
 | nil=>
  intro vs w
  rw[List.map_nil]at w
  cases w;exact .nil
 | cons n ns ih=>
  intro vs w
  rw[List.map_cons]at w
  cases w with
  | cons a b=>
   cases a;exact .cons _ _ (ih _ b)
theorem wN{l:OpenLaw}{n:Nat}(hn:l.most=some n){P:Params}{h:Heap}{args:List WData}{vals:List Value}
  (hpre:l.row.toRowW.claim.pre args=true) (hwl:WellAll P h vals args) :
  ∃ a vs ns,vals=[Value.ref a]∧args=[WData.list (ns.map WData.int)]∧h.get? a=some { cls:=.type "list", data:=.seq vs.toArray }∧IntsAre vs ns∧ns.length≤n:=by
 have hsh:WShape.hasAll [] args [.list .int]=true:=(pre_splitW hpre).1
 have hc:l.pre.holds [] { args:=args }=true:=(pre_splitW hpre).2
 obtain⟨d,r,rfl,h1,h2⟩:=hasAllW_cons hsh
 obtain rfl:=hasAllW_nil h2
 obtain⟨xs,rfl,h3⟩:=hasW_list h1
 obtain⟨ns,rfl⟩:=items_int h3
 have hlen:ns.length≤n:=by
  unfold OpenLaw.pre at hc
  have h4:(WTm.not (.lt (.lit (.int (n:Int))) (.len (.arg 0)))).holds [] { args:=[.list (ns.map .int)] }=true:=by
   have h4:=(holds_andW hc).1;rw[hn]at h4
   exact h4
  have h5:=condW_of h4 (w_not (w_lt w_lit (w_len_list (w_arg rfl))));rw[List.length_map]at h5
  refine Nat.le_of_not_lt fun q=>?_
  have q':(n:Int)<((ns.length:Nat):Int):=by omega
  first
   | (rw[decide_eq_true q']at h5; exact absurd h5 (by decide))
   | (simp at h5; omega)
 cases hwl with
 | cons w1 w2=>
  cases w2
  cases w1 with
  | list ho hall=>exact⟨_,_,ns,rfl,rfl,ho,kM ns _ hall,hlen⟩
theorem v5(l:OpenLaw)(args:List WData):l.row.toRowW.claim.post args (.bool true) args=true:=
 postW_of (r:=l.row.toRowW) (X:=(true == true))
  (show WShape.has [] (.bool true) .bool=true by first | rfl | decide | simp[WShape.has,WShape.arms,WShape.armsAll])
  (show (WTm.eq .res (.lit (.bool true))).value [] { args:=args,res:=some (.bool true),after:=args }=some (.bool (true == true)) from w_eq_bool (w_res rfl) w_lit) rfl
theorem attach_call{l:OpenLaw}{n:Nat}{q:Program}{loose:List Str}{XP:(Str→Option Value)→Heap→Prop}{YP:World→Heap→Prop}{d:DefRec}
  (hn:l.most=some n) (hdf:d.params.defaults=[])
  (call:∀ (w:World) (s₀ s₁:Shared) (mg mb:Str→Option Value) (fa:Addr) (o:Obj) (pm cd doc:Value) (a:Addr) (vs:List Value) (ns:List Int),
   Ground q loose [] XP w s₀ mg mb s₁.heap→YP w s₁.heap→
   s₁.heap.get? fa=some o→o.data = .func (docDef d.name d.params d.body d.scope pm cd doc)→s₁.heap.CodeRec cd d.name→mg d.name=some (.ref fa)→
   s₁.heap.get? a=some { cls:=.type "list", data:=.seq vs.toArray }→IntsAre vs ns→ns.length≤n→s₁.gens = #[]→
   codeAny (model l.prog w) callerA (.call (.ref fa) ⟨[.ref a],[]⟩) (fun r s'=>r = .ok (.ret (.bool true))∧OldK s₁.heap s'.heap∧s'.os=s₁.os∧AllBare s'.gens) s₁) :
  WalkO q loose XP YP l.row.toRowW d [] (fun f vs=>PySem.call f vs):=by
 intro w s₀ s₁ mg mb G Y fa o pm cd doc dV kV ho hd hcd hD hmg hg args vals as hpre hlay hrd hwl hlo
 obtain rfl:dV = .none:=Dflts.none hD hdf
 obtain rfl:kV = .none:=Dflts.noKw hD
 obtain⟨a,vs,ns,rfl,rfl,hobj,hints,hlen⟩:=wN hn hpre hwl
 refine enter_call (codeAny_mono (call w s₀ s₁ mg mb fa o pm cd doc a vs ns G Y ho (fd_plain hd) hcd hmg hobj hints hlen hg) fun r s' hq=>?_)
 obtain⟨rfl,h2,h3,h4⟩:=hq
 exact⟨.inl ⟨.bool true,.bool true,[],rfl,fun _=>rfl,.bool true,v5 l _,fun _=>⟨List.Pairwise.nil,fun _ hm=>(nomatch hm)⟩⟩,h2,h3,h4⟩
section
variable{prog:Program}{w:World}{A:Around}{E:Value→Shared→Prop}{s:Shared}{K:Frag}
end
end Att
namespace L2
open PySem PySem.Spec PyProof.Rows
theorem mK:∀ {vs:List Value} {ns:List Int},IntsAre vs ns→Vals (ns.map V.int) vs
 | _,_,.nil=>.nil
 | _,_,.cons n t h=>.cons ⟨t,rfl⟩ (mK h)
def xZ(H:Hp):Prop:=∀ b,H b=none∨∃ o xs,H b=some (.frz o (.lst xs))
theorem xW{P:Program}{w:World}{K:PySem.W.Frag}{mg mb:Str→Option Value}{CX:g_}{k:Nat}{fa a:Addr}{fd:FuncData}{x:Str}{sp:Sp}{s₁:Shared}{vs:List Value}{ns:List Int}
  (KX:K.In s₁.heap) (hns:s₁.heap.Ns mainGlobals mg) (hb:s₁.heap.Ns builtinsNs mb) (hbb:∀ x:Str,x ≠ "__name__" → mb x=bootBuiltins x) (hlim:s₁.heap.NoLimit) (hg:s₁.gens = #[])
  (ha:s₁.heap.get? a=some { cls:=.type "list", data:=.seq vs.toArray }) (hi:IntsAre vs ns) (hl:ns.length≤sizeLine) (hr:Room k callerA)
  (F:∀ base:Heap,K.In base→base.Ns mainGlobals mg→FnOk P w K mg base CX k fa fd [x] sp) (hbind:∀ (s:Shared) (u:Value),BindsTo s fd ⟨[u],[]⟩ [(x,u)])
  (hsp:∀ H:Hp,xZ H→SqL K H a (ns.map V.int)→sp [.ref a] H (fun v _=>v = .bl true) fun _ _ _=>False)
  (hCX:∀ H e s',CX [] H s₁ (fun _ _ _=>False) e s'→False) :
  codeAny (model P w) callerA (.call (.ref fa) ⟨[.ref a],[]⟩) (fun r s'=>r = .ok (.ret (.bool true))∧OldK s₁.heap s'.heap∧s'.os=s₁.os∧AllBare s'.gens) s₁:=by
 have rv:=mK hi;have lenV:=hi.length
 -- from an abstract heap in which nothing but the script may be tracked
 have core:∀ H:Hp,xZ H→SqL K H a (ns.map V.int)→HOk P w H s₁.heap→(∀ b,H b≠none→b=a)→(H a≠none→K.lookup a=none)→
   codeAny (model P w) callerA (.call (.ref fa) ⟨[.ref a],[]⟩) (fun r s'=>r = .ok (.ret (.bool true))∧OldK s₁.heap s'.heap∧s'.os=s₁.os∧AllBare s'.gens) s₁:=by
  intro H hO hS hok hA hK
  have base_of:∀ {b:Addr} {o:Obj},s₁.heap.get? b=some o→H b=none→(h9 s₁.heap H).get? b=some o:=fun e n=>zl e n
  have noA:∀ {b:Addr} {o:Obj} {es:Array DictEntry} {ep:Nat},s₁.heap.get? b=some o→o.data = .dict es ep→H b=none:=fun {b o es ep} e d=>by
   cases q:H b with
   | none=>rfl
   | some u=>
    have e':b=a:=hA b (by rw[q]; simp)
    subst e';rw[ha]at e; cases e
    have d':Data.seq vs.toArray _=Data.dict es ep:=d
    cases d'
  have nsK:∀ {b:Addr} {m:Str→Option Value},s₁.heap.Ns b m→(h9 s₁.heap H).Ns b m:=fun {b m} ⟨o,es,ep,e,d,r⟩=>⟨o,es,ep,base_of e (noA e d),d,r⟩
  have hKb:K.In (h9 s₁.heap H):=fun b o e=>base_of (KX b o e) (by
   cases q:H b with
   | none=>rfl
   | some u=>
    have e':b=a:=hA b (by rw[q]; simp)
    subst e';rw[hK (by rw[q]; simp)]at e; cases e)
  have hM:Mod K mg (h9 s₁.heap H):=⟨hKb,nsK hns,⟨mb,nsK hb,hbb⟩,let ⟨mc,h1,h2⟩:=hlim; ⟨mc,nsK h1,h2⟩⟩
  have e0:Env0 P w K mg (h9 s₁.heap H) callerA [] s₁ H:=⟨rfl,hM,fun b o e=>AJ e,Nat.le_of_eq (wF _ _),trivial,fun b hb=>absurd (show b∈([]:List Addr) from hb) (by simp),hok,.of_eq hg⟩
  refine codeAny_mono ((F _ hKb (nsK hns)).run callerA [] s₁ H ⟨[.ref a],[]⟩ [.ref a] [.ref a] _ _ hr e0 (hbind s₁ (.ref a)) (.cons rfl .nil) (hsp H hO hS)) fun r s' h=>?_
  cases r with
  | error e=>exact(hCX H e s' h).elim
  | ok fl=>
   cases fl with
   | next=>exact False.elim h
   | brk=>exact False.elim h
   | cont=>exact False.elim h
   | ret u=>
    obtain⟨v,H',os,bare,un,hok',r',q⟩:=h
    have q':v = .bl true:=q
    subst q';obtain rfl:u=Value.bool true:=r'
    refine⟨rfl,OldK.of_keep fun b o e=>?_,os,bare⟩
    cases q:H b with
    | none=>exact un.keep b o e q (by intro z; exact absurd (show b∈([]:List Addr) from z) (by simp)) (by simp)
    | some u=>
     rcases hO b with z | ⟨ob,xs,z⟩
     ·rw[q]at z; cases z
     ·have z2:=un.frzs b ob _ z
      obtain⟨e1,_⟩:=hok b _ z
      obtain⟨e2,_⟩:=hok' b _ z2
      rw[e]at e1; cases e1
      exact e2
 cases hk:K.lookup a with
 | some o=>
  -- the script is one of the module's own objects
  have e:=KX a o hk;rw[ha]at e
  cases e;refine core (fun _=>none) (fun _=>.inl rfl) (.inr ⟨_,vs.toArray,_,hk,rfl,rfl,rfl,by rw[List.size_toArray,lenV]; exact hl,by simpa using rv⟩) (fun b u z=>by have z':(none:Option HO)=some u:=z; cases z') (fun b z=>absurd rfl z) fun z=>absurd rfl z
 | none=>
  refine core (fun b=>if b=a then some (.frz { cls:=.type "list", data:=.seq vs.toArray } (.lst (ns.map V.int))) else none) (fun b=>?_) (.inl (.inr ⟨{ cls:=.type "list", data:=.seq vs.toArray },if_pos rfl⟩)) (fun b u z=>?_) (fun b z=>?_) fun _=>hk
  ·by_cases hb:b=a
   ·exact .inr ⟨_,_,if_pos hb⟩
   ·exact .inl (if_neg hb)
  ·by_cases hb:b=a
   ·have z':=(if_pos hb).symm.trans z
    cases z';subst hb;exact⟨ha,by rw[List.length_map]; exact hl,vs,_,rv,ha⟩
   ·have z':=(if_neg hb).symm.trans z
    cases z'
  ·by_cases hb:b=a
   ·exact hb
   ·exact absurd (if_neg hb) z
end L2
namespace L2
open PySem PySem.Spec PyProof.Rows
abbrev KOf {K:PySem.W.Frag} {h:Heap} (_:K.In h):PySem.W.Frag:=K
theorem walk_of{l:PySem.W.OpenLaw}{n k:Nat}{q:Program}{loose:List Str}{XP:(Str→Option Value)→Heap→Prop}{YP:World→Heap→Prop}{d:DefRec}{K:Params→PySem.W.Frag}{CX:World→g_}{sp:World→Sp}{x:Str}
  (hn:l.most=some n) (hn2:n≤sizeLine) (hdf:d.params.defaults=[]) (hr:Room k callerA)
  (hY:∀ (w:World) (h:Heap),YP w h→(K w.params).In h)
  (F:∀ (w:World) (mg:Str→Option Value) (fa:Addr) (h:Heap),(K w.params).In h→h.Ns mainGlobals mg→mg d.name=some (.ref fa)→
   ∃ fd:FuncData,(∀ (s:Shared) (u:Value),BindsTo s fd ⟨[u],[]⟩ [(x,u)])∧
    ∀ base:Heap,(K w.params).In base→base.Ns mainGlobals mg→FnOk l.prog w (K w.params) mg base (CX w) k fa fd [x] (sp w))
  (hsp:∀ (w:World) (H:Hp) (a:Addr) (ns:List Int),ns.length≤n→xZ H→SqL (K w.params) H a (ns.map V.int)→sp w [.ref a] H (fun v _=>v = .bl true) fun _ _ _=>False)
  (hCX:∀ (w:World) (H:Hp) (s:Shared) (e:Value) (s':Shared),CX w [] H s (fun _ _ _=>False) e s'→False) :
  PySem.W.WalkO q loose XP YP l.row.toRowW d [] (fun f vs=>PySem.call f vs):=by
 refine Att.attach_call hn hdf fun w s₀ s₁ mg mb fa o pm cd doc a vs ns G Y ho hd hcd hmg hobj hints hlen hg=>?_
 have KX:=hY w _ Y;obtain⟨fd,hb,hF⟩:=F w mg fa _ KX G.T.g hmg
 exact xW KX G.T.g G.T.b G.T.builtins G.T.nolimit hg hobj hints (Nat.le_trans hlen hn2) hr hF hb (fun H hO hS=>hsp w H a ns hlen hO hS) fun H e s'=>hCX w H s₁ e s'
end L2
/- THE LAST THEOREM (shape; LID, My.* are yours):
   My.Adr: a structure of the addresses that your layer names (classes,functions); My.Txt K t: a structure (Prop) of the equations over K;
   My.txt_mk:{K} {implicit addresses ..} (e1:nsIn K mainGlobals "law" = some (some (.ref f))) (e2:K.lookup f=some ⟨oc,od,.func (fnOf "law" "law" params body scope dV kV doc pm an cdv ct),sl⟩) (e3:codeIn K cdv "law" = true) .. : ∃ t,My.Txt K t
set_option maxRecDepth 100000 in
set_option maxHeartbeats 0 in
theorem PySem.Challenge.cw_LID_holds : PySem.Challenge.rw_LID.Holds := by
 w_on; o_law; k_head; (case hw=>w_witness2)
 k_fill
 refine L2.walk_of (l:=PySem.Challenge.rw_LID) (n:=63) (k:=40) (x := "script") (CX:=fun w=>..) (sp:=fun _=>My.sp_law) rfl (by decide) rfl ⟨rfl,by decide,by decide⟩ (fun w h Y=>PySem.W.kIn_of Y) ?F ?S ?C
 case F=>
  intro w mg fa h KX G hmg
  have T:∃ t,My.Txt (L2.KOf KX) t:=by
   dsimp only[L2.KOf]                          -- K must stand as «<heap const> w.params» for k_is
   refine' My.txt_mk ?e1 ?e2 ?e3 ..
   (case e1=>PySem.W.k_is)                    -- in the order: a name -> its address -> its object -> its parts
   (case e2=>PySem.W.k_is)
   ..
  obtain⟨t,T⟩:=T
  have e0:=hmg.symm.trans (PySem.W.mg_of KX G T.law)
  cases e0                                       -- fa is the law's own address
  exact⟨_,fun s u=>.of_eq rfl,fun base kb nb=>My.law_fn T kb nb⟩     -- if «.of_eq rfl» comes too early: refine' ⟨_,?b,fun base kb nb=>My.law_fn T kb nb⟩; exact fun s u=>.of_eq rfl
 case S=>exact fun w H a ns hl hO hS=>..
 case C=>exact ..
(the tactic k_is has no namespace: write k_is) -/
namespace L2
open PySem PySem.Spec PyProof.Rows
abbrev ja:g_:=fun _ _ _ _ _ _=>False
abbrev E0:XK:=fun _ _ _=>False
theorem zW{X:Cx}:kL ja X E0:=fun _ _ _ _ _ _ _ h=>h.elim
structure Fun (K:PySem.W.Frag) (x qual:Str) (st:Stmt) (f:Addr) (fd:FuncData):Prop where
 ex:∃ (oc:Value) (od:Option Addr) (kV doc pm:Value) (an:Option Addr) (cdv ct:Value) (osl:Array (Option Value)),
  fd=PySem.W.fnOf x qual (defArgs st) (defBody st) (defScope st) .none kV doc pm an cdv ct∧K.lookup f=some ⟨oc,od,.func fd,osl⟩∧PySem.W.codeIn K cdv qual=true
 kp:PySem.W.keepIn K (.ref f)=true
section
variable{P:Program}{w:World}{K:PySem.W.Frag}{mg:Str→Option Value}{base:Heap}
theorem Fun.ok{x qual:Str}{st:Stmt}{f:Addr}{fd:FuncData}{N ps:List Str}{k:Nat}{sp:Sp}(F:Fun K x qual st f fd)(S:aD N ps (defScope st))(len:∀ vs H Q E,sp vs H Q E→vs.length=ps.length)
  (hbody:∀ (cdv:Value) (A:Around) (outer:List Env) (s:Shared) (H:Hp) (vs:List V) (Q:VK) (E:XK),Room k (A.deeper (envOfC qual (defScope st) s.heap.objs.size f cdv))→sp vs H Q E→
   ∃ t,PSs (iZ ja P w K mg base N qual (defScope st) f cdv A outer s H E).nox (defBody st) t∧t { nx:=fun _ H'=>Q .non H',rt:=Q } (start N vs) H):FnOk P w K mg base ja (k+1) f fd ps sp:=by
 obtain⟨oc,od,kV,doc,pm,an,cdv,ct,osl,rfl,lk,hcd⟩:=F.ex
 refine EQ lk hcd S len fun A outer s H vs Q E hr hsp=>?_
 obtain⟨t,h,q⟩:=hbody cdv A outer s H vs Q E hr hsp
 exact⟨t,h.nox,q⟩
theorem Fun.binds{x qual:Str}{st:Stmt}{f:Addr}{fd:FuncData}{ps:List Str}(F:Fun K x qual st f fd)
  (h:∀ (kV doc pm:Value) (an:Option Addr) (cdv ct:Value) (us:List Value),us.length=ps.length→bindArgs (PySem.W.fnOf x qual (defArgs st) (defBody st) (defScope st) .none kV doc pm an cdv ct) ⟨us,[]⟩=pure (ps.zip us)):Binds K fd ps []:=by
 obtain⟨oc,od,kV,doc,pm,an,cdv,ct,osl,rfl,lk,hcd⟩:=F.ex
 exact .all (h kV doc pm an cdv ct)
theorem aP{x qual:Str}{st:Stmt}{f:Addr}{oc:Value}{od an:Option Addr}{osl:Array (Option Value)}{kV doc pm cdv ct:Value}(l:K.lookup f=some ⟨oc,od,.func (PySem.W.fnOf x qual (defArgs st) (defBody st) (defScope st) .none kV doc pm an cdv ct),osl⟩)
  (c:PySem.W.codeIn K cdv qual=true) (k:PySem.W.keepIn K (.ref f)=true):Fun K x qual st f (PySem.W.fnOf x qual (defArgs st) (defBody st) (defScope st) .none kV doc pm an cdv ct):=⟨⟨oc,od,kV,doc,pm,an,cdv,ct,osl,rfl,l,c⟩,k⟩
end
section
variable{X:Cx}
theorem pv(i:Nat){x:Str}{pos:Pos}(hN:X.N[i]? = some x:=by rfl)(hv:ao X.env.scope x:=by first | exact vSs (by decide +kernel) | exact Or.inl rfl)(hd:(x == ("__debug__" : Str))=false:=by decide)
  (hcd:(x == ("__classdict__" : Str))=false:=by decide):PE X (.Name x pos) (eO i):=Dk hN hv hd hcd
end
theorem bd{c A B:Prop}[Decidable c](h1:c→A)(h2:¬ c→B):if c then A else B:=by
 by_cases h:c
 ·rw[if_pos h]
  exact h1 h
 ·rw[if_neg h]
  exact h2 h
def Same(H H':Hp):Prop:=∀ b o,H b=some o→H' b=some o
theorem Same.refl(H:Hp):Same H H:=fun _ _ h=>h
theorem Same.trans{H H1 H2:Hp}(a:Same H H1)(b:Same H1 H2):Same H H2:=fun c o h=>b c o (a c o h)
theorem Same.free{H H':Hp}(e:Same H H'){l:Addr}(h:H' l=Option.none):H l=Option.none:=by
 cases q:H l with
 | none=>rfl
 | some o=>
  rw[e l o q]at h
  cases h
theorem Same.seq{K:PySem.W.Frag}{H H':Hp}{a:Addr}{xs:List V}(e:Same H H')(h:SqL K H a xs):SqL K H' a xs:=by
 rcases h with (h | ⟨o,h⟩) | h
 ·exact .inl (.inl (e _ _ h))
 ·exact .inl (.inr ⟨o,e _ _ h⟩)
 ·exact .inr h
section
variable{κ : Type}[DecidableEq κ]
end
end L2
namespace L2
open PySem PySem.Spec PyProof.Rows
def dS(cells:List (Str × Addr)):List (Str × NameKind)→List (Str × Addr)→List (Str × Addr)
 | [],acc=>acc
 | (n,k)::r,acc=>dS cells r (if k == .free then (n,(cells.lookup n).getD 0)::acc else acc)
theorem qz{env:Env}{f:(Str × NameKind)→List (Str × Addr)→Sem (ForInStep (List (Str × Addr)))}
  (hf:∀ n k cs,f (n,k) cs=if (k == NameKind.free)=true then (cellOf env n >>= fun c=>pure (ForInStep.yield ((n,c)::cs))) else pure (ForInStep.yield cs)) :
  ∀ (names:List (Str × NameKind)) (acc:List (Str × Addr)),(∀ x∈names,x.2 = .free→∃ c,env.cells.lookup x.1=some c)→
  forIn names acc f=(pure (dS env.cells names acc):Sem _)
 | [],acc,_=>rfl
 | (n,k)::r,acc,h=>by
  rw[List.forIn_cons,hf];have ih:=fun acc=>qz hf r acc fun x hx=>h x (List.mem_cons_of_mem _ hx)
  by_cases hk:(k == NameKind.free)=true
  ·rw[if_pos hk]
   obtain⟨c,hc⟩:=h (n,k) List.mem_cons_self (by simpa using hk)
   have e:cellOf env n=pure c:=by unfold cellOf; rw[hc]
   rw[e,pure_bind,pure_bind];show forIn r ((n,c)::acc) f=_
   rw[ih];show _=pure (dS env.cells r (if (k == NameKind.free)=true then (n,(env.cells.lookup n).getD 0)::acc else acc))
   rw[if_pos hk,hc]; rfl
  ·rw[if_neg hk,pure_bind]
   show forIn r acc f=_
   rw[ih];show _=pure (dS env.cells r (if (k == NameKind.free)=true then (n,(env.cells.lookup n).getD 0)::acc else acc))
   rw[if_neg hk]
theorem iJ{env:Env}{scope:Scope}(h:∀ x∈scope.names,x.2 = .free→∃ c,env.cells.lookup x.1=some c):closureFor scope env=pure (dS env.cells scope.names []):=by
 unfold closureFor;show (forIn scope.names ([]:List (Str × Addr)) _ >>= fun cs=>pure cs)=_
 rw[qz (env:=env) (fun n k cs=>?_) _ _ h]
 ·rfl
 ·rfl
theorem jD{cells:List (Str × Addr)}:∀ {names:List (Str × NameKind)} {acc:List (Str × Addr)} {x:Str} {c:Addr},(∀ y∈names,y.2 = .free→∃ c,cells.lookup y.1=some c)→
  (∀ y c,acc.lookup y=some c→cells.lookup y=some c)→(dS cells names acc).lookup x=some c→cells.lookup x=some c
 | [],acc,x,c,_,ha,h=>ha x c h
 | (n,k)::r,acc,x,c,hn,ha,h=>by
  refine jD (names:=r) (fun y hy=>hn y (List.mem_cons_of_mem _ hy)) ?_ h
  intro y d hy
  by_cases hk:(k == NameKind.free)=true
  ·rw[if_pos hk]at hy
   obtain⟨e,he⟩:=hn (n,k) List.mem_cons_self (by simpa using hk)
   have he':cells.lookup n=some e:=he
   rw[List.lookup_cons]at hy
   by_cases hyn:(y == n)=true
   ·rw[hyn]at hy
    have hy':(cells.lookup n).getD 0=d:=Option.some.inj hy
    rw[he']at hy'
    have e1:y=n:=by simpa using hyn
    rw[e1,he',← hy']; rfl
   ·have hf:(y == n)=false:=by simpa using hyn
    rw[hf]at hy
    exact ha y d hy
  ·rw[if_neg hk]at hy
   exact ha y d hy
theorem kr{cells:List (Str × Addr)}:∀ {names:List (Str × NameKind)} {acc:List (Str × Addr)} {x:Str},(∃ c,acc.lookup x=some c)→∃ c,(dS cells names acc).lookup x=some c
 | [],_,_,h=>h
 | (n,k)::r,acc,x,h=>by
  refine kr (names:=r) ?_
  by_cases hk:(k == NameKind.free)=true
  ·rw[if_pos hk,List.lookup_cons]
   cases hx:(x == n) with
   | true=>exact⟨_,rfl⟩
   | false=>exact h
  ·rw[if_neg hk]; exact h
theorem iD{cells:List (Str × Addr)}:∀ {names:List (Str × NameKind)} {acc:List (Str × Addr)} {x:Str},(x,NameKind.free)∈names→∃ c,(dS cells names acc).lookup x=some c
 | (n,k)::r,acc,x,h=>by
  rcases List.mem_cons.mp h with e | h
  ·have e1:x=n:=congrArg (·.1) e
   have e2:NameKind.free=k:=congrArg (·.2) e
   subst e1 e2;refine kr (names:=r) ?_
   rw[if_pos (by rfl),List.lookup_cons]
   rw[beq_self_eq_true];exact⟨_,rfl⟩
  ·exact iD (names:=r) h
theorem eG{env:Env}:∀ {names:List (Str × NameKind)} {x:Str} {k:NameKind},(∀ y∈names,y.2 ≠ .cell)→
  (names.map fun (n,k)=>if (k == NameKind.free&&env.scope.kind == .function&&env.kindOf n == some .cell) then (n,NameKind.cell) else (n,k)).lookup x=some k→(k = .cell∨k = .free)→(x,NameKind.free)∈names
 | [],_,_,_,h,_=>by simp at h
 | (n,k0)::r,x,k,hc,h,hk=>by
  have ih:=@eG env r x k (fun y hy=>hc y (List.mem_cons_of_mem _ hy))
  rw[List.map_cons]at h
  by_cases hf:(k0 == NameKind.free&&env.scope.kind == .function&&env.kindOf n == some .cell)=true
  ·have hk0:k0 = .free:=by
    have:(k0 == NameKind.free)=true:=by
     rw[Bool.and_eq_true,Bool.and_eq_true]at hf; exact hf.1.1
    simpa using this
   dsimp only at h
   rw[if_pos hf,List.lookup_cons]at h
   cases hx:(x == n) with
   | true=>
    have:x=n:=by simpa using hx
    rw[this,hk0]; exact List.mem_cons_self
   | false=>rw[hx]at h; exact List.mem_cons_of_mem _ (ih h hk)
  ·dsimp only at h
   rw[if_neg hf,List.lookup_cons]at h
   cases hx:(x == n) with
   | true=>
    rw[hx]at h
    have e:k0=k:=Option.some.inj h
    have:x=n:=by simpa using hx
    rcases hk with z | z
    ·exact absurd (e.trans z) (hc (n,k0) List.mem_cons_self)
    ·rw[this,e,z]; exact List.mem_cons_self
   | false=>rw[hx]at h; exact List.mem_cons_of_mem _ (ih h hk)
def b5(X:Cx)(N0 T:List Str)(scope:Scope)(C:Addr)(fp:List Addr)(s:Shared)(H:Hp):Cx:=
 { X with N:=N0++T,s₀:=s,H₀:=H,env:=compEnvC scope (dS X.env.cells scope.names []) C X.env,outer:=X.stack,stack:=X.stack,ex:=fp,fn:=fun _=>false,pn:=[],xe:=fun _ _=>False }
structure gL (X:Cx) (N0 T:List Str) (scope:Scope):Prop where
 kind:scope.kind = .function
 nocell:∀ y∈scope.names,y.2 ≠ .cell
 names:∀ y∈scope.names,y.2 = .local→scope.names.lookup y.1=some .local
 free:∀ y∈scope.names,y.2 = .free→X.env.kindOf y.1=some .cell∨X.env.kindOf y.1=some .free
 apart:∀ y∈scope.names,y.2 = .local→y.1∉N0
 len0:N0.length=X.N.length
 same:∀ (i:Nat) (x:Str) (k:NameKind),N0[i]? = some x→(x,k)∈scope.names→X.N[i]? = some x
theorem iK{prog:Program}{w:World}{A:Around}{R:Result→Shared→Prop}{s:Shared}{elt target iter:Expr}{ifs:List Expr}{scope:Scope}{pos:Pos}{it acc:Value}{env:Env}(I:Nat→Shared→Prop)
  (turn:∀ n s,I n s→wpAny (model prog w) A (pyNext it) (fun r s₁=>match r with
   | none=>R (.ok .next) s₁
   | some v=>wpAny (model prog w) A (letOwnedTupleGo target it v) (fun _ s₀=>wpAny (model prog w) A (assign target env v) (fun _ s₂=>
     wpAny (model prog w) A (forIn ifs true fun c r=>if r=true then do let ok ← isTrue c env (eval c env); pure (ForInStep.yield ok) else pure (ForInStep.yield r)) (fun ok s₃=>
      if ok=true then wpAny (model prog w) A (eval elt env) (fun x s₄=>
       wpAny (model prog w) A (call (.builtin "list.append") [acc,x]) (fun _ s₅=>∃ m,m<n∧I m s₅) (fun _ _=>False) s₄) (fun _ _=>False) s₃
      else ∃ m,m<n∧I m s₃) (fun _ _=>False) s₂) (fun _ _=>False) s₀) (fun _ _=>False) s₁) (fun _ _=>False) s)
  (n:Nat) (h:I n s) :
  codeAny (model prog w) A (.compLoop (.ListComp elt [⟨target,iter,ifs,0⟩] scope pos) 0 it acc env) R s:=by
 refine codeAny_loop rfl I (fun n s hI=>?_) n h
 show wpAny _ A ((compTurn (.ListComp elt [⟨target,iter,ifs,0⟩] scope pos) 0 it acc env).onRaise (fun x=>do noteFrame x env; theTreesLotGoes x)) _ _ s
 refine wpAny_noted ?_
 rw[compTurn_list];refine wpAny_bind (wpAny_standAt (wpAny_bind (wpAny_mono (turn n s hI) (fun r s₁ h₁=>?_) fun _ _ h'=>h'.elim)))
 cases r with
 | none=>exact wpAny_pure h₁
 | some v=>
  refine wpAny_bind (wpAny_mono h₁ (fun _ s₀ h₀=>?_) fun _ _ h'=>h'.elim)
  refine wpAny_bind (wpAny_mono h₀ (fun _ s₂ h₂=>wpAny_bind (wpAny_mono h₂ (fun ok s₃ h₃=>?_) fun _ _ h'=>h'.elim)) fun _ _ h'=>h'.elim)
  cases ok with
  | false=>exact wpAny_pure ⟨rfl,h₃⟩
  | true=>
   exact wpAny_bind (wpAny_bind (wpAny_mono h₃ (fun x s₄ h₄=>wpAny_bind (wpAny_mono h₄ (fun _ s₅ h₅=>wpAny_pure (wpAny_pure ⟨rfl,h₅⟩)) fun _ _ h'=>h'.elim)) fun _ _ h'=>h'.elim))
def PIfs(X:Cx)(ifs:List Expr)(tc:TT):Prop:=
 ∀ (pins:List (Addr × Obj)) (s:Shared) (σ : St) (H:Hp) (Q:Bool→Hp→Prop),Inv X pins σ H s→tc σ H Q→
  wpAny (model X.prog X.w) X.A (forIn ifs true fun c r=>if r=true then do let ok ← isTrue c X.env (eval c X.env); pure (ForInStep.yield ok) else pure (ForInStep.yield r)) (TP X pins σ Q) X.xe s
def jS:TT:=fun _ H Q=>Q true H
theorem eX{X:Cx}:PIfs X [] jS:=fun _ _ _ H _ I h=>wpAny_tests_nil ⟨H,I,h⟩
theorem n9{X:Cx}{c:Expr}{tc:TT}(hc:PT X c tc):PIfs X [c] tc:=fun pins s σ H Q I h=>wpAny_tests_one (hc pins s σ H Q I h)
def tK(g:TG)(n:Nat):Prop:=∀ x σ H Q,g x σ H Q→g x σ H fun σ' H'=>Q σ' H'∧σ'.length=σ.length∧∀ k,k<n→σ'[k]? = σ[k]?
def u9(g:fC)(n:Nat):Prop:=∀ x σ H Q,g x σ H Q→g x σ H fun σ' H'=>Q σ' H'∧σ'.length=σ.length∧∀ k,k<n→σ'[k]? = σ[k]?
theorem dD{i n:Nat}(h:n≤i):tK (fZ i) n:=fun x σ H Q q=>⟨q,by simp,fun k hk=>by rw[List.getElem?_set_ne (by omega)]⟩
theorem zr{n:Nat}:u9 tX n:=fun x σ H Q q=>⟨q.1,q.2,rfl,fun _ _=>rfl⟩
def vB(g:TG):Prop:=∀ x σ H Q Q',(∀ σ' H',Q σ' H'→Q' σ' H')→g x σ H Q→g x σ H Q'
def kf(g:fC):Prop:=∀ x σ H Q Q',(∀ σ' H',Q σ' H'→Q' σ' H')→g x σ H Q→g x σ H Q'
theorem lr{i:Nat}:vB (fZ i):=fun x σ H Q Q' h q=>h _ _ q
theorem tH:kf tX:=fun x σ H Q Q' h q=>⟨q.1,h _ _ q.2⟩
theorem yZ{t:TG}{u:fC}(h1:vB t)(h2:kf u):kf (nO t u):=fun x σ H Q Q' h ⟨v,r,e,q⟩=>⟨v,r,e,h1 _ _ _ _ _ (fun σ' H' z=>h2 _ _ _ _ _ h z) q⟩
theorem mI{t:TG}{u:fC}{n:Nat}(h1:tK t n)(m1:vB t)(h2:u9 u n)(m2:kf u):u9 (nO t u) n:=fun x σ H Q ⟨v,r,e,q⟩=>by
 refine⟨v,r,e,?_⟩
 refine m1 _ _ _ _ _ (fun σ' H' z=>?_) (h1 _ _ _ _ q)
 obtain⟨z,l1,k1⟩:=z
 exact m2 _ _ _ _ _ (fun σ2 H2 y=>⟨y.1,y.2.1.trans l1,fun k hk=>(y.2.2 k hk).trans (k1 k hk)⟩) (h2 _ _ _ _ z)
theorem A6{K:PySem.W.Frag}{m n:Nat}{t:fC}(h:u9 t n):tK (tO K m t) n:=fun x σ H Q ⟨a,xs,e,q,l,z⟩=>⟨a,xs,e,q,l,h _ _ _ _ z⟩
def fw(J:It)(g:TG)(tc:TT)(te:TE)(nT:Nat)(σ : St)(D:Addr)(Q:VK)(H:Hp):Prop:=
 ∃ W:Nat→Nat→List V→Hp→Prop,(∃ m,W 0 m [] H)∧∀ i m ys H2,W i m ys H2→
  (J.stop i H2∧Q (.ref D) H2)∨(J.go i H2∧∀ x H',J.yld i H2 x H'→g x (σ++List.replicate nT none) H' fun σ2 H3=>tc σ2 H3 fun b H4=>
   if b=true then te σ2 H4 fun y H5=>H5 D=some (.lst ys)∧ys.length<sizeLine∧∃ m',m'<m∧W (i+1) m' (ys++[y]) (upd H5 D (.lst (ys++[y]))) else ∃ m',m'<m∧W (i+1) m' ys H4)
def ub(wi:TI)(g:TG)(tc:TT)(te:TE)(nT:Nat):TE:=fun σ H Q=>wi σ H fun J H1=>∀ D,H1 D=none→fw J g tc te nT σ D Q (upd H1 D (.lst []))
theorem HOk.sameBut{P:Program}{w:World}{H:Hp}{h h':Heap}{C:Addr}(x:HOk P w H h)(hs:Heap.SameBut C h h')(hC:H C=none):HOk P w H h':=fun a o e=>
 (x a o e).stay (fun b u hb q=>(hs.2 b (by
  rintro rfl
  rcases hb with z | z
  ·rw[z]at hC; rw[hC]at e; cases e
  ·rw[hC]at z; cases z)).trans q) (fun _ q=>q) fun _ _ q=>q
section
variable{X:Cx}{N0 T:List Str}{scope:Scope}{tg elt iter:Expr}{ifs:List Expr}{pos:Pos}{wi:TI}{g:TG}{tc:TT}{te:TE}
theorem md{pins:List (Addr × Obj)}{σ : St}{H:Hp}{s:Shared}{E:Value→Shared→Prop}{it:Addr}{fp:List Addr}{tn:Nat→Heap→Prop}{J:It}{Q:VK}{RR:Value→Addr→Result→Shared→Prop}
  (S:gL X N0 T scope) (hc:X.calm=true)
  (hg:∀ C fp s H,PG (b5 X N0 T scope C fp s H) tg g) (hfr:tK g X.N.length) (hi:∀ C fp s H,PIfs (b5 X N0 T scope C fp s H) ifs tc) (he:∀ C fp s H,PE (b5 X N0 T scope C fp s H) elt te)
  (I:Inv X pins σ H s) (Tn:jZ X.prog X.w X.K tg J fp it tn) (st:tn 0 s.heap) (hf:∀ b∈fp,gD X pins H b)
  (h:∀ D,H D=none→fw J g tc te T.length σ D Q (upd H D (.lst [])))
  (hRR:∀ D C s' H' m,s'.heap.Ns C m→H' C=none→C≠X.env.locals→(∀ x c,X.env.cells.lookup x=some c→c≠C)→(∀ p∈X.pn++pins,p.1≠C)→X.s₀.heap.objs.size≤C→Inv X pins σ H' s'→
   (∀ h',Heap.SameBut C s'.heap h'→Inv X pins σ H' { s' with heap:=h' })→Q (.ref D) H'→RR (.ref D) C (.ok .next) s') :
  wpAny (model X.prog X.w) X.A (newList []) (fun acc s₃=>wpAny (model X.prog X.w) X.A (newFunctionEnv scope X.env.globals (dS X.env.cells scope.names []) [] X.env.qual none .none (some X.env)) (fun cenv s₄=>
   codeAny (model X.prog X.w) X.A (.compStart (.ListComp elt [⟨tg,iter,ifs,0⟩] scope pos) 0 (.ref it) acc { cenv with scope:=relabel scope X.env }) (RR acc cenv.locals) s₄) E s₃) E s:=by
 refine wpAny_newObj_type (wpAny_newFunctionEnv S.nocell (by intro y hy; simp at hy) (fun h₁ hns₁ hsb₁=>?_) S.kind)
 dsimp only at hns₁ hsb₁ ⊢
 generalize hH2:s.heap.push { cls:=.type "list", dict:=none,data:=.seq ([]:List Value).toArray }=P2 at hns₁ hsb₁ ⊢;have hC:P2.objs.size=s.heap.objs.size+1:=by rw[← hH2,Heap.size_push]
 -- the new list D, the block's names C
 obtain⟨D,hD⟩ : ∃ D:Nat,D=s.heap.objs.size:=⟨_,rfl⟩
 obtain⟨C,hCC⟩ : ∃ C:Nat,C=P2.objs.size:=⟨_,rfl⟩
 rw[← hCC]at hns₁ hsb₁ hC ⊢
 rw[← hD]at hC ⊢
 have hDC:D≠C:=by omega
 have hDlt:D<C:=by omega
 have neD:∀ b o,s.heap.get? b=some o→b≠D:=fun b o e=>hD ▸ Nat.ne_of_lt (Heap.lt_size e)
 have neC:∀ b o,s.heap.get? b=some o→b≠C:=fun b o e=>Nat.ne_of_lt (Nat.lt_trans (hD ▸ Heap.lt_size e) hDlt)
 have old:∀ b o,s.heap.get? b=some o→h₁.get? b=some o:=fun b o e=>hsb₁.extBut b o (neC b o e) (Heap.get?_push_of_some _ (hH2 ▸ Heap.get?_push_of_some _ e))
 have hHD:H D=none:=I.hok.fresh (by omega)
 have hHC:H C=none:=I.hok.fresh (by omega)
 have dat:h₁.get? D=some { cls:=.type "list", data:=.seq ([]:List Value).toArray 0 }:=by
  refine hsb₁.extBut _ _ hDC (Heap.get?_push_of_some _ ?_)
  rw[← hH2,hD];exact Heap.get?_push_size _ rfl
 -- the block's context stands
 have hcl:∀ x c,(dS X.env.cells scope.names []).lookup x=some c→X.env.cells.lookup x=some c:=fun x c e=>
  jD (fun y hy hk=>I.ok.has y.1 (S.free y hy hk)) (fun y c z=>by simp at z) e
 have okC:(b5 X N0 T scope C fp s H).Ok:=by
  refine⟨I.ok.mod,?_,I.ok.glob,I.ok.blt,?_,fun x y c e1 e2=>I.ok.inj x y c (hcl x c e1) (hcl y c e2),fun x hx=>?_,fun x c z _=>(by cases z),I.ok.hd,I.ok.frames,.inl rfl,fun b hb=>⟨?_,fun x c e=>(hf b hb).2.2.2.2.1 x c (hcl x c e)⟩,
   I.bs,?_,fun b o e hb=>?_,fun b hb z=>?_,I.stack,I.stkFree⟩
  ·show (relabel scope X.env).kind = .function
   exact S.kind
  ·show s.heap.objs.size≤C
   omega
  ·have hx':(relabel scope X.env).names.lookup x=some .cell∨(relabel scope X.env).names.lookup x=some .free:=hx
   have m:(x,NameKind.free)∈scope.names:=by
    rcases hx' with z | z
    ·exact eG S.nocell z (.inl rfl)
    ·exact eG S.nocell z (.inr rfl)
   exact iD m
  ·show b≠C
   obtain⟨o,e,_⟩:=Tn.obj 0 _ st b hb
   exact neC b o e
  ·exact Nat.le_trans I.ok.bsz I.sz
  ·obtain⟨_,_,_,z,_⟩:=hf b hb
   rcases z with z | z
   ·exact I.ok.noex b o e z
   ·exact absurd (Nat.lt_of_lt_of_le (Nat.lt_of_lt_of_le (Heap.lt_size e) I.ok.bsz) z) (Nat.lt_irrefl _)
  ·obtain⟨_,z1,z2,_⟩:=hf b hb
   rcases List.mem_cons.mp (I.stkSub b z) with q | q
   ·exact z1 q
   ·exact z2 q
 have I1:Inv (b5 X N0 T scope C fp s H) [] (σ++List.replicate T.length none) (upd H D (.lst [])) { s with heap:=h₁,toks:=s.toks+([]:List (Str × Value)).length }:=by
  refine⟨okC,rfl,I.bare,Un.laid (h:=s.heap) old (by omega) hHD,⟨_,hns₁,fun i x v e1 e2 e3=>?_⟩,fun x c e=>?_,?_,fun x c e=>?_,fun p hp=>(by simp[b5]at hp),I.hok.laid old (by omega) ?_,?_⟩
  ·have e1':(N0++T)[i]? = some x:=e1
   have hl:=I.len;have hl0:=S.len0
   have hi:i<σ.length:=by
    rcases Nat.lt_or_ge i σ.length with z | z
    ·exact z
    ·rw[List.getElem?_append_right z]at e2
     rw[List.getElem?_replicate]at e2
     split at e2 <;> cases e2
   rw[List.getElem?_append_left hi]at e2
   rw[List.getElem?_append_left (by omega)]at e1'
   have hxN:x∈N0:=List.mem_of_getElem? e1'
   have e3':(relabel scope X.env).names.lookup x=some .local∨(relabel scope X.env).names.lookup x=some .cell∨(relabel scope X.env).names.lookup x=some .free:=e3
   have fr:(relabel scope X.env).names.lookup x=some .cell∨(relabel scope X.env).names.lookup x=some .free:=by
    rcases e3' with z | z | z
    ·exfalso
     -- a local of the block is no tracked name
     have key:∀ (names:List (Str × NameKind)),(names.map fun (n,k)=>if (k == NameKind.free&&X.env.scope.kind == .function&&X.env.kindOf n == some .cell) then (n,NameKind.cell) else (n,k)).lookup x=some .local→(x,NameKind.local)∈names:=by
      intro names
      induction names with
      | nil=>intro z; simp at z
      | cons y r ih=>
       obtain⟨n,k⟩:=y
       intro z
       rw[List.map_cons]at z
       dsimp only at z
       by_cases hfk:(k == NameKind.free&&X.env.scope.kind == .function&&X.env.kindOf n == some .cell)=true
       ·rw[if_pos hfk,List.lookup_cons]at z
        cases hx:(x == n) with
        | true=>rw[hx]at z; cases z
        | false=>rw[hx]at z; exact List.mem_cons_of_mem _ (ih z)
       ·rw[if_neg hfk,List.lookup_cons]at z
        cases hx:(x == n) with
        | true=>
         rw[hx]at z
         have ek:k = .local:=Option.some.inj z
         have en:x=n:=by simpa using hx
         rw[ek,en]; exact List.mem_cons_self
        | false=>rw[hx]at z; exact List.mem_cons_of_mem _ (ih z)
     exact S.apart (x,.local) (key _ z) rfl hxN
    ·exact .inl z
    ·exact .inr z
   have m:(x,NameKind.free)∈scope.names:=by
    rcases fr with z | z
    ·exact eG S.nocell z (.inl rfl)
    ·exact eG S.nocell z (.inr rfl)
   have kX:=S.free _ m rfl;obtain⟨mm,hn,hl'⟩:=I.loc
   obtain⟨u,r,lk⟩:=hl' i x v (S.same i x _ e1' m) e2 (.inr kX)
   refine⟨u,r,.inr ⟨fr,?_⟩⟩
   rcases lk with ⟨z,_⟩ | ⟨_,c,ec,cc⟩
   ·rcases kX with q | q
    ·rw[q]at z; cases z
    ·rw[q]at z; cases z
   ·obtain⟨c',ec'⟩:=iD (cells:=X.env.cells) (acc:=[]) m
    have:=hcl x c' ec'
    rw[ec]at this; cases this
    exact⟨c,ec',cc.keeps old⟩
  ·obtain⟨v,z⟩:=I.cell x c (hcl x c e)
   exact⟨v,z.keeps old⟩
  ·show upd H D (.lst []) C=none
   rw[ax (Ne.symm hDC)]; exact hHC
  ·have q:=I.freeC x c (hcl x c e)
   obtain⟨v,o,z,_⟩:=I.cell x c (hcl x c e)
   rw[ax (neD c o z)]; exact q
  ·exact⟨Nat.zero_le _,[],0,.nil,dat⟩
  ·show (σ++List.replicate T.length none).length=(N0++T).length
   rw[List.length_append,List.length_append,List.length_replicate,I.len,S.len0]
 have st1:tn 0 h₁:=Tn.keep _ _ _ st fun b _ o e=>old b o e
 have fp1:∀ {H':Hp},(∀ b∈fp,H' b=none)→∀ b∈fp,gD (b5 X N0 T scope C fp s H) [] H' b:=fun hn b hb=>
  ⟨hn b hb,(okC.exf b hb).1,okC.exfs b hb,.inl hb,(okC.exf b hb).2,fun p hp=>(by simp[b5]at hp)⟩
 have fp0:∀ b∈fp,upd H D (.lst []) b=none:=fun b hb=>by
  obtain⟨o,e,_⟩:=Tn.obj 0 _ st b hb
  rw[ax (neD b o e)]; exact(hf b hb).1
 obtain⟨W,⟨m0,w0⟩,turn⟩:=h D hHD
 have loop:∀ s₃ : Shared,s₃={ s with heap:=h₁,toks:=s.toks+([]:List (Str × Value)).length }→
   codeAny (model X.prog X.w) X.A (.compLoop (.ListComp elt [⟨tg,iter,ifs,0⟩] scope pos) 0 (.ref it) (.ref D) (compEnvC scope (dS X.env.cells scope.names []) C X.env)) (RR (.ref D) C) s₃:=by
  rintro s₃ rfl
  refine iK (fun n s'=>∃ i H' ys,Inv (b5 X N0 T scope C fp s H) [] (σ++List.replicate T.length none) H' s'∧tn i s'.heap∧(∀ b∈fp,H' b=none)∧W i n ys H') ?_ m0 ⟨0,_,[],I1,st1,fp0,w0⟩
  rintro n s3 ⟨i,H3,ys,I3,st3,fr3,w3⟩
  rcases turn i n ys H3 w3 with ⟨stop,qn⟩ | ⟨go,step⟩
  ·refine bx (Tn.done (b5 X N0 T scope C fp s H) rfl rfl rfl hc i [] s3 _ H3 (fun _ _=>False) I3 (fp1 fr3) st3 stop) fun r s4 ⟨hr,I4⟩=>?_
   subst hr;obtain⟨m,hm,_⟩:=I4.loc
   have hch:∀ b∈fp,(b∈X.ex∨X.s₀.heap.objs.size≤b)∧b≠X.env.locals∧(∀ x c,X.env.cells.lookup x=some c→c≠b)∧∀ p∈X.pn++pins,p.1≠b:=fun b hb=>
    ⟨(hf b hb).2.2.2.1,(hf b hb).2.1,(hf b hb).2.2.2.2.1,(hf b hb).2.2.2.2.2⟩
   have u4:Un (iF X.stack) fp H H3 s.heap s4.heap:=I4.base
   refine hRR D C s4 H3 m hm I4.free (Ne.symm (Nat.ne_of_lt (Nat.lt_trans (hD ▸ I.lt) hDlt))) (fun x c e=>?_) (fun p hp=>?_) (Nat.le_trans (hD ▸ I.sz) (Nat.le_of_lt hDlt)) (I.call' (ch:=fp) I4.os u4 I4.hok I4.bare hch) (fun h' hs'=>?_) qn
   ·obtain⟨v,o,q,_⟩:=I.cell x c e
    exact neC c o q
   ·exact neC _ _ (I.pin p hp).1
   ·refine I.call' (ch:=fp) (s':={ s4 with heap:=h' }) I4.os ⟨fun b o q n' hb hx=>(hs'.2 b (neC b o q)).trans (u4.keep b o q n' hb hx),fun b o q n' hb hx=>?_,u4.free,fun b o q hx=>?_,u4.tups,u4.frzs,u4.tbls⟩ (I4.hok.sameBut hs' I4.free) I4.bare hch
    ·obtain⟨sl,e⟩:=u4.slot b o q n' hb hx
     exact⟨sl,(hs'.2 b (neC b o q)).trans e⟩
    ·obtain⟨o',e⟩:=u4.there b o q hx
     exact⟨o',(hs'.2 b (neC b o q)).trans e⟩
  ·refine bx (Tn.item (b5 X N0 T scope C fp s H) rfl rfl rfl hc i [] s3 _ H3 (fun _ _=>False) I3 (fp1 fr3) st3 go) fun r s4 ⟨u,hr,h4⟩=>?_
   subst hr;refine bx h4 fun _ s5 ⟨x,H5,I5,r5,y5,st5,fr5⟩=>?_
   have I5':=I5.pinned (fp1 fr5) (Tn.obj _ _ st5);refine bx (hg C fp s H _ s5 _ H5 x u _ I5' r5 (hfr _ _ _ _ (step x H5 y5))) fun _ s6 ⟨σ6,H6,I6,q6,l6,k6⟩=>?_
   have back:∀ {H7:Hp} {s7:Shared},Inv (b5 X N0 T scope C fp s H) ([]++je fp s5.heap) σ6 H7 s7→(∀ {m':Nat} {zs:List V},m'<n→W (i+1) m' zs H7→∃ m,m<n∧∃ i H' ys,Inv (b5 X N0 T scope C fp s H) [] (σ++List.replicate T.length none) H' s7∧tn i s7.heap∧(∀ b∈fp,H' b=none)∧W i m ys H'):=fun {H7 s7} I7 {m' zs} hm w7=>by
    refine⟨m',hm,i+1,H7,zs,I7.unpinned.weak (by rw[l6]) (fun j v e=>?_),Tn.keep _ _ _ st5 fun b hb o e=>(I7.pin (b,o) (List.mem_append_right _ (List.mem_append_right _ (fX hb e)))).1,fun b hb=>?_,w7⟩
    ·have hj:j<σ.length:=by
      rcases Nat.lt_or_ge j σ.length with z | z
      ·exact z
      ·rw[List.getElem?_append_right z,List.getElem?_replicate]at e
       split at e <;> cases e
     rw[k6 j (by rw[← I.len]; exact hj)]
     exact e
    ·obtain⟨o,e,d⟩:=Tn.obj _ _ st5 b hb
     exact(I7.pin (b,o) (List.mem_append_right _ (List.mem_append_right _ (fX hb e)))).2.1
   refine bx (hi C fp s H _ s6 σ6 H6 _ I6 q6) fun b s7 ⟨H7,I7,q7⟩=>?_
   cases b with
   | false=>
    obtain⟨m',hm,w7⟩:=(show ∃ m',m'<n∧W (i+1) m' ys H7 from by simpa using q7)
    exact back I7 hm w7
   | true=>
    rw[if_pos rfl]at q7
    refine bx (he C fp s H _ s7 σ6 H7 _ I7 q7) fun v s8 ⟨y,H8,I8,r8,hD8,hz,m',hm,w8⟩=>?_
    refine bx (mw (X:=b5 X N0 T scope C fp s H) _ s8 σ6 H8 (.ref D) [y] (.ref D) [v] (fun _ H9=>H9=upd H8 D (.lst (ys++[y]))) I8 rfl (.cons r8 .nil) ⟨D,ys,y,rfl,rfl,hD8,hz,rfl⟩) fun v9 s9 ⟨y9,H9,I9,_,e9⟩=>?_
    subst e9;exact back I9 hm w8
 exact codeAny_compStart_list (loop _ rfl) (Tn.self X.A 0 _ _ _ st1 (loop _ rfl))
theorem fc(S:gL X N0 T scope)(hc:X.calm=true)(hI:PI X tg iter wi)
  (hg:∀ C fp s H,PG (b5 X N0 T scope C fp s H) tg g) (hfr:tK g X.N.length) (hi:∀ C fp s H,PIfs (b5 X N0 T scope C fp s H) ifs tc) (he:∀ C fp s H,PE (b5 X N0 T scope C fp s H) elt te)
  (hs:∀ x,foldedSetIterable iter X.env x=pure x:=by intro _; rfl):PE X (.ListComp elt [⟨tg,iter,ifs,0⟩] scope pos) (ub wi g tc te T.length):=by
 intro pins s σ H Q I h
 rw[eval_ListComp];refine wpAny_comprehension_free (use:=none) rfl hs (iJ fun x hx hk=>I.ok.has x.1 (S.free x hx hk)) S.kind S.names (bx (hI pins s σ H _ I h) fun v s1 h1=>bx h1 fun itv s2 h2=>?_)
 obtain⟨it,fp,tn,J,H2,e,I2,Tn,st2,f2,q2⟩:=h2
 subst e;refine md (RR:=fun acc C=>compPost (model X.prog X.w) X.A X.xe none (EP X pins σ Q) acc C) S hc hg hfr hi he I2 Tn st2 f2 q2 ?_
 intro D C s' H' m hn hC hL hcells hpins hfresh I' hI' q
 exact⟨m,hn,fun h' hs'=>⟨.ref D,H',hI' h' hs',rfl,q⟩⟩
theorem uI{i:Nat}{x:Str}{pos' spos:Pos}(S:gL X N0 T scope)(hc:X.calm=true)(hN:X.N.Nodup)(hi':X.N[i]? = some x)(hx:X.env.scope.names.lookup x=some .local)(hI:PI X tg iter wi)
  (hg:∀ C fp s H,PG (b5 X N0 T scope C fp s H) tg g) (hfr:tK g X.N.length) (hi:∀ C fp s H,PIfs (b5 X N0 T scope C fp s H) ifs tc) (he:∀ C fp s H,PE (b5 X N0 T scope C fp s H) elt te)
  (hsw:swapsWith (.ListComp elt [⟨tg,iter,ifs,0⟩] scope pos) (some (.Name x pos')) spos.line X.env=pure true:=by rfl)
  (hs:∀ x,foldedSetIterable iter X.env x=pure x:=by intro _; rfl):PS X (.Assign [.Name x pos'] (.ListComp elt [⟨tg,iter,ifs,0⟩] scope pos) spos) (lX (ub wi g tc te T.length) (fZ i)):=by
 intro pins s σ H D I h
 rw[exec_Assign_Name_used _ _ _ _ hsw];refine wpAny_bind (wpAny_standAt (wpAny_bind ?_))
 show wpAny _ X.A (do let _ ← comprehension (.ListComp elt [⟨tg,iter,ifs,0⟩] scope pos) scope X.env _ (newList []) false (eval iter X.env) (some (assign (.Name x pos') X.env))) _ _ s
 refine wpAny_bind (wpAny_mono (wpAny_comprehension_free (use:=some (assign (.Name x pos') X.env)) (Q:=fun _ s'=>SP X pins D .next s') rfl hs (iJ fun x hx hk=>I.ok.has x.1 (S.free x hx hk)) S.kind S.names
  (bx (hI pins s σ H _ I h) fun v s1 h1=>bx h1 fun itv s2 h2=>?_)) (fun _ s' hq=>wpAny_pure (wpAny_pure hq)) fun _ _ e=>e)
 obtain⟨it,fp,tn,J,H2,e,I2,Tn,st2,f2,q2⟩:=h2
 subst e;refine md (RR:=fun acc C=>compPost (model X.prog X.w) X.A X.xe (some (assign (.Name x pos') X.env)) (fun _ s'=>SP X pins D .next s') acc C) S hc hg hfr hi he I2 Tn st2 f2 q2 ?_
 intro L C s' H' m hn hC hL hcells hpins hfresh I' hI' q
 show wpAny _ X.A (assign (.Name x pos') X.env (.ref L)) _ _ _
 refine wpAny_assign_Name (mW (v:=.ref L) I' hN hi' (.inl hx) rfl (fun s'' I'' ⟨a,hsa,ha⟩=>?_) (.inr hx))
 have hCa:C≠a:=by
  rintro rfl
  rcases ha with z | z
  ·exact hL z
  ·exact hcells x C z rfl
 refine⟨m,hn.sameBut hsa hCa,fun h' hs'=>?_⟩
 exact⟨σ.set i (some (.ref L)),H',I''.turned (t':=s''.toks) (fun b o hb e=>(hs'.2 b hb).trans e) hC hL (.inr hfresh) hcells hpins,q⟩
end
end L2
namespace L2
open PySem PySem.Spec PyProof.Rows
theorem Vals.of:∀ {xs:List V} {us:List Value} {i:Nat} {u:Value},Vals xs us→us[i]? = some u→∃ x,xs[i]? = some x∧RelV x u
 | _,_,0,u,.cons r _,e=>⟨_,rfl,by simp at e; subst e; exact r⟩
 | _,_,i+1,u,.cons _ rr,e=>by
  obtain⟨x,hx,r⟩:=Vals.of (i:=i) rr (by simpa using e)
  exact⟨x,by simpa using hx,r⟩
theorem iM:∀ {ss:List Str} {us:List Value},Vals (ss.map V.str) us→StrsAre us ss
 | [],_,.nil=>.nil
 | s::ss,_,.cons r rr=>by
  obtain⟨t,rfl⟩:=r
  exact .cons s t (iM rr)
theorem ml:∀ {us:List Value} {ss:List Str},StrsAre us ss→Vals (ss.map V.str) us
 | _,_,.nil=>.nil
 | _,_,.cons y t h=>.cons ⟨t,rfl⟩ (ml h)
section
variable{X:Cx}
def dh(H:Hp):V→Option String
 | .non=>some "NoneType"
 | .bl _=>some "bool"
 | .int _=>some "int"
 | .str _=>some "str"
 | .ref a=>match H a with
  | some (.lst _)=>some "list"
  | some (.frz _ (.lst _))=>some "list"
  | some (.tup _)=>some "tuple"
  | some (.dK _)=>some "dict"
  | some (.dT _)=>some "dict"
  | _=>none
 | _=>none
theorem xE{K:PySem.W.Frag}{H:Hp}:∀ {x:V} {T:String},dh H x=some T→fI K H x (.type T)
 | .non,T,h=>by cases h; exact .non
 | .bl b,T,h=>by cases h; exact .bl b
 | .int i,T,h=>by cases h; exact .int i
 | .str y,T,h=>by cases h; exact .str y
 | .byt _,T,h=>by cases h
 | .flt _,T,h=>by cases h
 | .ty _,T,h=>by cases h
 | .ref a,T,h=>by
  cases e:H a with
  | none=>simp[dh,e]at h
  | some o=>
   cases o with
   | lst xs=>simp[dh,e]at h; subst h; exact .lst e
   | tup xs=>simp[dh,e]at h; subst h; exact .tup e
   | dK xs=>simp[dh,e]at h; subst h; exact .dK e
   | dT xs=>simp[dh,e]at h; subst h; exact .dT e
   | frz ob u=>
    cases u with
    | lst xs=>simp[dh,e]at h; subst h; exact .frz e
    | _=>simp[dh,e]at h
   | _=>simp[dh,e]at h
def z9(T C:String):Bool:=T == C||(T == "bool" && C == "int")
theorem x9(K:PySem.W.Frag){T C:String}(hT:T∈["NoneType", "bool", "int", "str", "list", "tuple", "dict"]) (hC:C∈["bool", "int", "str", "list", "tuple"]):PySem.W.kitOne K (.type T) (.type C)=some (z9 T C):=by
 simp only[List.mem_cons,List.mem_nil_iff,or_false]at hT hC
 rcases hT with rfl | rfl | rfl | rfl | rfl | rfl | rfl <;> rcases hC with rfl | rfl | rfl | rfl | rfl <;> (with_unfolding_all rfl)
theorem uo{H:Hp}{x:V}{T:String}(h:dh H x=some T):T∈["NoneType", "bool", "int", "str", "list", "tuple", "dict"]:=by
 cases x with
 | ref a=>
  cases e:H a with
  | none=>simp[dh,e]at h
  | some o=>
   cases o with
   | frz ob u=>cases u <;> simp[dh,e]at h <;> subst h <;> decide
   | _=>simp[dh,e]at h <;> subst h <;> decide
 | _=>first | (cases h; decide) | cases h
def BC:List V→Hp→VK→Prop:=fun xs H Q=>∃ (x:V) (T C:String),xs=[x,.ty C]∧dh H x=some T∧C∈["bool", "int", "str", "list", "tuple"]∧Q (.bl (z9 T C)) H
theorem sw{H:Hp}{Q:VK}(x:V)(C:String):BC [x,.ty C] H Q=∃ T,dh H x=some T∧C∈["bool", "int", "str", "list", "tuple"]∧Q (.bl (z9 T C)) H:=
 propext ⟨fun ⟨_,T,_,e,q⟩=>by cases e; exact⟨T,q⟩,fun ⟨T,q⟩=>⟨x,T,C,rfl,q⟩⟩
theorem yN:CallR X (.builtin "isinstance") BC:=by
 intro pins s σ H xs us Q I r h
 obtain⟨x,T,C,rfl,hT,hC,q⟩:=h
 obtain⟨u,w',rfl,ru,rw'⟩:=j_ r
 cases rw';exact wv I ru (xE hT) (x9 X.K (uo hT) hC) fun tk=>⟨.bl (z9 T C),H,I.tok tk,rfl,q⟩
def vM(K:PySem.W.Frag):V→List V→Hp→VK→Prop:=fun x vs H Q=>∃ (sep:Str) (p:Addr) (ss:List Str),x = .str sep∧vs=[.ref p]∧SqL K H p (ss.map V.str)∧(ss.map (·.length)).sum+ss.length * sep.length≤16777216∧Q (.str (Txt.join sep ss)) H
theorem AD:MtR X "str.join" (vM X.K):=by
 intro pins s σ H x xs v us Q I rx r h
 obtain⟨sep,p,ss,rfl,rfl,hq,hz,q⟩:=h
 obtain⟨t,rfl⟩:=rx
 obtain⟨u,rfl,ru⟩:=dG r
 cases ru;obtain⟨its,rv,pl,_⟩:=I.list hq
 exact join_list pl.isList (by simpa using iM rv) hz fun t' k=>⟨.str (Txt.join sep ss),H,I.tok k,⟨t',rfl⟩,q⟩
end
def jT(J:It)(g:TG)(tb:TS)(D:dO)(σ : St)(H:Hp):Prop:=∃ W:Nat→Nat→St→Hp→Prop,(∃ m,W 0 m σ H)∧∀ i m σ H,W i m σ H→
 (J.stop i H∧D.nx σ H)∨(J.go i H∧∃ N:St→Hp→Prop,(∀ σ' H',N σ' H'→∃ m',m'<m∧W (i+1) m' σ' H')∧∀ x H',J.yld i H x H'→g x σ H' fun σ2 H2=>tb { D with nx:=N,ct:=N,bk:=D.nx } σ2 H2)
theorem sr(wi:TI)(g:TG)(tb:TS)(D:dO)(σ : St)(H:Hp):DC wi g tb D σ H=wi σ H fun J H1=>jT J g tb D σ H1:=rfl
theorem kZ{J:It}{g:TG}{tb:TS}{D:dO}{σ : St}{H:Hp}(n:Nat)(Pv:Nat→St→Hp→Prop)(h0:Pv 0 σ H)(hgo:∀ i σ H,i<n→Pv i σ H→J.go i H)(hst:∀ σ H,Pv n σ H→J.stop n H)
  (hs:∀ i σ H x H',i<n→Pv i σ H→J.yld i H x H'→g x σ H' fun σ2 H2=>tb { D with nx:=Pv (i+1),ct:=Pv (i+1),bk:=D.nx } σ2 H2) (hd:∀ σ H,Pv n σ H→D.nx σ H):jT J g tb D σ H:=by
 refine⟨fun i m σ H=>m=n - i∧i≤n∧Pv i σ H,⟨n,by simp,Nat.zero_le _,h0⟩,?_⟩
 rintro i m σ H ⟨rfl,hi,p⟩
 by_cases hlt:i<n
 ·exact .inr ⟨hgo i σ H hlt p,Pv (i+1),fun σ' H' p'=>⟨n - (i+1),by omega,rfl,hlt,p'⟩,fun x H' y=>hs i σ H x H' hlt p y⟩
 ·have e:i=n:=by omega
  subst e;exact .inl ⟨hst σ H p,hd σ H p⟩
theorem cS{K:PySem.W.Frag}{a:Addr}{xs:List V}{g:TG}{tb:TS}{D:dO}{σ : St}{H:Hp}(Pv:Nat→St→Hp→Prop)(h0:Pv 0 σ H)(hl:∀ i σ H,i≤xs.length→Pv i σ H→SqL K H a xs)
  (hs:∀ i x σ H,xs[i]? = some x→Pv i σ H→g x σ H fun σ2 H2=>tb { D with nx:=Pv (i+1),ct:=Pv (i+1),bk:=D.nx } σ2 H2) (hd:∀ σ H,Pv xs.length σ H→D.nx σ H):jT (kz K a) g tb D σ H:=
 zE Pv h0 hl hs hd
theorem dR{lo:Int}{n:Nat}{g:TG}{tb:TS}{D:dO}{σ : St}{H:Hp}(Pv:Nat→St→Hp→Prop)(h0:Pv 0 σ H)
  (hs:∀ i σ H,i<n→Pv i σ H→g (.int (lo+i)) σ H fun σ2 H2=>tb { D with nx:=Pv (i+1),ct:=Pv (i+1),bk:=D.nx } σ2 H2) (hd:∀ σ H,Pv n σ H→D.nx σ H):jT (kE lo n) g tb D σ H:=
 xq Pv h0 hs hd
def f_(n i:Nat)(Pv:Nat→List V→Hp→Prop)(D:Addr)(ys:List V)(y:V)(H:Hp):Prop:=
 H D=some (.lst ys)∧ys.length<sizeLine∧∃ m',m'<n - i∧(m'=n - (i+1)∧i+1≤n∧Pv (i+1) (ys++[y]) (upd H D (.lst (ys++[y]))))
theorem iA{n i:Nat}{Pv:Nat→List V→Hp→Prop}{D:Addr}{ys:List V}{y:V}{H:Hp}(hi:i<n)(hlen:ys.length=i)(hz:n≤sizeLine)(h1:H D=some (.lst ys))(h2:Pv (i+1) (ys++[y]) (upd H D (.lst (ys++[y])))):f_ n i Pv D ys y H:=
 ⟨h1,by omega,n - (i+1),by omega,rfl,hi,h2⟩
def h_(n i:Nat)(Pv:Nat→List V→Hp→Prop)(D:Addr)(ys:List V)(te:TE)(σ : St)(H:Hp):Prop:=
 if true=true then te σ H (f_ n i Pv D ys) else ∃ m',m'<n - i∧(m'=n - (i+1)∧i+1≤n∧Pv (i+1) ys H)
theorem j9{n i:Nat}{Pv:Nat→List V→Hp→Prop}{D:Addr}{ys:List V}{te:TE}{σ : St}{H:Hp}:h_ n i Pv D ys te σ H=te σ H (f_ n i Pv D ys):=by
 unfold h_; rw[if_pos rfl]
theorem jP{J:It}{g:TG}{te:TE}{nT:Nat}{σ : St}{D:Addr}{Q:VK}{H:Hp}(n:Nat)(Pv:Nat→List V→Hp→Prop)(h0:Pv 0 [] H)(hgo:∀ i ys H,i<n→Pv i ys H→J.go i H)(hst:∀ ys H,Pv n ys H→J.stop n H)
  (hs:∀ i ys H x H',i<n→Pv i ys H→J.yld i H x H'→g x (σ++List.replicate nT none) H' (h_ n i Pv D ys te))
  (hd:∀ ys H,Pv n ys H→Q (.ref D) H):fw J g jS te nT σ D Q H:=by
 refine⟨fun i m ys H=>m=n - i∧i≤n∧Pv i ys H,⟨n,by simp,Nat.zero_le _,h0⟩,?_⟩
 rintro i m ys H ⟨rfl,hi,p⟩
 by_cases hlt:i<n
 ·exact .inr ⟨hgo i ys H hlt p,fun x H' y=>hs i ys H x H' hlt p y⟩
 ·have e:i=n:=by omega
  subst e;exact .inl ⟨hst ys H p,hd ys H p⟩
theorem uN{K:PySem.W.Frag}{a:Addr}{xs:List V}{g:TG}{te:TE}{nT:Nat}{σ : St}{D:Addr}{Q:VK}{H:Hp}(Pv:Nat→List V→Hp→Prop)(h0:Pv 0 [] H)(hl:∀ i ys H,i≤xs.length→Pv i ys H→SqL K H a xs)
  (hs:∀ i ys H x,xs[i]? = some x→i<xs.length→Pv i ys H→g x (σ++List.replicate nT none) H (h_ xs.length i Pv D ys te))
  (hd:∀ ys H,Pv xs.length ys H→Q (.ref D) H):fw (kz K a) g jS te nT σ D Q H:=by
 refine jP xs.length Pv h0 (fun i ys H hi p=>⟨xs,xs[i],hl i ys H (Nat.le_of_lt hi) p,by simp[hi]⟩) (fun ys H p=>⟨xs,hl _ ys H (Nat.le_refl _) p,Nat.le_refl _⟩) (fun i ys H x H' hi p yl=>?_) hd
 obtain⟨rfl,y⟩:=yl
 exact hs i ys _ x (y xs (hl i ys _ (Nat.le_of_lt hi) p)) hi p
theorem gR{lo:Int}{n:Nat}{g:TG}{te:TE}{nT:Nat}{σ : St}{D:Addr}{Q:VK}{H:Hp}(Pv:Nat→List V→Hp→Prop)(h0:Pv 0 [] H)
  (hs:∀ i ys H,i<n→Pv i ys H→g (.int (lo+i)) (σ++List.replicate nT none) H (h_ n i Pv D ys te))
  (hd:∀ ys H,Pv n ys H→Q (.ref D) H):fw (kE lo n) g jS te nT σ D Q H:=by
 refine jP n Pv h0 (fun i ys H hi p=>hi) (fun ys H p=>Nat.le_refl _) (fun i ys H x H' hi p yl=>?_) hd
 obtain⟨rfl,rfl⟩:=yl
 exact hs i ys _ hi p
end L2
namespace L2
open PySem PySem.Spec PyProof.Rows
def j4(u:TS)(D:dO)(σ : St)(H:Hp):Prop:=u D σ H
section
variable{D:dO}{σ : St}{H:Hp}{Q:VK}{B:Bool→Hp→Prop}{L:List V→Hp→Prop}{R:It→Hp→Prop}{G:St→Hp→Prop}
theorem sK(t u:TS):uW t u D σ H=t { D with nx:=j4 u D } σ H:=rfl
theorem lK(u:TS):j4 u D σ H=u D σ H:=rfl
theorem qN:Aj D σ H=D.nx σ H:=rfl
theorem rY(c:TT)(t u:TS):CQ c t u D σ H=c σ H fun b H1=>if b=true then t D σ H1 else u D σ H1:=rfl
theorem sg(t:TE):nZ t D σ H=t σ H D.rt:=rfl
theorem oM(t:TE):zX t D σ H=t σ H fun _ H1=>D.nx σ H1:=rfl
theorem rN(t:TE)(g:TG):lX t g D σ H=t σ H fun x H1=>g x σ H1 D.nx:=rfl
theorem qF(i:Nat)(v:V):fZ i v σ H G=G (σ.set i (some v)) H:=rfl
theorem rM(vs:List V):tX vs σ H G=(vs=[]∧G σ H):=rfl
theorem ph(t:TG)(u:fC)(vs:List V):nO t u vs σ H G=∃ v r,vs=v::r∧t v σ H fun σ' H'=>u r σ' H' G:=rfl
theorem tz(K:PySem.W.Frag)(n:Nat)(t:fC)(v:V):tO K n t v σ H G=∃ a xs,v = .ref a∧SqT K H a xs∧xs.length=n∧t xs σ H G:=rfl
theorem rT(to ti:TE)(t:lM)(v:V):Cm to ti t v σ H G=to σ H fun o H1=>ti σ H1 fun i H2=>t o i v H2 fun H3=>G σ H3:=rfl
theorem tF(i:Nat):eO i σ H Q=∃ v,σ[i]? = some (some v)∧Q v H:=rfl
theorem Ag(v:V):tC v σ H Q=Q v H:=rfl
theorem xn(r:R2)(ta tb:TE):kF r ta tb σ H Q=ta σ H fun x H1=>tb σ H1 fun y H2=>r x y H2 Q:=rfl
theorem wR(r:V→Hp→VK→Prop)(ta:TE):AA r ta σ H Q=ta σ H fun x H1=>r x H1 Q:=rfl
theorem pN(t:TE):um t σ H B=t σ H fun x H'=>∃ k,x = .bl k∧B k H':=rfl
theorem Ap(t:TE):tB t σ H B=t σ H fun x H'=>∃ k,x = .bl k∧B k H':=rfl
theorem rk(t u:TT):Cs t u σ H B=t σ H fun c H1=>if c=true then u σ H1 B else B false H1:=rfl
theorem wL(t u:TT):Fc t u σ H B=t σ H fun c H1=>if c=true then B true H1 else u σ H1 B:=rfl
theorem sx(t:TT):Df t σ H B=t σ H fun c H1=>B (!c) H1:=rfl
theorem pd(ta tb:TE):Av ta tb σ H Q=ta σ H fun x H1=>∃ c,x = .bl c∧if c=true then tb σ H1 Q else Q (.bl false) H1:=rfl
theorem wU(t:TT)(ta tb:TE):Cf t ta tb σ H Q=t σ H fun c H1=>if c=true then ta σ H1 Q else tb σ H1 Q:=rfl
theorem wC(r:List V→Hp→VK→Prop)(t:TA):wZ r t σ H Q=t σ H fun vs H1=>r vs H1 Q:=rfl
theorem pH(ta:TE)(tr:TA):ee ta tr σ H L=ta σ H fun x H1=>tr σ H1 fun xs H2=>L (x::xs) H2:=rfl
theorem rF:jR σ H L=L [] H:=rfl
theorem rB(t:TA):uC t σ H Q=t σ H fun xs H1=>xs.length≤sizeLine∧∀ p,H1 p=none→Q (.ref p) (upd H1 p (.tup xs)):=rfl
theorem sI(t:TA):Dc t σ H Q=t σ H fun xs H1=>xs.length≤sizeLine∧∀ p,H1 p=none→Q (.ref p) (upd H1 p (.lst xs)):=rfl
theorem n5(sp:Sp)(dvs:List V)(E:XK)(t:TA):jt sp dvs E t σ H Q=t σ H fun vs H1=>sp (vs++dvs) H1 Q E:=rfl
theorem v8(K:PySem.W.Frag)(T:String)(r:V→List V→Hp→VK→Prop)(to:TE)(t:TA):B1 K T r to t σ H Q=to σ H fun x H1=>pT K T x H1∧t σ H1 fun xs H2=>r x xs H2 Q:=rfl
theorem rO(K:PySem.W.Frag)(T:String)(r:V→List V→Hp→VK→Prop)(to:TE):yQ K T r to σ H Q=to σ H fun x H1=>pT K T x H1∧r x [] H1 Q:=rfl
theorem wG(r:V→Option Int→Option Int→Hp→VK→Prop)(te:TE)(tl th:TO):Cc r te tl th σ H Q=te σ H fun x H1=>tl σ H1 fun l H2=>th σ H2 fun u H3=>r x l u H3 Q:=rfl
theorem oE(t:TE)(O:Option Int→Hp→Prop):ug t σ H O=t σ H fun x H1=>∃ i,x = .int i∧O (some i) H1:=rfl
theorem kH(O:Option Int→Hp→Prop):ly σ H O=O none H:=rfl
theorem oN(wi:TI)(g:TG)(tc:TT)(te:TE)(nT:Nat):ub wi g tc te nT σ H Q=wi σ H fun J H1=>∀ D,H1 D=none→fw J g tc te nT σ D Q (upd H1 D (.lst [])):=rfl
theorem su:jS σ H B=B true H:=rfl
theorem ox(K:PySem.W.Frag)(tl:TE):uj K tl σ H R=tl σ H fun x H1=>∃ a,x = .ref a∧(∃ xs,SqL K H1 a xs)∧R (kz K a) H1:=rfl
theorem nR(ta:TA):Ae ta σ H R=ta σ H fun vs H1=>∃ j:Int,vs=[.int j]∧-(2 ^ 62)≤j∧j<2 ^ 62∧R (kE 0 j.toNat) H1:=rfl
theorem vT(g:Int→Int→V)(i j:Int):jw g (.int i) (.int j) H Q=Q (g i j) H:=propext ⟨fun ⟨_,_,e1,e2,q⟩=>by cases e1; cases e2; exact q,fun q=>⟨i,j,rfl,rfl,q⟩⟩
theorem Ax(C:Int→Int→Prop)(g:Int→Int→V)(i j:Int):rI C g (.int i) (.int j) H Q=(C i j∧Q (g i j) H):=propext ⟨fun ⟨_,_,e1,e2,q⟩=>by cases e1; cases e2; exact q,fun q=>⟨i,j,rfl,rfl,q⟩⟩
end
structure DefAt (K:PySem.W.Frag) (mg:Str→Option Value) (x:Str) (st:Stmt):Prop where
 ex:∃ f fd,Fun K x x st f fd∧mg x=some (.ref f)
structure aE (P:Program) (w:World) (K:PySem.W.Frag) (mg:Str→Option Value) (base:Heap) (k:Nat) (x:Str) (ps:List Str) (sp:Sp):Prop where
 ex:∃ f fd,FnOk P w K mg base ja k f fd ps sp∧Binds K fd ps []∧PySem.W.keepIn K (.ref f)=true∧mg x=some (.ref f)
section
variable{P:Program}{w:World}{K:PySem.W.Frag}{mg:Str→Option Value}{base:Heap}
theorem DefAt.cal{x:Str}{st:Stmt}{N ps:List Str}{k:Nat}{sp:Sp}(D:DefAt K mg x st)(S:aD N ps (defScope st))
  (hb:∀ (kV doc pm:Value) (an:Option Addr) (cdv ct:Value) (us:List Value),us.length=ps.length→bindArgs (PySem.W.fnOf x x (defArgs st) (defBody st) (defScope st) .none kV doc pm an cdv ct) ⟨us,[]⟩=pure (ps.zip us))
  (len:∀ vs H Q E,sp vs H Q E→vs.length=ps.length)
  (hbody:∀ (f:Addr) (cdv:Value) (A:Around) (outer:List Env) (s:Shared) (H:Hp) (vs:List V) (Q:VK) (E:XK),Room k (A.deeper (envOfC x (defScope st) s.heap.objs.size f cdv))→sp vs H Q E→
   ∃ t,PSs (iZ ja P w K mg base N x (defScope st) f cdv A outer s H E).nox (defBody st) t∧t { nx:=fun _ H'=>Q .non H',rt:=Q } (start N vs) H):aE P w K mg base (k+1) x ps sp:=by
 obtain⟨f,fd,F,m⟩:=D.ex
 exact⟨f,fd,F.ok S len fun cdv A outer s H vs Q E hr h=>hbody f cdv A outer s H vs Q E hr h,F.binds hb,F.kp,m⟩
end
section
variable{X:Cx}
theorem ay{j k:Nat}{x:Str}{ps:List Str}{sp:Sp}{p pos:Pos}{e:Expr}{es:List Expr}{t:TA}(c:aE X.prog X.w X.K X.mg X.base j x ps sp)(hr:Room k X.A)(ha:PA X (e::es) t)(hle:j≤k:=by decide)(hg:Gl X x:=by first | exact vGg (by decide +kernel) | rfl)
  (hdb:(x == ("__debug__" : Str))=false:=by decide) (he:starEach (e::es) X.env=(false,eval e X.env)::starEach es X.env:=by rfl) (hpl:(backTo pos (starEach es X.env)).any (·.1)=false:=by rfl) :
  PE X (.Call (.Name x p) (e::es) [] pos) (jt sp [] E0 t):=by
 obtain⟨f,fd,F,b,kp,m⟩:=c.ex
 exact AZ F (hr.mono hle) hg m kp b .nil zW ha hdb he hpl
theorem CG{x:Str}{T:String}{pos:Pos}(hm:X.mg x=none)(hv:bootBuiltins x=some (.type T))(hg:Gl X x:=by first | exact vGg (by decide +kernel) | rfl)(hn:x ≠ "__name__" := by decide) (hd:(x == ("__debug__" : Str))=false:=by decide):PE X (.Name x pos) (tC (.ty T)):=
 Bz hg hm hv rfl hn hd
theorem bH{x:Str}{p pos:Pos}{e:Expr}{es:List Expr}{t:TA}{id:String}{r:List V→Hp→VK→Prop}(hc:CallR X (.builtin id) r)(hm:X.mg x=none)(hv:bootBuiltins x=some (.builtin id))(ha:PA X (e::es) t)(hg:Gl X x:=by first | exact vGg (by decide +kernel) | rfl)
  (hn:x ≠ "__name__" := by decide) (hdb:(x == ("__debug__" : Str))=false:=by decide) (he:starEach (e::es) X.env=(false,eval e X.env)::starEach es X.env:=by rfl) (hpl:(backTo pos (starEach es X.env)).any (·.1)=false:=by rfl) :
  PE X (.Call (.Name x p) (e::es) [] pos) (wZ r t):=yL hc hg hm hv ha hn hdb he hpl
theorem dy{x:Str}{p pos:Pos}{e:Expr}{es:List Expr}{t:TA}{T:String}{r:List V→Hp→VK→Prop}(hc:CallR X (.type T) r)(hm:X.mg x=none)(hv:bootBuiltins x=some (.type T))(ha:PA X (e::es) t)(hg:Gl X x:=by first | exact vGg (by decide +kernel) | rfl)
  (hn:x ≠ "__name__" := by decide) (hdb:(x == ("__debug__" : Str))=false:=by decide) (he:starEach (e::es) X.env=(false,eval e X.env)::starEach es X.env:=by rfl) (hpl:(backTo pos (starEach es X.env)).any (·.1)=false:=by rfl) :
  PE X (.Call (.Name x p) (e::es) [] pos) (wZ r t):=vX hc hg hm hv ha hn hdb he hpl
end
section
variable{X:Cx}
def nJ:R2:=fun x y H Q=>match x,y with
 | .int i,.int j=>Q (.int (i+j)) H
 | .str a,.str b=>a.length+b.length≤sizeLine∧Q (.str (a++b)) H
 | .ref l,.ref b=>∃ xs zs,H l=some (.lst xs)∧H b=some (.lst zs)∧xs.length+zs.length≤sizeLine∧∀ p,H p=none→Q (.ref p) (upd H p (.lst (xs++zs)))
 | _,_=>False
theorem aC:OpR X (binaryOp .Add) nJ:=by
 intro pins s σ H x y v u Q I rx ry h
 cases x <;> cases y <;> first
  | exact(show False from h).elim
  | exact B6 pins s σ H _ _ v u Q I rx ry ⟨_,_,rfl,rfl,h⟩
  | exact uV pins s σ H _ _ v u Q I rx ry ⟨_,_,rfl,rfl,h⟩
  | (obtain⟨xs,zs,h1,h2,h3,h4⟩:=h; exact D_ pins s σ H _ _ v u Q I rx ry ⟨_,_,xs,zs,rfl,rfl,h1,h2,h3,h4⟩)
def zB:R2:=fun x y H Q=>match x,y with
 | .int i,.int j=>Q (.bl (decide (i<j))) H
 | .str i,.str j=>Q (.bl (decide (i.cps.toList<j.cps.toList))) H
 | _,_=>False
theorem wc:OpR X (compareOp .Lt) zB:=by
 intro pins s σ H x y v u Q I rx ry h
 cases x <;> cases y <;> first
  | exact(show False from h).elim
  | exact Er pins s σ H _ _ v u Q I rx ry ⟨_,_,rfl,rfl,h⟩
  | exact xm pins s σ H _ _ v u Q I rx ry ⟨_,_,rfl,rfl,h⟩
def vb(K:PySem.W.Frag):R2:=fun x y H Q=>match x,y with
 | .str i,.str j=>Q (.bl (!(Builtin.Str.occurrences j i 0 j.length 1).isEmpty)) H
 | x,.ref p=>∃ xs,(SqL K H p xs∨SqT K H p xs)∧bQ x=true∧xs.all bQ=true∧Q (.bl (gT x xs)) H
 | _,_=>False
theorem DD:OpR X (compareOp .In) (vb X.K):=by
 intro pins s σ H x y v u Q I rx ry h
 cases y with
 | str j=>
  cases x with
  | str i=>exact wj pins s σ H _ _ v u Q I rx ry ⟨i,j,rfl,rfl,h⟩
  | _=>exact(show False from h).elim
 | ref p=>
  have h':∃ xs,(SqL X.K H p xs∨SqT X.K H p xs)∧bQ x=true∧xs.all bQ=true∧Q (.bl (gT x xs)) H:=by cases x <;> exact h
  obtain⟨xs,h1,h2,h3,h4⟩:=h'
  exact xI pins s σ H _ _ v u Q I rx ry ⟨p,xs,rfl,h1,h2,h3,h4⟩
 | _=>cases x <;> exact(show False from h).elim
def jl(K:PySem.W.Frag):R2:=fun x y H Q=>match x,y with
 | .str i,.str j=>Q (.bl (!(!(Builtin.Str.occurrences j i 0 j.length 1).isEmpty))) H
 | x,.ref p=>∃ xs,(SqL K H p xs∨SqT K H p xs)∧bQ x=true∧xs.all bQ=true∧Q (.bl (!gT x xs)) H
 | _,_=>False
theorem xf:OpR X (compareOp .NotIn) (jl X.K):=by
 intro pins s σ H x y v u Q I rx ry h
 cases y with
 | str j=>
  cases x with
  | str i=>exact nU pins s σ H _ _ v u Q I rx ry ⟨i,j,rfl,rfl,h⟩
  | _=>exact(show False from h).elim
 | ref p=>
  have h':∃ xs,(SqL X.K H p xs∨SqT X.K H p xs)∧bQ x=true∧xs.all bQ=true∧Q (.bl (!gT x xs)) H:=by cases x <;> exact h
  obtain⟨xs,h1,h2,h3,h4⟩:=h'
  exact oS pins s σ H _ _ v u Q I rx ry ⟨p,xs,rfl,h1,h2,h3,h4⟩
 | _=>cases x <;> exact(show False from h).elim
def nM(K:PySem.W.Frag):List V→Hp→VK→Prop:=fun xs H Q=>match xs with
 | [.str z]=>z.length≤sizeLine∧Q (.int z.length) H
 | [.ref p]=>∃ ys,(SqL K H p ys∨SqT K H p ys)∧Q (.int ys.length) H
 | _=>False
theorem vY:CallR X (.builtin "len") (nM X.K):=by
 intro pins s σ H xs us Q I r h
 match xs,h with
 | [.str z],h=>exact qH pins s σ H _ us Q I r ⟨z,rfl,h⟩
 | [.ref p],h=>obtain⟨ys,h1,h2⟩:=h; exact qG pins s σ H _ us Q I r ⟨p,ys,rfl,h1,h2⟩
def lY(K:PySem.W.Frag):R2:=fun x y H Q=>match x,y with
 | .ref p,.int i=>∃ xs v,(SqL K H p xs∨SqT K H p xs)∧cC xs i=some v∧Q v H
 | .str z,.int i=>∃ c,z.length≤sizeLine∧cC z.cps.toList i=some c∧Q (.str ⟨#[c]⟩) H
 | _,_=>False
theorem Gq:IxR X (lY X.K):=by
 intro value slice pins s σ H x y v u Q I rx ry h hs
 refine DK value slice pins s σ H x y v u Q I rx ry ?_ hs
 match x,y,h with
 | .ref p,.int i,h=>
  obtain⟨xs,v',h1,h2,h3⟩:=h
  rcases h1 with h1 | h1
  ·exact .inl ⟨p,xs,i,v',rfl,rfl,h1,h2,h3⟩
  ·exact .inr (.inl ⟨p,xs,i,v',rfl,rfl,h1,h2,h3⟩)
 | .str z,.int i,h=>
  obtain⟨c,h1,h2,h3⟩:=h
  exact .inr (.inr ⟨z,i,c,rfl,rfl,h1,h2,h3⟩)
end
section
variable{K:PySem.W.Frag}{H:Hp}{Q:VK}
theorem mo(i j:Int):nJ (.int i) (.int j) H Q=Q (.int (i+j)) H:=rfl
theorem mM(a b:Str):nJ (.str a) (.str b) H Q=(a.length+b.length≤sizeLine∧Q (.str (a++b)) H):=rfl
theorem i_(l b:Addr):nJ (.ref l) (.ref b) H Q=∃ xs zs,H l=some (.lst xs)∧H b=some (.lst zs)∧xs.length+zs.length≤sizeLine∧∀ p,H p=none→Q (.ref p) (upd H p (.lst (xs++zs))):=rfl
theorem qv(i j:Int):zB (.int i) (.int j) H Q=Q (.bl (decide (i<j))) H:=rfl
theorem o_(i j:Str):zB (.str i) (.str j) H Q=Q (.bl (decide (i.cps.toList<j.cps.toList))) H:=rfl
theorem pY(i j:Str):vb K (.str i) (.str j) H Q=Q (.bl (!(Builtin.Str.occurrences j i 0 j.length 1).isEmpty)) H:=rfl
theorem nX(x:V)(p:Addr):vb K x (.ref p) H Q=∃ xs,(SqL K H p xs∨SqT K H p xs)∧bQ x=true∧xs.all bQ=true∧Q (.bl (gT x xs)) H:=by cases x <;> rfl
theorem jL(i j:Str):jl K (.str i) (.str j) H Q=Q (.bl (!(!(Builtin.Str.occurrences j i 0 j.length 1).isEmpty))) H:=rfl
theorem jx(x:V)(p:Addr):jl K x (.ref p) H Q=∃ xs,(SqL K H p xs∨SqT K H p xs)∧bQ x=true∧xs.all bQ=true∧Q (.bl (!gT x xs)) H:=by cases x <;> rfl
theorem ms(z:Str):nM K [.str z] H Q=(z.length≤sizeLine∧Q (.int z.length) H):=rfl
theorem mG(p:Addr):nM K [.ref p] H Q=∃ ys,(SqL K H p ys∨SqT K H p ys)∧Q (.int ys.length) H:=rfl
theorem qB(p:Addr)(i:Int):lY K (.ref p) (.int i) H Q=∃ xs v,(SqL K H p xs∨SqT K H p xs)∧cC xs i=some v∧Q v H:=rfl
theorem qh(z:Str)(i:Int):lY K (.str z) (.int i) H Q=∃ c,z.length≤sizeLine∧cC z.cps.toList i=some c∧Q (.str ⟨#[c]⟩) H:=rfl
theorem o0(p:Addr)(k:Int)(v:V)(G:Hp→Prop):u6 (.ref p) (.int k) v H G=∃ xs j,H p=some (.lst xs)∧iS xs.length k=some j∧G (upd H p (.lst (xs.set j v))):=
 propext ⟨fun ⟨_,xs,_,j,e1,e2,q⟩=>by cases e1; cases e2; exact⟨xs,j,q⟩,fun ⟨xs,j,q⟩=>⟨p,xs,k,j,rfl,rfl,q⟩⟩
theorem kP(p:Addr)(y:V):lx (.ref p) [y] H Q=∃ xs,H p=some (.lst xs)∧xs.length<sizeLine∧Q .non (upd H p (.lst (xs++[y]))):=
 propext ⟨fun ⟨_,xs,_,e1,e2,q⟩=>by cases e1; cases e2; exact⟨xs,q⟩,fun ⟨xs,q⟩=>⟨p,xs,y,rfl,rfl,q⟩⟩
theorem pq(sep:Str)(p:Addr):vM K (.str sep) [.ref p] H Q=∃ ss,SqL K H p (ss.map V.str)∧(ss.map (·.length)).sum+ss.length * sep.length≤16777216∧Q (.str (Txt.join sep ss)) H:=
 propext ⟨fun ⟨_,_,ss,e1,e2,q⟩=>by cases e1; cases e2; exact⟨ss,q⟩,fun ⟨ss,q⟩=>⟨sep,p,ss,rfl,rfl,q⟩⟩
theorem rP(y:Str):pT K "str" (.str y) H=True:=eq_true rfl
theorem sy(p:Addr):(pT K "list" (.ref p) H)=∃ xs,SqL K H p xs:=by
 refine propext ⟨fun h=>?_,fun h=>.inl ⟨rfl,h⟩⟩
 rcases h with ⟨_,h⟩ | ⟨h,_⟩ | ⟨h,_⟩ | ⟨h,_⟩
 ·exact h
 ·exact absurd h (by decide)
 ·exact absurd h (by decide)
 ·exact absurd h (by decide)
end
theorem bR:bootBuiltins "len" = some (.builtin "len"):=by decide +kernel
theorem nt:bootBuiltins "isinstance" = some (.builtin "isinstance"):=by decide +kernel
theorem xL:bootBuiltins "sorted" = some (.builtin "sorted"):=by decide +kernel
theorem BM:bootBuiltins "str" = some (.type "str"):=by decide +kernel
theorem jj:bootBuiltins "int" = some (.type "int"):=by decide +kernel
theorem AF:bootBuiltins "bool" = some (.type "bool"):=by decide +kernel
theorem hJ:bootBuiltins "list" = some (.type "list"):=by decide +kernel
theorem qI:bootBuiltins "tuple" = some (.type "tuple"):=by decide +kernel
theorem au{X:Cx}(i:Nat){x:Str}{e:Expr}{te:TE}{pos pos':Pos}(hN:X.N.Nodup)(he:PE X e te)(hi:X.N[i]? = some x:=by rfl)(hx:aG X.env.scope x:=by first | exact vLl (by decide +kernel) | exact Or.inl rfl)(hs:swapsWith e (some (.Name x pos')) pos.line X.env=pure false:=by rfl)
  (hf:X.fn x=true∨X.env.scope.names.lookup x=some .local:=by first | exact .inl rfl | exact .inr rfl | assumption):PS X (.Assign [.Name x pos'] e pos) (lX te (fZ i)):=Ek hN hi hx he hs hf
theorem bg{X:Cx}(i:Nat){x:Str}{pos:Pos}(hN:X.N.Nodup)(hi:X.N[i]? = some x:=by rfl)(hx:aG X.env.scope x:=by first | exact vLl (by decide +kernel) | exact Or.inl rfl)
  (hf:X.fn x=true∨X.env.scope.names.lookup x=some .local:=by first | exact .inl rfl | exact .inr rfl | assumption):PG X (.Name x pos) (fZ i):=A8 hN hi hx hf
structure CompSc (fsc:Scope) (N N0 T:List Str) (scope:Scope):Prop where
 kind:scope.kind = .function
 nocell:∀ y∈scope.names,y.2 ≠ .cell
 names:∀ y∈scope.names,y.2 = .local→scope.names.lookup y.1=some .local
 free:∀ y∈scope.names,y.2 = .free→fsc.names.lookup y.1=some .cell∨fsc.names.lookup y.1=some .free
 apart:∀ y∈scope.names,y.2 = .local→y.1∉N0
 len0:N0.length=N.length
 same:((N0.zip N).all fun p=>p.1 == p.2 || !(scope.names.any fun y=>y.1 == p.1))=true
theorem CompSc.to{X:Cx}{fsc:Scope}{N N0 T:List Str}{scope:Scope}(S:CompSc fsc N N0 T scope)(h1:X.env.scope=fsc)(h2:X.N=N):gL X N0 T scope:=by
 subst h1 h2;refine⟨S.kind,S.nocell,S.names,S.free,S.apart,S.len0,fun i x k e m=>?_⟩
 have hl:=S.len0;have hi:i<N0.length:=(List.getElem?_eq_some_iff.mp e).1
 have hN:X.N[i]? = some X.N[i]:=List.getElem?_eq_getElem (by omega)
 have hz:(x,X.N[i])∈N0.zip X.N:=List.mem_of_getElem? (i:=i) (by rw[List.getElem?_zip_eq_some]; exact⟨e,hN⟩)
 have q:=List.all_eq_true.mp S.same _ hz;simp only[Bool.or_eq_true,beq_iff_eq,Bool.not_eq_true']at q
 rcases q with q | q
 ·rw[hN,← q]
 ·have:(scope.names.any fun y=>y.1 == x)=true:=List.any_eq_true.mpr ⟨_,m,by simp⟩
  rw[this]at q; cases q
def vy:R2:=Fe
def zh:R2:=EX
theorem aT{X:Cx}:OpR X (compareOp .Eq) vy:=EG
theorem oy{X:Cx}:OpR X (compareOp .NotEq) zh:=EO
section
variable{K:PySem.W.Frag}{H:Hp}{Q:VK}
theorem nV(i j:Int):vy (.int i) (.int j) H Q=Q (.bl (decide (i=j))) H:=by
 have e:decide (V.int i=V.int j)=decide (i=j):=by by_cases h:i=j <;> simp[h]
 show (j7 (.int i) (.int j)=true∧Q (.bl (decide (V.int i=V.int j))) H)=_
 rw[e]; exact propext ⟨fun h=>h.2,fun h=>⟨rfl,h⟩⟩
theorem rQ(i j:Bool):vy (.bl i) (.bl j) H Q=Q (.bl (i == j)) H:=by
 show (j7 (.bl i) (.bl j)=true∧Q (.bl (decide (V.bl i=V.bl j))) H)=_
 rw[kG]; exact propext ⟨fun h=>h.2,fun h=>⟨rfl,h⟩⟩
theorem qJ(i j:Str):vy (.str i) (.str j) H Q=Q (.bl (decide (i=j))) H:=by
 have e:decide (V.str i=V.str j)=decide (i=j):=by by_cases h:i=j <;> simp[h]
 show (j7 (.str i) (.str j)=true∧Q (.bl (decide (V.str i=V.str j))) H)=_
 rw[e]; exact propext ⟨fun h=>h.2,fun h=>⟨rfl,h⟩⟩
theorem oz(i j:Str):zh (.str i) (.str j) H Q=Q (.bl (!decide (i=j))) H:=by
 have e:decide (V.str i=V.str j)=decide (i=j):=by by_cases h:i=j <;> simp[h]
 show (j7 (.str i) (.str j)=true∧Q (.bl (!decide (V.str i=V.str j))) H)=_
 rw[e]; exact propext ⟨fun h=>h.2,fun h=>⟨rfl,h⟩⟩
end
theorem ED{X:Cx}:PSet X u6:=zv
section
variable{X:Cx}(K:PySem.W.Frag)
theorem i8(hK:X.K=K:=by rfl):OpR X (compareOp .In) (vb K):=hK ▸ DD
theorem i7(hK:X.K=K:=by rfl):OpR X (compareOp .NotIn) (jl K):=hK ▸ xf
theorem bb(hK:X.K=K:=by rfl):CallR X (.builtin "len") (nM K):=hK ▸ vY
theorem aw(hK:X.K=K:=by rfl):IxR X (lY K):=hK ▸ Gq
theorem oA(hK:X.K=K:=by rfl):MtR X "str.join" (vM K):=hK ▸ AD
theorem y3(hK:X.K=K:=by rfl):SlR X (ya K):=hK ▸ Bd
theorem cX{tg l:Expr}{tl:TE}(hl:PE X l tl)(hK:X.K=K:=by rfl):PI X tg l (uj K tl):=hK ▸ By hl
theorem jr{es:List Expr}{k n:Nat}{t:fC}{pos:Pos}(h:PGs X es t)(hn:(assignEach es X.env).length=n:=by rfl)(hst:(assignEach es X.env).findIdx? (·.1)=none:=by rfl)(hK:X.K=K:=by rfl)(hc:X.calm=true:=by rfl):PG X (.Tuple es k pos) (tO K n t):=hK ▸ D7 hc h hn hst
theorem bV{o e:Expr}{es:List Expr}{to:TE}{t:TA}{name:Str}{apos cpos:Pos}{T id:String}{r:V→List V→Hp→VK→Prop}(pa:PlainAttrs T)(slot:Slot T name id)(hty:typeOf (.builtin id)=pure (.type "method_descriptor")) (hm:MtR X id r) (ho:PE X o to) (ha:PA X (e::es) t)
  (hbase:attributeBase o name X.env (eval o X.env)=eval o X.env:=by rfl)
  (hfew:((backTo cpos (starEach (e::es) X.env)).all (fun x=>!x.1)&&(backToKw cpos (keywordEach [] X.env)).all (fun x=>x.1.isSome)&&decide ((e::es).length+([]:List Keyword).length+(if ([]:List Keyword).isEmpty then 0 else 1)<30))=true:=by rfl)
  (hline:(apos.endLine == cpos.line)=true:=by rfl) (hs:starEach (e::es) X.env=(false,eval e X.env)::starEach es X.env:=by rfl) (hplain:(backTo cpos (starEach es X.env)).any (·.1)=false:=by rfl) (hK:X.K=K:=by rfl) :
  PE X (.Call (.Attribute o name apos) (e::es) [] cpos) (B1 K T r to t):=hK ▸ EJ pa slot hty hm ho ha hbase hfew hline hs hplain
theorem uO(hK:X.K=K:=by rfl):CallR X (.type "list") (fun xs H Q=>∃ p ys,xs=[.ref p]∧(SqL K H p ys∨SqT K H p ys)∧∀ l,H l=none→Q (.ref l) (upd H l (.lst ys))):=hK ▸ qM
theorem qW(hK:X.K=K:=by rfl):CallR X (.type "tuple") (fun xs H Q=>∃ p ys,xs=[.ref p]∧((SqL K H p ys∧∀ l,H l=none→Q (.ref l) (upd H l (.tup ys)))∨(SqT K H p ys∧Q (.ref p) H))):=hK ▸ nu
end
theorem wI(n:Int)(P:Int→Prop):(∃ j,[V.int n]=[V.int j]∧P j)=P n:=propext ⟨fun ⟨_,e,h⟩=>by cases e; exact h,fun h=>⟨n,rfl,h⟩⟩
theorem sU(x:V)(xs:List V)(P:V→List V→Prop):(∃ v r,x::xs=v::r∧P v r)=P x xs:=propext ⟨fun ⟨_,_,e,h⟩=>by cases e; exact h,fun h=>⟨x,xs,rfl,h⟩⟩
def fH(scope fsc:Scope):Scope:={ scope with names:=scope.names.map fun (n,k)=>if (k == .free&&fsc.kind == .function&&fsc.names.lookup n == some .cell) then (n,.cell) else (n,k) }
section
variable{X:Cx}{N0 T:List Str}{scope:Scope}{C:Addr}{fp:List Addr}{s:Shared}{H:Hp}{x:Str}
theorem oh(fsc:Scope)(h:(fH scope fsc).names.lookup x=some .globalImplicit)(e:X.env.scope=fsc:=by rfl):Gl (b5 X N0 T scope C fp s H) x:=by subst e; exact h
theorem cY(fsc:Scope)(h:((fH scope fsc).names.lookup x=some .local||(fH scope fsc).names.lookup x=some .cell||(fH scope fsc).names.lookup x=some .free)=true)(e:X.env.scope=fsc:=by rfl):ao (b5 X N0 T scope C fp s H).env.scope x:=by
 subst e;simp only[Bool.or_eq_true,decide_eq_true_eq]at h
 rcases h with (h | h) | h
 ·exact .inl h
 ·exact .inr (.inl h)
 ·exact .inr (.inr h)
theorem gS(fsc:Scope)(h:(fH scope fsc).names.lookup x=some .local)(e:X.env.scope=fsc:=by rfl):aG (b5 X N0 T scope C fp s H).env.scope x:=by subst e; exact .inl h
theorem jN(fsc:Scope)(h:(fH scope fsc).names.lookup x=some .local)(e:X.env.scope=fsc:=by rfl):(b5 X N0 T scope C fp s H).fn x=true∨(b5 X N0 T scope C fp s H).env.scope.names.lookup x=some .local:=by subst e; exact .inr h
end
theorem bP{X:Cx}:MtR X "list.append" lx:=mw
theorem PW.pt'{X:Cx}{e:Expr}{t:TT}(h:PW X e t):PT X e t:=h.pt
theorem gm{t u:TS}{D:dO}{σ : St}{H:Hp}(I:St→Hp→Prop)(h:∀ k:St→Hp→Prop,(∀ σ' H',I σ' H'→k σ' H')→t { D with nx:=k } σ H)(hu:∀ σ' H',I σ' H'→j4 u D σ' H'):j4 (uW t u) D σ H:=h _ hu
theorem kh{σ : St}{H:Hp}{Q:List (V × V)→Hp→Prop}:iQ [] σ H Q=Q [] H:=rfl
theorem jB{σ : St}{H:Hp}{Q:List (V × V)→Hp→Prop}(tk tv:TE)(r:List (TE × TE)):iQ ((tk,tv)::r) σ H Q=tk σ H fun x H1=>tv σ H1 fun y H2=>iQ r σ H2 fun ps H3=>Q ((x,y)::ps) H3:=rfl
theorem Same.upd{H H':Hp}{p:Addr}(sm:Same H H')(h:H p=none)(o:HO):Same H (upd H' p o):=fun b u q=>by rw[ax (aF q h)]; exact sm b u q
theorem ah{H:Hp}{p:Addr}(h:H p=none)(o:HO):Same H (upd H p o):=fun b u q=>by rw[ax (aF q h)]; exact q
end L2
namespace L2
open PySem PySem.Spec PyProof.Rows PySem.SeqAt
def EqN(K:PySem.W.Frag)(H:Hp):Nat→V→V→Bool→Prop
 | 0,x,y,b=>bQ x=true∧bQ y=true∧b=fD x y
 | n+1,x,y,b=>(bQ x=true∧bQ y=true∧b=fD x y)∨∃ a c xs ys,x = .ref a∧y = .ref c∧((SqL K H a xs∧SqL K H c ys)∨(SqT K H a xs∧SqT K H c ys))∧
   ((∃ e:Nat→Bool,xs.length=ys.length∧(∀ (i:Nat) x y,xs[i]? = some x→ys[i]? = some y→EqN K H n x y (e i))∧b=(List.range xs.length).all e)∨
    (SqL K H a xs∧SqL K H c ys∧xs.length≠ys.length∧b=false))
theorem jO:∀ {x:V},bQ x=true→fD x x=true
 | .non,_=>rfl
 | .bl b,_=>by simp[fD]
 | .int i,_=>by simp[fD]
 | .str y,_=>by simp[fD]
section
variable{X:Cx}{pins:List (Addr × Obj)}{σ : St}{H:Hp}{s:Shared}
theorem EqN.self(I:Inv X pins σ H s):∀ {n:Nat} {x:V} {b:Bool},EqN X.K H n x x b→b=true
 | 0,x,b,h=>by obtain⟨h1,_,rfl⟩:=h; exact jO h1
 | n+1,x,b,h=>by
  rcases h with ⟨h1,_,rfl⟩ | ⟨a,c,xs,ys,rfl,e,hq,h⟩
  ·exact jO h1
  ·cases e
   have exy:xs=ys:=by
    rcases hq with ⟨q1,q2⟩ | ⟨q1,q2⟩
    ·exact I.list_inj q1 q2
    ·exact I.tuple_inj q1 q2
   subst exy;rcases h with ⟨e,_,he,rfl⟩ | ⟨_,_,z,_⟩
   ·rw[List.all_eq_true]
    intro i hi
    have hi':=List.mem_range.mp hi;have q:=he i xs[i] xs[i] (List.getElem?_eq_getElem hi') (List.getElem?_eq_getElem hi');exact EqN.self I q
   ·exact absurd rfl z
theorem EqN.rc(I:Inv X pins σ H s){n:Nat}(ih:∀ {A:Around} {x y:V} {b:Bool} {u v:Value},A.units+n<cLine→EqN X.K H n x y b→RelV x u→RelV y v→EqAt A s u v b)
  {A:Around} {a c:Addr} {xs ys:List V} {b:Bool} (hu:A.units+(n+1)<cLine) (hq:(SqL X.K H a xs∧SqL X.K H c ys)∨(SqT X.K H a xs∧SqT X.K H c ys))
  (h:(∃ e:Nat→Bool,xs.length=ys.length∧(∀ (i:Nat) x y,xs[i]? = some x→ys[i]? = some y→EqN X.K H n x y (e i))∧b=(List.range xs.length).all e)∨(SqL X.K H a xs∧SqL X.K H c ys∧xs.length≠ys.length∧b=false)) :
  RcAt A s (.ref a) (.ref c) b∧RcNeAt A s (.ref a) (.ref c) (!b):=by
 have hin:A.in1.units+n<cLine:=by
  have:A.in1.units=A.units+1:=rfl
  omega
 rcases h with ⟨e,hl,he,rfl⟩ | ⟨q1,q2,hl,rfl⟩
 ·rcases hq with ⟨q1,q2⟩ | ⟨q1,q2⟩
  ·obtain⟨i1,r1,p1,z1⟩:=I.list q1
   obtain⟨i2,r2,p2,z2⟩:=I.list q2
   have l1:=r1.length;have l2:=r2.length
   have hit:∀ j (h1:j<i1.toArray.size) (h2:j<i2.toArray.size),EqAt A.in1 s i1.toArray[j] i2.toArray[j] (e j):=fun j h1 h2=>by
    obtain⟨x,hx,rx⟩:=r1.of (i:=j) (u:=i1.toArray[j]) (by simp at h1 ⊢)
    obtain⟨y,hy,ry⟩:=r2.of (i:=j) (u:=i2.toArray[j]) (by simp at h2 ⊢)
    exact ih hin (he j x y hx hy) rx ry
   have ez:xs.length=i1.toArray.size:=by simp; omega
   rw[ez];exact⟨RcAt.lists p1.isList p2.isList (by simp; omega) (by omega) hit,RcNeAt.lists p1.isList p2.isList (by simp; omega) (by omega) hit⟩
  ·obtain⟨i1,r1,p1,z1⟩:=I.tuple q1
   obtain⟨i2,r2,p2,z2⟩:=I.tuple q2
   have l1:=r1.length;have l2:=r2.length
   have hit:∀ j (h1:j<i1.toArray.size) (h2:j<i2.toArray.size),EqAt A.in1 s i1.toArray[j] i2.toArray[j] (e j):=fun j h1 h2=>by
    obtain⟨x,hx,rx⟩:=r1.of (i:=j) (u:=i1.toArray[j]) (by simp at h1 ⊢)
    obtain⟨y,hy,ry⟩:=r2.of (i:=j) (u:=i2.toArray[j]) (by simp at h2 ⊢)
    exact ih hin (he j x y hx hy) rx ry
   have ez:(List.range xs.length).all e=((List.range (min i1.toArray.size i2.toArray.size)).all e&&i1.toArray.size == i2.toArray.size):=by
    have e1:i1.toArray.size=xs.length:=by simp; omega
    have e2:i2.toArray.size=xs.length:=by simp; omega
    rw[e1,e2,Nat.min_self]; simp
   rw[ez];exact⟨RcAt.tuples (show s.heap.IsTuple a i1.toArray from p1) (show s.heap.IsTuple c i2.toArray from p2) (by omega) hit,RcNeAt.tuples (show s.heap.IsTuple a i1.toArray from p1) (show s.heap.IsTuple c i2.toArray from p2) (by omega) hit⟩
 ·obtain⟨i1,r1,p1,z1⟩:=I.list q1
  obtain⟨i2,r2,p2,z2⟩:=I.list q2
  have l1:=r1.length;have l2:=r2.length
  have hne:(i1.toArray.size != i2.toArray.size)=true:=by
   rw[bne_iff_ne]; simp; omega
  exact⟨RcAt.lists_lengths p1.isList p2.isList hne (by omega),RcNeAt.lists_lengths p1.isList p2.isList hne (by omega)⟩
theorem EqN.at(I:Inv X pins σ H s):∀ {n:Nat} {A:Around} {x y:V} {b:Bool} {u v:Value},A.units+n<cLine→EqN X.K H n x y b→RelV x u→RelV y v→EqAt A s u v b
 | 0,A,x,y,b,u,v,_,h,rx,ry=>by obtain⟨h1,h2,rfl⟩:=h; exact iU rx ry h1 h2
 | n+1,A,x,y,b,u,v,hu,h,rx,ry=>by
  have h0:=h;rcases h with ⟨h1,h2,rfl⟩ | ⟨a,c,xs,ys,rfl,rfl,hq,h⟩
  ·exact iU rx ry h1 h2
  ·cases rx
   cases ry
   by_cases hac:a=c
   ·subst hac
    rw[EqN.self I h0];exact EqAt.same _
   ·exact EqAt.of_refs hac (EqN.rc I (fun hu' q rx ry=>EqN.at I hu' q rx ry) hu hq h).1
end
section
variable{X:Cx}
def yw(K:PySem.W.Frag):R2:=fun x y H Q=>∃ (a c:Addr) (n:Nat) (b:Bool),x = .ref a∧y = .ref c∧n≤100∧EqN K H (n+1) x y b∧Q (.bl b) H
def zf(K:PySem.W.Frag):R2:=fun x y H Q=>∃ (a c:Addr) (n:Nat) (b:Bool),x = .ref a∧y = .ref c∧n≤100∧EqN K H (n+1) x y b∧Q (.bl (!b)) H
theorem DZ(hu:X.A.units+101<cLine):OpR X (compareOp .Eq) (yw X.K):=by
 intro pins s σ H x y v u Q I rx ry h
 obtain⟨a,c,n,b,rfl,rfl,hn,he,q⟩:=h
 cases rx
 cases ry;rcases he with ⟨h1,_⟩ | ⟨a',c',xs,ys,e1,e2,hq,h⟩
 ·cases h1
 ·cases e1
  cases e2;exact(EqN.rc I (fun hu' q rx ry=>EqN.at I hu' q rx ry) (by omega) hq h).1 _ _ _ _ ⟨.bl b,H,I,rfl,q⟩
theorem DF(hu:X.A.units+101<cLine):OpR X (compareOp .NotEq) (zf X.K):=by
 intro pins s σ H x y v u Q I rx ry h
 obtain⟨a,c,n,b,rfl,rfl,hn,he,q⟩:=h
 cases rx
 cases ry;rcases he with ⟨h1,_⟩ | ⟨a',c',xs,ys,e1,e2,hq,h⟩
 ·cases h1
 ·cases e1
  cases e2;exact(EqN.rc I (fun hu' q rx ry=>EqN.at I hu' q rx ry) (by omega) hq h).2 _ _ _ _ ⟨.bl (!b),H,I,rfl,q⟩
theorem lP(K:PySem.W.Frag){k:Nat}(hr:Room k X.A)(hK:X.K=K:=by rfl):OpR X (compareOp .Eq) (yw K):=by subst hK; exact DZ (by have:=hr.un; omega)
theorem Bh(K:PySem.W.Frag){k:Nat}(hr:Room k X.A)(hK:X.K=K:=by rfl):OpR X (compareOp .NotEq) (zf K):=by subst hK; exact DF (by have:=hr.un; omega)
end
section
variable{K:PySem.W.Frag}{H:Hp}{Q:VK}
theorem rX(a c:Addr):yw K (.ref a) (.ref c) H Q=∃ (n:Nat) (b:Bool),n≤100∧EqN K H (n+1) (.ref a) (.ref c) b∧Q (.bl b) H:=
 propext ⟨fun ⟨_,_,n,b,e1,e2,q⟩=>⟨n,b,q⟩,fun ⟨n,b,q⟩=>⟨a,c,n,b,rfl,rfl,q⟩⟩
theorem si(a c:Addr):zf K (.ref a) (.ref c) H Q=∃ (n:Nat) (b:Bool),n≤100∧EqN K H (n+1) (.ref a) (.ref c) b∧Q (.bl (!b)) H:=
 propext ⟨fun ⟨_,_,n,b,e1,e2,q⟩=>⟨n,b,q⟩,fun ⟨n,b,q⟩=>⟨a,c,n,b,rfl,rfl,q⟩⟩
theorem EqN.flat{n:Nat}{x y:V}(hx:bQ x=true)(hy:bQ y=true):EqN K H n x y (fD x y):=by
 cases n with
 | zero=>exact⟨hx,hy,rfl⟩
 | succ n=>exact .inl ⟨hx,hy,rfl⟩
theorem EqN.refl{n:Nat}{x:V}(hx:bQ x=true):EqN K H n x x true:=by
 have q:EqN K H n x x (fD x x):=EqN.flat hx hx
 rwa [jO hx]at q
theorem EqN.seq{n:Nat}{a c:Addr}{xs ys:List V}(hq:(SqL K H a xs∧SqL K H c ys)∨(SqT K H a xs∧SqT K H c ys))(hl:xs.length=ys.length)(he:∀ (i:Nat) x y,xs[i]? = some x→ys[i]? = some y→EqN K H n x y true):EqN K H (n+1) (.ref a) (.ref c) true:=
 .inr ⟨a,c,xs,ys,rfl,rfl,hq,.inl ⟨fun _=>true,hl,he,by simp⟩⟩
theorem EqN.seqFlat{n:Nat}{a c:Addr}{xs:List V}(hq:(SqL K H a xs∧SqL K H c xs)∨(SqT K H a xs∧SqT K H c xs))(hf:∀ x∈xs,bQ x=true):EqN K H (n+1) (.ref a) (.ref c) true:=
 EqN.seq hq rfl fun i x y e1 e2=>by
  rw[e1]at e2; cases e2
  exact EqN.refl (hf x (List.mem_of_getElem? e1))
end
theorem v1{y:Str}:∀ {l:List Str} {j:Nat},j<l.idxOf y→∀ (h:j<l.length),l[j]≠y
 | n::r,0,h,_=>by
  intro e
  have e':n=y:=e
  subst e';simp at h
 | n::r,j+1,h,h2=>by
  by_cases e:n=y
  ·subst e; simp at h
  ·rw[List.idxOf_cons]at h
   have hb:(n == y)=false:=beq_eq_false_iff_ne.mpr e
   rw[hb]at h
   have h':j+1<r.idxOf y+1:=h
   have q:=v1 (y:=y) (l:=r) (j:=j) (by omega) (by simpa using h2)
   simpa using q
section
variable{X:Cx}
def tE(K:PySem.W.Frag):V→List V→Hp→VK→Prop:=fun x vs H Q=>∃ (p:Addr) (ss:List Str) (y:Str),x = .ref p∧vs=[.str y]∧SqL K H p (ss.map V.str)∧y∈ss∧Q (.int (ss.idxOf y:Nat)) H
theorem kD{K:PySem.W.Frag}{H:Hp}{Q:VK}(p:Addr)(y:Str):tE K (.ref p) [.str y] H Q=∃ ss:List Str,SqL K H p (ss.map V.str)∧y∈ss∧Q (.int (ss.idxOf y:Nat)) H:=
 propext ⟨fun ⟨_,ss,_,e1,e2,q⟩=>by cases e1; cases e2; exact⟨ss,q⟩,fun ⟨ss,q⟩=>⟨p,ss,y,rfl,rfl,q⟩⟩
theorem m_(K:PySem.W.Frag)(hK:X.K=K:=by rfl):MtR X "list.index" (tE K):=by
 subst hK;intro pins s σ H x xs v us Q I rx r h
 obtain⟨p,ss,y,rfl,rfl,hq,hy,q⟩:=h
 cases rx;obtain⟨u,rfl,ru⟩:=dG r
 obtain⟨t,rfl⟩:=ru
 obtain⟨its,rv,pl,hz⟩:=I.list hq
 have hlen:its.length=ss.length:=by rw[← rv.length,List.length_map]
 rw[List.length_map]at hz
 have hs:sizeLine=16777216:=sizeLine_eq
 obtain⟨⟨cls,dd,data,sl⟩,ho,hc,n,hd⟩:=pl.isList
 simp only at hc hd
 subst hc hd;have hj:ss.idxOf y<ss.length:=List.idxOf_lt_length_iff.mpr hy
 have rel:∀ (i:Nat) (h:i<its.length),∃ t',its[i] = .str ss[i] t':=fun i h=>by
  obtain⟨x,hx,rx⟩:=rv.of (i:=i) (u:=its[i]) (List.getElem?_eq_getElem h)
  rw[List.getElem?_map,List.getElem?_eq_getElem (by omega)]at hx
  have hx':V.str ss[i]=x:=Option.some.inj hx
  subst hx';exact rx
 refine call_meets PySem.F.slot_list_index ⟨_,ho,rfl⟩ PySem.F.entry_list_index (PySem.F.args_list_index_2 _ _)
  (list_indexAt p its.toArray n dd sl (.str y t) (fA (.str y)) (ss.idxOf y) (by simpa [hlen] using hj) (by omega) ?_ ?_) ⟨ho,fun z hz=>?_,⟨.int _,H,I.tok _,⟨_,rfl⟩,q⟩⟩
 ·show fA (.str y) its[ss.idxOf y]=true
  obtain⟨t',e⟩:=rel (ss.idxOf y) (by omega)
  rw[e];show (ss[ss.idxOf y] == y)=true
  rw[List.getElem_idxOf hj]; simp
 ·intro j hjs hlt
  have hj':j<its.length:=by simpa using hjs
  show fA (.str y) its[j]=false
  obtain⟨t',e⟩:=rel j hj'
  rw[e];show (ss[j] == y)=false
  exact beq_eq_false_iff_ne.mpr (v1 hlt _)
 ·have hz':z∈its:=by simpa using hz
  obtain⟨i,hi,rfl⟩:=List.mem_iff_getElem.mp hz'
  obtain⟨t',e⟩:=rel i hi
  have q':=iU (A:=X.A.in1) (s:=s) (y:=.str ss[i]) (x:=.str y) (u:=its[i]) (v:=.str y t) ⟨t',e⟩ ⟨t,rfl⟩ rfl rfl;rw[e]; rw[e]at q'
  exact q'
end
section
variable{X:Cx}
def uy:R2:=fun x y H Q=>y = .non∧Q (.bl (decide (x = .non))) H
def zT:R2:=fun x y H Q=>y = .non∧Q (.bl (!decide (x = .non))) H
theorem dY:OpR X (compareOp .Is) uy:=Do
theorem zR:OpR X (compareOp .IsNot) zT:=Bf
def Ai:List V→Hp→VK→Prop:=fun xs H Q=>(∃ i,xs=[.int i]∧Q (.int i) H)∨∃ k,xs=[.bl k]∧Q (.int (if k then 1 else 0)) H
theorem fQ:CallR X (.type "int") Ai:=wD
def tG(K:PySem.W.Frag):List V→Hp→VK→Prop:=fun xs H Q=>∃ p ys,xs=[.ref p]∧(SqL K H p ys∨SqT K H p ys)∧∀ l,H l=none→Q (.ref l) (upd H l (.lst ys))
theorem ic(K:PySem.W.Frag)(hK:X.K=K:=by rfl):CallR X (.type "list") (tG K):=uO K hK
def wn(K:PySem.W.Frag):List V→Hp→VK→Prop:=fun xs H Q=>∃ p ys,xs=[.ref p]∧((SqL K H p ys∧∀ l,H l=none→Q (.ref l) (upd H l (.tup ys)))∨(SqT K H p ys∧Q (.ref p) H))
theorem mY(K:PySem.W.Frag)(hK:X.K=K:=by rfl):CallR X (.type "tuple") (wn K):=qW K hK
def tP:R2:=fun x y H Q=>match x,y with
 | .int i,.int j=>CMul i j∧Q (.int (i * j)) H
 | .str z,.int n=>0≤n∧n≤4096∧z.length≤4096∧Q (.str (Txt.mul z n)) H
 | _,_=>False
theorem cU:OpR X (binaryOp .Mult) tP:=by
 intro pins s σ H x y v u Q I rx ry h
 match x,y,h with
 | .int i,.int j,h=>exact C6 pins s σ H _ _ v u Q I rx ry ⟨_,_,rfl,rfl,h⟩
 | .str z,.int n,h=>
  obtain⟨t,rfl⟩:=rx
  obtain⟨t',rfl⟩:=ry
  obtain⟨h0,h1,h2,q⟩:=h
  exact SB.mul (mulOk_of 4096 4096 h2 (by omega) (by omega) (by decide) (by decide)) fun t' k=>⟨.str (Txt.mul z n),H,I.tok k,⟨t',rfl⟩,q⟩
end
section
variable{K:PySem.W.Frag}{H:Hp}{Q:VK}
theorem sf(x:V):uy x .non H Q=Q (.bl (decide (x = .non))) H:=propext ⟨fun h=>h.2,fun h=>⟨rfl,h⟩⟩
theorem qe(x:V):zT x .non H Q=Q (.bl (!decide (x = .non))) H:=propext ⟨fun h=>h.2,fun h=>⟨rfl,h⟩⟩
theorem oT(k:Bool):Ai [.bl k] H Q=Q (.int (if k then 1 else 0)) H:=propext ⟨fun h=>by rcases h with ⟨_,e,q⟩ | ⟨_,e,q⟩ <;> cases e; exact q,fun q=>.inr ⟨k,rfl,q⟩⟩
theorem kc(p:Addr):tG K [.ref p] H Q=∃ ys,(SqL K H p ys∨SqT K H p ys)∧∀ l,H l=none→Q (.ref l) (upd H l (.lst ys)):=propext ⟨fun ⟨_,ys,e,q⟩=>by cases e; exact⟨ys,q⟩,fun ⟨ys,q⟩=>⟨p,ys,rfl,q⟩⟩
theorem mn(p:Addr):wn K [.ref p] H Q=∃ ys,((SqL K H p ys∧∀ l,H l=none→Q (.ref l) (upd H l (.tup ys)))∨(SqT K H p ys∧Q (.ref p) H)):=propext ⟨fun ⟨_,ys,e,q⟩=>by cases e; exact⟨ys,q⟩,fun ⟨ys,q⟩=>⟨p,ys,rfl,q⟩⟩
theorem mV(i j:Int):tP (.int i) (.int j) H Q=(CMul i j∧Q (.int (i * j)) H):=rfl
theorem mF(z:Str)(n:Int):tP (.str z) (.int n) H Q=(0≤n∧n≤4096∧z.length≤4096∧Q (.str (Txt.mul z n)) H):=rfl
theorem rS(a:Addr)(lo hi:Option Int):ya K (.ref a) lo hi H Q=∃ xs,SqL K H a xs∧∀ p,H p=none→Q (.ref p) (upd H p (.lst (di xs lo hi))):=propext ⟨fun ⟨_,xs,e,q⟩=>by cases e; exact⟨xs,q⟩,fun ⟨xs,q⟩=>⟨a,xs,rfl,q⟩⟩
theorem Au(g:Int→V)(i:Int):rU g (.int i) H Q=Q (g i) H:=propext ⟨fun ⟨_,e,q⟩=>by cases e; exact q,fun q=>⟨i,rfl,q⟩⟩
end
theorem b9{n:Nat}(h:n≤1000000):n<sizeLine:=by
 have:sizeLine=16777216:=sizeLine_eq
 omega
theorem aR{n:Nat}(h:n≤1000000):n≤sizeLine:=Nat.le_of_lt (b9 h)
theorem jh{α : Type}{f:α→V}{xs:List α}{i:Int}{x:α}(h0:0≤i)(h:xs[i.toNat]? = some x):cC (xs.map f) i=some (f x):=by
 have q:(xs.map f)[i.toNat]? = some (f x):=by rw[List.getElem?_map,h]; rfl
 have q':=aq q
 rwa [show ((i.toNat:Nat):Int)=i by omega]at q'
theorem wA{α : Type}{xs:List α}{i:Int}(h0:0≤i)(h:i<xs.length):∃ x,xs[i.toNat]? = some x∧cC xs i=some x:=by
 have hk:i.toNat<xs.length:=by omega
 refine⟨xs[i.toNat],List.getElem?_eq_getElem hk,?_⟩
 have q:=aq (List.getElem?_eq_getElem hk)
 rwa [show ((i.toNat:Nat):Int)=i by omega]at q
theorem gb{H H':Hp}{p:Addr}{o:HO}(h:upd H p o=H')(hp:H p=none):Same H H':=h ▸ ah hp o
theorem jp{H H':Hp}{p:Addr}{o:HO}(h:upd H p o=H'):H' p=some o:=h ▸ af
theorem pc{α β : Type}{f:α→β}(xs:List α)(x:α):xs.map f++[f x]=(xs++[x]).map f:=by rw[List.map_append]; rfl
theorem ik{α : Type}{P:α→Prop}{xs:List α}{x:α}(h:∀ y∈xs,P y)(hx:P x):∀ y∈xs++[x],P y:=fun y hy=>(List.mem_append.mp hy).elim (h y) fun z=>by rw[List.mem_singleton.mp z]; exact hx
theorem iq{α : Type}{xs:List α}{x:α}{n:Nat}(h:xs.length=n):(xs++[x]).length=n+1:=by simp[h]
end L2
namespace L2
open PySem PySem.Spec PyProof.Rows
theorem Inv.turnedL{X:Cx}{pins:List (Addr × Obj)}{σ : St}{H:Hp}{s:Shared}{h':Heap}{t':Nat}{ch:List Addr}(I:Inv X pins σ H s)(k:∀ b o,b∉ch→s.heap.get? b=some o→h'.get? b=some o)
  (hf:∀ b∈ch,gD X pins H b):Inv X pins σ H { s with heap:=h',toks:=t' }:=by
 have nit:∀ b u,H b=some u→b∉ch:=fun b u e z=>by rw[(hf b z).1]at e; cases e
 refine I.step (g':=s.gens) (d':=s.drawn) (ch:=ch) (fun b hb=>?_) (fun b o _ _ hc e _=>k b o hc e) (fun b o _ _ hc e _=>⟨o.slots,k b o hc e⟩) (fun _ _ _ _ n=>n)
  (fun b o hc e=>⟨o,k b o hc e⟩) (fun _ _ e=>e) (fun _ _ _ e=>e) (fun b ps e=>⟨#[],by rw[e]; simp⟩) (fun m hm=>?_) (fun b u e=>?_) I.bare
 ·obtain⟨_,f1,_,f3,f4,f5⟩:=hf b hb
  exact⟨f3,f1,f4,f5⟩
 ·obtain⟨o,es,ep,ho,r⟩:=hm
  exact⟨o,es,ep,k _ o (fun z=>(hf _ z).2.1 rfl) ho,r⟩
 ·refine(I.hok b u e).stay (fun c v hc q=>k c v ?_ q) (fun _ q=>q) fun _ _ q=>q
  rcases hc with z | z
  ·rw[z]; exact nit b u e
  ·exact nit c _ z
theorem Inv.turnedLaid{X:Cx}{pins:List (Addr × Obj)}{σ : St}{H:Hp}{s:Shared}{h':Heap}{t':Nat}{ch:List Addr}{a:Addr}{o:HO}(I:Inv X pins σ H s)(k:∀ b o,b∉ch→s.heap.get? b=some o→h'.get? b=some o)
  (hf:∀ b∈ch,gD X pins H b) (hp:s.heap.objs.size≤a) (new:ObjOk X.prog X.w (upd H a o) h' a o):Inv X pins σ (upd H a o) { s with heap:=h',toks:=t' }:=by
 have hn:H a=none:=I.hok.fresh hp
 have nit:∀ b u,H b=some u→b∉ch:=fun b u e z=>by rw[(hf b z).1]at e; cases e
 refine I.step (g':=s.gens) (d':=s.drawn) (ch:=ch) (fun b hb=>?_) (fun b o _ _ hc e _=>k b o hc e) (fun b o _ _ hc e _=>⟨o.slots,k b o hc e⟩) (fun b u _ q n=>?_)
  (fun b o hc e=>⟨o,k b o hc e⟩) (fun b xs q=>?_) (fun b u xs q=>?_) (fun b ps q=>⟨#[],?_⟩) (fun m hm=>?_) (fun b u e=>?_) I.bare
 ·obtain⟨_,f1,_,f3,f4,f5⟩:=hf b hb
  exact⟨f3,f1,f4,f5⟩
 ·rw[ax (Nat.ne_of_lt (Nat.lt_of_lt_of_le (Heap.lt_size q) hp))]; exact n
 ·rw[ax (aF q hn)]; exact q
 ·rw[ax (aF q hn)]; exact q
 ·rw[ax (aF q hn),q]; simp
 ·obtain⟨o,es,ep,ho,r⟩:=hm
  exact⟨o,es,ep,k _ o (fun z=>(hf _ z).2.1 rfl) ho,r⟩
 ·by_cases hb:b=a
  ·subst hb; rw[af]at e; cases e; exact new
  ·rw[ax hb]at e
   refine(I.hok b u e).stay (fun c v hc q=>k c v ?_ q) (fun c q=>by rw[ax (aF q hn)]; exact q) fun c xs q=>by rw[ax (aF q hn)]; exact q
   rcases hc with z | z
   ·rw[z]; exact nit b u e
   ·exact nit c _ z
structure wf (z TI TO i1 i2:Addr):Prop where
 TIz:TI≠z
 TOz:TO≠z
 i1z:i1≠z
 i2z:i2≠z
 TITO:TI≠TO
 TIi1:TI≠i1
 TIi2:TI≠i2
 TOi1:TO≠i1
 TOi2:TO≠i2
 i12:i1≠i2
theorem JA(n:Nat):wf (n+4) (n+2) (n+3) n (n+1):=⟨(show (@Ne Nat (n+2) (n+4):Prop) by omega),(show (@Ne Nat (n+3) (n+4):Prop) by omega),(show (@Ne Nat (n) (n+4):Prop) by omega),(show (@Ne Nat (n+1) (n+4):Prop) by omega),(show (@Ne Nat (n+2) (n+3):Prop) by omega),(show (@Ne Nat (n+2) (n):Prop) by omega),(show (@Ne Nat (n+2) (n+1):Prop) by omega),(show (@Ne Nat (n+3) (n):Prop) by omega),(show (@Ne Nat (n+3) (n+1):Prop) by omega),(show (@Ne Nat (n) (n+1):Prop) by omega)⟩
theorem yW:bootBuiltins "zip" = some (.type "zip"):=by decide +kernel
theorem pR(n m:Addr)(P:Addr→Addr→Prop):(∃ i j,[V.ref n,V.ref m]=[V.ref i,V.ref j]∧P i j)=P n m:=propext ⟨fun ⟨_,_,e,h⟩=>by cases e; exact h,fun h=>⟨n,m,rfl,h⟩⟩
def uz(x:V)(H:Hp)(Q:VK):Prop:=match x with
 | .str y=>y.length≤sizeLine∧Q (.str y) H
 | .int i=>i.natAbs.log2<1920∧Q (.str (toString i)) H
 | _=>False
def Cv(te:TE):TE:=fun σ H Q=>te σ H fun x H1=>uz x H1 Q
abbrev TJ:=Str→St→Hp→VK→Prop
def Ar:TJ:=fun acc _ H Q=>acc.length≤sizeLine∧Q (.str acc) H
def xO(te:TE)(tj:TJ):TJ:=fun acc σ H Q=>te σ H fun x H1=>∃ y,x = .str y∧(acc++y).length≤sizeLine∧tj (acc++y) σ H1 Q
def PJ(X:Cx)(es:List Expr)(tj:TJ):Prop:=∀ (pins:List (Addr × Obj)) (s:Shared) (σ : St) (H:Hp) (acc:Str) (Q:VK),Inv X pins σ H s→tj acc σ H Q→wpAny (model X.prog X.w) X.A (joinParts acc (evalEach es X.env)) (EP X pins σ Q) X.xe s
def Aw(tj:TJ):TE:=fun σ H Q=>tj Str.empty σ H Q
section
variable{X:Cx}
theorem wY{e:Expr}{te:TE}{pos:Pos}(he:PE X e te):PE X (.FormattedValue e (-1) none pos) (Cv te):=by
 intro pins s σ H Q I h
 refine FormattedValue_plain (bx (he pins s σ H _ I h) fun v s1 ⟨x,H1,I1,r1,q1⟩=>?_)
 match x,r1,q1 with
 | .str y,r1,q1=>
  obtain⟨t,rfl⟩:=r1
  exact formatField_str (fun t' tk=>⟨.str y,H1,I1.tok tk,⟨t',rfl⟩,q1.2⟩) q1.1
 | .int i,r1,q1=>
  obtain⟨t,rfl⟩:=r1
  exact formatField_int_small q1.1 ⟨.str (toString i),H1,I1.tok _,⟨_,rfl⟩,q1.2⟩
theorem DT:PJ X [] Ar:=fun pins s σ H acc Q I h=>joinParts_nil ⟨.str acc,H,I.tok _,⟨_,rfl⟩,h.2⟩ h.1
theorem lv{e:Expr}{es:List Expr}{te:TE}{tj:TJ}(he:PE X e te)(hj:PJ X es tj):PJ X (e::es) (xO te tj):=by
 intro pins s σ H acc Q I h
 show wpAny _ _ (joinParts acc (eval e X.env::evalEach es X.env)) _ _ _
 refine joinParts_cons (bx (he pins s σ H _ I h) fun v s1 ⟨x,H1,I1,r1,y,e,hz,q⟩=>?_)
 subst e;obtain⟨t,rfl⟩:=r1
 exact⟨hz,hj pins s1 σ H1 (acc++y) Q I1 q⟩
theorem A5{e₁ e₂:Expr}{es:List Expr}{tj:TJ}{pos:Pos}(h:PJ X (e₁::e₂::es) tj):PE X (.JoinedStr (e₁::e₂::es) pos) (Aw tj):=fun pins s σ H Q I q=>JoinedStr_many (h pins s σ H Str.empty Q I q)
end
section
variable{σ : St}{H:Hp}{Q:VK}
theorem rf(te:TE):Cv te σ H Q=te σ H fun x H1=>uz x H1 Q:=rfl
theorem pZ(tj:TJ):Aw tj σ H Q=tj Str.empty σ H Q:=rfl
theorem qK(acc:Str):Ar acc σ H Q=(acc.length≤sizeLine∧Q (.str acc) H):=rfl
theorem nc(te:TE)(tj:TJ)(acc:Str):xO te tj acc σ H Q=te σ H fun x H1=>∃ y,x = .str y∧(acc++y).length≤sizeLine∧tj (acc++y) σ H1 Q:=rfl
theorem oZ(y:Str):uz (.str y) H Q=(y.length≤sizeLine∧Q (.str y) H):=rfl
theorem qD(i:Int):uz (.int i) H Q=(i.natAbs.log2<1920∧Q (.str (toString i)) H):=rfl
end
end L2
namespace L2
open PySem PySem.Spec PyProof.Rows
def vU(K:PySem.W.Frag)(a:Addr):It:=
  ⟨fun i H=>∃ xs x,SqL K H a xs∧xs[i]? = some x,
   fun i H v H'=>∃ t x,H t=none∧v = .ref t∧H'=upd H t (.tup [.int i,x])∧∀ xs,SqL K H a xs→xs[i]? = some x,
   fun i H=>∃ xs,SqL K H a xs∧xs.length≤i⟩
def J8(e it l:Addr)(i:Nat)(h:Heap):Prop:=(∃ old,IsEnum h e it i old)∧h.IsListIter it l i
theorem xv{P:Program}{w:World}{K:PySem.W.Frag}{elts:List Expr}{k:Nat}{pos:Pos}{e it l:Addr}(hei:e≠it):jZ P w K (.Tuple elts k pos) (vU K l) [e,it] e (J8 e it l) where
 mem:=by simp
 obj:=fun i h st b hb=>by
  obtain⟨⟨old,s1⟩,⟨o4,s4,c4,d4⟩⟩:=st
  simp only[List.mem_cons,List.mem_nil_iff,or_false]at hb
  rcases hb with rfl | rfl
  ·exact⟨_,s1,fun v e=>by cases e⟩
  ·exact⟨_,s4,fun v e=>by rw[d4]at e; cases e⟩
 keep:=fun i h h' st kk=>by
  obtain⟨⟨old,s1⟩,s4⟩:=st
  exact⟨⟨old,kk e (by simp) _ s1⟩,s4.at fun o z=>kk it (by simp) o z⟩
 item:=by
  intro X hP hw hK hc i pins s σ H E I hf st hg
  subst hP hw hK;obtain⟨xs,x,q1,hx⟩:=hg
  obtain⟨is1,rv1,p1,_⟩:=I.list q1
  obtain⟨u1,hu1,ru1⟩:=rv1.get hx
  obtain⟨⟨old,s1⟩,s4⟩:=st
  refine wpAny_pyNext_enum_item s1 s4 p1.isList (x:=u1) (by simpa using hu1) hei fun h' a1 a3 a5 a6 kk=>?_
  refine⟨_,rfl,wpAny_letOwnedTupleGo_enum a1 fun h'' hz' hs'=>?_⟩
  have lt:∀ {c o},s.heap.get? c=some o→s.heap.objs.size≠c:=fun z=>Nat.ne_of_gt (Heap.lt_size z)
  have zne:s.heap.objs.size≠e:=lt s1
  have keep2:∀ b o,b∉[e,it]→s.heap.get? b=some o→h''.get? b=some o:=fun b o hb z=>by
   simp only[List.mem_cons,List.mem_nil_iff,or_false,not_or]at hb
   exact hs'.extBut _ _ hb.1 (kk b o hb.1 hb.2 z)
  have hsz:H s.heap.objs.size=none:=I.hok.fresh (Nat.le_refl _)
  have tupN:=hs'.extBut _ _ zne a5
  have nlt:∀ c∈[e,it],c≠s.heap.objs.size:=fun c hc'=>by
   obtain⟨o4,e4,_⟩:=id s4
   simp only[List.mem_cons,List.mem_nil_iff,or_false]at hc'
   rcases hc' with rfl | rfl
   ·exact(lt s1).symm
   ·exact(lt e4).symm
  refine⟨.ref s.heap.objs.size,upd H s.heap.objs.size (.tup [.int i,x]),I.turnedLaid (t':=s.toks+1) keep2 hf (Nat.le_refl _) ⟨aR (by show 2≤1000000; decide),[.int i s.toks,u1],.cons ⟨_,rfl⟩ (.cons ru1 .nil),⟨_,tupN,rfl,rfl,0,rfl⟩⟩,rfl,⟨_,x,hsz,rfl,rfl,fun xs' q'=>?_⟩,
   ⟨⟨_,by simpa using hz'⟩,a3.extBut hs'.extBut hei.symm⟩,fun c hc'=>?_⟩
  ·rw[I.list_inj q' q1]; exact hx
  ·rw[ax (nlt c hc')]; exact(hf c hc').1
 done:=by
  intro X hP hw hK hc i pins s σ H E I hf st hg
  subst hP hw hK;obtain⟨xs,q1,hlen⟩:=hg
  obtain⟨is1,rv1,p1,_⟩:=I.list q1
  have l1:=rv1.length;obtain⟨⟨old,s1⟩,s4⟩:=st
  refine wpAny_pyNext_enum_end (I.ok.hd hc) s1 s4 p1.isList (by simp; omega) fun h' kk=>⟨rfl,I.turnedL (t':=s.toks) (fun b o hb z=>?_) hf⟩
  simp only[List.mem_cons,List.mem_nil_iff,or_false,not_or]at hb
  exact kk b o hb.2 z
 self:=fun A i s Q E st h=>by
  obtain⟨⟨old,s1⟩,_⟩:=st
  exact wpAny_pyIter_enum s1 h
theorem lj:bootBuiltins "enumerate" = some (.type "enumerate"):=by decide +kernel
def Aa(K:PySem.W.Frag)(ta:TA):TI:=fun σ H R=>ta σ H fun vs H1=>∃ a:Addr,vs=[.ref a]∧(∃ xs,H1 a=some (.lst xs))∧R (vU K a) H1
theorem oI(K:PySem.W.Frag)(ta:TA){σ : St}{H:Hp}{R:It→Hp→Prop}:Aa K ta σ H R=ta σ H fun vs H1=>∃ a:Addr,vs=[.ref a]∧(∃ xs,H1 a=some (.lst xs))∧R (vU K a) H1:=rfl
theorem sO(n:Addr)(P:Addr→Prop):(∃ i,[V.ref n]=[V.ref i]∧P i)=P n:=propext ⟨fun ⟨_,e,h⟩=>by cases e; exact h,fun h=>⟨n,rfl,h⟩⟩
theorem og(K:PySem.W.Frag){X:Cx}{elts:List Expr}{k:Nat}{tpos:Pos}{a:Expr}{ta:TA}{p pos:Pos}(hg:Gl X "enumerate") (hm:X.mg "enumerate" = none) (ha:PA X [a] ta) (hs:starEach [a] X.env=[(false,eval a X.env)]:=by rfl) (hK:X.K=K:=by rfl) :
  PI X (.Tuple elts k tpos) (.Call (.Name "enumerate" p) [a] [] pos) (Aa K ta):=by
 subst hK;intro pins s σ H R I h
 refine Call_ (hX I hg hm lj (PyProof.Rows.callWith_type1 (bx (ha pos pins s σ H _ I h) fun us s1 ⟨vs,H1,I1,r1,q1⟩=>?_) hs rfl))
 obtain⟨l,e,⟨xs,h1⟩,q⟩:=q1
 subst e;obtain⟨u1,rfl,r1'⟩:=dG r1
 obtain rfl:u1=Value.ref l:=r1'
 obtain⟨hz,its,n,rv,hl⟩ : xs.length≤sizeLine∧∃ (its:List Value) (n:Nat),Vals xs its∧s1.heap.get? l=some { cls:=.type "list", data:=.seq its.toArray n }:=I1.hok l _ h1
 refine call_enumerate_1 hl fun h' a1 a4 a6 kk=>?_
 refine wpAny_pyIter_enum a1 ⟨_,[s1.heap.objs.size+1,s1.heap.objs.size],_,_,H1,rfl,I1.kept (t':=s1.toks) kk,
  xv (e:=s1.heap.objs.size+1) (it:=s1.heap.objs.size) (Nat.ne_of_gt (Nat.lt_succ_self _)),⟨⟨_,a1⟩,a4⟩,fun b hb=>?_,q⟩
 have hb':s1.heap.objs.size≤b:=by
  simp only[List.mem_cons,List.mem_nil_iff,or_false]at hb
  rcases hb with rfl | rfl <;> first | exact Nat.le_refl _ | exact Nat.le_add_right _ _
 exact I1.fpOk hb' (I1.hok.fresh hb')
section
variable{K:PySem.W.Frag}{a b:Addr}{xs ys:List V}{g:TG}{te:TE}{nT:Nat}{σ : St}{D:Addr}{Q:VK}{H:Hp}
theorem xr{tb:TS}{D:dO}(Pv:Nat→St→Hp→Prop)(h0:Pv 0 σ H)(hl:∀ i σ H,i≤xs.length→Pv i σ H→SqL K H a xs)
  (hs:∀ i x t σ H,xs[i]? = some x→Pv i σ H→H t=none→g (.ref t) σ (upd H t (.tup [.int i,x])) fun σ2 H2=>tb { D with nx:=Pv (i+1),ct:=Pv (i+1),bk:=D.nx } σ2 H2) (hd:∀ σ H,Pv xs.length σ H→D.nx σ H):jT (vU K a) g tb D σ H:=by
 refine kZ xs.length Pv h0 (fun i σ H hi p=>⟨xs,xs[i],hl i σ H (Nat.le_of_lt hi) p,by simp[hi]⟩) (fun σ H p=>⟨xs,hl _ σ H (Nat.le_refl _) p,Nat.le_refl _⟩) (fun i σ H v H' hi p yl=>?_) hd
 obtain⟨t,x,ht,rfl,rfl,y1⟩:=yl
 exact hs i x t σ H (y1 xs (hl i σ H (Nat.le_of_lt hi) p)) p ht
def vC(n i:Nat)(Pv:Nat→List V→Hp→Prop)(ys:List V)(H:Hp):Prop:=∃ m',m'<n - i∧(m'=n - (i+1)∧i+1≤n∧Pv (i+1) ys H)
theorem uv{n i:Nat}{Pv:Nat→List V→Hp→Prop}{ys:List V}{H:Hp}(hi:i<n)(h:Pv (i+1) ys H):vC n i Pv ys H:=⟨n - (i+1),by omega,rfl,hi,h⟩
theorem qO{n i:Nat}{Pv:Nat→List V→Hp→Prop}{D:Addr}{ys:List V}{y:V}{H:Hp}(hi:i<n)(hlen:ys.length≤i)(hz:n≤sizeLine)(h1:H D=some (.lst ys))(h2:Pv (i+1) (ys++[y]) (upd H D (.lst (ys++[y])))):f_ n i Pv D ys y H:=
 ⟨h1,by omega,n - (i+1),by omega,rfl,hi,h2⟩
def nI(n i:Nat)(Pv:Nat→List V→Hp→Prop)(D:Addr)(ys:List V)(tc:TT)(te:TE)(σ : St)(H:Hp):Prop:=
 tc σ H fun b H4=>if b=true then te σ H4 (f_ n i Pv D ys) else vC n i Pv ys H4
theorem oj{n i:Nat}{Pv:Nat→List V→Hp→Prop}{D:Addr}{ys:List V}{tc:TT}{te:TE}{σ : St}{H:Hp}:nI n i Pv D ys tc te σ H=tc σ H fun b H4=>if b=true then te σ H4 (f_ n i Pv D ys) else vC n i Pv ys H4:=rfl
theorem o8{J:It}{tc:TT}(n:Nat)(Pv:Nat→List V→Hp→Prop)(h0:Pv 0 [] H)(hgo:∀ i ys H,i<n→Pv i ys H→J.go i H)(hst:∀ ys H,Pv n ys H→J.stop n H)
  (hs:∀ i ys H x H',i<n→Pv i ys H→J.yld i H x H'→g x (σ++List.replicate nT none) H' (nI n i Pv D ys tc te))
  (hd:∀ ys H,Pv n ys H→Q (.ref D) H):fw J g tc te nT σ D Q H:=by
 refine⟨fun i m ys H=>m=n - i∧i≤n∧Pv i ys H,⟨n,by simp,Nat.zero_le _,h0⟩,?_⟩
 rintro i m ys H ⟨rfl,hi,p⟩
 by_cases hlt:i<n
 ·exact .inr ⟨hgo i ys H hlt p,fun x H' y=>hs i ys H x H' hlt p y⟩
 ·have e:i=n:=by omega
  subst e;exact .inl ⟨hst ys H p,hd ys H p⟩
end
end L2
namespace L2
open PySem PySem.Spec PyProof.Rows
end L2
namespace L2
open PySem PySem.Spec PyProof.Rows
set_option genInjectivity false in
set_option genSizeOf false in
structure IK (prog:Program) (w:World) (κ : Type) [DecidableEq κ] where
 is:Heap→κ→Value→Prop
 hash:κ→Int
 draws:κ→Nat
 deep:Nat
 inj:∀ {h:Heap} {v:Value} {x y:κ},is h x v→is h y v→x=y
 keeps:∀ {h h':Heap} {k:κ} {v:Value} {d:Addr} {o:Obj} {es ep},is h k v→h.get? d=some o→o.data = .dict es ep→Heap.SameBut d h h'→is h' k v
 pyHash:∀ {A:Around} {E:Value→Shared→Prop} {s:Shared} {k:κ} {v:Value} {Q:Int→Shared→Prop},A.units+deep<cLine→is s.heap k v→Q (hash k) { s with toks:=s.toks+draws k }→
  wpAny (model prog w) A (PySem.pyHash v) Q E s
 eqBool:∀ {A:Around} {E:Value→Shared→Prop} {s:Shared} {x y:κ} {u v:Value} {Q:Bool→Shared→Prop},A.units+deep<cLine→is s.heap x u→is s.heap y v→Q (decide (x=y)) s→
  wpAny (model prog w) A (PySem.eqBool u v) Q E s
 quiet:∀ {A:Around} {E:Value→Shared→Prop} {s:Shared} {k:κ} {v:Value} {n:Nat} {Q:Bool→Shared→Prop},is s.heap k v→Q true s→wpAny (model prog w) A (eqIsQuiet (n+deep) v) Q E s
section
variable{prog:Program}{w:World}{κ : Type}[DecidableEq κ](K:IK prog w κ)
inductive IsItems (h:Heap):List κ→List Value→Prop
 | nil:IsItems h [] []
 | cons {k:κ} {v:Value} {ks:List κ} {vs:List Value}:K.is h k v→IsItems h ks vs→IsItems h (k::ks) (v::vs)
def IsTupK(h:Heap)(ks:List κ)(v:Value):Prop:=∃ a o items n,v = .ref a∧h.get? a=some o∧o.cls = .type "tuple" ∧ o.data = .seq items n∧IsItems K h ks items.toList
variable{K}
theorem IsItems.inj{h:Heap}:∀ {x y:List κ} {vs:List Value},IsItems K h x vs→IsItems K h y vs→x=y
 | _,_,_,.nil,.nil=>rfl
 | _,_,_,.cons a b,.cons c d=>by rw[K.inj a c,IsItems.inj b d]
theorem IsItems.keeps{h h':Heap}{d:Addr}{o:Obj}{es ep}(ho:h.get? d=some o)(hd:o.data = .dict es ep)(hs:Heap.SameBut d h h'):∀ {x:List κ} {vs:List Value},IsItems K h x vs→IsItems K h' x vs
 | _,_,.nil=>.nil
 | _,_,.cons a b=>.cons (K.keeps a ho hd hs) (b.keeps ho hd hs)
theorem IsItems.len{h:Heap}:∀ {x:List κ} {vs:List Value},IsItems K h x vs→x.length=vs.length
 | _,_,.nil=>rfl
 | _,_,.cons _ b=>by rw[List.length_cons,List.length_cons,b.len]
def gN(K:IK prog w κ)(ks:List κ):Nat:=(ks.map K.draws).sum
def pX(K:IK prog w κ)(ks:List κ):Int:=reduceHash (Builtin.Tuple.tupleHashOf (ks.map K.hash))
theorem jf{A:Around}{E:Value→Shared→Prop}{s:Shared}{ks:List κ}{v:Value}{Q:Int→Shared→Prop}(hu:A.units+(K.deep+1)<cLine)(hk:IsTupK K s.heap ks v)(h:Q (pX K ks) { s with toks:=s.toks+(gN K ks+1) }) :
  wpAny (model prog w) A (PySem.pyHash v) Q E s:=by
 obtain⟨a,o,items,n,rfl,ho,hc,hd,hi⟩:=hk
 have hT:s.TypeIs (.ref a) "tuple" := ⟨o,ho,hc⟩
 unfold PySem.pyHash
 first | unfold pyHashByItsType | skip
 first | refine wpAny_bind (wpAny_cRoomFor_or (.inr (by omega)) ?_) | skip
 refine wpAny_bind (wpAny_specialOf hT PySem.F.slot_tuple_hash.lookup ?_)
 rw[if_neg (by rw[beq_builtin_none]; exact Bool.false_ne_true)]
 refine wpAny_bind (wpAny_specialOf hT PySem.F.slot_tuple_hash.lookup ?_)
 show wpAny _ _ (callSpecialIfBoundUnlessNone? (.ref a) "__hash__" _ >>= _) Q E s
 refine wpAny_bind (wpAny_callSpecialIfBoundUnlessNone?_slot hT PySem.F.slot_tuple_hash (wpAny_call_entry PySem.F.slot_tuple_hash hT
  PySem.F.entry_tuple_hash ?_ (PySem.F.args_tuple_hash_1 _)))
 show wpAny _ _ (Builtin.Tuple.tupleItemsOf (.ref a) >>= _) _ _ s
 refine wpAny_bind (wpAny_tupleItemsOf ho hd (wpAny_bind ?_))
 rw[← Array.forIn_toList];refine wpAny_forIn_list _ (fun rest (b:Array Int) s'=>∃ done left,ks=done++left∧IsItems K s.heap left rest∧b.toList=done.map K.hash∧s'={ s with toks:=s.toks+gN K done }) _ ?_ ?_ _ _ ⟨[],ks,rfl,hi,rfl,rfl⟩
 ·rintro x rest b s' ⟨done,left,rfl,hl,hb,rfl⟩
  cases hl with
  | @cons k _ ks' _ h1 hl'=>
   have e:gN K (done++[k])=gN K done+K.draws k:=by simp[gN]
   refine wpAny_bind (K.pyHash (show A.in1.units+K.deep<cLine from by show A.units+1+K.deep<cLine; omega) h1 ?_)
   have fin:∃ done' left',done++k::ks'=done'++left'∧IsItems K s.heap left' rest∧(b.push (K.hash k)).toList=done'.map K.hash∧({ s with toks:=s.toks+gN K done+K.draws k }:Shared)={ s with toks:=s.toks+gN K done' }:=
    ⟨done++[k],ks',by simp,hl',by simp[hb],by rw[e,Nat.add_assoc]⟩
   first
    | exact wpAny_pure fin
    | exact wpAny_bind (wpAny_pure (wpAny_pure fin))
 ·rintro b s' ⟨done,left,rfl,hl,hb,rfl⟩
  cases hl;rw[List.append_nil]at h
  show wpAny _ _ (retInt (Builtin.Tuple.tupleHashOf b.toList)) _ _ _
  rw[hb];refine wpAny_ret_mkInt ?_
  unfold pX reduceHash at h;show wpAny _ _ (if (decide (-(2:Int) ^ 63≤Builtin.Tuple.tupleHashOf (done.map K.hash))&&decide (Builtin.Tuple.tupleHashOf (done.map K.hash)<2 ^ 63))=true then _ else _) Q E _
  by_cases hr:(decide (-(2:Int) ^ 63≤Builtin.Tuple.tupleHashOf (done.map K.hash))&&decide (Builtin.Tuple.tupleHashOf (done.map K.hash)<2 ^ 63))=true
  ·rw[if_pos hr]at h ⊢
   exact wpAny_pure (by simpa [Nat.add_assoc] using h)
  ·rw[if_neg hr]at h ⊢
   exact wpAny_bind (wpAny_rule (wpAny_pure (by simpa [Nat.add_assoc] using h)))
theorem uf{A:Around}{E:Value→Shared→Prop}{s:Shared}{x y:List κ}{a b:Addr}{P:Fin→Shared→Prop}(hu:A.units+K.deep<cLine)(hx:IsTupK K s.heap x (.ref a))(hy:IsTupK K s.heap y (.ref b))(h:P (.done (.ret (.bool (decide (x=y))))) s) :
  wpAny (model prog w) A (Builtin.«tuple.__eq__» ⟨[.ref a,.ref b],[]⟩) P E s:=by
 obtain⟨_,oa,xs,na,e1,hoa,ca,hda,hia⟩:=hx
 obtain⟨_,ob,ys,nb,e2,hob,cb,hdb,hib⟩:=hy
 cases e1
 cases e2;show wpAny _ _ (isInstance (.ref b) (.type "tuple") >>= _) _ _ s
 refine wpAny_bind (wpAny_isInstance ⟨ob,hob,cb⟩ isSubtype_tuple_tuple ?_)
 simp only[Bool.not_true,Bool.false_eq_true,if_false]
 refine wpAny_bind (wpAny_tupleItemsOf hoa hda (wpAny_bind (wpAny_tupleItemsOf hob hdb (wpAny_bind ?_))))
 refine wpAny_forIn_list _ (fun rest r s'=>r.1=none∧s'=s∧∃ x' y' xs' ys',rest=List.zip xs' ys'∧IsItems K s.heap x' xs'∧IsItems K s.heap y' ys'∧decide (x'=y')=decide (x=y)∧(xs'.length == ys'.length)=(xs.size == ys.size)) _ ?_ ?_ _ _
  ⟨rfl,rfl,x,y,xs.toList,ys.toList,rfl,hia,hib,rfl,by simp⟩
 ·rintro⟨u,v⟩ rest r s' ⟨hr,rfl,x',y',xs',ys',hz,hx',hy',hdec,hlen⟩
  cases hx' with
  | nil=>simp at hz
  | @cons k1 u' x'' xs'' h1 hx''=>
   cases hy' with
   | nil=>simp at hz
   | @cons k2 v' y'' ys'' h2 hy''=>
    simp only[List.zip_cons_cons,List.cons.injEq,Prod.mk.injEq]at hz
    obtain⟨⟨rfl,rfl⟩,rfl⟩:=hz
    refine wpAny_bind (K.eqBool (x:=k1) (y:=k2) hu h1 h2 ?_)
    by_cases hk:k1=k2
    ·subst hk
     rw[decide_eq_true rfl];simp only[Bool.not_true,Bool.false_eq_true,if_false]
     refine wpAny_pure ⟨rfl,rfl,x'',y'',xs'',ys'',rfl,hx'',hy'',?_,by simpa using hlen⟩
     rw[← hdec]
     by_cases hxy:x''=y'' <;> simp[hxy]
    ·rw[decide_eq_false hk]
     simp only[Bool.not_false,if_true]
     have hf:decide (x=y)=false:=by rw[← hdec]; simp[hk]
     rw[hf]at h
     exact wpAny_bind (wpAny_pure (wpAny_pure (wpAny_pure h)))
 ·rintro⟨r1,r2⟩ s' ⟨hr,rfl,x',y',xs',ys',hz,hx',hy',hdec,hlen⟩
  simp only at hr
  subst hr;refine wpAny_pure ?_
  have hfin:(xs.size == ys.size)=decide (x=y):=by
   rw[← hdec,← hlen]
   cases hx' with
   | nil=>cases hy' <;> simp
   | cons _ _=>
    cases hy' with
    | nil=>simp
    | cons _ _=>simp at hz
  show P (.done (.ret (.bool (xs.size == ys.size)))) s'
  rw[hfin]; exact h
theorem lZ{A:Around}{E:Value→Shared→Prop}{s:Shared}{x y:List κ}{u v:Value}{Q:Bool→Shared→Prop}(hu:A.units+(K.deep+1)<cLine)(hx:IsTupK K s.heap x u)(hy:IsTupK K s.heap y v)(h:Q (decide (x=y)) s) :
  wpAny (model prog w) A (PySem.eqBool u v) Q E s:=by
 have hx0:=hx;have hy0:=hy;obtain⟨a,oa,xs,na,rfl,hoa,ca,hda,hia⟩:=hx
 obtain⟨b,ob,ys,nb,rfl,hob,cb,hdb,hib⟩:=hy
 unfold PySem.eqBool
 try with_reducible refine wpAny_holding ?_
 show wpAny _ _ (if (Value.ref a == Value.ref b)=true then _ else _) Q E s
 by_cases hab:(Value.ref a == Value.ref b)=true
 ·rw[if_pos hab]
  have e:a=b:=by have:=eq_of_beq hab; injection this
  subst e;rw[hoa]at hob
  cases hob;rw[hda]at hdb
  injection hdb with e1 _
  subst e1;rw[decide_eq_true (hia.inj hib)]at h
  exact wpAny_bind (wpAny_rule (wpAny_pure h))
 ·rw[if_neg hab]
  have ta:s.TypeIs (.ref a) "tuple" := ⟨oa,hoa,ca⟩
  have tb:s.TypeIs (.ref b) "tuple" := ⟨ob,hob,cb⟩
  refine wpAny_bind (wpAny_richCompare_same_room (op:=.Eq) ta tb PySem.F.slot_tuple_eq (wpAny_call_entry PySem.F.slot_tuple_eq ta PySem.F.entry_tuple_eq ?_ (PySem.F.args_tuple_eq_2 _ _)) (by omega))
  refine uf (K:=K) ?_ hx0 hy0 ⟨_,rfl,(fun e=>nomatch e),wpAny_truthy_bool h⟩
  show A.units+1+K.deep<cLine
  omega
theorem iw{A:Around}{E:Value→Shared→Prop}{s:Shared}{ks:List κ}{v:Value}{n:Nat}{Q:Bool→Shared→Prop}(hk:IsTupK K s.heap ks v)(h:Q true s):wpAny (model prog w) A (eqIsQuiet (n+(K.deep+1)) v) Q E s:=by
 obtain⟨a,o,items,m,rfl,ho,hc,hd,hi⟩:=hk
 have hT:s.TypeIs (.ref a) "tuple" := ⟨o,ho,hc⟩
 rw[show n+(K.deep+1)=(n+K.deep)+1 from rfl];unfold eqIsQuiet;refine wpAny_bind (wpAny_specialOf hT PySem.F.slot_tuple_eq.lookup ?_)
 show wpAny _ _ (isInstance (.ref a) (.type "tuple") >>= _) _ _ s
 refine wpAny_bind (wpAny_isInstance hT isSubtype_tuple_tuple ?_)
 simp only[Bool.not_true,Bool.false_eq_true,if_false]
 refine wpAny_bind (wpAny_seqItems ho hd (wpAny_bind ?_))
 show wpAny _ _ (forIn items _ _) _ _ s
 rw[← Array.forIn_toList];refine wpAny_forIn_list _ (fun rest r s'=>r.1=none∧s'=s∧∃ ks',IsItems K s.heap ks' rest) _ ?_ ?_ _ _ ⟨rfl,rfl,ks,hi⟩
 ·rintro v rest r s' ⟨hr,rfl,ks',hall⟩
  cases hall with
  | cons h1 h2=>
   refine wpAny_bind (K.quiet h1 ?_)
   simp only[Bool.not_true,Bool.false_eq_true,if_false]
   exact wpAny_pure ⟨rfl,rfl,_,h2⟩
 ·rintro⟨r1,r2⟩ s' ⟨hr,rfl,_⟩
  simp only at hr
  subst hr;exact wpAny_pure h
def vg(K:IK prog w κ):IK prog w (List κ) where
 is:=IsTupK K
 hash:=pX K
 draws:=fun ks=>gN K ks+1
 deep:=K.deep+1
 inj:=by
  rintro h v x y ⟨a,oa,xs,na,rfl,hoa,ca,hda,hia⟩ ⟨b,ob,ys,nb,e,hob,cb,hdb,hib⟩
  cases e;rw[hoa]at hob
  cases hob;rw[hda]at hdb
  injection hdb with e1 _
  subst e1;exact hia.inj hib
 keeps:=by
  rintro h h' k v d o es ep ⟨a,oa,xs,na,rfl,hoa,ca,hda,hia⟩ ho hd hs
  have hne:a≠d:=by
   rintro rfl
   rw[hoa]at ho
   cases ho;rw[hd]at hda; cases hda
  exact⟨a,oa,xs,na,rfl,(hs.2 a hne).trans hoa,ca,hda,hia.keeps ho hd hs⟩
 pyHash:=fun hu hk h=>jf hu hk h
 eqBool:=fun hu hx hy h=>lZ hu hx hy h
 quiet:=fun hk h=>iw hk h
def Ah(K:IK prog w κ)(hd:K.deep≤7):HeapKind prog w (List κ) where
 is:=fun h k a=>IsTupK K h k (.ref a)
 hash:=pX K
 draws:=fun ks=>gN K ks+1
 room:=fun A=>A.units+(K.deep+1)<cLine
 inj:=(vg K).inj
 keeps:=(vg K).keeps
 pyHash:=fun hu hk h=>jf hu hk h
 eqBool:=fun hu hx hy h=>lZ hu hx hy h
 quiet:=fun {A E s k a Q} hk h=>by
  have q:=iw (n:=7 - K.deep) (A:=A) (E:=E) hk h
  rwa [show 7 - K.deep+(K.deep+1)=8 by omega]at q
end
end L2
namespace L2
open PySem PySem.Spec PyProof.Rows
def ir:Option Int→V
 | none=>.non
 | some i=>.int i
theorem zw{x y:Option Int}{v:Value}(a:RelV (ir x) v)(b:RelV (ir y) v):x=y:=by
 have e:=a.inj b
 cases x <;> cases y <;> simp_all [ir]
theorem mB(x:Option Int):bQ (ir x)=true:=by cases x <;> rfl
theorem A7(x y:Option Int):fD (ir x) (ir y)=decide (x=y):=by
 cases x with
 | none=>cases y <;> rfl
 | some i=>
  cases y with
  | none=>rfl
  | some j=>
   show (i == j)=_
   by_cases h:i=j <;> simp[h]
theorem w_{prog:Program}{w:World}{A:Around}{E:Value→Shared→Prop}{s:Shared}{Q:Int→Shared→Prop}(h:Q 0xFCA86420 { s with toks:=s.toks+1 }):wpAny (model prog w) A (PySem.pyHash .none) Q E s:=by
 have hT:s.TypeIs .none "NoneType" := rfl
 unfold PySem.pyHash
 first | unfold pyHashByItsType | skip
 refine wpAny_bind ?_
 rw[cRoomFor,if_neg (by decide)]
 refine wpAny_pure (wpAny_bind (wpAny_specialOf hT PySem.F.slot_NoneType_hash.lookup ?_))
 rw[if_neg (by rw[beq_builtin_none]; exact Bool.false_ne_true)]
 refine wpAny_bind (wpAny_specialOf hT PySem.F.slot_NoneType_hash.lookup ?_)
 show wpAny _ _ (callSpecialIfBoundUnlessNone? .none "__hash__" _ >>= _) Q E s
 refine wpAny_bind (wpAny_callSpecialIfBoundUnlessNone?_slot hT PySem.F.slot_NoneType_hash (wpAny_call_entry PySem.F.slot_NoneType_hash hT
  PySem.F.entry_NoneType_hash ?_ (PySem.F.args_NoneType_hash_1 _)))
 show wpAny _ _ (retInt 0xFCA86420) _ _ s
 refine wpAny_ret_mkInt ?_
 exact wpAny_pure h
def eh(prog:Program)(w:World):IK prog w (Option Int) where
 is:=fun _ k v=>RelV (ir k) v
 hash:=fun k=>match k with
  | none=>0xFCA86420
  | some i=>hashInt i
 draws:=fun _=>1
 deep:=0
 inj:=fun a b=>zw a b
 keeps:=fun a _ _ _=>a
 pyHash:=fun {A E s k v Q} _ hk h=>by
  cases k with
  | none=>
   obtain rfl:v=Value.none:=hk
   exact w_ h
  | some i=>
   obtain⟨t,rfl⟩:=(show ∃ t,v=Value.int i t from hk)
   exact wpAny_pyHash_int h
 eqBool:=fun {A E s x y u v Q} _ hx hy h=>by
  have q:=iU (A:=A) (s:=s) hx hy (mB x) (mB y);rw[A7]at q
  exact q prog w E Q h
 quiet:=fun {A E s k v n Q} hk h=>by
  have e:carriedByValue v=true:=by
   cases k with
   | none=>obtain rfl:v=Value.none:=hk; rfl
   | some i=>obtain⟨t,rfl⟩:=(show ∃ t,v=Value.int i t from hk); rfl
  rw[eqIsQuiet_byValue _ e];exact wpAny_pure h
abbrev NI:=Sum Int (List (Option Int))
theorem IsTupK.tup{prog:Program}{w:World}{κ : Type}[DecidableEq κ]{K:IK prog w κ}{h:Heap}{l:List κ}{v:Value}(x:IsTupK K h l v):∃ a its,v = .ref a∧h.IsTuple a its:=by
 obtain⟨a,o,items,n,rfl,ho,hc,hd,hi⟩:=x
 exact⟨a,items,rfl,o,ho,hc,n,hd⟩
theorem tI{A:Around}{prog:Program}{w:World}(hu:A.units+1<cLine):A.units+((eh prog w).deep+1)<cLine:=hu
end L2
namespace L2
open PySem PySem.Spec PyProof.Rows
abbrev xY:=Int × List (Option Int)
def nk(k:xY):List NI:=[.inl k.1,.inr k.2]
section
variable{P:Program}{w:World}{H:Hp}
end
section
variable{X:Cx}{pins:List (Addr × Obj)}{σ : St}{H:Hp}{s:Shared}{a b:Addr}{k:xY}{kvs:List (xY × V)}
theorem Paired.snoc{α β : Type}{F:α→β→Prop}{x:α}{y:β}(h:F x y):∀ {l:List α} {m:List β},Paired F l m→Paired F (l++[x]) (m++[y])
 | _,_,.nil=>.cons h .nil
 | _,_,.cons r t=>.cons r (Paired.snoc h t)
end
end L2
namespace L2
open PySem PySem.Spec PyProof.Rows PySem.SeqAt
section
variable{X:Cx}
def Gf(K:PySem.W.Frag):R2:=fun x y H Q=>lY K x y H Q∨∃ a kvs k v,x = .ref a∧y=kV k∧H a=some (.dK kvs)∧cr kvs k=some v∧Q v H
theorem qE(K:PySem.W.Frag)(hK:X.K=K:=by rfl):IxR X (Gf K):=by
 intro value slice pins s σ H x y v u Q I rx ry h hs
 rcases h with h | ⟨a,kvs,k,z,rfl,rfl,e,l,q⟩
 ·exact aw K hK value slice pins s σ H x y v u Q I rx ry h hs
 ·cases rx
  obtain⟨_,hd,vs,rel,dd⟩:=u5 I.hok (.inl e)
  obtain⟨w',hw,rw'⟩:=RelO.some_of (v:=z) (o:=valueAt vs k) (by rw[← l]; exact rel.val k)
  have hl:typeLookup (.type "dict") "__getitem__" = pure (some (.builtin "dict.__getitem__")):=PySem.F.slot_dict_getitem.lookup
  exact subscriptTail_builtinR (x:=w') dd.typeIs hl (wpAny_getItem_of (uR ry) dd.mapOf hw ⟨rfl,z,H,I.tok _,rw',q⟩) hs
def EM:lM:=fun o i v H Q=>∃ a kvs k,o = .ref a∧i=kV k∧H a=some (.dK kvs)∧kvs.length<sizeLine∧Q (upd H a (.dK (cK kvs k v)))
theorem Ad{n:Nat}(hr:Room n X.A):PSet X EM:=by
 intro pins s σ H o i v ov iv u Q I ro ri rv h
 obtain⟨a,kvs,k,rfl,rfl,e,hl,q⟩:=h
 cases ro;exact mL (by have:=hr.un; omega) I (DPut.k e hl) ri rv fun s' I'=>⟨_,I',q⟩
end
section
variable{K:PySem.W.Frag}{H:Hp}{Q:VK}
theorem EqN.ints{n:Nat}{a c:Addr}{ss ts:List Int}(h1:SqL K H a (ss.map V.int))(h2:SqL K H c (ts.map V.int)):EqN K H (n+1) (.ref a) (.ref c) (decide (ss=ts)):=by
 refine .inr ⟨a,c,_,_,rfl,rfl,.inl ⟨h1,h2⟩,?_⟩
 by_cases hl:ss.length=ts.length
 ·refine .inl ⟨fun i=>ss.getD i 0 == ts.getD i 0,by simp[hl],fun i x y e1 e2=>?_,?_⟩
  ·rw[List.getElem?_map]at e1 e2
   cases q1:ss[i]? with
   | none=>rw[q1]at e1; cases e1
   | some u=>
    cases q2:ts[i]? with
    | none=>rw[q2]at e2; cases e2
    | some v=>
     rw[q1]at e1; rw[q2]at e2
     cases e1; cases e2
     dsimp only
     rw[List.getD_eq_getElem?_getD,List.getD_eq_getElem?_getD,q1,q2];exact EqN.flat rfl rfl
  ·rw[List.length_map]
   by_cases e:ss=ts
   ·subst e
    rw[decide_eq_true rfl]
    symm
    rw[List.all_eq_true];intro i _
    simp
   ·rw[decide_eq_false e]
    symm
    rw[List.all_eq_false]
    have:∃ i:Nat,ss[i]? ≠ ts[i]?:=by
     refine Classical.byContradiction fun hn=>e (List.ext_getElem? fun i=>?_)
     exact Classical.byContradiction fun h=>hn ⟨i,h⟩
    obtain⟨i,hi⟩:=this
    have hlt:i<ss.length:=by
     refine Classical.byContradiction fun hn=>hi ?_
     rw[List.getElem?_eq_none (by omega),List.getElem?_eq_none (by omega)]
    refine⟨i,List.mem_range.mpr hlt,?_⟩
    rw[List.getD_eq_getElem?_getD,List.getD_eq_getElem?_getD,List.getElem?_eq_getElem hlt,List.getElem?_eq_getElem (by omega)]
    rw[List.getElem?_eq_getElem hlt,List.getElem?_eq_getElem (by omega)]at hi
    simpa using hi
 ·have e:ss≠ts:=fun e=>hl (by rw[e])
  rw[decide_eq_false e];exact .inr ⟨h1,h2,by simpa using hl,rfl⟩
end
section
variable{X:Cx}
end
end L2
namespace L2
open PySem PySem.Spec PyProof.Rows PySem.SeqAt
theorem AG{X:Cx}:MtR X "list.pop" za:=D8
section
variable{K:PySem.W.Frag}{H:Hp}{Q:VK}
theorem s_(p:Addr):za (.ref p) [] H Q=∃ xs y,H p=some (.lst xs)∧xs[xs.length - 1]? = some y∧Q y (upd H p (.lst xs.dropLast)):=
 propext ⟨fun ⟨_,xs,y,e1,_,q⟩=>by cases e1; exact⟨xs,y,q⟩,fun ⟨xs,y,q⟩=>⟨p,xs,y,rfl,rfl,q⟩⟩
theorem sS(i j:Bool):zh (.bl i) (.bl j) H Q=Q (.bl (!(i == j))) H:=by
 show (j7 (.bl i) (.bl j)=true∧Q (.bl (!decide (V.bl i=V.bl j))) H)=_
 rw[kG]; exact propext ⟨fun h=>h.2,fun h=>⟨rfl,h⟩⟩
end
theorem Bv{X:Cx}(K:PySem.W.Frag){o:Expr}{to:TE}{name:Str}{apos cpos:Pos}{T id:String}{r:V→List V→Hp→VK→Prop}(pa:PlainAttrs T)(slot:Slot T name id)(hty:typeOf (.builtin id)=pure (.type "method_descriptor")) (hm:MtR X id r) (ho:PE X o to)
  (hbase:attributeBase o name X.env (eval o X.env)=eval o X.env:=by rfl) (hline:(apos.endLine == cpos.line)=true:=by rfl) (hK:X.K=K:=by rfl):PE X (.Call (.Attribute o name apos) [] [] cpos) (yQ K T r to):=hK ▸ Cg pa slot hty hm ho hbase hline
end L2
namespace L2
open PySem PySem.Spec PyProof.Rows PySem.SeqAt
theorem kT:∀ (xs:List V) (us:List Value),xs.length=us.length→(∀ (j:Nat) x u,xs[j]? = some x→us[j]? = some u→RelV x u)→Vals xs us
 | [],[],_,_=>.nil
 | [],u::us,hl,_=>by simp at hl
 | x::xs,[],hl,_=>by simp at hl
 | x::xs,u::us,hl,h=>.cons (h 0 x u rfl rfl) (kT xs us (by simpa using hl) fun j a b e1 e2=>h (j+1) a b e1 e2)
section
variable{X:Cx}
end
section
variable{X:Cx}
end
section
variable{prog:Program}{w:World}{K:Type}[DecidableEq K]{knd:KeyKind prog w K}{A:Around}{E:Value→Shared→Prop}{s:Shared}
end
section
variable{X:Cx}
theorem ip{α β : Type}{F:α→β→Prop}:∀ {l:List α} {m:List β} {j:Nat} {a:α} {b:β},Paired F l m→l[j]? = some a→m[j]? = some b→F a b
 | _,_,0,_,_,.cons h _,e1,e2=>by
  cases e1; cases e2; exact h
 | _,_,j+1,_,_,.cons _ t,e1,e2=>ip (j:=j) t e1 e2
 | _,_,0,_,_,.nil,e1,_=>by cases e1
 | _,_,_+1,_,_,.nil,e1,_=>by cases e1
theorem De:bootBuiltins "set" = some (.type "set"):=by decide +kernel
end
end L2
namespace L2
open PySem PySem.Spec PyProof.Rows PySem.SeqAt
def fJ(xs:Array Nat):Prop:=∀ (a b:Nat) (ha:a<xs.size) (hb:b<xs.size),a<b→xs[a]<xs[b]
theorem jV{xs:Array Nat}(h:fJ xs)(j:Nat):∀ (fuel lo hi:Nat),lo≤hi→hi≤xs.size→hi - lo≤fuel→(∀ k (hk:k<xs.size),k<lo→xs[k]<j)→(∀ k (hk:k<xs.size),hi≤k→j≤xs[k])→
  SetTable.below.go xs j fuel lo hi≤xs.size∧(∀ k (hk:k<xs.size),k<SetTable.below.go xs j fuel lo hi→xs[k]<j)∧(∀ k (hk:k<xs.size),SetTable.below.go xs j fuel lo hi≤k→j≤xs[k])
 | 0,lo,hi,h1,h2,h3,h4,h5=>by
  have e:lo=hi:=by omega
  subst e;exact⟨h2,h4,h5⟩
 | fuel+1,lo,hi,h1,h2,h3,h4,h5=>by
  unfold SetTable.below.go;split
  ·rename_i hlt
   have hm:(lo+hi) / 2<xs.size:=by omega
   have eg:xs.getD ((lo+hi) / 2) j=xs[(lo+hi) / 2]:=by simp[Array.getD,hm]
   dsimp only
   rw[eg];split
   ·rename_i hj
    refine jV h j fuel _ hi (by omega) h2 (by omega) (fun k hk hkm=>?_) h5
    rcases Nat.lt_or_ge k ((lo+hi) / 2) with z | z
    ·exact Nat.lt_trans (h k _ hk hm z) hj
    ·have:k=(lo+hi) / 2:=by omega
     subst this; exact hj
   ·rename_i hj
    refine jV h j fuel lo _ (by omega) (by omega) (by omega) h4 (fun k hk hkm=>?_)
    rcases Nat.lt_or_ge ((lo+hi) / 2) k with z | z
    ·exact Nat.le_trans (Nat.le_of_not_lt hj) (Nat.le_of_lt (h _ k hm hk z))
    ·have:k=(lo+hi) / 2:=by omega
     subst this; exact Nat.le_of_not_lt hj
  ·have e:lo=hi:=by omega
   subst e;exact⟨h2,h4,h5⟩
theorem ga{xs:Array Nat}(h:fJ xs)(j:Nat):SetTable.below xs j≤xs.size∧(∀ k (hk:k<xs.size),k<SetTable.below xs j→xs[k]<j)∧(∀ k (hk:k<xs.size),SetTable.below xs j≤k→j≤xs[k]):=
 jV h j xs.size 0 xs.size (Nat.zero_le _) (Nat.le_refl _) (by omega) (fun k _ z=>absurd z (Nat.not_lt_zero _)) (fun k hk z=>absurd hk (by omega))
theorem tQ{xs:Array Nat}(h:fJ xs):SetTable.below xs 0=0:=by
 obtain⟨h1,h2,h3⟩:=ga h 0
 refine Classical.byContradiction fun hn=>?_
 exact absurd (h2 0 (by omega) (by omega)) (Nat.not_lt_zero _)
theorem uu{xs:Array Nat}(h:fJ xs){i:Nat}(hi:i<xs.size):SetTable.below xs (xs[i]+1)=i+1:=by
 obtain⟨h1,h2,h3⟩:=ga h (xs[i]+1)
 rcases Nat.lt_trichotomy (SetTable.below xs (xs[i]+1)) (i+1) with z | z | z
 ·have:=h3 i hi (by omega); omega
 ·exact z
 ·have h4:=h2 (i+1) (by omega) z
  have h5:=h i (i+1) hi (by omega) (by omega)
  omega
theorem mC{xs:Array Nat}{p x k:Nat}(hp:p≤xs.size)(hk:k<(SetTable.insertAt xs p x).size):(SetTable.insertAt xs p x)[k]=if h:k<p then xs[k]'(by omega) else if k=p then x else xs.getD (k - 1) 0:=by
 have hs:(SetTable.insertAt xs p x).size=xs.size+1:=by
  unfold SetTable.insertAt; simp; omega
 have e:(SetTable.insertAt xs p x)[k]? = some (if h:k<p then xs[k]'(by omega) else if k=p then x else xs.getD (k - 1) 0):=by
  unfold SetTable.insertAt;rw[Array.getElem?_append];simp only[Array.size_push,Array.size_extract]
  split
  ·rename_i h
   rw[Array.getElem?_push];simp only[Array.size_extract]
   by_cases hkp:k<p
   ·rw[if_neg (by omega),dif_pos hkp,Array.getElem?_extract]
    simp; omega
   ·have:k=p:=by omega
    subst this;rw[if_pos (by omega),dif_neg hkp,if_pos rfl]
  ·rename_i h
   rw[dif_neg (by omega),if_neg (by omega),Array.getElem?_extract]
   have hk':k - 1<xs.size:=by omega
   rw[if_pos (by omega),show p+(k - (min p xs.size - 0+1))=k - 1 by omega]
   simp[Array.getD,hk']
 rw[Array.getElem?_eq_getElem hk]at e
 exact Option.some.inj e
theorem qd{xs:Array Nat}(h:fJ xs){j:Nat}(hj:∀ k (hk:k<xs.size),xs[k]≠j):fJ (SetTable.insertAt xs (SetTable.below xs j) j):=by
 obtain⟨h1,h2,h3⟩:=ga h j
 have hs:(SetTable.insertAt xs (SetTable.below xs j) j).size=xs.size+1:=by
  unfold SetTable.insertAt; simp; omega
 generalize SetTable.below xs j=p at h1 h2 h3 hs;intro a b ha hb hab
 rw[mC h1 ha,mC h1 hb];have gd:∀ k,k<xs.size→∃ hk:k<xs.size,xs.getD k 0=xs[k]:=fun k hk=>⟨hk,by simp[Array.getD,hk]⟩
 by_cases a1:a<p
 ·rw[dif_pos a1]
  by_cases b1:b<p
  ·rw[dif_pos b1]; exact h a b _ _ hab
  ·rw[dif_neg b1]
   by_cases b2:b=p
   ·rw[if_pos b2]; exact h2 a (by omega) a1
   ·rw[if_neg b2]
    obtain⟨hk,e⟩:=gd (b - 1) (by omega)
    rw[e]; exact h a (b - 1) _ _ (by omega)
 ·rw[dif_neg a1,dif_neg (by omega)]
  by_cases a2:a=p
  ·rw[if_pos a2,if_neg (by omega)]
   obtain⟨hk,e⟩:=gd (b - 1) (by omega)
   rw[e];have:=h3 (b - 1) hk (by omega)
   have:=hj (b - 1) hk
   omega
  ·rw[if_neg a2,if_neg (by omega)]
   obtain⟨hk,e⟩:=gd (b - 1) (by omega)
   obtain⟨hk2,e2⟩:=gd (a - 1) (by omega)
   rw[e,e2]; exact h _ _ _ _ (by omega)
theorem we{t:SetTable}{j:Nat}(h:fJ t.place)(e:∀ i,t.slot j ≠ .live i):∀ k (hk:k<t.place.size),t.place[k]≠j:=fun k hk ek=>by
 obtain⟨h1,h2,h3⟩:=ga h j
 have hb:SetTable.below t.place j=k:=by
  rcases Nat.lt_trichotomy (SetTable.below t.place j) k with z | z | z
  ·have:=h3 (SetTable.below t.place j) (by omega) (Nat.le_refl _)
   have:=h (SetTable.below t.place j) k (by omega) hk z
   omega
  ·exact z
  ·have:=h2 k hk z; omega
 refine e k ?_
 unfold SetTable.slot;rw[hb]
 dsimp only
 rw[Array.getElem?_eq_getElem hk,ek];simp
theorem jX{t:SetTable}{hashAt:Nat→Int}{h:Int}:∀ (fuel:Nat) (p:SetTable.Probe),(∀ d,p.dummy=some d→t.slot d = .dummy)→∀ j dm,SetTable.probe.go t hashAt h fuel p=some (.empty j dm)→t.slot j = .empty∧∀ d,dm=some d→t.slot d = .dummy
 | 0,p,_,j,dm,e=>by unfold SetTable.probe.go at e; cases e
 | fuel+1,p,hp,j,dm,e=>by
  unfold SetTable.probe.go at e;have adv:∀ q:SetTable.Probe,(t.advance q).dummy=q.dummy:=fun q=>by unfold SetTable.advance; split <;> rfl
  cases hs:t.slot p.j with
  | empty=>
   rw[hs]at e
   cases e;exact⟨hs,hp⟩
  | dummy=>
   rw[hs]at e
   refine jX fuel _ (fun d hd=>?_) j dm e
   rw[adv]at hd
   cases hd;exact hs
  | live i=>
   rw[hs]at e
   dsimp only at e
   split at e
   ·cases e
   ·exact jX fuel _ (fun d hd=>by rw[adv]at hd; exact hp d hd) j dm e
structure cV (L:Bool) (t:SetTable):Prop where
 led:t.led=L
 rise:fJ t.place
theorem q_(n:Nat):fJ (Array.range n):=fun a b ha hb hab=>by simpa using hab
theorem ft{L:Bool}{t:SetTable}(h:cV L t)(n:Nat):cV L (t.standIn n):=⟨h.led,q_ n⟩
theorem xN{L:Bool}{t:SetTable}(h:cV L t){hh:Int}{j:Nat}{b:Bool}(e:t.freeSlot hh=some (j,b)):cV L (t.put j).1:=by
 refine⟨h.led,qd h.rise (we h.rise ?_)⟩
 unfold SetTable.freeSlot at e;split at e
 ·rename_i j' dm hpr
  have:=jX (t:=t) _ (t.probeStart hh) (fun d hd=>by cases hd) j' dm hpr
  cases dm with
  | none=>
   cases e;exact fun i z=>by have:=this.1; rw[show (none:Option Nat).getD j'=j' from rfl,this]at z; cases z
  | some d=>
   cases e;exact fun i z=>by have:=this.2 d rfl; rw[show (some d:Option Nat).getD j'=d from rfl,this]at z; cases z
 ·cases e
theorem qU{L:Bool}{t:SetTable}(h:cV L t)(es:Array (Int × Value))(hh:Int)(x:Value):cV L (layNew t es hh x).2.1:=by
 unfold layNew
 cases e:t.freeSlot hh with
 | none=>exact ft h _
 | some q=>
  obtain⟨j,b⟩:=q
  have hg:=xN h e;show cV L ((t.put j).1.orStandIn _)
  unfold SetTable.orStandIn;split
  ·exact hg
  ·exact ft hg _
theorem ju{l:List Nat}(h:l.Pairwise (· < ·)):fJ l.toArray:=fun a b ha hb hab=>by
 have:=(List.pairwise_iff_getElem.mp h) a b (by simpa using ha) (by simpa using hb) hab
 simpa using this
theorem uM{L:Bool}{t:SetTable}(h:cV L t)(es:Array (Int × Value))(n:Nat):cV L (relayAll t es n).2.1:=by
 unfold relayAll;split
 ·rename_i t' order e
  dsimp only
  split
  ·unfold SetTable.relaid SetTable.laid at e
   cases ho:SetTable.layClean (SetTable.sizeAbove n - 1) (es.map (·.1)) with
   | none=>rw[ho]at e; cases e
   | some owner=>
    rw[ho]at e
    cases e;refine⟨h.led,ju ?_⟩
    refine List.pairwise_map.mpr ?_
    refine List.Pairwise.filterMap _ ?_ List.pairwise_lt_range
    intro a b hab x hx y hy
    obtain⟨k,_,rfl⟩:=Option.map_eq_some_iff.mp hx
    obtain⟨k',_,rfl⟩:=Option.map_eq_some_iff.mp hy
    exact hab
  ·exact ft h _
 ·exact ft h _
end L2
namespace L2
open PySem PySem.Spec PyProof.Rows PySem.SeqAt
section
variable{prog:Program}{w:World}{K:Type}[DecidableEq K]{knd:KeyKind prog w K}{A:Around}{E:Value→Shared→Prop}{s:Shared}{G:SetTable→Prop}
def Apart(knd:KeyKind prog w K)(l:List (Int × Value)):Prop:=l.Pairwise fun e e'=>∀ k,knd.is k e.2=true→knd.is k e'.2=false
theorem Apart.perm{l l':List (Int × Value)}(h:Apart knd l)(p:l'.Perm l):Apart knd l':=
 (p.pairwise_iff fun {x y} hxy k hk=>by
  cases e:knd.is k x.2 with
  | false=>rfl
  | true=>rw[hxy k e]at hk; cases hk).mpr h
theorem Apart.push{l:List (Int × Value)}{k:K}{x:Value}{hh:Int}(h:Apart knd l)(hn:∀ e∈l,knd.is k e.2=false)(hk:knd.is k x=true):Apart knd (l++[(hh,x)]):=by
 refine List.pairwise_append.mpr ⟨h,List.pairwise_singleton _ _,fun e he b hb k' hk'=>?_⟩
 rw[List.mem_singleton.mp hb];show knd.is k' x=false
 rw[KeyKind.is_eq_decide hk k'];refine decide_eq_false fun e'=>?_
 subst e';rw[hn e he]at hk'; cases hk'
structure pF (knd:KeyKind prog w K) (G:SetTable→Prop) (o:Obj) (es:Array (Int × Value)) (ep:Nat) (t:SetTable) (S:K→Bool) (n:Nat):Prop where
 ex:o.ExactSet
 dat:o.data = .set es ep t
 el:ElemsOf knd es.toList
 mem:∀ k,S k=true ↔ ∃ e∈es.toList,knd.is k e.2=true
 few:es.size<scanBound
 fit:t.fits es.size=true
 num:es.size=n
 good:G t
 apart:Apart knd es.toList
def SetG(knd:KeyKind prog w K)(G:SetTable→Prop)(h:Heap)(a:Addr)(S:K→Bool)(n:Nat):Prop:=∃ o es ep t,h.get? a=some o∧pF knd G o es ep t S n
theorem stored{h:Heap}{a:Addr}{o:Obj}{es:Array (Int × Value)}{ep:Nat}{t:SetTable}{S:K→Bool}{n:Nat}{es':Array (Int × Value)}{t':SetTable}{S':K→Bool}{n':Nat}(ho:h.get? a=some o)(T:pF knd G o es ep t S n)
  (T':∀ o',o'.ExactSet→o'.data = .set es' (ep+1) t'→pF knd G o' es' (ep+1) t' S' n'):∃ o',(h.update a (Obj.putSet es' t')).get? a=some o'∧pF knd G o' es' (ep+1) t' S' n':=by
 have hp:=putSet_of es' t' T.dat;have hg:=Heap.get?_update_self (Obj.putSet es' t') ho (by rw[hp]; rfl)
 rw[hp]at hg
 exact⟨_,hg,T' _ T.ex rfl⟩
theorem nY(gr:∀ t es n,G t→G (relayAll t es n).2.1){g:Bool→Sem Unit}(hg:∀ (b:Bool) (s₁:Shared) (Q':Unit→Shared→Prop),Q' () s₁→wpAny (model prog w) A (g b) Q' E s₁)
  {a:Addr} {o:Obj} {es:Array (Int × Value)} {ep:Nat} {t:SetTable} {S:K→Bool} {n:Nat} (ho:s.heap.get? a=some o) (T:pF knd G o es ep t S n)
  {es1:Array (Int × Value)} {t2:SetTable} {S':K→Bool} {n':Nat} (T1:∀ o',o'.ExactSet→o'.data = .set es1 (ep+1) t2→pF knd G o' es1 (ep+1) t2 S' n') {wasDummy:Bool} {R:Option Bool→Shared→Prop}
  (h:∀ h',Heap.SameBut a s.heap h'→SetG knd G h' a S' n'→R (some true) { s with heap:=h' }) :
  wpAny (model prog w) A (do
    storeSet a es1 t2
    if (!wasDummy&&t2.tooFull)=true then do
      g (relayAll t2 es1 (SetTable.grown es1.size)).2.2
      storeSet a (relayAll t2 es1 (SetTable.grown es1.size)).1 (relayAll t2 es1 (SetTable.grown es1.size)).2.1
      pure (some true)
     else pure (some true)) R E s:=by
 obtain⟨o1,ho1,U1⟩:=stored ho T T1
 refine wpAny_bind (wpAny_storeSet_of ho T.dat ?_ (fits_of_scanBound U1.few))
 have hsb1:=Heap.SameBut.update s.heap a (Obj.putSet es1 t2);split
 ·have hp:=relayAll_perm t2 es1 (SetTable.grown es1.size)
  have hfr:=relayAll_fits t2 es1 (SetTable.grown es1.size);have hgr:=gr t2 es1 (SetTable.grown es1.size) U1.good;generalize relayAll t2 es1 (SetTable.grown es1.size)=Rl at hp hfr hgr ⊢;obtain⟨es2,t3,gave2⟩:=Rl
  dsimp only at hp hfr hgr ⊢
  have hsz:es2.size=es1.size:=by rw[← Array.length_toList,hp.length_eq,Array.length_toList]
  obtain⟨o2,ho2,U2⟩:=stored (es':=es2) (t':=t3) (S':=S') (n':=n') ho1 U1 fun o' ex da=>⟨ex,da,U1.el.perm hp,fun k'=>(U1.mem k').trans ⟨fun ⟨e,he,q⟩=>⟨e,hp.mem_iff.mpr he,q⟩,fun ⟨e,he,q⟩=>⟨e,hp.mem_iff.mp he,q⟩⟩,by rw[hsz]; exact U1.few,hfr,by rw[hsz]; exact U1.num,hgr,U1.apart.perm hp⟩
  refine wpAny_bind (hg _ _ _ ?_)
  refine wpAny_bind (wpAny_storeSet_of ho1 U1.dat ?_ (fits_of_scanBound U2.few))
  exact wpAny_pure (h _ (hsb1.trans (Heap.SameBut.update _ a _)) ⟨_,_,_,_,ho2,U2⟩)
 ·exact wpAny_pure (h _ hsb1 ⟨_,_,_,_,ho1,U1⟩)
theorem Ic(gl:∀ t es h x,G t→G (layNew t es h x).2.1)(gr:∀ t es n,G t→G (relayAll t es n).2.1)(gp:∀ t:SetTable,G t→G { t with plain:=false })
  {a:Addr} {S:K→Bool} {n:Nat} {k:K} {x:Value} {Q:Bool→Shared→Prop} (hkey:knd.is k x=true) (hsc:x.scannable=true) (hS:SetG knd G s.heap a S n) (hroom:n+1<scanBound)
  (h:∀ h',Heap.SameBut a s.heap h'→SetG knd G h' a (fun k'=>S k'||decide (k'=k)) (if S k then n else n+1)→Q (!S k) { s with heap:=h' }) :
  wpAny (model prog w) A (setAddHashed a x (knd.hash k)) Q E s:=by
 obtain⟨o,es,ep,t,ho,T⟩:=hS
 have hb1:es.size+1<scanBound:=by rw[T.num]; exact hroom
 unfold setAddHashed setAddHashedIn;refine wpAny_holding (wpAny_bind (wpAny_setState_of ho T.dat T.fit ?_))
 dsimp only
 rw[byScan_of hsc T.few T.el];simp only[↓reduceIte]
 unfold setAddByScan;refine wpAny_bind ?_
 refine wpAny_bind (wpAny_rule ?_)
 refine wpAny_bind (wpAny_setScan_of hkey ho T.dat T.fit T.el ?_)
 cases hr:List.findIdx? (fun e=>knd.is k e.2) es.toList with
 | some j=>
  dsimp only
  obtain⟨hj,hpj,_⟩:=List.findIdx?_eq_some_iff_getElem.mp hr
  have hSk:S k=true:=(T.mem k).mpr ⟨es.toList[j],List.getElem_mem hj,hpj⟩
  refine wpAny_pure (wpAny_pure ?_)
  have e:s={ s with heap:=s.heap }:=by cases s; rfl
  have q:=h s.heap (Heap.SameBut.refl a s.heap) ⟨o,es,ep,t,ho,T.ex,T.dat,T.el,fun k'=>by
   rw[Bool.or_eq_true,decide_eq_true_eq,← T.mem k'];exact⟨fun hk=>hk.elim id (fun e=>e ▸ hSk),.inl⟩,T.few,T.fit,by rw[hSk]; exact T.num,T.good,T.apart⟩
  rw[hSk]at q; rw[e]; exact q
 | none=>
  dsimp only
  have hno:=List.findIdx?_eq_none_iff.mp hr
  have hSk:S k=false:=by
   cases hk:S k with
   | false=>rfl
   | true=>obtain⟨e,he,hp⟩:=(T.mem k).mp hk; rw[hno e he]at hp; cases hp
  have hgw:∀ (b:Bool) {s₁:Shared} {Q':Unit→Shared→Prop},Q' () s₁→wpAny (model prog w) A (match b with | true=>rule "set.scan.the-table-gave-way" | false=>pure ()) Q' E s₁:=fun b s₁ Q' hq=>by
   cases b <;> first | exact wpAny_pure hq | exact wpAny_rule hq
  have hperm:=layNew_perm t es (knd.hash k) x;have hfits:=layNew_fits t es (knd.hash k) x;have hgood:=gl t es (knd.hash k) x T.good;generalize layNew t es (knd.hash k) x=Ly at hperm hfits hgood ⊢;obtain⟨es1,t1,wasDummy,gave⟩:=Ly
  dsimp only at hperm hfits hgood ⊢
  rw[Array.toList_push]at hperm
  have hsz1:es1.size=n+1:=by rw[← Array.length_toList,hperm.length_eq,List.length_append,Array.length_toList,T.num]; rfl
  have mk:∀ t2:SetTable,t2.fits es1.size=true→G t2→∀ o',o'.ExactSet→o'.data = .set es1 (ep+1) t2→pF knd G o' es1 (ep+1) t2 (fun k'=>S k'||decide (k'=k)) (n+1):=fun t2 hf2 g2 o' ex da=>
   ⟨ex,da,(T.el.push hkey hsc).perm hperm,mem_push_iff hkey T.mem hperm,by rw[hsz1]; exact hroom,hf2,hsz1,g2,(T.apart.push (fun e he=>by have:=hno e he; simpa using this) hkey).perm hperm⟩
  refine wpAny_bind (hgw _ ?_)
  have hend:∀ h',Heap.SameBut a s.heap h'→SetG knd G h' a (fun k'=>S k'||decide (k'=k)) (n+1)→Q true { s with heap:=h' }:=by
   intro h' hsb hS'; have:=h h' hsb; rw[hSk]at this; exact this hS'
  split
  ·refine wpAny_bind ?_
   rw[hashByValue_scannable 8 hsc];refine wpAny_pure ?_
   refine nY gr ?_ ho T (mk _ ?_ ?_) ?_
   ·intro b s₁ Q' hq; cases b <;> first | exact wpAny_pure hq | exact wpAny_rule hq
   ·split
    ·exact hfits
    ·exact SetTable.fits_plain_off hfits
   ·split
    ·exact hgood
    ·exact gp _ hgood
   ·intro h' hsb hS'; dsimp only; exact wpAny_pure (hend h' hsb hS')
  ·refine wpAny_bind (wpAny_pure ?_)
   simp only[↓reduceIte]
   refine nY gr ?_ ho T (mk _ hfits hgood) ?_
   ·intro b s₁ Q' hq; cases b <;> first | exact wpAny_pure hq | exact wpAny_rule hq
   ·intro h' hsb hS'; dsimp only; exact wpAny_pure (hend h' hsb hS')
end
end L2
namespace L2
open PySem PySem.Spec PyProof.Rows PySem.SeqAt
section
variable{prog:Program}{w:World}{A:Around}{R:Result→Shared→Prop}{I:Addr}{fp wr:List Addr}{Gm:Array GenState→Array GenState→Prop}{n:Nat}{P:Nat→Value→Prop}{St:Nat→Shared→Prop}{L:Bool}
theorem kJ{t:SetTable}(h:cV L t):cV L { t with plain:=false }:=⟨h.led,h.rise⟩
theorem SetG.at'{K:Type}[DecidableEq K]{knd:KeyKind prog w K}{G:SetTable→Prop}{h h':Heap}{a:Addr}{S S':K→Bool}{m m':Nat}(x:SetG knd G h a S m)(e:∀ o,h.get? a=some o→h'.get? a=some o)(eS:∀ k,S k=S' k)(em:m=m'):SetG knd G h' a S' m':=by
 obtain⟨o,es,ep,t,ho,T⟩:=x
 have:S=S':=funext eS
 subst this; subst em
 exact⟨o,es,ep,t,e o ho,T⟩
end
section
variable{prog:Program}{w:World}{A:Around}{E:Value→Shared→Prop}{s:Shared}
def cx(w:World):Bool:=!(w.params.followText "set-order")
theorem zk(a:Value){Q₁:Value→Shared→Prop}
  (h:Q₁ (.ref s.heap.objs.size) { s with heap:=s.heap.push { cls:=.type "set", dict:=none,data:=.set #[] 0 (.fresh 0 0 (cx w)) } }) :
  codeAny (model prog w) A (.call (.builtin "set.__new__") ⟨[.type "set", a],[]⟩) (wants Q₁ E) s:=by
 refine codeAny_of_tree ?_
 show wpAny _ A.in1 (do checkBuiltinCall "set.__new__" ⟨[.type "set", a],[]⟩; again (.builtin "set.__new__" ⟨[.type "set", a],[]⟩)) _ _ s
 refine wpAny_bind (wpAny_of_eq (F.newCall_set_1 a) (wpAny_pure ⟨plainId_quiet F.plain_set_new _,codeAny_builtin F.entry_set_new ?_⟩))
 rw[Around.under_plainId F.plain_set_new _];unfold Builtin.«set.__new__» Builtin.Frozenset.newClass
 have hsub:=sub_set_self;obtain⟨hp,g,d,tk,os⟩:=s
 dsimp only
 wp_walk
 refine wpAny_askSetting (wpAny_pure ?_)
 dsimp only
 simp only[newObj]
 refine wpAny_bind (wpAny_alloc (wpAny_pure ?_))
 exact wpAny_pure h
end
end L2
namespace L2
open PySem PySem.Spec PyProof.Rows PySem.SeqAt
section
variable{X:Cx}
end
end L2
namespace L2
open PySem PySem.Spec PyProof.Rows PySem.SeqAt
theorem iC{α : Type}:∀ (l:List α) (i:Nat) (hi:i<l.length),(l[i]::l.eraseIdx i).Perm l
 | x::l,0,_=>.rfl
 | x::l,i+1,hi=>(List.Perm.swap x (l[i]'(by simpa using hi)) (l.eraseIdx i)).trans (List.Perm.cons x (iC l i (by simpa using hi)))
theorem rn{α : Type}(next:Nat→Nat):∀ (fuel k:Nat) (left:List α) (out:Array α),fuel=left.length→(pickOrder.go next fuel k left out).toList.Perm (out.toList++left)
 | 0,k,left,out,h=>by
  have:left=[]:=List.eq_nil_of_length_eq_zero h.symm
  subst this;unfold pickOrder.go; simp
 | fuel+1,k,left,out,h=>by
  unfold pickOrder.go;have hi:next k % left.length<left.length:=Nat.mod_lt _ (by omega)
  rw[List.getElem?_eq_getElem hi]
  dsimp only
  refine(rn next fuel (k+1) _ _ (by rw[List.length_eraseIdx]; rw[if_pos hi]; omega)).trans ?_
  rw[Array.toList_push,List.append_assoc];refine List.Perm.append_left _ ?_
  exact iC _ _ hi
theorem w9{α : Type}(next:Nat→Nat)(xs:Array α):(pickOrder next xs).toList.Perm xs.toList:=by
 unfold pickOrder;have:=rn next xs.size 0 xs.toList #[] (by simp)
 simpa using this
section
variable{M:Model}{A:Around}{E:Value→Shared→Prop}
theorem ra{s:Shared}{n:Nat}{Q:Nat→Shared→Prop}(hn:n≠0)(h:∀ i d',i<n→Q i { s with drawn:=d' }):wpAny M A (choose .order n) Q E s:=fun Γ p hΓ=>by
 show Sem.wp M Γ (.choose .order n .pure) _ _ _ _
 rw[Sem.wp_choose];refine⟨hn,?_⟩
 rw[Sem.wp_pure];exact h _ _ (Nat.mod_lt _ (by omega))
theorem mO{α : Type}:∀ (n:Nat) (xs:List α) (s:Shared) (Q:List α→Shared→Prop),n=xs.length→(∀ ys d',ys.Perm xs→Q ys { s with drawn:=d' })→wpAny M A (drawOrder n xs) Q E s
 | 0,xs,s,Q,hn,h=>by
  have:xs=[]:=List.eq_nil_of_length_eq_zero hn.symm
  subst this;unfold drawOrder;exact wpAny_pure (by have:=h [] s.drawn .nil; cases s; exact this)
 | n+1,[],s,Q,hn,h=>by simp at hn
 | n+1,x::xs,s,Q,hn,h=>by
  unfold drawOrder;refine wpAny_bind (ra (by simp) fun i d' hi=>?_)
  rw[List.getElem?_eq_getElem hi]
  dsimp only
  refine wpAny_bind (mO n _ _ _ (by rw[List.length_eraseIdx,if_pos hi]; omega) fun ys d'' hp=>?_)
  refine wpAny_pure ?_
  exact h _ d'' ((List.Perm.cons _ hp).trans (iC _ _ hi))
end
end L2
namespace L2
open PySem PySem.Spec PyProof.Rows PySem.SeqAt
theorem slot_si_next:Slot "set_iterator" "__next__" "set_iterator.__next__" :=
 .of (owner := "set_iterator") (n := "__next__") (by rw[typeLookup_type,builtinLookup_eq_fast]; kernel_rfl) (by decide +kernel) (by decide +kernel) (by decide +kernel)
  (by first | exact .inl (by decide +kernel) | exact .inr (by decide +kernel)) (by rw[isSubtype_type]; kernel_rfl)
theorem eT:entryFor table "set_iterator.__next__" = some Builtin.«set_iterator.__next__»:=entryFor_of_tree (by kernel_rfl)
theorem lm:entryFor table "set.__iter__" = some Builtin.«frozenset.__iter__»:=
 entryFor_alias (id' := "frozenset.__iter__") (by kernel_rfl) rfl (by decide +kernel) (by kernel_rfl)
theorem p0 : Manifest.owners.lookup (String.ofList ['r', 'o', 't', 'a', 'r', 'e', 't', 'i', '_', 't', 'e', 's'].reverse) = some Manifest.sig_set_iterator := by kernel_rfl
theorem fk(a:Value):argsOk "set_iterator.__next__" ⟨[a],[]⟩:=by
 unfold argsOk; rw [signature?_of (id := "set_iterator.__next__") (n:=['_','_','t','x','e','n','_','_']) (o:=['r','o','t','a','r','e','t','i','_','t','e','s']) (by kernel_rfl) p0]; kernel_rfl
section
variable{prog:Program}{w:World}{A:Around}{E:Value→Shared→Prop}{s:Shared}
def fM(w:World)(a:Addr)(ep:Nat)(es:Array (Int × Value)):List Value:=((if w.params.followText "set-order" then pickOrder (w.params.setOrder a ep) es else es).toList.map (·.2))
def dH(w:World)(t:SetTable)(i:Nat):Nat:=if w.params.followText "set-order" then 0 else if i=0 then 0 else t.place.getD (i - 1) 0+1
theorem ix(a:Addr)(ep:Nat)(es:Array (Int × Value)):(fM w a ep es).Perm (es.toList.map (·.2)):=by
 unfold fM;split
 ·exact(w9 _ _).map _
 ·exact .rfl
theorem me{a:Addr}{o:Obj}{es:Array (Int × Value)}{ep:Nat}{t:SetTable}{i:Nat}{Q:Option (Value × Nat)→Shared→Prop}(ho:s.heap.get? a=some o)(hd:o.data = .set es ep t)(hf:t.fits es.size=true)(hg:cV (cx w) t)(hi:i≤es.size)
  (hn:w.params.followText "set-order" = true∨(!t.plain&&decide (es.size>1))=false) (h:Q (((fM w a ep es)[i]?).map fun x=>(x,dH w t (i+1))) s):wpAny (model prog w) A (setNext a (dH w t i) i ep) Q E s:=by
 have hps:t.place.size=es.size:=by
  unfold SetTable.fits at hf;simp only[Bool.and_eq_true,beq_iff_eq]at hf
  exact hf.1
 unfold setNext;refine wpAny_bind (wpAny_setState_of ho hd hf ?_)
 refine wpAny_bind ?_
 unfold setsByText;refine wpAny_bind (wpAny_askSetting (wpAny_pure ?_))
 show wpAny _ _ (if w.params.followText "set-order" = true then _ else _) _ _ _
 unfold fM dH at h;unfold dH
 cases hb:w.params.followText "set-order" with
 | true=>
  rw[hb]at h
  simp only[if_true]at h ⊢
  rw[if_neg (by simp)]
  refine wpAny_bind ?_
  unfold setWalk;refine wpAny_bind (wpAny_setState_of ho hd hf ?_)
  refine wpAny_bind ?_
  unfold setsByText;refine wpAny_bind (wpAny_askSetting (wpAny_pure ?_))
  show wpAny _ _ (if w.params.followText "set-order" = true then _ else _) _ _ _
  rw[if_pos hb];refine wpAny_bind (wpAny_askSetting (wpAny_pure ?_))
  refine wpAny_pure ?_
  rw[List.getElem?_map,Option.map_map,Array.getElem?_toList]at h
  exact h
 | false=>
  rw[hb]at h
  simp only[Bool.false_eq_true,if_false]at h ⊢
  have hled:t.led=true:=by rw[hg.led]; unfold cx; rw[hb]; rfl
  refine wpAny_ite_split (fun hab=>?_) (fun _=>?_)
  ·rcases hn with z | z
   ·rw[hb]at z; cases z
   ·exact absurd (z.symm.trans hab) (by decide)
  refine wpAny_bind ?_
  show wpAny _ _ (if (!t.led && !es.isEmpty)=true then unsupported "set:maker-not-led" else pure ()) _ _ _
  rw[if_neg (by rw[hled]; simp)]
  refine wpAny_pure (wpAny_pure ?_)
  have hbel:SetTable.below t.place (if i=0 then 0 else t.place.getD (i - 1) 0+1)=i:=by
   by_cases h0:i=0
   ·rw[if_pos h0,tQ hg.rise,h0]
   ·have hi1:i - 1<t.place.size:=by omega
    rw[if_neg h0,show t.place.getD (i - 1) 0=t.place[i - 1] by simp[Array.getD,hi1],uu hg.rise hi1]
    omega
  rw[hbel];rw[List.getElem?_map,Array.getElem?_toList,if_neg (by omega),Nat.add_sub_cancel]at h
  by_cases hlt:i<es.size
  ·have hlp:i<t.place.size:=by omega
   rw[Array.getElem?_eq_getElem hlt,Array.getElem?_eq_getElem hlp];rw[Array.getElem?_eq_getElem hlt,show t.place.getD i 0=t.place[i] by simp[Array.getD,hlp]]at h
   exact h
  ·rw[Array.getElem?_eq_none (by omega)]
   rw[Array.getElem?_eq_none (by omega)]at h
   exact h
end
end L2
namespace L2
open PySem PySem.Spec PyProof.Rows PySem.SeqAt
section
variable{prog:Program}{w:World}{A:Around}{E:Value→Shared→Prop}{s:Shared}
def IsSI(h:Heap)(it:Addr)(first:Value)(i:Nat)(a:Addr)(n ep:Nat):Prop:=∃ o,h.get? it=some o∧o.cls = .type "set_iterator" ∧ o.data = .fields #[first,.int i 0,.ref a,.int n 0,.int ep 0]
theorem IsSI.typeIs{it a:Addr}{first:Value}{i n ep:Nat}(x:IsSI s.heap it first i a n ep):s.TypeIs (.ref it) "set_iterator" := let ⟨o,ho,hc,_⟩:=x; ⟨o,ho,hc⟩
theorem A2{it a:Addr}{o:Obj}{es:Array (Int × Value)}{ep:Nat}{t:SetTable}{i:Nat}{v:Value}{Q:Option Value→Shared→Prop}(hit:IsSI s.heap it (.int (dH w t i) 0) i a es.size ep)(ho:s.heap.get? a=some o)(hd:o.data = .set es ep t)(hf:t.fits es.size=true)(hg:cV (cx w) t)
  (hn:w.params.followText "set-order" = true∨(!t.plain&&decide (es.size>1))=false) (hi:i<es.size) (hv:(fM w a ep es)[i]? = some v)
  (hQ:∀ h',IsSI h' it (.int (dH w t (i+1)) 0) (i+1) a es.size ep→Heap.SameBut it s.heap h'→Q (some v) { s with heap:=h' }):wpAny (model prog w) A (pyNext (.ref it)) Q E s:=by
 obtain⟨oi,hoi,hci,hdi⟩:=id hit
 unfold pyNext;refine wpAny_bind (wpAny_attempt (wpAny_callSpecial?_slot (name:=Str.ofString "__next__") hit.typeIs slot_si_next (wpAny_call_entry slot_si_next hit.typeIs eT ?_ (fk _))))
 unfold Builtin.«set_iterator.__next__»
 refine wpAny_bind (wpAny_pure ?_)
 refine wpAny_bind (wpAny_fieldsOf hoi hdi ?_)
 dsimp only
 refine wpAny_bind (wpAny_setEntries_of ho hd hf ?_)
 rw[if_neg (by simp)]
 simp only[Int.toNat_natCast]
 refine wpAny_bind (me ho hd hf hg (by omega) hn ?_)
 rw[hv];show wpAny _ _ (setField (.ref it) 0 (rawInt (dH w t (i+1):Nat)) >>= fun _=>setField (.ref it) 1 (rawInt ((i:Int)+1)) >>= fun _=>ret v) _ _ _
 refine wpAny_bind (wpAny_setField hoi hdi (by simp) ?_)
 have hdi1:=Obj.data_mapFields hdi (fun xs=>xs.setIfInBounds 0 (rawInt (dH w t (i+1):Nat)))
 have hoi1:=Heap.get?_update_self (Obj.mapFields (fun xs=>xs.setIfInBounds 0 (rawInt (dH w t (i+1):Nat)))) hoi (Obj.isFreed_of_fields hdi1)
 refine wpAny_bind (wpAny_setField hoi1 hdi1 (by simp) ?_)
 have hdi2:=Obj.data_mapFields hdi1 (fun xs=>xs.setIfInBounds 1 (rawInt ((i:Int)+1)))
 have hoi2:=Heap.get?_update_self (Obj.mapFields (fun xs=>xs.setIfInBounds 1 (rawInt ((i:Int)+1)))) hoi1 (Obj.isFreed_of_fields hdi2)
 refine wpAny_pure ⟨_,rfl,wpAny_pure (hQ _ ⟨_,hoi2,?_,?_⟩ ((Heap.SameBut.update ..).trans (Heap.SameBut.update ..)))⟩
 ·rw[Obj.cls_mapFields,Obj.cls_mapFields]; exact hci
 ·rw[hdi2]; simp[rawInt]
theorem Ef{it a:Addr}{o:Obj}{es:Array (Int × Value)}{ep:Nat}{t:SetTable}{Q:Option Value→Shared→Prop}(hh:A.handled=none)(hit:IsSI s.heap it (.int (dH w t es.size) 0) es.size a es.size ep)(ho:s.heap.get? a=some o)(hd:o.data = .set es ep t)(hf:t.fits es.size=true)(hg:cV (cx w) t)
  (hn:w.params.followText "set-order" = true∨(!t.plain&&decide (es.size>1))=false)
  (hQ:∀ h',Heap.ExtBut it s.heap h'→Q none { s with heap:=h' }):wpAny (model prog w) A (pyNext (.ref it)) Q E s:=by
 obtain⟨oi,hoi,hci,hdi⟩:=id hit
 have hv:(fM w a ep es)[es.size]? = none:=List.getElem?_eq_none (by rw[(ix (w:=w) a ep es).length_eq]; simp)
 unfold pyNext;refine wpAny_bind (wpAny_attempt (wpAny_callSpecial?_slot (name:=Str.ofString "__next__") hit.typeIs slot_si_next (wpAny_call_entry slot_si_next hit.typeIs eT ?_ (fk _))))
 unfold Builtin.«set_iterator.__next__»
 refine wpAny_bind (wpAny_pure ?_)
 refine wpAny_bind (wpAny_fieldsOf hoi hdi ?_)
 dsimp only
 refine wpAny_bind (wpAny_setEntries_of ho hd hf ?_)
 rw[if_neg (by simp)]
 simp only[Int.toNat_natCast]
 refine wpAny_bind (me ho hd hf hg (Nat.le_refl _) hn ?_)
 rw[hv];show wpAny _ _ (setField (.ref it) 2 .none >>= fun _=>newExc (.type "StopIteration") [] >>= fun e=>raiseNew e) _ _ _
 refine wpAny_bind (wpAny_setField hoi hdi (by simp) ?_)
 refine wpAny_bind ?_
 simp only[newExc,newTuple]
 refine wpAny_bind (wpAny_newObj_type ?_ (by size_fits))
 refine wpAny_bind (m:=firstArgMember _ _) (wpAny_of_eq (a:=Value.none) (by first | rfl | (simp only[firstArgMember]; rfl)) ?_)
 refine wpAny_newObj_type ?_ (by size_fits)
 simp only[raiseNew]
 refine wpAny_bind (wpAny_handled ?_)
 rw[show A.in1.handled=none from hh];refine wpAny_bind (wpAny_pure (wpAny_throw ?_))
 refine wpAny_bind (wpAny_isInstance (T := "StopIteration") (b:=true) ⟨_,Heap.get?_push_size _ rfl,rfl⟩ isSubtype_stop ?_)
 exact wpAny_pure (hQ _ (((Heap.SameBut.update ..).extBut.push _).push _))
end
end L2
namespace L2
open PySem PySem.Spec PyProof.Rows PySem.SeqAt
section
variable{prog:Program}{w:World}{A:Around}{E:Value→Shared→Prop}{s:Shared}
theorem uK{a:Addr}{o:Obj}{es:Array (Int × Value)}{ep:Nat}{t:SetTable}{Q:Bool→Shared→Prop}(ho:s.heap.get? a=some o)(hd:o.data = .set es ep t)(hf:t.fits es.size=true)
  (h:Q (!(w.params.followText "set-order")&&(!t.plain&&decide (es.size>1))) s):wpAny (model prog w) A (setDrawn a) Q E s:=by
 unfold setDrawn;refine wpAny_bind (wpAny_setState_of ho hd hf ?_)
 refine wpAny_bind ?_
 unfold setsByText;refine wpAny_bind (wpAny_askSetting (wpAny_pure ?_))
 exact wpAny_pure h
theorem A1{a:Addr}{o:Obj}{es:Array (Int × Value)}{ep:Nat}{t:SetTable}{Q:Value→Shared→Prop}(ho:s.heap.get? a=some o)(hx:o.ExactSet)(hd:o.data = .set es ep t)(hf:t.fits es.size=true)(hfew:es.size<scanBound)
  (h1:(!(w.params.followText "set-order")&&(!t.plain&&decide (es.size>1)))=false→Q (.ref s.heap.objs.size) { s with heap:=s.heap.push { cls:=.type "set_iterator", data:=.fields #[.int 0 0,.int 0 0,.ref a,.int es.size 0,.int ep 0] } })
  (h2:∀ (ps:List Nat) d',ps.Perm (List.range es.size)→Q (.ref (s.heap.objs.size+1)) { s with heap:=(s.heap.push { cls:=.type "tuple", data:=.seq (ps.map fun i:Nat=>rawInt i).toArray }).push { cls:=.type "set_iterator", data:=.fields #[.ref s.heap.objs.size,.int 0 0,.ref a,.int es.size 0,.int ep 0] },drawn:=d' }) :
  wpAny (model prog w) A (pyIter (.ref a)) Q E s:=by
 have hT:s.TypeIs (.ref a) "set" := ⟨o,ho,hx.1⟩
 refine wpAny_pyIter_slot hT F.slot_set_iter (wpAny_call_entry F.slot_set_iter hT lm ?_ (F.args_set_iter_1 _))
 unfold Builtin.«frozenset.__iter__»
 refine wpAny_bind (wpAny_pure ?_)
 refine wpAny_bind ?_
 unfold Builtin.Frozenset.sizeOf;refine wpAny_bind (wpAny_setEntries_of ho hd hf (wpAny_pure ?_))
 refine wpAny_bind (uK ho hd hf ?_)
 dsimp only
 refine wpAny_ite_split (fun hab=>?_) (fun hab=>?_)
 ·refine wpAny_bind (mO _ _ _ _ (by simp) fun ps d' hp=>?_)
  have hlen:ps.length=es.size:=by rw[hp.length_eq]; simp
  refine wpAny_bind ?_
  unfold newTuple;have hz:=fits_of_scanBound hfew;refine wpAny_newObj_type ?_ (by show (List.map _ ps).toArray.size≤sizeLine; simp; omega)
  refine wpAny_bind ?_
  unfold setEpoch;refine wpAny_bind (wpAny_setState_of (Heap.get?_push_of_some _ ho) hd hf (wpAny_pure ?_))
  refine wpAny_bind ?_
  unfold newFields;refine wpAny_newObj_type (wpAny_pure ⟨_,rfl, "set_iterator", _,⟨_,Heap.get?_push_size _ rfl,rfl⟩,slot_si_next.lookup,?_⟩)
  rw[Heap.size_push];exact h2 ps d' hp
 ·refine wpAny_bind (wpAny_pure ?_)
  refine wpAny_bind ?_
  unfold setEpoch;refine wpAny_bind (wpAny_setState_of ho hd hf (wpAny_pure ?_))
  refine wpAny_bind ?_
  unfold newFields;refine wpAny_newObj_type (wpAny_pure ⟨_,rfl, "set_iterator", _,⟨_,Heap.get?_push_size _ rfl,rfl⟩,slot_si_next.lookup,?_⟩)
  exact h1 (by simpa using hab)
end
end L2
namespace L2
open PySem PySem.Spec PyProof.Rows PySem.SeqAt
section
variable{prog:Program}{w:World}{A:Around}{E:Value→Shared→Prop}{s:Shared}
theorem AV{it a tp:Addr}{o ot:Obj}{es:Array (Int × Value)}{ep ct:Nat}{t:SetTable}{i k:Nat}{ps:List Nat}{v:Value}{hh:Int}{Q:Option Value→Shared→Prop}(hit:IsSI s.heap it (.ref tp) i a es.size ep)(ho:s.heap.get? a=some o)(hd:o.data = .set es ep t)(hf:t.fits es.size=true)
  (hot:s.heap.get? tp=some ot) (hdt:ot.data = .seq (ps.map fun i:Nat=>rawInt i).toArray ct) (hk:ps[i]? = some k) (hv:es[k]? = some (hh,v))
  (hQ:∀ h',IsSI h' it (.ref tp) (i+1) a es.size ep→Heap.SameBut it s.heap h'→Q (some v) { s with heap:=h' }):wpAny (model prog w) A (pyNext (.ref it)) Q E s:=by
 obtain⟨oi,hoi,hci,hdi⟩:=id hit
 unfold pyNext;refine wpAny_bind (wpAny_attempt (wpAny_callSpecial?_slot (name:=Str.ofString "__next__") hit.typeIs slot_si_next (wpAny_call_entry slot_si_next hit.typeIs eT ?_ (fk _))))
 unfold Builtin.«set_iterator.__next__»
 refine wpAny_bind (wpAny_pure ?_)
 refine wpAny_bind (wpAny_fieldsOf hoi hdi ?_)
 dsimp only
 refine wpAny_bind (wpAny_setEntries_of ho hd hf ?_)
 rw[if_neg (by simp)]
 refine wpAny_bind (wpAny_seqItems hot hdt ?_)
 simp only[Int.toNat_natCast]
 have e1:(List.map (fun i:Nat=>rawInt (i:Int)) ps).toArray[i]? = some (.int (k:Int) 0):=by
  rw[List.getElem?_toArray,List.getElem?_map,hk]; rfl
 rw[e1]
 dsimp only
 refine wpAny_bind ?_
 unfold setNextDrawn;refine wpAny_bind (wpAny_setState_of ho hd hf ?_)
 dsimp only
 simp only[Int.toNat_natCast]
 rw[if_neg (by simp)]
 rw[hv];refine wpAny_pure ?_
 refine wpAny_bind (wpAny_setField hoi hdi (by simp) ?_)
 have hdi1:=Obj.data_mapFields hdi (fun xs=>xs.setIfInBounds 1 (rawInt ((i:Int)+1)))
 have hoi1:=Heap.get?_update_self (Obj.mapFields (fun xs=>xs.setIfInBounds 1 (rawInt ((i:Int)+1)))) hoi (Obj.isFreed_of_fields hdi1)
 refine wpAny_pure ⟨_,rfl,wpAny_pure (hQ _ ⟨_,hoi1,?_,?_⟩ (Heap.SameBut.update ..))⟩
 ·rw[Obj.cls_mapFields]; exact hci
 ·rw[hdi1]; simp[rawInt]
theorem BL{it a tp:Addr}{o ot:Obj}{es:Array (Int × Value)}{ep ct:Nat}{t:SetTable}{ps:List Nat}{Q:Option Value→Shared→Prop}(hh:A.handled=none)(hit:IsSI s.heap it (.ref tp) es.size a es.size ep)(ho:s.heap.get? a=some o)(hd:o.data = .set es ep t)(hf:t.fits es.size=true)
  (hot:s.heap.get? tp=some ot) (hdt:ot.data = .seq (ps.map fun i:Nat=>rawInt i).toArray ct) (hp:ps.length=es.size)
  (hQ:∀ h',Heap.ExtBut it s.heap h'→Q none { s with heap:=h' }):wpAny (model prog w) A (pyNext (.ref it)) Q E s:=by
 obtain⟨oi,hoi,hci,hdi⟩:=id hit
 unfold pyNext;refine wpAny_bind (wpAny_attempt (wpAny_callSpecial?_slot (name:=Str.ofString "__next__") hit.typeIs slot_si_next (wpAny_call_entry slot_si_next hit.typeIs eT ?_ (fk _))))
 unfold Builtin.«set_iterator.__next__»
 refine wpAny_bind (wpAny_pure ?_)
 refine wpAny_bind (wpAny_fieldsOf hoi hdi ?_)
 dsimp only
 refine wpAny_bind (wpAny_setEntries_of ho hd hf ?_)
 rw[if_neg (by simp)]
 refine wpAny_bind (wpAny_seqItems hot hdt ?_)
 simp only[Int.toNat_natCast]
 have e1:(List.map (fun i:Nat=>rawInt (i:Int)) ps).toArray[es.size]? = none:=by
  rw[List.getElem?_toArray,List.getElem?_eq_none (by simp; omega)]
 rw[e1]
 dsimp only
 refine wpAny_bind (wpAny_setField hoi hdi (by simp) ?_)
 have hdi1:=Obj.data_mapFields hdi (fun xs=>xs.setIfInBounds 0 (rawInt 0))
 have hoi1:=Heap.get?_update_self (Obj.mapFields (fun xs=>xs.setIfInBounds 0 (rawInt 0))) hoi (Obj.isFreed_of_fields hdi1)
 refine wpAny_bind (wpAny_setField hoi1 hdi1 (by simp) ?_)
 refine wpAny_bind ?_
 simp only[newExc,newTuple]
 refine wpAny_bind (wpAny_newObj_type ?_ (by size_fits))
 refine wpAny_bind (m:=firstArgMember _ _) (wpAny_of_eq (a:=Value.none) (by first | rfl | (simp only[firstArgMember]; rfl)) ?_)
 refine wpAny_newObj_type ?_ (by size_fits)
 simp only[raiseNew]
 refine wpAny_bind (wpAny_handled ?_)
 rw[show A.in1.handled=none from hh];refine wpAny_bind (wpAny_pure (wpAny_throw ?_))
 refine wpAny_bind (wpAny_isInstance (T := "StopIteration") (b:=true) ⟨_,Heap.get?_push_size _ rfl,rfl⟩ isSubtype_stop ?_)
 exact wpAny_pure (hQ _ ((((Heap.SameBut.update ..).trans (Heap.SameBut.update ..)).extBut.push _).push _))
end
end L2
namespace L2
open PySem PySem.Spec PyProof.Rows PySem.SeqAt
theorem iV:Slot "set_iterator" "__iter__" "set_iterator.__iter__" :=
 .of (owner := "set_iterator") (n := "__iter__") (by rw[typeLookup_type,builtinLookup_eq_fast]; kernel_rfl) (by decide +kernel) (by decide +kernel) (by decide +kernel)
  (by first | exact .inl (by decide +kernel) | exact .inr (by decide +kernel)) (by rw[isSubtype_type]; kernel_rfl)
theorem nv:entryFor table "set_iterator.__iter__" = some Builtin.«dict_keyiterator.__iter__»:=
 entryFor_alias (id' := "dict_keyiterator.__iter__") (by kernel_rfl) rfl (by decide +kernel) (by kernel_rfl)
theorem oH(a:Value):argsOk "set_iterator.__iter__" ⟨[a],[]⟩:=by
 unfold argsOk; rw [signature?_of (id := "set_iterator.__iter__") (n:=['_','_','r','e','t','i','_','_']) (o:=['r','o','t','a','r','e','t','i','_','t','e','s']) (by kernel_rfl) p0]; kernel_rfl
section
variable{prog:Program}{w:World}{A:Around}{E:Value→Shared→Prop}{s:Shared}
theorem rG{it a:Addr}{first:Value}{i n ep:Nat}{Q:Value→Shared→Prop}(hit:IsSI s.heap it first i a n ep)(h:Q (.ref it) s):wpAny (model prog w) A (pyIter (.ref it)) Q E s:=
 wpAny_pyIter_slot hit.typeIs iV (wpAny_call_entry iV hit.typeIs nv (wpAny_bind (wpAny_pure (wpAny_pure ⟨_,rfl, "set_iterator", _,hit.typeIs,slot_si_next.lookup,h⟩))) (oH _))
theorem IsSI.at'{h h':Heap}{it a:Addr}{first:Value}{i n ep:Nat}(x:IsSI h it first i a n ep)(e:∀ o,h.get? it=some o→h'.get? it=some o):IsSI h' it first i a n ep:=let ⟨o,ho,r⟩:=x; ⟨o,e _ ho,r⟩
theorem ES(hh:A.handled=none)(I a:Addr)(hne:a≠I){o:Obj}{es:Array (Int × Value)}{ep:Nat}{t:SetTable}(hd:o.data = .set es ep t)(hf:t.fits es.size=true)(hg:cV (cx w) t)(hn:w.params.followText "set-order" = true∨(!t.plain&&decide (es.size>1))=false) :
  Walks prog w A I [I,a] [I] es.size (fun i v=>(fM w a ep es)[i]? = some v) (fun i h=>IsSI h I (.int (dH w t i) 0) i a es.size ep∧h.get? a=some o) where
 sub:=fun b hb=>by simp at hb; simp[hb]
 frame:=fun _ _ _ st hk=>⟨st.1.at' fun o e=>hk I (by simp) o e,hk a (by simp) o st.2⟩
 item:=fun i s Q E hi st hQ=>by
  have hl:(fM w a ep es).length=es.size:=by rw[(ix (w:=w) a ep es).length_eq]; simp
  have hv:(fM w a ep es)[i]? = some (fM w a ep es)[i]:=List.getElem?_eq_getElem (by omega)
  refine A2 st.1 st.2 hd hf hg hn hi hv fun h' hit' hs'=>?_
  exact hQ _ h' s.toks hv ⟨hit',hs'.extBut a o hne st.2⟩ (fun b o hb e=>hs'.extBut b o (fun h=>hb (by simp[h])) e)
 done:=fun s Q E st hQ=>Ef hh st.1 st.2 hd hf hg hn fun h' he'=>hQ h' s.toks fun b o hb e=>he' b o (fun h=>hb (by simp[h])) e
 self:=fun _ _ _ _ st hQ=>rG st.1 hQ
theorem Ey(hh:A.handled=none)(I a tp:Addr)(hne:a≠I)(hnt:tp≠I){o ot:Obj}{es:Array (Int × Value)}{ep ct:Nat}{t:SetTable}{ps:List Nat}(hd:o.data = .set es ep t)(hf:t.fits es.size=true)(hdt:ot.data = .seq (ps.map fun i:Nat=>rawInt i).toArray ct)(hp:ps.Perm (List.range es.size)) :
  Walks prog w A I [I,a,tp] [I] es.size (fun i v=>(ps.map fun k=>(es.getD k (0,.none)).2)[i]? = some v) (fun i h=>IsSI h I (.ref tp) i a es.size ep∧h.get? a=some o∧h.get? tp=some ot) where
 sub:=fun b hb=>by simp at hb; simp[hb]
 frame:=fun _ _ _ st hk=>⟨st.1.at' fun o e=>hk I (by simp) o e,hk a (by simp) o st.2.1,hk tp (by simp) ot st.2.2⟩
 item:=fun i s Q E hi st hQ=>by
  have hl:ps.length=es.size:=by rw[hp.length_eq]; simp
  have hk:ps[i]? = some (ps[i]'(by omega)):=List.getElem?_eq_getElem (by omega)
  have hlt:ps[i]'(by omega)<es.size:=List.mem_range.mp (hp.mem_iff.mp (List.getElem_mem _))
  have hv:(ps.map fun k=>(es.getD k (0,.none)).2)[i]? = some (es[ps[i]'(by omega)]'hlt).2:=by
   rw[List.getElem?_map,hk];simp[Array.getD,hlt]
  refine AV st.1 st.2.1 hd hf st.2.2 hdt hk (hh:=(es[ps[i]'(by omega)]'hlt).1) (v:=(es[ps[i]'(by omega)]'hlt).2) (Array.getElem?_eq_getElem hlt) fun h' hit' hs'=>?_
  exact hQ _ h' s.toks hv ⟨hit',hs'.extBut a o hne st.2.1,hs'.extBut tp ot hnt st.2.2⟩ (fun b o hb e=>hs'.extBut b o (fun h=>hb (by simp[h])) e)
 done:=fun s Q E st hQ=>BL hh st.1 st.2.1 hd hf st.2.2 hdt (by rw[hp.length_eq]; simp) fun h' he'=>hQ h' s.toks fun b o hb e=>he' b o (fun h=>hb (by simp[h])) e
 self:=fun _ _ _ _ st hQ=>rG st.1 hQ
end
end L2
namespace L2
open PySem PySem.Spec PyProof.Rows PySem.SeqAt
section
variable{prog:Program}{w:World}{A:Around}{E:Value→Shared→Prop}{s:Shared}
theorem pj{a:Addr}{Q:Bool→Shared→Prop}(hT:s.TypeIs (.ref a) "set") (h:Q false s):wpAny (model prog w) A (Builtin.List.listLengthHint (.ref a)) Q E s:=by
 unfold Builtin.List.listLengthHint;refine wpAny_bind (wpAny_specialOf hT F.slot_set_len.lookup ?_)
 generalize hid:("set.__len__" : String)=id0
 wp_delta
 rw[show splitId id0=some ("set", "__len__") from by subst hid; decide +kernel]
 subst hid;refine wpAny_bind (wpAny_isInstance (T := "set") (b:=true) hT (by rw[isSubtype_type]; kernel_rfl) ?_)
 refine wpAny_ite_split (fun hab=>absurd hab (by decide)) (fun _=>?_)
 refine wpAny_ite_split (fun _=>?_) (fun hab=>absurd (by decide +kernel) hab)
 refine wpAny_bind (wpAny_typeOf hT ?_)
 exact wpAny_pure h
theorem yF{l:List Value}{acc:Array Value}(h:ItemsOf (fun i v=>l[i]? = some v) acc l.length):acc.toList=l:=by
 refine List.ext_getElem? fun i=>?_
 rw[Array.getElem?_toList]
 cases e:acc[i]? with
 | some v=>exact(h.2 i v e).symm
 | none=>
  have:acc.size≤i:=by simpa using e
  exact(List.getElem?_eq_none (by have:=h.1; omega)).symm
theorem qY{es:Array (Int × Value)}{ps:List Nat}(hp:ps.Perm (List.range es.size)):(ps.map fun k=>(es.getD k (0,.none)).2).Perm (es.toList.map (·.2)):=by
 refine(hp.map _).trans ?_
 refine List.Perm.of_eq ?_
 refine List.ext_getElem (by simp) fun i h1 h2=>?_
 have hi:i<es.size:=by simpa using h1
 simp[Array.getD,hi]
theorem vF{R:Result→Shared→Prop}{a:Addr}{o:Obj}{es:Array (Int × Value)}{ep:Nat}{t:SetTable}(hh:A.handled=none)(ho:s.heap.get? a=some o)(hx:o.ExactSet)(hd:o.data = .set es ep t)(hf:t.fits es.size=true)(hfew:es.size<scanBound)(hg:cV (cx w) t)
  (S:Addr) (res:Value) (c₀ : Nat) (hS:s.heap.get? S=some { cls:=.type "list", data:=.seq #[] c₀ })
  (hR:∀ h' d' tk acc' c',(∀ b o,b≠S→s.heap.get? b=some o→h'.get? b=some o)→h'.get? S=some { cls:=.type "list", dict:=none,data:=.seq acc' c',slots:=#[] }→acc'.toList.Perm (es.toList.map (·.2))→R (.ok (.ret res)) { s with heap:=h',drawn:=d',toks:=tk }) :
  wpAny (model prog w) A.in1 (Builtin.List.listExtendWith (.ref S) (.ref a) res)
   (fun fin s'=>match fin with | .done f=>R (.ok f) s' | .again c'=>c'.quiet=true∧codeAny (model prog w) A c' R s') (fun e s'=>R (.error e) s') s:=by
 have hz:=fits_of_scanBound hfew;have halt:a<s.heap.objs.size:=Heap.lt_size ho
 have hSlt:S<s.heap.objs.size:=Heap.lt_size hS
 have hSa:S≠a:=fun e=>by
  rw[e,ho]at hS
  cases hS
  cases hd
 have hT:s.TypeIs (.ref a) "set" := ⟨o,ho,hx.1⟩
 have e1:Builtin.List.listSameRef (.ref S) (.ref a)=false:=by simp[Builtin.List.listSameRef,hSa]
 have key:∀ (h2:Heap) (d2:Drawn) (c tk:Nat) (I:Addr) (fp:List Addr) (l:List Value) (St:Nat→Heap→Prop),l.length=es.size→l.Perm (es.toList.map (·.2))→Walks prog w A.in1 I fp [I] es.size (fun i v=>l[i]? = some v) St→S∉fp→s.heap.objs.size≤I→
   (∀ b o,b≠S→s.heap.get? b=some o→h2.get? b=some o)→h2.get? S=some { cls:=.type "list", data:=.seq #[] c }→St 0 h2→codeAny (model prog w) A (.builtin "list.extend.loop" ⟨[.ref S,.ref I,res],[]⟩) R { s with heap:=h2,drawn:=d2,toks:=tk }:=by
  intro h2 d2 c tk I fp l St hl hp W hSf hI hk hS2 hst
  refine codeAny_extend_loopS W.toS hz S hSf res es.size 0 _ #[] c rfl (Nat.zero_le _) hst hS2 (ItemsOf.nil _) fun s' acc' c' hm hS' hacc=>?_
  rw[Moved.eq_with hm];refine hR s'.heap d2 s'.toks acc' c' (fun b o hb e=>hm.heap b o (fun hmem=>?_) (hk b o hb e)) hS' (by rw[yF (by rw[hl]; exact hacc)]; exact hp)
  rcases List.mem_cons.mp hmem with e' | hmem
  ·exact hb e'
  ·have:=Heap.lt_size e
   rw[List.mem_singleton.mp hmem]at this
   exact absurd this (Nat.not_lt.mpr hI)
 unfold Builtin.List.listExtendWith;refine wpAny_bind (wpAny_typeOf hT ?_)
 rw[if_neg (by rw[e1]; decide)]
 /- the list makes room, then the loop -/
 have touch:∀ (h2:Heap) (d2:Drawn) (I:Addr) (fp:List Addr) (l:List Value) (St:Nat→Heap→Prop),l.length=es.size→l.Perm (es.toList.map (·.2))→Walks prog w A.in1 I fp [I] es.size (fun i v=>l[i]? = some v) St→S∉fp→s.heap.objs.size≤I→
   (∀ b o,s.heap.get? b=some o→h2.get? b=some o)→St 0 h2→
   wpAny (model prog w) A.in1 (updateSeq S (·.push .none) >>= fun _=>updateSeq S (·.pop)) (fun _ s'=>codeAny (model prog w) A (.builtin "list.extend.loop" ⟨[.ref S,.ref I,res],[]⟩) R s') (fun e s'=>R (.error e) s') { s with heap:=h2,drawn:=d2 }:=by
  intro h2 d2 I fp l St hl hp W hSf hI hk hst
  have hS₁:=hk _ _ hS;refine wpAny_bind (wpAny_updateSeq hS₁ rfl ?_)
  have hS₂:=Heap.get?_update_self (Obj.mapSeq (·.push Value.none)) hS₁ rfl;refine wpAny_updateSeq (hz:=by seq_fits) hS₂ rfl ?_
  have hS₃:=Heap.get?_update_self (Obj.mapSeq (·.pop)) hS₂ rfl
  have oth:∀ b o,b≠S→h2.get? b=some o→((h2.update S (Obj.mapSeq (·.push Value.none))).update S (Obj.mapSeq (·.pop))).get? b=some o:=fun b o hb e=>
   (Heap.get?_update_other _ _ (Ne.symm hb)).trans ((Heap.get?_update_other _ _ (Ne.symm hb)).trans e)
  exact key _ d2 _ s.toks I fp l St hl hp W hSf hI (fun b o hb e=>oth b o hb (hk b o e)) hS₃ (W.frame 0 _ _ hst fun b hb o e=>oth b o (fun z=>hSf (z ▸ hb)) e)
 refine wpAny_bind (A1 ho hx hd hf hfew (fun hnd=>?_) fun ps d' hp=>?_)
 ·have hTi:Shared.TypeIs { s with heap:=s.heap.push { cls:=.type "set_iterator", data:=.fields #[.int 0 0,.int 0 0,.ref a,.int es.size 0,.int ep 0] } } (.ref a) "set" := ⟨o,Heap.get?_push_of_some _ ho,hx.1⟩
  refine wpAny_bind (wpAny_holding (pj hTi ?_))
  have hn:w.params.followText "set-order" = true∨(!t.plain&&decide (es.size>1))=false:=by
   cases hb:w.params.followText "set-order" with
   | true=>exact .inl rfl
   | false=>rw[hb]at hnd; exact .inr (by simpa using hnd)
  have hst:IsSI (s.heap.push { cls:=.type "set_iterator", data:=.fields #[.int 0 0,.int 0 0,.ref a,.int es.size 0,.int ep 0] }) s.heap.objs.size (.int (dH w t 0) 0) 0 a es.size ep:=by
   refine⟨_,Heap.get?_push_size _ rfl,rfl,?_⟩
   unfold dH;split <;> simp
  refine wpAny_ite_split (fun _=>?_) (fun hab=>absurd (by decide +kernel) hab)
  refine wpAny_bind (wpAny_rule ?_)
  refine wpAny_bind (wpAny_mono (touch _ s.drawn _ _ _ _ (by rw[(ix (w:=w) a ep es).length_eq]; simp) (ix a ep es) (ES (A:=A.in1) hh s.heap.objs.size a (Nat.ne_of_lt halt) hd hf hg hn) (fun hm=>?_) (Nat.le_refl _) (fun b o e=>Heap.get?_push_of_some _ e) ⟨hst,Heap.get?_push_of_some _ ho⟩) (fun _ s' hc=>wpAny_pure ⟨plainId_quiet F.plain_extend_loop _,hc⟩) (fun _ _ he=>he))
  rcases List.mem_cons.mp hm with z | z
  ·exact absurd z (Nat.ne_of_lt hSlt)
  ·exact hSa (List.mem_singleton.mp z)
 ·have hTi:Shared.TypeIs { s with heap:=(s.heap.push { cls:=.type "tuple", data:=.seq (ps.map fun i:Nat=>rawInt i).toArray }).push { cls:=.type "set_iterator", data:=.fields #[.ref s.heap.objs.size,.int 0 0,.ref a,.int es.size 0,.int ep 0] },drawn:=d' } (.ref a) "set" := ⟨o,Heap.get?_push_of_some _ (Heap.get?_push_of_some _ ho),hx.1⟩
  refine wpAny_bind (wpAny_holding (pj hTi ?_))
  refine wpAny_ite_split (fun _=>?_) (fun hab=>absurd (by decide +kernel) hab)
  refine wpAny_bind (wpAny_rule ?_)
  have hst:IsSI ((s.heap.push { cls:=.type "tuple", data:=.seq (ps.map fun i:Nat=>rawInt i).toArray }).push { cls:=.type "set_iterator", data:=.fields #[.ref s.heap.objs.size,.int 0 0,.ref a,.int es.size 0,.int ep 0] }) (s.heap.objs.size+1) (.ref s.heap.objs.size) 0 a es.size ep:=by
   have:=Heap.get?_push_size (s.heap.push { cls:=.type "tuple", data:=.seq (ps.map fun i:Nat=>rawInt i).toArray }) (rfl:Obj.isFreed { cls:=.type "set_iterator", data:=.fields #[.ref s.heap.objs.size,.int 0 0,.ref a,.int es.size 0,.int ep 0] }=false)
   rw[Heap.size_push]at this
   exact⟨_,this,rfl,rfl⟩
  refine wpAny_bind (wpAny_mono (touch _ d' _ _ _ _ (by rw[List.length_map,hp.length_eq]; simp) (qY hp) (Ey (A:=A.in1) hh (s.heap.objs.size+1) a s.heap.objs.size (Nat.ne_of_lt (Nat.lt_succ_of_lt halt)) (Nat.ne_of_lt (Nat.lt_succ_self _)) hd hf rfl hp) (fun hm=>?_) (Nat.le_succ _) (fun b o e=>Heap.get?_push_of_some _ (Heap.get?_push_of_some _ e)) ⟨hst,Heap.get?_push_of_some _ (Heap.get?_push_of_some _ ho),Heap.get?_push_of_some _ (Heap.get?_push_size _ rfl)⟩) (fun _ s' hc=>wpAny_pure ⟨plainId_quiet F.plain_extend_loop _,hc⟩) (fun _ _ he=>he))
  rcases List.mem_cons.mp hm with z | z
  ·exact absurd z (Nat.ne_of_lt (Nat.lt_succ_of_lt hSlt))
  ·rcases List.mem_cons.mp z with z | z
   ·exact hSa z
   ·exact absurd (List.mem_singleton.mp z) (Nat.ne_of_lt hSlt)
theorem uE{a:Addr}{o:Obj}{es:Array (Int × Value)}{ep:Nat}{t:SetTable}{Q:List Value→Shared→Prop}(hh:A.handled=none)(ho:s.heap.get? a=some o)(hx:o.ExactSet)(hd:o.data = .set es ep t)(hf:t.fits es.size=true)(hfew:es.size<scanBound)(hg:cV (cx w) t)
  (hQ:∀ h' d' tk acc,(∀ b o,s.heap.get? b=some o→h'.get? b=some o)→s.heap.objs.size<h'.objs.size→acc.Perm (es.toList.map (·.2))→Q acc { s with heap:=h',drawn:=d',toks:=tk }):wpAny (model prog w) A (collect (.ref a)) Q E s:=by
 have ext:∀ R:Result→Shared→Prop,(∀ h' d' tk acc' c',(∀ b o,s.heap.get? b=some o→h'.get? b=some o)→h'.get? s.heap.objs.size=some { cls:=.type "list", dict:=none,data:=.seq acc' c',slots:=#[] }→acc'.toList.Perm (es.toList.map (·.2))→R (.ok (.ret (.ref s.heap.objs.size))) { s with heap:=h',drawn:=d',toks:=tk })→
   codeAny (model prog w) A (.builtin "proto.collect" ⟨[.ref a],[]⟩) R s:=fun R hR=>by
  refine codeAny_builtin F.entry_proto_collect ?_
  rw[Around.under_plainId F.plain_proto_collect _];show wpAny _ A.in1 (newList [] >>= fun l=>again (.builtin "list.__iadd__" ⟨[l,.ref a],[]⟩)) _ _ s
  refine wpAny_bind (wpAny_newObj_type ?_)
  refine wpAny_pure ⟨plainId_quiet F.plain_list_iadd _,codeAny_builtin F.entry_list_iadd ?_⟩
  rw[Around.under_plainId F.plain_list_iadd _];show wpAny _ A.in1 (Builtin.List.listExtendWith (.ref s.heap.objs.size) (.ref a) (.ref s.heap.objs.size)) _ _ _
  refine vF (R:=R) (s:={ s with heap:=s.heap.push { cls:=.type "list", data:=.seq ([]:List Value).toArray } }) hh (Heap.get?_push_of_some _ ho) hx hd hf hfew hg s.heap.objs.size _ 0 (Heap.get?_push_size _ rfl) fun h' d' tk acc' c' hk hS' hp=>?_
  exact hR h' d' tk acc' c' (fun b o e=>hk b o (Nat.ne_of_lt (Heap.lt_size e)) (Heap.get?_push_of_some _ e)) hS' hp
 unfold collect;refine wpAny_bind (wpAny_runValue (ext _ fun h' d' tk acc' c' hk hS' hp=>?_))
 show wpAny _ A (load s.heap.objs.size >>= _) _ _ _
 refine wpAny_bind (wpAny_load hS' ?_)
 exact wpAny_pure (hQ h' d' tk acc'.toList hk (Heap.lt_size hS') hp)
end
section
variable{X:Cx}
end
end L2
namespace L2
open PySem PySem.Spec PyProof PyProof.Rows
section
variable{X:Cx}
theorem wV:bootBuiltins "max" = some (.builtin "max"):=by decide +kernel
end
end L2
namespace L2
open PySem PySem.Spec PyProof PyProof.Rows
inductive Ents (w:World):List DictEntry→List (Str × V)→Prop
 | nil:Ents w [] []
 | cons {x:Str} {t:Tok} {y:V} {v:Value} {es:List DictEntry} {kvs:List (Str × V)}:RelV y v→Ents w es kvs→Ents w (⟨PyData.keyHash w.params x,.str x t,v⟩::es) ((x,y)::kvs)
theorem Ents.vs{P:Program}{w:World}{es:List DictEntry}{kvs:List (Str × V)}(h:Ents w es kvs):∃ vs:List (Str × Value),KV kvs vs∧PySem.Pairs (PySem.strKind P w) es vs∧vs.map (·.1)=kvs.map (·.1)∧∀ e∈es,∃ k,(PySem.strKind P w).is k e.key=true∧e.hash=(PySem.strKind P w).hash k:=by
 induction h with
 | nil=>exact⟨[],.nil,.nil,rfl,fun _ h=>nomatch h⟩
 | @cons x t y v es kvs r _ ih=>
  obtain⟨vs,h1,h2,h3,h4⟩:=ih
  have hx:(PySem.strKind P w).is x (.str x t)=true:=by show Value.isStrOf x (.str x t)=true; simp[Value.isStrOf]
  refine⟨(x,v)::vs,.cons ⟨rfl,r⟩ h1,.cons hx rfl h2,by rw[List.map_cons,List.map_cons,h3],fun e he=>?_⟩
  rcases List.mem_cons.mp he with rfl | he
  ·exact⟨x,hx,rfl⟩
  ·exact h4 e he
structure ModD (w:World) (K:PySem.W.Frag) (d:Addr) (kvs:List (Str × V)):Prop where
 low:(d == sysModules)=false
 nd:(kvs.map (·.1)).Nodup
 at':∃ (o:Obj) (es:List DictEntry) (ep:Nat),K.lookup d=some o∧o.ExactDict∧o.data = .dict es.toArray ep∧Ents w es kvs
section
variable{X:Cx}{pins:List (Addr × Obj)}{σ : St}{H:Hp}{s:Shared}{d:Addr}{kvs:List (Str × V)}
theorem ModD.dict(h:ModD X.w X.K d kvs)(I:Inv X pins σ H s):∃ vs:List (Str × Value),KV kvs vs∧s.heap.DictOf (PySem.strKind X.prog X.w) d vs∧∃ ob,s.heap.get? d=some ob∧ob.dict=none:=by
 obtain⟨o,es,ep,h1,h2,h3,h4⟩:=h.at'
 obtain⟨vs,r1,r2,r3,r4⟩:=h4.vs (P:=X.prog)
 have e:=I.kIn d o h1;exact⟨vs,r1,⟨o,es.toArray,ep,e,h2,h3,fun x hx=>r4 x (by simpa using hx),by simpa using r2,by rw[r3]; exact h.nd⟩,o,e,h2.2.1⟩
theorem vS{P:Program}{w:World}{k:Str}{u:Value}(r:RelV (.str k) u):(PySem.strKind P w).is k u=true:=by
 obtain⟨t,rfl⟩:=r
 show Value.isStrOf k (.str k t)=true
 simp[Value.isStrOf]
end
section
variable{X:Cx}
def Ip(w:World)(K:PySem.W.Frag):R2:=fun x y H Q=>∃ d kvs k z,x = .ref d∧y = .str k∧ModD w K d kvs∧cr kvs k=some z∧Q z H
theorem Gi(w:World)(K:PySem.W.Frag)(hw:X.w=w:=by rfl)(hK:X.K=K:=by rfl):IxR X (Ip w K):=by
 subst hw hK;intro value slice pins s σ H x y v u Q I rx ry h hs
 obtain⟨d,kvs,k,z,rfl,rfl,m,l,q⟩:=h
 cases rx;obtain⟨vs,rel,dd,_⟩:=m.dict I
 obtain⟨w',hw,rw'⟩:=RelO.some_of (v:=z) (o:=valueAt vs k) (by rw[← l]; exact rel.val k)
 have hl:typeLookup (.type "dict") "__getitem__" = pure (some (.builtin "dict.__getitem__")):=PySem.F.slot_dict_getitem.lookup
 exact subscriptTail_builtinR (x:=w') dd.typeIs hl (wpAny_getItem_of (vS ry) dd.mapOf hw ⟨rfl,z,H,I.tok _,rw',q⟩) hs
def Ep(w:World)(K:PySem.W.Frag):V→List V→Hp→VK→Prop:=fun x xs H Q=>∃ d kvs k z,x = .ref d∧xs=[.str k,z]∧ModD w K d kvs∧Q ((cr kvs k).getD z) H
theorem AC(w:World)(K:PySem.W.Frag)(hw:X.w=w:=by rfl)(hK:X.K=K:=by rfl):MtR X "dict.get" (Ep w K):=by
 subst hw hK;intro pins s σ H x vs v us Q I rx rv h
 obtain⟨d,kvs,k,z,rfl,rfl,m,q⟩:=h
 cases rx;obtain⟨u,r,rfl,ru,rr⟩:=j_ rv
 obtain⟨vs,rel,dd,_⟩:=m.dict I
 refine call_meetsIn PySem.F.slot_dict_get dd.typeIs PySem.F.entry_dict_get (PySem.F.args_dict_get_3 _ _ _) (meets_dict_get_default (PySem.strKind X.prog X.w) d (vS ru) m.low r) ⟨_,dd.mapOf,_,H,I.tok _,?_,q⟩
 exact(rel.val k).getD rr
def CF(w:World)(K:PySem.W.Frag)(r:V→List V→Hp→VK→Prop)(to:TE)(t:TA):TE:=fun σ H Q=>to σ H fun x H1=>(∃ d kvs,x = .ref d∧ModD w K d kvs)∧t σ H1 fun xs H2=>r x xs H2 Q
theorem CU{o e:Expr}{es:List Expr}{to:TE}{t:TA}{name:Str}{apos cpos:Pos}{id:String}{r:V→List V→Hp→VK→Prop}(w:World)(K:PySem.W.Frag)(pa:PlainAttrs "dict") (slot:Slot "dict" name id) (hty:typeOf (.builtin id)=pure (.type "method_descriptor")) (hm:MtR X id r) (ho:PE X o to) (ha:PA X (e::es) t)
  (hbase:attributeBase o name X.env (eval o X.env)=eval o X.env:=by rfl)
  (hfew:((backTo cpos (starEach (e::es) X.env)).all (fun x=>!x.1)&&(backToKw cpos (keywordEach [] X.env)).all (fun x=>x.1.isSome)&&decide ((e::es).length+([]:List Keyword).length+(if ([]:List Keyword).isEmpty then 0 else 1)<30))=true:=by rfl)
  (hline:(apos.endLine == cpos.line)=true:=by rfl) (hs:starEach (e::es) X.env=(false,eval e X.env)::starEach es X.env:=by rfl) (hplain:(backTo cpos (starEach es X.env)).any (·.1)=false:=by rfl) (hw:X.w=w:=by rfl) (hK:X.K=K:=by rfl) :
  PE X (.Call (.Attribute o name apos) (e::es) [] cpos) (CF w K r to t):=by
 subst hw hK;intro pins s σ H Q I h
 refine wpAny_Call_method_late hbase hfew hline rfl (bx (ho pins s σ H _ I h) fun v s1 ⟨x,H1,I1,r1,ty,q1⟩=>?_)
 obtain⟨d,kvs,rfl,m⟩:=ty
 have e1:v = .ref d:=r1
 subst e1;obtain⟨vs,rel,dd,ob,eo,en⟩:=m.dict I1
 refine⟨"dict", id,pa,slot,hty,dd.typeIs,fun a ea=>⟨ob,by cases ea; exact eo,en⟩,?_⟩
 have hA:=ha cpos pins s1 σ H1 _ I1 q1;rw[hs]at hA ⊢
 refine Calls.callWith_builtin (by show (false||(backTo cpos (starEach es X.env)).any (·.1))=false; rw[hplain] <;> rfl) (Calls.evalArgs_plain ?_)
 exact bx hA fun us s2 ⟨vs,H2,I2,r2,q2⟩=>hm pins s2 σ H2 _ vs _ us Q I2 r1 r2 q2
end
theorem sv{w:World}{K:PySem.W.Frag}{r:V→List V→Hp→VK→Prop}{to:TE}{t:TA}{σ : St}{H:Hp}{Q:VK}:CF w K r to t σ H Q=to σ H fun x H1=>(∃ d kvs,x = .ref d∧ModD w K d kvs)∧t σ H1 fun xs H2=>r x xs H2 Q:=rfl
end L2
namespace L2
open PySem PySem.Spec PyProof PyProof.Rows
section
variable{prog:Program}{w:World}{A:Around}{E:Value→Shared→Prop}{s:Shared}
def TSt(i t:Addr)(zs:Array Value)(k:Nat)(h:Heap):Prop:=h.IsTupleIter i t k∧h.IsTuple t zs
theorem TSt.ext{i t b:Addr}{zs:Array Value}{k:Nat}{h h':Heap}(x:TSt i t zs k h)(hs:Heap.ExtBut b h h')(n1:i≠b)(n2:t≠b):TSt i t zs k h':=⟨x.1.extBut hs n1,x.2.extBut hs n2⟩
theorem jW{i t:Addr}{k:Nat}{zs:Array Value}{v:Value}{Q:Value→Shared→Prop}(st:TSt i t zs k s.heap)(nit:t≠i)(hv:zs[k]? = some v)
  (q:∀ h',TSt i t zs (k+1) h'→Heap.SameBut i s.heap h'→Q v { s with heap:=h' }):wpAny (model prog w) A (Builtin.SmallTypes.nextOf (.ref i)) Q E s:=by
 obtain⟨hi,ht⟩:=id st
 obtain⟨ob,e1,e2,e3⟩:=id hi
 obtain⟨ot,f1,_,m,f2⟩:=id ht
 unfold Builtin.SmallTypes.nextOf;refine wpAny_bind (wpAny_callSpecial?_slot (name:=Str.ofString "__next__") hi.typeIs PySem.F.slot_tuple_iterator_next (wpAny_call_entry PySem.F.slot_tuple_iterator_next hi.typeIs PySem.F.entry_tuple_iterator_next ?_ (PySem.F.args_tuple_iterator_next_1 _)))
 show wpAny _ _ (field (.ref i) 0 >>= _) _ _ s
 refine wpAny_bind (wpAny_field e1 e3 (x:=.ref t) rfl ?_)
 show wpAny _ _ (if (Value.ref t == Value.none)=true then _ else _) _ _ s
 have hno:¬ ((Value.ref t == Value.none)=true):=Bool.false_ne_true
 rw[if_neg hno];show wpAny _ _ (field (.ref i) 1 >>= _) _ _ s
 refine wpAny_bind (wpAny_field e1 e3 (x:=.int k 0) rfl ?_)
 show wpAny _ _ (seqItems? (.ref t) >>= _) _ _ s
 refine wpAny_bind (wpAny_seqItems f1 f2 ?_)
 simp only[Int.toNat_natCast,hv]
 refine wpAny_bind (wpAny_setField e1 e3 (by simp) (wpAny_pure ⟨v,rfl,wpAny_pure (q _ ⟨?_,?_⟩ (Heap.SameBut.update ..))⟩))
 ·exact⟨_,Heap.get?_update_self _ e1 (Obj.isFreed_of_fields (Obj.data_mapFields e3 _)),(Obj.cls_mapFields ..).trans e2,by rw[Obj.data_mapFields e3]; simp[rawInt]⟩
 ·exact ht.extBut (Heap.SameBut.update ..).extBut nit
theorem sY{i t:Addr}{k:Nat}{zs:Array Value}{Q:Value→Shared→Prop}(hh:A.handled=none)(st:TSt i t zs k s.heap)(hv:zs[k]? = none)
  (q:∀ h' e,Heap.ExtBut i s.heap h'→(∃ o,h'.get? e=some o∧o.cls = .type "StopIteration")→E (.ref e) { s with heap:=h' }):wpAny (model prog w) A (Builtin.SmallTypes.nextOf (.ref i)) Q E s:=by
 obtain⟨hi,ht⟩:=id st
 obtain⟨ob,e1,e2,e3⟩:=id hi
 obtain⟨ot,f1,_,m,f2⟩:=id ht
 unfold Builtin.SmallTypes.nextOf;refine wpAny_bind (wpAny_callSpecial?_slot (name:=Str.ofString "__next__") hi.typeIs PySem.F.slot_tuple_iterator_next (wpAny_call_entry PySem.F.slot_tuple_iterator_next hi.typeIs PySem.F.entry_tuple_iterator_next ?_ (PySem.F.args_tuple_iterator_next_1 _)))
 show wpAny _ _ (field (.ref i) 0 >>= _) _ _ s
 refine wpAny_bind (wpAny_field e1 e3 (x:=.ref t) rfl ?_)
 show wpAny _ _ (if (Value.ref t == Value.none)=true then _ else _) _ _ s
 have hno:¬ ((Value.ref t == Value.none)=true):=Bool.false_ne_true
 rw[if_neg hno];show wpAny _ _ (field (.ref i) 1 >>= _) _ _ s
 refine wpAny_bind (wpAny_field e1 e3 (x:=.int k 0) rfl ?_)
 show wpAny _ _ (seqItems? (.ref t) >>= _) _ _ s
 refine wpAny_bind (wpAny_seqItems f1 f2 ?_)
 simp only[Int.toNat_natCast,hv]
 refine wpAny_bind (wpAny_rule (wpAny_bind (wpAny_setField e1 e3 (by simp) ?_)))
 show wpAny _ _ (newExc (.type "StopIteration") [] >>= fun z=>_) _ _ _
 refine wpAny_bind ?_
 simp only[newTuple,newExc]
 refine wpAny_bind (wpAny_newObj_type (hd:=by size_fits) ?_)
 refine wpAny_bind (m:=firstArgMember _ _) (wpAny_of_eq (a:=Value.none) (by first | (simp only[firstArgMember]; rfl) | rfl) ?_)
 refine wpAny_newObj_type (hd:=by size_fits) ?_
 simp only[raiseNew]
 refine wpAny_bind (wpAny_handled ?_)
 have hn:A.in1.handled=none:=hh
 first | rw[hn] | rw[hh]
 refine wpAny_bind (wpAny_pure (wpAny_throw (q _ _ (((Heap.SameBut.update ..).extBut.push _).push _) ⟨_,Heap.get?_push_size _ rfl,rfl⟩)))
variable{z TI TO i1 i2 t1 t2:Addr}{xs ys:Array Value}{k1 k2:Nat}{a b:Value}
theorem v2{x y:Value}{Q:Value→Shared→Prop}(D:ZipApart z TI TO i1 i2 t1 t2)(gz:IsZip s.heap z TI TO .none)(gI:IsPair s.heap TI (.ref i1) (.ref i2))(gO:IsPair s.heap TO a b)
  (g1:TSt i1 t1 xs k1 s.heap) (g2:TSt i2 t2 ys k2 s.heap) (hx:xs[k1]? = some x) (hy:ys[k2]? = some y)
  (q:∀ h',IsZip h' z TI TO (rawInt s.heap.objs.size)→IsPair h' TO x y→TSt i1 t1 xs (k1+1) h'→TSt i2 t2 ys (k2+1) h'→IsPair h' s.heap.objs.size x y→h'.objs.size=s.heap.objs.size+1→
   (∀ c o,c≠z→c≠TO→c≠i1→c≠i2→s.heap.get? c=some o→h'.get? c=some o)→Q (.ref s.heap.objs.size) { s with heap:=h' }) :
  wpAny (model prog w) A (Builtin.«zip.__next__» ⟨[.ref z],[]⟩) (fun fin s'=>∃ v,fin = .done (.ret v)∧Q v s') E s:=by
 show wpAny _ _ (field (.ref z) 2 >>= fun _=>_) _ _ _
 refine wpAny_bind (wpAny_field gz rfl (x:=.bool false) rfl ?_)
 show wpAny _ _ (field (.ref z) 3 >>= fun _=>_) _ _ _
 refine wpAny_bind (wpAny_field gz rfl (x:=.ref TI) rfl (wpAny_bind (wpAny_seqItems gI rfl ?_)))
 show wpAny _ _ (Builtin.SmallTypes.ownedTupleIsFree (.ref z) >>= fun _=>_) _ _ _
 refine wpAny_bind ?_
 unfold Builtin.SmallTypes.ownedTupleIsFree;refine wpAny_bind (wpAny_field gz rfl (x:=.none) rfl (wpAny_pure ?_))
 simp only[if_true]
 refine wpAny_bind (wpAny_rule (wpAny_bind (wpAny_field gz rfl (x:=.ref TO) rfl (wpAny_bind (wpAny_setField_rec gz (by simp) fun ha z1 m1=>?_)))))
 replace z1:IsZip ha z TI TO .ellipsis:=z1
 refine wpAny_bind ?_
 simp only[List.zipIdx_nil,List.zipIdx_cons,List.forIn_nil,List.forIn_cons]
 refine wpAny_bind (wpAny_bind (wpAny_onRaise ?_))
 show wpAny _ _ (Builtin.SmallTypes.nextOf (.ref i1) >>= fun _=>_) _ _ _
 refine wpAny_bind (jW (g1.ext m1.extBut D.i1z D.l1z) D.l1i1 hx fun hb r1 m2=>wpAny_pure ?_)
 have o2:IsPair hb TO a b:=m2.extBut _ _ D.TOi1 (m1.extBut _ _ D.TOz gO)
 refine wpAny_bind (wpAny_seqItems o2 rfl (wpAny_bind (wpAny_updateSeq_pair o2 fun hc o3 m3=>wpAny_bind (wpAny_letGo (wpAny_pure ?_)))))
 replace o3:IsPair hc TO x b:=o3
 refine wpAny_bind (wpAny_bind (wpAny_onRaise ?_))
 show wpAny _ _ (Builtin.SmallTypes.nextOf (.ref i2) >>= fun _=>_) _ _ _
 refine wpAny_bind (jW (((g2.ext m1.extBut D.i2z D.l2z).ext m2.extBut D.i12.symm D.l2i1).ext m3.extBut D.TOi2.symm D.l2TO) D.l2i2 hy fun hd r2 m4=>wpAny_pure ?_)
 have o4:IsPair hd TO x b:=m4.extBut _ _ D.TOi2 o3
 refine wpAny_bind (wpAny_seqItems o4 rfl (wpAny_bind (wpAny_updateSeq_pair o4 fun he o5 m5=>wpAny_bind (wpAny_letGo (wpAny_pure (wpAny_pure ?_))))))
 replace o5:IsPair he TO x y:=o5
 refine wpAny_bind (wpAny_seqItems o5 rfl (wpAny_bind (wpAny_newTuple ?_)))
 have hsz:he.objs.size=s.heap.objs.size:=by rw[m5.1,m4.1,m3.1,m2.1,m1.1]
 have z5:IsZip he z TI TO .ellipsis:=m5.extBut _ _ D.TOz.symm (m4.extBut _ _ D.i2z.symm (m3.extBut _ _ D.TOz.symm (m2.extBut _ _ D.i1z.symm z1)))
 have kp:∀ c o,c≠z→c≠TO→c≠i1→c≠i2→s.heap.get? c=some o→he.get? c=some o:=fun c o c1 c2 c3 c4 e=>m5.extBut _ _ c2 (m4.extBut _ _ c4 (m3.extBut _ _ c2 (m2.extBut _ _ c3 (m1.extBut _ _ c1 e))))
 have r1':TSt i1 t1 xs (k1+1) he:=((r1.ext m3.extBut D.TOi1.symm D.l1TO).ext m4.extBut D.i12 D.l1i2).ext m5.extBut D.TOi1.symm D.l1TO
 have r2':TSt i2 t2 ys (k2+1) he:=r2.ext m5.extBut D.TOi2.symm D.l2TO
 have zlt:z<he.objs.size:=Heap.lt_size z5
 show wpAny _ _ (Builtin.SmallTypes.ownedTupleHandOut (.ref z) (.ref he.objs.size) >>= fun _=>_) _ _ _
 refine wpAny_bind ?_
 unfold Builtin.SmallTypes.ownedTupleHandOut;have z6:IsZip (he.push { cls:=.type "tuple", data:=.seq #[x,y] }) z TI TO .ellipsis:=Heap.get?_push_of_some _ z5
 refine wpAny_bind (wpAny_setField_rec z6 (by simp) fun hf z7 m7=>?_)
 replace z7:IsZip hf z TI TO (rawInt he.objs.size):=z7
 refine wpAny_setField_rec z7 (by simp) fun hg z8 m8=>?_
 replace z8:IsZip hg z TI TO (rawInt he.objs.size):=z8
 have up:∀ c o,c≠z→he.get? c=some o→hg.get? c=some o:=fun c o c1 e=>m8.extBut _ _ c1 (m7.extBut _ _ c1 (Heap.get?_push_of_some _ e))
 have t8:IsPair hg he.objs.size x y:=m8.extBut _ _ (Nat.ne_of_gt zlt) (m7.extBut _ _ (Nat.ne_of_gt zlt) (Heap.get?_push_size _ rfl))
 have s8:hg.objs.size=he.objs.size+1:=by rw[m8.1,m7.1,Heap.size_push]
 rw[hsz]at z8 t8 s8
 refine wpAny_pure ⟨_,rfl,?_⟩
 show Q (.ref he.objs.size) _
 rw[hsz];have ex:Heap.ExtBut z he hg:=fun c o c1 e=>up c o c1 e
 exact q hg z8 (up _ _ D.TOz o5) (r1'.ext ex D.i1z D.l1z) (r2'.ext ex D.i2z D.l2z) t8 s8 fun c o c1 c2 c3 c4 e=>up c o c1 (kp c o c1 c2 c3 c4 e)
theorem yO{Q:Fin→Shared→Prop}(hh:A.handled=none)(D:ZipApart z TI TO i1 i2 t1 t2)(gz:IsZip s.heap z TI TO .none)(gI:IsPair s.heap TI (.ref i1) (.ref i2))(gO:IsPair s.heap TO a b)
  (g1:TSt i1 t1 xs k1 s.heap) (g2:TSt i2 t2 ys k2 s.heap) (hend:xs[k1]? = none∨ys[k2]? = none)
  (q:∀ h' e,(∀ c o,c≠z→c≠TO→c≠i1→c≠i2→s.heap.get? c=some o→h'.get? c=some o)→(∃ o,h'.get? e=some o∧o.cls = .type "StopIteration")→E (.ref e) { s with heap:=h' }) :
  wpAny (model prog w) A (Builtin.«zip.__next__» ⟨[.ref z],[]⟩) Q E s:=by
 show wpAny _ _ (field (.ref z) 2 >>= fun _=>_) _ _ _
 refine wpAny_bind (wpAny_field gz rfl (x:=.bool false) rfl ?_)
 show wpAny _ _ (field (.ref z) 3 >>= fun _=>_) _ _ _
 refine wpAny_bind (wpAny_field gz rfl (x:=.ref TI) rfl (wpAny_bind (wpAny_seqItems gI rfl ?_)))
 show wpAny _ _ (Builtin.SmallTypes.ownedTupleIsFree (.ref z) >>= fun _=>_) _ _ _
 refine wpAny_bind ?_
 unfold Builtin.SmallTypes.ownedTupleIsFree;refine wpAny_bind (wpAny_field gz rfl (x:=.none) rfl (wpAny_pure ?_))
 simp only[if_true]
 refine wpAny_bind (wpAny_rule (wpAny_bind (wpAny_field gz rfl (x:=.ref TO) rfl (wpAny_bind (wpAny_setField_rec gz (by simp) fun ha z1 m1=>?_)))))
 replace z1:IsZip ha z TI TO .ellipsis:=z1
 refine wpAny_bind ?_
 simp only[List.zipIdx_nil,List.zipIdx_cons,List.forIn_nil,List.forIn_cons]
 refine wpAny_bind (wpAny_bind (wpAny_onRaise ?_))
 show wpAny _ _ (Builtin.SmallTypes.nextOf (.ref i1) >>= fun _=>_) _ _ _
 have stop:∀ {h':Heap} {e:Addr},IsZip h' z TI TO .ellipsis→(∃ o,h'.get? e=some o∧o.cls = .type "StopIteration")→e≠z:=fun {h' e} hz ⟨o,ho,hc⟩ n=>by
  subst n; rw[hz]at ho; cases ho; simp at hc
 rcases hx:xs[k1]? with _ | x
 ·refine wpAny_bind (sY hh (g1.ext m1.extBut D.i1z D.l1z) hx fun hb e m2 he=>?_)
  have z2:IsZip hb z TI TO .ellipsis:=m2 _ _ D.i1z.symm z1
  have nz:=stop z2 he;obtain⟨oe,p1,p2⟩:=he
  exact wpAny_setField_rec z2 (by simp) fun hc _ m3=>q hc e (fun c o c1 _ c3 _ x=>m3.extBut _ _ c1 (m2 _ _ c3 (m1.extBut _ _ c1 x))) ⟨oe,m3.extBut _ _ nz p1,p2⟩
 ·have hy:ys[k2]? = none:=by
   rcases hend with h | h
   ·rw[hx]at h; cases h
   ·exact h
  refine wpAny_bind (jW (g1.ext m1.extBut D.i1z D.l1z) D.l1i1 hx fun hb r1 m2=>wpAny_pure ?_)
  have o2:IsPair hb TO a b:=m2.extBut _ _ D.TOi1 (m1.extBut _ _ D.TOz gO)
  refine wpAny_bind (wpAny_seqItems o2 rfl (wpAny_bind (wpAny_updateSeq_pair o2 fun hc o3 m3=>wpAny_bind (wpAny_letGo (wpAny_pure ?_)))))
  refine wpAny_bind (wpAny_bind (wpAny_onRaise ?_))
  show wpAny _ _ (Builtin.SmallTypes.nextOf (.ref i2) >>= fun _=>_) _ _ _
  refine wpAny_bind (sY hh (((g2.ext m1.extBut D.i2z D.l2z).ext m2.extBut D.i12.symm D.l2i1).ext m3.extBut D.TOi2.symm D.l2TO) hy fun hd e m4 he=>?_)
  have z4:IsZip hd z TI TO .ellipsis:=m4 _ _ D.i2z.symm (m3.extBut _ _ D.TOz.symm (m2.extBut _ _ D.i1z.symm z1))
  have nz:=stop z4 he;obtain⟨oe,p1,p2⟩:=he
  exact wpAny_setField_rec z4 (by simp) fun hg _ m5=>q hg e (fun c o c1 c2 c3 c4 x=>m5.extBut _ _ c1 (m4 _ _ c4 (m3.extBut _ _ c2 (m2.extBut _ _ c3 (m1.extBut _ _ c1 x))))) ⟨oe,m5.extBut _ _ nz p1,p2⟩
end
end L2
namespace L2
open PySem PySem.Spec PyProof PyProof.Rows
section
variable{prog:Program}{w:World}{A:Around}{E:Value→Shared→Prop}{s:Shared}{z TI TO i1 i2 t1 t2:Addr}{xs ys:Array Value}{k1 k2:Nat}{a b:Value}
theorem u7{x y:Value}{Q:Option Value→Shared→Prop}(D:ZipApart z TI TO i1 i2 t1 t2)(gz:IsZip s.heap z TI TO .none)(gI:IsPair s.heap TI (.ref i1) (.ref i2))(gO:IsPair s.heap TO a b)
  (g1:TSt i1 t1 xs k1 s.heap) (g2:TSt i2 t2 ys k2 s.heap) (hx:xs[k1]? = some x) (hy:ys[k2]? = some y)
  (q:∀ h',IsZip h' z TI TO (rawInt s.heap.objs.size)→IsPair h' TO x y→TSt i1 t1 xs (k1+1) h'→TSt i2 t2 ys (k2+1) h'→IsPair h' s.heap.objs.size x y→h'.objs.size=s.heap.objs.size+1→
   (∀ c o,c≠z→c≠TO→c≠i1→c≠i2→s.heap.get? c=some o→h'.get? c=some o)→Q (some (.ref s.heap.objs.size)) { s with heap:=h' }):wpAny (model prog w) A (pyNext (.ref z)) Q E s:=by
 have ty:s.TypeIs (.ref z) "zip" := ⟨_,gz,rfl⟩
 unfold pyNext
 exact wpAny_bind (wpAny_attempt (wpAny_callSpecial?_slot (name:=Str.ofString "__next__") ty PySem.F.slot_zip_next (wpAny_call_entry PySem.F.slot_zip_next ty PySem.F.entry_zip_next
  (v2 D gz gI gO g1 g2 hx hy fun h' a1 a2 a3 a4 a5 a6 a7=>wpAny_pure (q h' a1 a2 a3 a4 a5 a6 a7)) (PySem.F.args_zip_next_1 _))))
theorem xA{Q:Option Value→Shared→Prop}(hh:A.handled=none)(D:ZipApart z TI TO i1 i2 t1 t2)(gz:IsZip s.heap z TI TO .none)(gI:IsPair s.heap TI (.ref i1) (.ref i2))(gO:IsPair s.heap TO a b)
  (g1:TSt i1 t1 xs k1 s.heap) (g2:TSt i2 t2 ys k2 s.heap) (hend:xs[k1]? = none∨ys[k2]? = none)
  (q:∀ h',(∀ c o,c≠z→c≠TO→c≠i1→c≠i2→s.heap.get? c=some o→h'.get? c=some o)→Q none { s with heap:=h' }):wpAny (model prog w) A (pyNext (.ref z)) Q E s:=by
 have ty:s.TypeIs (.ref z) "zip" := ⟨_,gz,rfl⟩
 unfold pyNext
 refine wpAny_bind (wpAny_attempt (wpAny_callSpecial?_slot (name:=Str.ofString "__next__") ty PySem.F.slot_zip_next (wpAny_call_entry PySem.F.slot_zip_next ty PySem.F.entry_zip_next
  (yO hh D gz gI gO g1 g2 hend fun h' e kk he=>?_) (PySem.F.args_zip_next_1 _))))
 obtain⟨o,ho,hc⟩:=he
 exact wpAny_bind (wpAny_isInstance (T := "StopIteration") (b:=true) ⟨o,ho,hc⟩ isSubtype_stop (wpAny_pure (q _ kk)))
abbrev Af (h:Heap) (t1:Addr):Heap:=h.push { cls:=.type "tuple_iterator", data:=.fields #[.ref t1,.int 0 0] }
abbrev zS (h:Heap) (t1 t2:Addr):Heap:=(Af h t1).push { cls:=.type "tuple_iterator", data:=.fields #[.ref t2,.int 0 0] }
abbrev Ac (h:Heap) (t1 t2:Addr):Heap:=(zS h t1 t2).push { cls:=.type "tuple", data:=.seq #[.ref h.objs.size,.ref (Af h t1).objs.size] }
abbrev Ab (h:Heap) (t1 t2:Addr):Heap:=(Ac h t1 t2).push { cls:=.type "tuple", data:=.seq #[.none,.none] }
abbrev ma (h:Heap) (t1 t2:Addr):Heap:=(Ab h t1 t2).push { cls:=.type "zip", data:=.fields #[.none,.bool false,.bool false,.ref (zS h t1 t2).objs.size,.ref (Ac h t1 t2).objs.size] }
theorem vp(t1 t2:Addr)(xs ys:Array Value):Meets (Builtin.«zip.__new__» ⟨[.type "zip", .ref t1,.ref t2],[]⟩) (fun _ R s=>s.heap.IsTuple t1 xs∧s.heap.IsTuple t2 ys∧
   R (.ok (.ret (.ref (Ab s.heap t1 t2).objs.size))) { s with heap:=ma s.heap t1 t2 }):=
 .of_wp fun prog w A R s q=>by
  obtain⟨hp,g,d,tk,os⟩:=s
  obtain⟨e1,e2,q⟩:=q
  have hsub:=sub_zip;have f1:Heap.IsTuple (Shared.heap ⟨hp,g,d,tk,os⟩) t1 xs:=e1
  have f2:Heap.IsTuple (Shared.heap ⟨hp.push { cls:=.type "tuple_iterator", data:=.fields #[.ref t1,.int 0 0] },g,d,tk,os⟩) t2 ys:=Heap.IsTuple.push e2 _
  wp_walk using wpAny_pyIter_tuple f1,wpAny_pyIter_tuple f2
  exact⟨_,rfl,q⟩
theorem wX{Q:Value→Shared→Prop}(e1:s.heap.IsTuple t1 xs)(e2:s.heap.IsTuple t2 ys)
  (q:∀ h',IsZip h' (s.heap.objs.size+4) (s.heap.objs.size+2) (s.heap.objs.size+3) .none→IsPair h' (s.heap.objs.size+2) (.ref s.heap.objs.size) (.ref (s.heap.objs.size+1))→
   IsPair h' (s.heap.objs.size+3) .none .none→TSt s.heap.objs.size t1 xs 0 h'→TSt (s.heap.objs.size+1) t2 ys 0 h'→
   (∀ c o,s.heap.get? c=some o→h'.get? c=some o)→Q (.ref (s.heap.objs.size+4)) { s with heap:=h' }):wpAny (model prog w) A (call (.type "zip") [.ref t1,.ref t2]) Q E s:=by
 refine callType_new PySem.F.called_zip (by decide) (PySem.F.typeCall_zip_2 _ _) (PySem.F.newCall_zip_2 _ _) (fun obj=>PySem.F.args_object_init_3 obj _ _) PySem.F.entry_zip_new (vp t1 t2 xs ys) ⟨e1,e2,?_⟩
 have z1:(Af s.heap t1).objs.size=s.heap.objs.size+1:=Heap.size_push ..
 have z2:(zS s.heap t1 t2).objs.size=s.heap.objs.size+2:=by rw[Heap.size_push,z1]
 have z3:(Ac s.heap t1 t2).objs.size=s.heap.objs.size+3:=by rw[Heap.size_push,z2]
 have z4:(Ab s.heap t1 t2).objs.size=s.heap.objs.size+4:=by rw[Heap.size_push,z3]
 have p:∀ {h:Heap} {o:Obj} {c:Addr} {u:Obj},h.get? c=some u→(h.push o).get? c=some u:=fun e=>Heap.get?_push_of_some _ e
 have kk:∀ c o,s.heap.get? c=some o→(ma s.heap t1 t2).get? c=some o:=fun c o e=>p (p (p (p (p e))))
 have g5:(ma s.heap t1 t2).get? (Ab s.heap t1 t2).objs.size=some _:=Heap.get?_push_size _ rfl
 have g4:(ma s.heap t1 t2).get? (Ac s.heap t1 t2).objs.size=some _:=p (Heap.get?_push_size _ rfl)
 have g3:(ma s.heap t1 t2).get? (zS s.heap t1 t2).objs.size=some _:=p (p (Heap.get?_push_size _ rfl))
 have g2:(ma s.heap t1 t2).get? (Af s.heap t1).objs.size=some _:=p (p (p (Heap.get?_push_size _ rfl)))
 have g1:(ma s.heap t1 t2).get? s.heap.objs.size=some _:=p (p (p (p (Heap.get?_push_size _ rfl))))
 show _∧_
 rw[z2,z3,z4]at g5
 rw[z1,z2]at g3
 rw[z3]at g4
 rw[z1]at g2
 rw[z4];have tt:∀ {t zs},s.heap.IsTuple t zs→(ma s.heap t1 t2).IsTuple t zs:=fun ⟨o,e,r⟩=>⟨o,kk _ _ e,r⟩
 exact⟨⟨_,g5,rfl⟩,q _ g5 g3 g4 ⟨⟨_,g1,rfl,rfl⟩,tt e1⟩ ⟨⟨_,g2,rfl,rfl⟩,tt e2⟩ kk⟩
end
def An(K:PySem.W.Frag)(a b:Addr):It:=
  ⟨fun i H=>∃ xs ys x y,SqT K H a xs∧SqT K H b ys∧xs[i]? = some x∧ys[i]? = some y,
   fun i H v H'=>∃ t x y,H t=none∧v = .ref t∧H'=upd H t (.tup [x,y])∧(∀ xs,SqT K H a xs→xs[i]? = some x)∧∀ ys,SqT K H b ys→ys[i]? = some y,
   fun i H=>∃ xs ys,SqT K H a xs∧SqT K H b ys∧(xs.length≤i∨ys.length≤i)⟩
def UZ(z TI TO i1 i2 l1 l2:Addr)(i:Nat)(h:Heap):Prop:=
 IsZip h z TI TO .none∧IsPair h TI (.ref i1) (.ref i2)∧(∃ a b,IsPair h TO a b)∧h.IsTupleIter i1 l1 i∧h.IsTupleIter i2 l2 i
end L2
namespace L2
open PySem PySem.Spec PyProof PyProof.Rows
theorem SqT.apart{X:Cx}{pins:List (Addr × Obj)}{σ : St}{H:Hp}{s:Shared}{a c:Addr}{xs:List V}(I:Inv X pins σ H s)(hf:gD X pins H c)(h:SqT X.K H a xs):a≠c:=by
 rintro rfl
 rcases h with h | ⟨o,its,n,hk,_⟩
 ·rcases h with e | ⟨o,e⟩ <;> (rw[hf.1]at e; cases e)
 ·have e:=I.ok.mod.kin a o hk
  rcases hf.2.2.2.1 with z | z
  ·exact I.ok.noex a o e z
  ·exact absurd (Nat.lt_of_lt_of_le (Heap.lt_size (I.ok.bs a o e).1) z) (Nat.lt_irrefl _)
theorem vW{P:Program}{w:World}{K:PySem.W.Frag}{elts:List Expr}{k:Nat}{pos:Pos}{z TI TO i1 i2 l1 l2:Addr}(D:wf z TI TO i1 i2):jZ P w K (.Tuple elts k pos) (An K l1 l2) [z,TI,TO,i1,i2] z (UZ z TI TO i1 i2 l1 l2) where
 mem:=by simp
 obj:=fun i h st b hb=>by
  obtain⟨s1,s2,⟨_,_,s3⟩,⟨o4,s4,c4,d4⟩,⟨o5,s5,c5,d5⟩⟩:=st
  simp only[List.mem_cons,List.mem_nil_iff,or_false]at hb
  rcases hb with rfl | rfl | rfl | rfl | rfl
  ·exact⟨_,s1,fun v e=>by cases e⟩
  ·exact⟨_,s2,fun v e=>by cases e⟩
  ·exact⟨_,s3,fun v e=>by cases e⟩
  ·exact⟨_,s4,fun v e=>by rw[d4]at e; cases e⟩
  ·exact⟨_,s5,fun v e=>by rw[d5]at e; cases e⟩
 keep:=fun i h h' st kk=>by
  obtain⟨s1,s2,⟨a,b,s3⟩,s4,s5⟩:=st
  exact⟨kk z (by simp) _ s1,kk TI (by simp) _ s2,⟨a,b,kk TO (by simp) _ s3⟩,s4.at fun o e=>kk i1 (by simp) o e,s5.at fun o e=>kk i2 (by simp) o e⟩
 item:=by
  intro X hP hw hK hc i pins s σ H E I hf st hg
  subst hP hw hK;obtain⟨xs,ys,x,y,q1,q2,hx,hy⟩:=hg
  obtain⟨is1,rv1,p1,_⟩:=I.tuple q1
  obtain⟨is2,rv2,p2,_⟩:=I.tuple q2
  obtain⟨u1,hu1,ru1⟩:=rv1.get hx
  obtain⟨u2,hu2,ru2⟩:=rv2.get hy
  have n1:∀ c∈[z,TI,TO,i1,i2],l1≠c:=fun c hc'=>SqT.apart I (hf c hc') q1
  have n2:∀ c∈[z,TI,TO,i1,i2],l2≠c:=fun c hc'=>SqT.apart I (hf c hc') q2
  have D':ZipApart z TI TO i1 i2 l1 l2:=⟨D.TIz,D.TOz,D.i1z,D.i2z,D.TITO,D.TIi1,D.TIi2,D.TOi1,D.TOi2,D.i12,n1 _ (by simp),n1 _ (by simp),n1 _ (by simp),n1 _ (by simp),n2 _ (by simp),n2 _ (by simp),n2 _ (by simp),n2 _ (by simp)⟩
  obtain⟨s1,s2,⟨a,b,s3⟩,s4,s5⟩:=st
  have e1:s.heap.IsTuple l1 is1.toArray:=p1
  have e2:s.heap.IsTuple l2 is2.toArray:=p2
  refine u7 D' s1 s2 s3 ⟨s4,e1⟩ ⟨s5,e2⟩ (x:=u1) (y:=u2) (by simpa using hu1) (by simpa using hu2) fun h' a1 a2 a3 a4 a5 a6 kk=>?_
  refine⟨_,rfl,wpAny_letOwnedTupleGo_zip a1 fun h'' hz' hs'=>?_⟩
  have lt:∀ {c o},s.heap.get? c=some o→s.heap.objs.size≠c:=fun e=>Nat.ne_of_gt (Heap.lt_size e)
  have zne:s.heap.objs.size≠z:=lt s1
  have keep2:∀ b o,b∉[z,TI,TO,i1,i2]→s.heap.get? b=some o→h''.get? b=some o:=fun b o hb e=>by
   simp only[List.mem_cons,List.mem_nil_iff,or_false,not_or]at hb
   exact hs'.extBut _ _ hb.1 (kk b o hb.1 hb.2.2.1 hb.2.2.2.1 hb.2.2.2.2 e)
  have hsz:H s.heap.objs.size=none:=I.hok.fresh (Nat.le_refl _)
  have tupN:IsPair h'' s.heap.objs.size u1 u2:=hs'.extBut _ _ zne a5
  have nlt:∀ c∈[z,TI,TO,i1,i2],c≠s.heap.objs.size:=fun c hc'=>by
   obtain⟨o4,e4,_⟩:=id s4
   obtain⟨o5,e5,_⟩:=id s5
   simp only[List.mem_cons,List.mem_nil_iff,or_false]at hc'
   rcases hc' with rfl | rfl | rfl | rfl | rfl
   ·exact(lt s1).symm
   ·exact(lt s2).symm
   ·exact(lt s3).symm
   ·exact(lt e4).symm
   ·exact(lt e5).symm
  refine⟨.ref s.heap.objs.size,upd H s.heap.objs.size (.tup [x,y]),I.turnedLaid (t':=s.toks) keep2 hf (Nat.le_refl _) ⟨aR (by show 2≤1000000; decide),[u1,u2],.cons ru1 (.cons ru2 .nil),⟨_,tupN,rfl,rfl,0,rfl⟩⟩,rfl,⟨_,x,y,hsz,rfl,rfl,fun xs' q'=>?_,fun ys' q'=>?_⟩,
   ⟨hz',hs'.extBut _ _ D.TIz (kk _ _ D.TIz D.TITO D.TIi1 D.TIi2 s2),⟨_,_,hs'.extBut _ _ D.TOz a2⟩,a3.1.extBut hs'.extBut D.i1z,a4.1.extBut hs'.extBut D.i2z⟩,fun c hc'=>?_⟩
  ·rw[I.tuple_inj q' q1]; exact hx
  ·rw[I.tuple_inj q' q2]; exact hy
  ·rw[ax (nlt c hc')]; exact(hf c hc').1
 done:=by
  intro X hP hw hK hc i pins s σ H E I hf st hg
  subst hP hw hK;obtain⟨xs,ys,q1,q2,hlen⟩:=hg
  obtain⟨is1,rv1,p1,_⟩:=I.tuple q1
  obtain⟨is2,rv2,p2,_⟩:=I.tuple q2
  have l1:=rv1.length;have l2:=rv2.length;have n1:∀ c∈[z,TI,TO,i1,i2],_≠c:=fun c hc'=>SqT.apart I (hf c hc') q1
  have n2:∀ c∈[z,TI,TO,i1,i2],_≠c:=fun c hc'=>SqT.apart I (hf c hc') q2
  have D':ZipApart z TI TO i1 i2 _ _:=⟨D.TIz,D.TOz,D.i1z,D.i2z,D.TITO,D.TIi1,D.TIi2,D.TOi1,D.TOi2,D.i12,n1 _ (by simp),n1 _ (by simp),n1 _ (by simp),n1 _ (by simp),n2 _ (by simp),n2 _ (by simp),n2 _ (by simp),n2 _ (by simp)⟩
  obtain⟨s1,s2,⟨a,b,s3⟩,s4,s5⟩:=st
  have e1:s.heap.IsTuple _ is1.toArray:=p1
  have e2:s.heap.IsTuple _ is2.toArray:=p2
  refine xA (I.ok.hd hc) D' s1 s2 s3 ⟨s4,e1⟩ ⟨s5,e2⟩ ?_ fun h' kk=>⟨rfl,I.turnedL (t':=s.toks) (fun b o hb e=>?_) hf⟩
  ·rcases hlen with z | z
   ·exact .inl (by simp; omega)
   ·exact .inr (by simp; omega)
  ·simp only[List.mem_cons,List.mem_nil_iff,or_false,not_or]at hb
   exact kk b o hb.1 hb.2.2.1 hb.2.2.2.1 hb.2.2.2.2 e
 self:=fun A i s Q E st h=>wpAny_pyIter_zip st.1 h
def zV(K:PySem.W.Frag)(ta:TA):TI:=fun σ H R=>ta σ H fun vs H1=>∃ a b:Addr,vs=[.ref a,.ref b]∧(∃ xs,SqT K H1 a xs)∧(∃ ys,SqT K H1 b ys)∧R (An K a b) H1
theorem oR(K:PySem.W.Frag)(ta:TA){σ : St}{H:Hp}{R:It→Hp→Prop}:zV K ta σ H R=ta σ H fun vs H1=>∃ a b:Addr,vs=[.ref a,.ref b]∧(∃ xs,SqT K H1 a xs)∧(∃ ys,SqT K H1 b ys)∧R (An K a b) H1:=rfl
theorem tf(K:PySem.W.Frag){X:Cx}{elts:List Expr}{k:Nat}{tpos:Pos}{a b:Expr}{ta:TA}{p pos:Pos}(hg:Gl X "zip") (hm:X.mg "zip" = none) (ha:PA X [a,b] ta) (hs:starEach [a,b] X.env=[(false,eval a X.env),(false,eval b X.env)]:=by rfl) (hs2:starEach [b] X.env=[(false,eval b X.env)]:=by rfl) (hK:X.K=K:=by rfl) :
  PI X (.Tuple elts k tpos) (.Call (.Name "zip" p) [a,b] [] pos) (zV K ta):=by
 subst hK;intro pins s σ H R I h
 refine Call_ (hX I hg hm yW (PyProof.Rows.callWith_type1 (bx (ha pos pins s σ H _ I h) fun us s1 ⟨vs,H1,I1,r1,q1⟩=>?_) (by rw[hs,hs2]) (by rw[hs2]; rfl)))
 obtain⟨l1,l2,e,⟨xs,h1⟩,⟨ys,h2⟩,q⟩:=q1
 subst e;obtain⟨u1,u2,rfl,r1,r2⟩:=j_ r1
 cases r1
 cases r2;obtain⟨is1,_,p1,_⟩:=I1.tuple h1
 obtain⟨is2,_,p2,_⟩:=I1.tuple h2
 refine wX (show s1.heap.IsTuple l1 is1.toArray from p1) (show s1.heap.IsTuple l2 is2.toArray from p2) fun h' a1 a2 a3 a4 a5 kk=>?_
 refine wpAny_pyIter_zip a1 ⟨_,[s1.heap.objs.size+4,s1.heap.objs.size+2,s1.heap.objs.size+3,s1.heap.objs.size,s1.heap.objs.size+1],_,_,H1,rfl,I1.kept (t':=s1.toks) kk,
  vW (z:=s1.heap.objs.size+4) (TI:=s1.heap.objs.size+2) (TO:=s1.heap.objs.size+3) (i1:=s1.heap.objs.size) (i2:=s1.heap.objs.size+1) (JA _),⟨a1,a2,⟨_,_,a3⟩,a4.1,a5.1⟩,fun b hb=>?_,q⟩
 have hb':s1.heap.objs.size≤b:=by
  simp only[List.mem_cons,List.mem_nil_iff,or_false]at hb
  rcases hb with rfl | rfl | rfl | rfl | rfl <;> first | exact Nat.le_refl _ | exact Nat.le_add_right _ _
 exact I1.fpOk hb' (I1.hok.fresh hb')
end L2
namespace L2
open PySem PySem.Spec PyProof PyProof.Rows
section
variable{prog:Program}{w:World}{A:Around}{E:Value→Shared→Prop}{s:Shared}
theorem ny{t sl:Addr}{items:Array Value}{vl vu:Value}{lo hi:Option Int}{Q:Value→Shared→Prop}(ht:IsTup s.heap t items)(hs:s.heap.IsSliceOf sl vl vu .none)(pl:PySem.IsPart vl lo)(pu:PySem.IsPart vu hi)
  (hw:HT.sIx items.size 0 lo=0∧HT.sIx items.size items.size hi=items.size) (q:Q (.ref t) s):wpAny (model prog w) A (getItem (.ref t) (.ref sl)) Q E s:=by
 obtain⟨os,g1,g2,g3⟩:=id hs
 have ty:s.TypeIs (.ref sl) "slice" := ⟨os,g1,g2⟩
 unfold getItem
 try with_reducible refine wpAny_holding ?_
 first | refine wpAny_bind (wpAny_pure ?_) | skip
 refine wpAny_bind (wpAny_sequenceKey ht.typeIs (by decide) (wpAny_bind (wpAny_callSpecial?_slot (name:=Str.ofString "__getitem__") ht.typeIs PyProof.Rows.slot_tuple_getitem (wpAny_call_entry PyProof.Rows.slot_tuple_getitem ht.typeIs entry_tuple_getitem ?_ (args_tuple_getitem _ _)))))
 show wpAny _ _ (Builtin.Tuple.tupleItemsOf (.ref t) >>= fun _=>_) _ _ s
 refine wpAny_bind (tupleItemsOf_ ht (wpAny_bind (wpAny_typeOf ty ?_)))
 rw[if_pos (by decide)]
 refine wpAny_bind (HT.sliceApplied_gen hs pl pu ?_)
 have hyes:((((HT.sIx items.size 0 lo:Nat):Int) == 0&&(1:Int) == 1&&(HT.sIx items.size items.size hi - HT.sIx items.size 0 lo) == items.size)=true):=by
  rw[hw.1,hw.2]; simp
 show wpAny _ _ (if (((HT.sIx items.size 0 lo:Nat):Int) == 0&&(1:Int) == 1&&(HT.sIx items.size items.size hi - HT.sIx items.size 0 lo) == items.size)=true then _ else _) _ _ s
 rw[if_pos hyes];refine wpAny_bind (m:=Builtin.Tuple.tupleIsExact _) (wpAny_bind (wpAny_typeOf ht.typeIs (wpAny_pure ?_)))
 have hb:(Value.type "tuple" == Value.type "tuple")=true:=by decide
 rw[hb,if_pos rfl];exact wpAny_bind (wpAny_rule (wpAny_pure ⟨_,rfl,wpAny_pure q⟩))
end
section
variable{X:Cx}
def t0(K:PySem.W.Frag):V→Option Int→Option Int→Hp→VK→Prop:=fun x lo hi H Q=>∃ a xs,x = .ref a∧SqT K H a xs∧
 (HT.sIx xs.length 0 lo=0∧HT.sIx xs.length xs.length hi=xs.length→Q (.ref a) H)∧(¬ (HT.sIx xs.length 0 lo=0∧HT.sIx xs.length xs.length hi=xs.length)→∀ p,H p=none→Q (.ref p) (upd H p (.tup (di xs lo hi))))
theorem eI(K:PySem.W.Frag)(hK:X.K=K:=by rfl):SlR X (t0 K):=by
 subst hK;intro pins s σ H x v vl vu lo hi sl Q I rx hs pl pu h
 obtain⟨a,xs,rfl,hx,q1,q2⟩:=h
 by_cases hw:HT.sIx xs.length 0 lo=0∧HT.sIx xs.length xs.length hi=xs.length
 ·have rx':=rx
  cases rx;obtain⟨its,r,ht,hz⟩:=I.tuple hx
  have hlen:its.toArray.size=xs.length:=by rw[List.size_toArray]; exact r.length.symm
  exact⟨"tuple", _,PyProof.Rows.slot_tuple_getitem.lookup,ht.typeIs,ny ht hs pl pu (by rw[hlen]; exact hw) ⟨.ref a,H,I,rx',q1 hw⟩⟩
 ·exact DP pins s σ H _ v vl vu lo hi sl Q I rx hs pl pu ⟨a,xs,rfl,hx,hw,q2 hw⟩
theorem eY{K:PySem.W.Frag}{H:Hp}{Q:VK}{a:Addr}{lo hi:Option Int}{xs:List V}(h:SqT K H a xs)(q:∀ p H',Same H H'→SqT K H' p (di xs lo hi)→Q (.ref p) H'):t0 K (.ref a) lo hi H Q:=by
 refine⟨a,xs,rfl,h,fun hw=>?_,fun _ p hp=>q p _ (ah hp _) (SqT.of af)⟩
 have e:di xs lo hi=xs:=by unfold di; rw[hw.1,hw.2]; simp
 exact q a H (fun _ _ e=>e) (by rw[e]; exact h)
theorem sQ(xs:List V)(k:Nat):di xs none (some (k:Int))=xs.take k:=by
 unfold di;rw[HT.sIx_none,HT.sIx_nat,List.drop_zero,Nat.sub_zero];exact List.take_eq_take_min.symm
theorem gK(xs:List V)(k:Nat):di xs (some (k:Int)) none=xs.drop k:=by
 unfold di;rw[HT.sIx_none,HT.sIx_nat];rcases Nat.le_total k xs.length with h | h
 ·rw[Nat.min_eq_left h,List.take_of_length_le (by rw[List.length_drop]; omega)]
 ·rw[Nat.min_eq_right h,Nat.sub_self,List.take_zero,List.drop_eq_nil_of_le h]
def vk:List V→Hp→VK→Prop:=fun xs H Q=>(∃ i,xs=[.int i]∧i.natAbs.log2<1920∧Q (.str (toString i)) H)∨∃ y,xs=[.str y]∧Q (.str y) H
theorem xy:CallR X (.type "str") vk:=by
 intro pins s σ H xs us Q I r h
 rcases h with h | ⟨y,rfl,q⟩
 ·exact nW pins s σ H xs us Q I r h
 ·obtain⟨u,rfl,t,rfl⟩:=dG r
  exact PySem.P.str_of_str ⟨.str y,H,I,⟨t,rfl⟩,q⟩
theorem mH{H:Hp}{Q:VK}(i:Int):vk [.int i] H Q=(i.natAbs.log2<1920∧Q (.str (toString i)) H):=
 propext ⟨fun h=>by rcases h with ⟨_,e,h⟩ | ⟨_,e,_⟩ <;> cases e; exact h,fun h=>.inl ⟨i,rfl,h⟩⟩
theorem mR{H:Hp}{Q:VK}(y:Str):vk [.str y] H Q=Q (.str y) H:=
 propext ⟨fun h=>by rcases h with ⟨_,e,h⟩ | ⟨_,e,h⟩ <;> cases e; exact h,fun h=>.inr ⟨y,rfl,h⟩⟩
theorem rh{x:Str}{d:Addr}{pos:Pos}(h:X.mg x=some (.ref d))(hg:Gl X x:=by first | exact vGg (by decide +kernel) | rfl)(hd:(x == ("__debug__" : Str))=false:=by decide):PE X (.Name x pos) (tC (.ref d)):=Bn hg h rfl hd
theorem fq:MtR X "list.extend" lb:=ww
theorem fu{H:Hp}{Q:VK}(l b:Addr):lb (.ref l) [.ref b] H Q=∃ xs zs,H l=some (.lst xs)∧H b=some (.lst zs)∧xs.length+zs.length≤sizeLine∧Q .non (upd H l (.lst (xs++zs))):=
 propext ⟨fun ⟨_,_,xs,zs,e1,e2,q⟩=>by cases e1; cases e2; exact⟨xs,zs,q⟩,fun ⟨xs,zs,q⟩=>⟨l,b,xs,zs,rfl,rfl,q⟩⟩
theorem gi(K:PySem.W.Frag){tg l:Expr}{tl:TE}(hl:PE X l tl)(hK:X.K=K:=by rfl):PI X tg l (yj K tl):=hK ▸ DE hl
theorem rj(K:PySem.W.Frag)(tl:TE){σ : St}{H:Hp}{R:It→Hp→Prop}:yj K tl σ H R=tl σ H fun x H1=>∃ a,x = .ref a∧(∃ xs,SqT K H1 a xs)∧R (tu K a) H1:=rfl
end
section
variable{K:PySem.W.Frag}{a b:Addr}{xs ys:List V}{g:TG}{te:TE}{nT:Nat}{σ : St}{D:Addr}{Q:VK}{H:Hp}
theorem nQ{tb:TS}{D:dO}(Pv:Nat→St→Hp→Prop)(h0:Pv 0 σ H)(hl:∀ i σ H,i≤xs.length→Pv i σ H→SqT K H a xs)
  (hs:∀ i x σ H,xs[i]? = some x→Pv i σ H→g x σ H fun σ2 H2=>tb { D with nx:=Pv (i+1),ct:=Pv (i+1),bk:=D.nx } σ2 H2) (hd:∀ σ H,Pv xs.length σ H→D.nx σ H):jT (tu K a) g tb D σ H:=by
 refine kZ xs.length Pv h0 (fun i σ H hi p=>⟨xs,xs[i],hl i σ H (Nat.le_of_lt hi) p,by simp[hi]⟩) (fun σ H p=>⟨xs,hl _ σ H (Nat.le_refl _) p,Nat.le_refl _⟩) (fun i σ H x H' hi p yl=>?_) hd
 obtain⟨rfl,y⟩:=yl
 exact hs i x σ _ (y xs (hl i σ _ (Nat.le_of_lt hi) p)) p
theorem iO(Pv:Nat→List V→Hp→Prop)(h0:Pv 0 [] H)(hl:∀ i ys H,i≤xs.length→Pv i ys H→SqT K H a xs)
  (hs:∀ i ys H x,xs[i]? = some x→i<xs.length→Pv i ys H→g x (σ++List.replicate nT none) H (h_ xs.length i Pv D ys te))
  (hd:∀ ys H,Pv xs.length ys H→Q (.ref D) H):fw (tu K a) g jS te nT σ D Q H:=by
 refine jP xs.length Pv h0 (fun i ys H hi p=>⟨xs,xs[i],hl i ys H (Nat.le_of_lt hi) p,by simp[hi]⟩) (fun ys H p=>⟨xs,hl _ ys H (Nat.le_refl _) p,Nat.le_refl _⟩) (fun i ys H x H' hi p yl=>?_) hd
 obtain⟨rfl,y⟩:=yl
 exact hs i ys _ x (y xs (hl i ys _ (Nat.le_of_lt hi) p)) hi p
theorem mh{tb:TS}{D:dO}(Pv:Nat→St→Hp→Prop)(hn:xs.length=ys.length)(h0:Pv 0 σ H)(hl:∀ i σ H,i≤xs.length→Pv i σ H→SqT K H a xs∧SqT K H b ys)
  (hs:∀ i x y t σ H,xs[i]? = some x→ys[i]? = some y→Pv i σ H→H t=none→g (.ref t) σ (upd H t (.tup [x,y])) fun σ2 H2=>tb { D with nx:=Pv (i+1),ct:=Pv (i+1),bk:=D.nx } σ2 H2) (hd:∀ σ H,Pv xs.length σ H→D.nx σ H):jT (An K a b) g tb D σ H:=by
 refine kZ xs.length Pv h0 (fun i σ H hi p=>⟨xs,ys,xs[i],ys[i],(hl i σ H (Nat.le_of_lt hi) p).1,(hl i σ H (Nat.le_of_lt hi) p).2,by simp[hi],by simp[hn ▸ hi]⟩) (fun σ H p=>⟨xs,ys,(hl _ σ H (Nat.le_refl _) p).1,(hl _ σ H (Nat.le_refl _) p).2,.inl (Nat.le_refl _)⟩) (fun i σ H v H' hi p yl=>?_) hd
 obtain⟨t,x,y,ht,rfl,rfl,y1,y2⟩:=yl
 exact hs i x y t σ H (y1 xs (hl i σ H (Nat.le_of_lt hi) p).1) (y2 ys (hl i σ H (Nat.le_of_lt hi) p).2) p ht
end
theorem SqT.same{K:PySem.W.Frag}{H H':Hp}{a:Addr}{xs:List V}(h:SqT K H a xs)(sm:Same H H'):SqT K H' a xs:=by
 rcases h with (h | ⟨o,h⟩) | h
 ·exact .inl (.inl (sm _ _ h))
 ·exact .inl (.inr ⟨o,sm _ _ h⟩)
 ·exact .inr h
theorem h8{α : Type}{x:α}{xs:List α}:cC (x::xs) 0=some x:=aq (j:=0) rfl
theorem SqT.updL{K:PySem.W.Frag}{H:Hp}{a l:Addr}{xs ys:List V}{o:HO}(h:SqT K H a xs)(hl:H l=some (.lst ys)):SqT K (upd H l o) a xs:=by
 rcases h with (h | ⟨o',h⟩) | h
 ·exact .inl (.inl (by rw[ax (cP h hl (fun z=>nomatch z))]; exact h))
 ·exact .inl (.inr ⟨o',by rw[ax (cP h hl (fun z=>nomatch z))]; exact h⟩)
 ·exact .inr h
end L2
namespace L2
open PySem PySem.Spec PyProof PyProof.Rows
section
variable{X:Cx}
end
end L2
namespace L2
open PySem PySem.Spec PyProof PyProof.Rows
section
variable{K:PySem.W.Frag}{a:Addr}{xs:List V}{g:TG}{σ : St}{H:Hp}
end
end L2
namespace L2
open PySem PySem.Spec PyProof PyProof.Rows
theorem EI{P:Program}{w:World}{k:aK}{u:Value}(h:(cL P w).is k u=true):RelV (kV k) u:=by
 cases k with
 | inl i=>
  obtain⟨t,rfl⟩:=Value.isInt_shape (show Value.isInt i u=true from h)
  exact⟨t,rfl⟩
 | inr x=>
  obtain⟨t,rfl⟩:=Value.isStrOf_shape (show Value.isStrOf x u=true from h)
  exact⟨t,rfl⟩
section
variable{X:Cx}
def wk:List V→Hp→VK→Prop:=fun xs H Q=>∃ d kvs,xs=[.ref d]∧H d=some (.dK kvs)∧kvs.length≤60000∧∀ l,H l=none→Q (.ref l) (upd H l (.lst (kvs.map fun kv=>kV kv.1)))
theorem mv{H:Hp}{Q:VK}(d:Addr):wk [.ref d] H Q=∃ kvs,H d=some (.dK kvs)∧kvs.length≤60000∧∀ l,H l=none→Q (.ref l) (upd H l (.lst (kvs.map fun kv=>kV kv.1))):=
 propext ⟨fun ⟨_,kvs,e,q⟩=>by cases e; exact⟨kvs,q⟩,fun ⟨kvs,q⟩=>⟨d,kvs,rfl,q⟩⟩
theorem tY{m:Nat}(hr:Room m X.A):CallR X (.type "list") wk:=by
 intro pins s σ H xs us Q I r h
 obtain⟨d,kvs,rfl,ed,hn,q⟩:=h
 obtain⟨u,rfl,ru⟩:=dG r
 cases ru;obtain⟨_,hd,vs,rel,dd⟩:=u5 I.hok (.inl ed)
 obtain⟨ep,hm⟩:=dd.dictAt
 have hs:sizeLine=16777216:=sizeLine_eq
 have hl:kvs.length=vs.length:=Paired.length rel
 refine PySem.W.kdl_call (PySem.W.kdl_dict (knd:=cL X.prog X.w) (kvs:=vs) (ep:=ep) hd) hr.hd hm (by omega) fun h' tk acc' c' hk hS hacc=>?_
 refine⟨.ref s.heap.objs.size,_,I.laid hk (Nat.le_refl _) (show ObjOk X.prog X.w _ h' _ (.lst (kvs.map fun kv=>kV kv.1)) from ⟨by simp; omega,acc'.toList,c',?_,by simpa using hS⟩),rfl,q _ (I.hok.fresh (Nat.le_refl _))⟩
 refine kT _ _ (by simp[hacc.1,hl]) fun j x w' e1 e2=>?_
 obtain⟨k,y,hk',his⟩:=hacc.2 j w' (by rw[← Array.getElem?_toList]; exact e2)
 rw[List.getElem?_map]at e1
 cases hkv:kvs[j]? with
 | none=>rw[hkv]at e1; cases e1
 | some kv=>
  rw[hkv]at e1
  cases e1;have:=(ip rel hkv hk').1
  show RelV (kV kv.1) w'
  rw[this];exact EI his
end
end L2
namespace L2
open PySem PySem.Spec PyProof PyProof.Rows PySem.SeqAt
section
variable{X:Cx}
end
end L2
namespace L2
open PySem PySem.Spec PyProof.Rows PySem.SeqAt
structure Fl (K:PySem.W.Frag) (C:Addr) (f:Str):Prop where
 c:Cls K C
 n:NoAttr K C f
structure MakeAt (K:PySem.W.Frag) (mg:Str→Option Value) (x:Str) (C:Addr) (qual:Str) (st:Stmt):Prop where
 ex:∃ f fd,Fun K "__init__" qual st f fd∧Mk K C f∧mg x=some (.ref C)
structure qc (P:Program) (w:World) (K:PySem.W.Frag) (mg:Str→Option Value) (base:Heap) (k:Nat) (x:Str) (C:Addr) (ps:List Str) (sp:Sp):Prop where
 ex:∃ f fd,FnOk P w K mg base ja k f fd ps sp∧Binds K fd ps []∧Mk K C f∧mg x=some (.ref C)
section
variable{P:Program}{w:World}{K:PySem.W.Frag}{mg:Str→Option Value}{base:Heap}
theorem MakeAt.mkal{x:Str}{C:Addr}{qual:Str}{st:Stmt}{N ps:List Str}{k:Nat}{sp:Sp}(D:MakeAt K mg x C qual st)(S:aD N ps (defScope st))
  (hb:∀ (kV doc pm:Value) (an:Option Addr) (cdv ct:Value) (us:List Value),us.length=ps.length→bindArgs (PySem.W.fnOf "__init__" qual (defArgs st) (defBody st) (defScope st) .none kV doc pm an cdv ct) ⟨us,[]⟩=pure (ps.zip us))
  (len:∀ vs H Q E,sp vs H Q E→vs.length=ps.length)
  (hbody:∀ (f:Addr) (cdv:Value) (A:Around) (outer:List Env) (s:Shared) (H:Hp) (vs:List V) (Q:VK) (E:XK),Room k (A.deeper (envOfC qual (defScope st) s.heap.objs.size f cdv))→sp vs H Q E→
   ∃ t,PSs (iZ ja P w K mg base N qual (defScope st) f cdv A outer s H E).nox (defBody st) t∧t { nx:=fun _ H'=>Q .non H',rt:=Q } (start N vs) H):qc P w K mg base (k+1) x C ps sp:=by
 obtain⟨f,fd,F,m,g⟩:=D.ex
 exact⟨f,fd,F.ok S len fun cdv A outer s H vs Q E hr h=>hbody f cdv A outer s H vs Q E hr h,F.binds hb,m,g⟩
end
def Ao(C:Addr)(f:Str)(ta:TE):TE:=fun σ H Q=>ta σ H fun x H1=>∃ a,x = .ref a∧∃ dx fs v,H1 a=some (.ins C dx fs)∧fs.lookup f=some v∧Q v H1
def zU(C:Addr)(f:Str)(ta tv:TE):TS:=fun D σ H=>tv σ H fun y H1=>ta σ H1 fun x H2=>∃ a,x = .ref a∧∃ dx fs,H2 a=some (.ins C dx fs)∧fs.length<1000∧D.nx σ (upd H2 a (.ins C dx (bK f y fs)))
def xb(C:Addr)(sp:Sp)(t:TA):TE:=fun σ H Q=>t σ H fun vs H1=>∀ x dx,H1 x=none→H1 dx=none→dx≠x→sp (.ref x::vs) (upd (upd H1 dx (.own x)) x (.ins C dx [])) (fun v H2=>v = .non∧Q (.ref x) H2) E0
section
variable{X:Cx}{o e value:Expr}{es:List Expr}{f m:Str}{pos pos' apos p:Pos}{ta tv:TE}{t:TA}{C:Addr}{x:Str}{ps:List Str}{sp:Sp}{j k:Nat}
theorem bI(g:Fl X.K C f)(he:PE X e ta)(hb:attributeBase e f X.env (eval e X.env)=eval e X.env:=by rfl):PE X (.Attribute e f pos) (Ao C f ta):=by
 intro pins s σ H Q I h
 refine AM hb (bx (he pins s σ H _ I h) fun u s1 ⟨x,H1,I1,rx,a,ex,dx,fs,v,ea,l,q⟩=>?_)
 subst ex;obtain rfl:u=Value.ref a:=rx
 exact vE I1 ea g.c g.n l fun u' s2 I2 ru=>⟨v,H1,I2,ru,q⟩
theorem jn(g:Fl X.K C f)(ha:PE X o ta)(hv:PE X value tv)(hs:swapsWith value (some (.Attribute o f pos')) pos.line X.env=pure false:=by rfl):PS X (.Assign [.Attribute o f pos'] value pos) (zU C f ta tv):=by
 intro pins s σ H D I h
 refine plainObj_wpAny_Assign_Attribute (bx (hv pins s σ H _ I h) fun u s1 ⟨y,H1,I1,ry,q⟩=>bx (ha pins s1 σ H1 _ I1 q) fun ov s2 ⟨x,H2,I2,rx,a,ex,dx,fs,ea,l,q2⟩=>?_) hs
 subst ex;obtain rfl:ov=Value.ref a:=rx
 exact ur I2 ea g.c g.n l ry fun s3 I3=>⟨σ,_,I3,q2⟩
theorem Em(c:qc X.prog X.w X.K X.mg X.base j x C ps sp)(hr:Room k X.A)(ha:PA X (e::es) t)(hle:j+1≤k:=by decide)(hg:Gl X x:=by first | exact vGg (by decide +kernel) | rfl)(hdb:(x == ("__debug__" : Str))=false:=by decide)
  (he:starEach (e::es) X.env=(false,eval e X.env)::starEach es X.env:=by rfl) (hpl:(backTo pos (starEach es X.env)).any (·.1)=false:=by rfl) :
  PE X (.Call (.Name x p) (e::es) [] pos) (xb C sp t):=by
 obtain⟨f,fd,F,b,M,hm⟩:=c.ex
 intro pins s σ H Q I h
 refine wpAny_Call_Name_kw (lg I hg hm ?_ hdb)
 refine PySem.W.callWith_K (h₀:=X.base) I.ok.mod.kin M.kp (bx (ha pos pins s σ H _ I h) fun us s1 ⟨vs,H1,I1,r,q⟩=>⟨I1.kIn,?_⟩) he hpl
 exact zt M F (hr.mono hle) b .nil zW I1 r (by simpa only[List.append_nil] using q)
end
section
variable{C:Addr}{f m:Str}{sp:Sp}{ta tv:TE}{t:TA}{σ : St}{H:Hp}{Q:VK}
theorem qp:Ao C f ta σ H Q=ta σ H fun x H1=>∃ a,x = .ref a∧∃ dx fs v,H1 a=some (.ins C dx fs)∧fs.lookup f=some v∧Q v H1:=rfl
theorem qg{D:dO}:zU C f ta tv D σ H=tv σ H fun y H1=>ta σ H1 fun x H2=>∃ a,x = .ref a∧∃ dx fs,H2 a=some (.ins C dx fs)∧fs.length<1000∧D.nx σ (upd H2 a (.ins C dx (bK f y fs))):=rfl
theorem my:xb C sp t σ H Q=t σ H fun vs H1=>∀ x dx,H1 x=none→H1 dx=none→dx≠x→sp (.ref x::vs) (upd (upd H1 dx (.own x)) x (.ins C dx [])) (fun v H2=>v = .non∧Q (.ref x) H2) E0:=rfl
end
theorem CW{f:Str}{v:V}{fs:List (Str × V)}:List.lookup f ((f,v)::fs)=some v:=by simp[List.lookup]
theorem A3{f g:Str}{v:V}{fs:List (Str × V)}(h:(f == g)=false):List.lookup f ((g,v)::fs)=List.lookup f fs:=by simp[List.lookup,h]
theorem BE{f:Str}:List.lookup f ([]:List (Str × V))=none:=rfl
theorem wH{f g:Str}{v x:V}{r:List (Str × V)}(h:¬ g=f):bK f v ((g,x)::r)=(g,x)::bK f v r:=by simp[bK,h]
theorem yf{f:Str}{v:V}:bK f v []=[(f,v)]:=rfl
end L2
namespace L2
open PySem PySem.Spec PyProof.Rows PySem.SeqAt
section
variable{X:Cx}
def zZ:List V→Hp→VK→Prop:=fun xs H Q=>∃ i j,xs=[.int i,.int j]∧Q (.int (if j>i then j else i)) H
theorem vV(hc:X.calm=true:=by rfl):CallR X (.builtin "max") zZ:=xi hc
theorem oW{H:Hp}{Q:VK}(i j:Int):zZ [.int i,.int j] H Q=Q (.int (if j>i then j else i)) H:=propext ⟨fun ⟨_,_,e,q⟩=>by cases e; exact q,fun q=>⟨i,j,rfl,q⟩⟩
end
theorem Bs{x y:Str}(h:x.cps.toList=y.cps.toList):x=y:=by
 cases x; cases y
 exact congrArg _ (Array.toList_inj.mp h)
theorem jo(x y:Str):(x++y).cps.toList=x.cps.toList++y.cps.toList:=Array.toList_append
end L2
namespace L2
open PySem PySem.Spec PyProof.Rows
section
variable{X:Cx}{tg e:Expr}
end
end L2
namespace L2
open PySem PySem.Spec PyProof.Rows PySem.SeqAt
def iE(l:List Str)(x:Str):List Str:=if l.any (· == x)=true then l else l++[x]
def fS(val:Nat→Str)(i:Nat):List Str:=((List.range i).map val).foldl iE []
theorem pQ(val:Nat→Str):fS val 0=[]:=rfl
theorem iy(val:Nat→Str)(i:Nat):fS val (i+1)=iE (fS val i) (val i):=by
 unfold fS; rw[List.range_succ,List.map_append,List.foldl_append]; rfl
theorem lG(val:Nat→Str):∀ i,(fS val i).length≤i
 | 0=>by rw[pQ]; exact Nat.le_refl _
 | i+1=>by
  rw[iy]; unfold iE
  have ih:=lG val i;split
  ·omega
  ·rw[List.length_append,List.length_singleton]; omega
theorem mT(l:List Str)(v k:Str):(iE l v).any (· == k)=(l.any (· == k)||decide (k=v)):=by
 unfold iE
 by_cases h:l.any (· == v)=true
 ·rw[if_pos h]
  by_cases e:k=v
  ·subst e; rw[h]; simp
  ·simp[e]
 ·rw[if_neg h,List.any_append]
  by_cases e:k=v
  ·subst e; simp
  ·have hb:(v == k)=false:=by simpa [beq_iff_eq] using (fun h':v=k=>e h'.symm)
   simp[hb,e]
theorem xo(l:List Str)(v:Str):(iE l v).length=if l.any (· == v) then l.length else l.length+1:=by
 unfold iE; split <;> simp
theorem tm(val:Nat→Str):∀ (i:Nat) (k:Str),(fS val i).any (· == k)=((List.range i).map val).any (· == k)
 | 0,k=>rfl
 | i+1,k=>by
  rw[iy,mT,tm val i k,List.range_succ,List.map_append,List.any_append]
  congr 1
  by_cases e:k=val i
  ·simp[e]
  ·simp[e]; exact fun h=>e h.symm
theorem sV:∀ {vs:List Value} {ss:List Str},StrsAre vs ss→∀ (i:Nat) (v:Value),vs[i]? = some v→∃ t,v = .str (ss.getD i "") t
 | _,_,.nil,i,v,h=>by simp at h
 | _,_,.cons n t hr,0,v,h=>by simp at h; exact⟨t,by rw[← h]; rfl⟩
 | _,_,.cons n t hr,i+1,v,h=>by
  simp only[List.getElem?_cons_succ]at h
  obtain⟨t',e⟩:=sV hr i v h
  exact⟨t',by rw[e]; rfl⟩
theorem lH(prog:Program)(w:World)(x:Str)(t:Tok):(strKind prog w).is x (.str x t)=true:=by
 show Value.isStrOf x (.str x t)=true
 simp[Value.isStrOf]
section
variable{prog:Program}{w:World}{A:Around}{R:Result→Shared→Prop}{I:Addr}{fp wr:List Addr}{Gm:Array GenState→Array GenState→Prop}{n:Nat}{P:Nat→Value→Prop}{St:Nat→Shared→Prop}{L:Bool}
theorem yX(W:WalksS prog w A.in1 I fp wr Gm n P St)(S:Addr)(hSf:S∉fp)(val:Nat→Str)(hval:∀ i v,P i v→∃ t,v = .str (val i) t)(hb:n+1<scanBound) :
  ∀ (k i:Nat) (s:Shared),n - i=k→i≤n→St i s→SetG (strKind prog w) (cV L) s.heap S (fun k'=>(fS val i).any (· == k')) (fS val i).length→
   (∀ s',Moved (S::wr) Gm s s'→SetG (strKind prog w) (cV L) s'.heap S (fun k'=>(fS val n).any (· == k')) (fS val n).length→R (.ok (.ret .none)) s')→
   codeAny (model prog w) A (.builtin "set.update.loop" ⟨[.ref S,.ref I],[]⟩) R s:=by
 have hSw:S∉wr:=fun h=>hSf (W.sub _ h)
 have hsub:∀ b∈wr,b∈S::wr:=fun b hb=>List.mem_cons_of_mem _ hb
 intro k
 induction k with
 | zero=>
  intro i s hk hi hst hS hR
  have hin:i=n:=by omega
  subst hin;refine codeAny_builtin F.entry_set_update_loop ?_
  rw[Around.under_plainId F.plain_set_update_loop _];show wpAny _ A.in1 (pyNext (.ref I) >>= _) _ _ s
  refine wpAny_bind (W.done s _ _ hst fun s' hm=>?_)
  show wpAny _ A.in1 (ret Value.none) _ _ s'
  exact wpAny_pure (hR s' (hm.mono hsub) (hS.at' (fun o e=>hm.heap S _ hSw e) (fun _=>rfl) rfl))
 | succ k ih=>
  intro i s hk hi hst hS hR
  have hlt:i<n:=by omega
  refine codeAny_builtin F.entry_set_update_loop ?_
  rw[Around.under_plainId F.plain_set_update_loop _];show wpAny _ A.in1 (pyNext (.ref I) >>= _) _ _ s
  refine wpAny_bind (W.item i s _ _ hlt hst fun v s' hP hst' hm=>?_)
  obtain⟨t,rfl⟩:=hval i v hP
  have hS':=hS.at' (h':=s'.heap) (fun o e=>hm.heap S _ hSw e) (fun _=>rfl) rfl
  show wpAny _ A.in1 (holding [Value.str (val i) t] (setAdd S (.str (val i) t)) >>= _) _ _ s'
  refine wpAny_bind (wpAny_holding ?_)
  unfold setAdd;refine wpAny_holding ?_
  refine wpAny_bind ((strKind prog w).pyHash (k:=val i) (lH _ _ _ _) ?_)
  have hroom:(fS val i).length+1<scanBound:=by have:=lG val i; omega
  refine Ic (G:=cV L) (knd:=strKind prog w) (s:={ s' with toks:=s'.toks+1 }) (fun t es h x g=>qU g es h x) (fun t es m g=>uM g es m) (fun t g=>kJ g) (lH _ _ _ _) rfl hS' hroom fun h' hsb hS2=>?_
  have hSi:=hS2.at' (h':=h') (fun o e=>e) (S':=fun k'=>(fS val (i+1)).any (· == k')) (m':=(fS val (i+1)).length) (fun k'=>by rw[iy,mT]) (by rw[iy,xo])
  refine wpAny_pure ⟨plainId_quiet F.plain_set_update_loop _,ih (i+1) _ (by omega) hlt (W.frame _ s' _ _ hst' (Nat.le_succ _) fun b hb o e=>?_) hSi fun s'' hm'' hS''=>?_⟩
  ·rw[hsb.2 b (fun h:b=S=>hSf (by rw[← h]; exact hb))]; exact e
  ·refine hR s'' (Moved.trans W.gtrans ((hm.mono hsub).then_heap (Nat.le_succ _) fun b o hb e=>?_) hm'') hS''
   rw[hsb.2 b (fun h:b=S=>hb (by rw[h]; exact List.mem_cons_self))]; exact e
end
section
variable{prog:Program}{w:World}{A:Around}{E:Value→Shared→Prop}{s:Shared}
theorem xG{l:Addr}{items:Array Value}{ns:List Str}{Q:Value→Shared→Prop}(hh:A.handled=none)(hl:s.heap.IsList l items)(hi:StrsAre items.toList ns)(hb:items.size+1<scanBound)
  (h:∀ (h':Heap) (tk:Nat),SetG (strKind prog w) (cV (cx w)) h' s.heap.objs.size (fun k'=>(fS (fun i=>ns.getD i "") items.size).any (· == k')) (fS (fun i=>ns.getD i "") items.size).length→
   (∀ b o,b<s.heap.objs.size→s.heap.get? b=some o→h'.get? b=some o)→Q (.ref s.heap.objs.size) { s with heap:=h',toks:=tk }) :
  wpAny (model prog w) A (call (.type "set") [.ref l]) Q E s:=by
 obtain⟨c,tl,hmro⟩:=F.called_set.mro
 have hmade:=F.called_set.made;have hsub:=F.called_set.sub;refine wpAny_call (codeAny_of_tree ?_)
 show wpAny _ _ (callAny (.type "set") _) _ _ _
 refine wpAny_pure ⟨Code.quiet_builtin _ (by decide +kernel),codeAny_builtin F.entry_type_call ?_⟩
 rw[Around.under_plain (weight_type_call_type "set" [.ref l] []) rfl];have h1:=F.called_set.notType;have h2:=F.called_set.canCreate;have hct:=F.typeCall_set_1 (.ref l)
 repeat (any_goals (first | assumption | wp_step))
 refine codeAny_mono (zk (.ref l) (E:=E) (Q₁:=fun obj s₁=>obj = .ref s.heap.objs.size∧s₁={ s with heap:=s.heap.push { cls:=.type "set", dict:=none,data:=.set #[] 0 (.fresh 0 0 (cx w)) } }) ⟨rfl,rfl⟩) fun r s₁ hr=>?_
 cases r with
 | error e=>exact hr
 | ok fl=>
  cases fl with
  | ret obj=>
   obtain⟨rfl,rfl⟩:=hr
   have hS:(s.heap.push { cls:=.type "set", dict:=none,data:=.set #[] 0 (.fresh 0 0 (cx w)) }).get? s.heap.objs.size=some { cls:=.type "set", dict:=none,data:=.set #[] 0 (.fresh 0 0 (cx w)) }:=Heap.get?_push_size _ rfl
   have hT:Shared.TypeIs { s with heap:=s.heap.push { cls:=.type "set", dict:=none,data:=.set #[] 0 (.fresh 0 0 (cx w)) } } (.ref s.heap.objs.size) "set" := ⟨_,hS,rfl⟩
   have hli:=F.called_set.init.lookup;have hbi:=F.called_set.init.bind (.ref s.heap.objs.size)
   repeat (any_goals (first | assumption | wp_step))
   refine codeAny_mono (codeAny_call_builtin (R:=wants (fun r s₂=>r = .none∧∃ h' tk,s₂={ s with heap:=h',toks:=tk }∧
     SetG (strKind prog w) (cV (cx w)) h' s.heap.objs.size (fun k'=>(fS (fun i=>ns.getD i "") items.size).any (· == k')) (fS (fun i=>ns.getD i "") items.size).length∧
     (∀ b o,b<s.heap.objs.size→s.heap.get? b=some o→h'.get? b=some o)) E) F.called_set.init.plain F.entry_set_init (check_set_init_1 hT ?_)) fun r₂ s₂ hr₂=>?_
   ·obtain⟨ol,hol,hcl,nl,hdl⟩:=hl
    obtain⟨ocls,odict,odata,oslots⟩:=ol
    simp only at hcl hdl
    subst hcl; subst hdl
    have hol':(s.heap.push { cls:=.type "set", dict:=none,data:=.set #[] 0 (.fresh 0 0 (cx w)) }).get? l=some { cls:=.type "list", dict:=odict,data:=.seq items nl,slots:=oslots }:=Heap.get?_push_of_some _ hol
    have hsls:=F.sub_list_set;have hslf:=F.sub_list_frozenset;have hne:(Value.type "list" == Value.type "dict")=false:=by decide
    have hl1:(s.heap.push { cls:=.type "set", dict:=none,data:=.set #[] 0 (.fresh 0 0 (cx w)) }).IsList l items:=⟨_,hol',rfl,nl,rfl⟩
    unfold Builtin.«set.__init__» noKeywords Builtin.Frozenset.updateFrom
    generalize hPI:pyIter=PI
    wp_walk
    subst hPI;refine wpAny_pyIter_list hl1 ?_
    refine wpAny_bind (wpAny_runValue ?_)
    have hlS:l<s.heap.objs.size:=Heap.lt_size hol
    have hh3:A.in1.in1.in1.handled=none:=by simp[hh]
    have hneI:l≠(s.heap.push { cls:=.type "set", dict:=none,data:=.set #[] 0 (.fresh 0 0 (cx w)) }).objs.size:=by
     rw[Heap.size_push]; exact Nat.ne_of_lt (Nat.lt_succ_of_lt hlS)
    have hSf:s.heap.objs.size∉[(s.heap.push { cls:=.type "set", dict:=none,data:=.set #[] 0 (.fresh 0 0 (cx w)) }).objs.size,l]:=by
     rw[Heap.size_push]; simp only[List.mem_cons,List.mem_singleton,List.not_mem_nil,or_false,not_or]
     exact⟨Nat.ne_of_lt (Nat.lt_succ_self _),Nat.ne_of_gt hlS⟩
    have hval:∀ (i:Nat) (v:Value),items[i]? = some v→∃ t,v = .str ((fun i=>ns.getD i "") i) t:=fun i v hv=>sV hi i v (by rw[Array.getElem?_toList]; exact hv)
    refine yX (L:=cx w) ((Walks.list hh3 _ l hneI items).toS) s.heap.objs.size hSf (fun i=>ns.getD i "") hval hb (items.size - 0) 0 _ (by omega) (Nat.zero_le _) ⟨⟨_,Heap.get?_push_size _ rfl,rfl,rfl⟩,(hl1.push _)⟩ ?hS0 ?hR
    case hS0=>
     refine⟨{ cls:=.type "set", dict:=none,data:=.set #[] 0 (.fresh 0 0 (cx w)) },#[],0,.fresh 0 0 (cx w),Heap.get?_push_of_some _ hS,?_⟩
     exact⟨⟨rfl,rfl,rfl⟩,rfl,fun e he=>by simp at he,fun k=>by simp[pQ],by decide,rfl,rfl,⟨rfl,fun a b ha=>absurd ha (Nat.not_lt_zero _)⟩,List.Pairwise.nil⟩
    case hR=>
     intro s' hm hS'
     obtain⟨h',g',d',tk',os'⟩:=s'
     have eg:g'=s.gens:=hm.gens
     have ed:d'=s.drawn:=hm.drawn
     have eo:os'=s.os:=hm.os
     subst eg; subst ed; subst eo
     show wpAny _ _ _ _ _ _
     refine wpAny_pure ?_
     show wpAny _ _ (ret Value.none) _ _ _
     refine wpAny_pure ⟨rfl,h',tk',rfl,hS',fun b o hb e=>?_⟩
     have hb1:b≠s.heap.objs.size:=Nat.ne_of_lt hb
     have hb2:b≠(s.heap.push { cls:=.type "set", dict:=none,data:=.set #[] 0 (.fresh 0 0 (cx w)) }).objs.size:=by
      rw[Heap.size_push]; exact Nat.ne_of_lt (Nat.lt_succ_of_lt hb)
     exact hm.heap b o (by simp only[List.mem_cons,List.mem_singleton,List.not_mem_nil,or_false,not_or]; exact⟨hb1,hb2⟩) (Heap.get?_push_of_some _ (Heap.get?_push_of_some _ e))
   ·cases r₂ with
    | error e=>exact hr₂
    | ok fl₂=>
     cases fl₂ with
     | ret r=>
      obtain⟨rfl,h',tk,rfl,hS',hk'⟩:=hr₂
      repeat (any_goals (first | assumption | wp_step))
      exact h _ _ hS' hk'
     | _=>exact hr₂.elim
  | _=>exact hr.elim
end
def Az(K:PySem.W.Frag)(SO:Addr→List Str→HO):List V→Hp→VK→Prop:=fun xs H Q=>∃ p,∃ ns:List Str,xs=[.ref p]∧SqL K H p (ns.map V.str)∧ns.length≤60∧∀ (l:Addr) (ds:List Str),H l=none→ds.Nodup→(∀ x,x∈ds ↔ x∈ns)→ds.length≤ns.length→Q (.ref l) (upd H l (SO l ds))
def mU(SO:Addr→List Str→HO):List V→Hp→VK→Prop:=fun xs H Q=>∃ p,∃ ds:List Str,xs=[.ref p]∧H p=some (SO p ds)∧ds.length≤60∧∀ (l:Addr) (ts:List Str),H l=none→ts.Perm ds→sortedS ts=true→Q (.ref l) (upd H l (.lst (ts.map V.str)))
def gP(e:Int × Value):Str:=match e.2 with
 | .str d _=>d
 | _ => ""
def E1(w:World)(h:Heap)(a:Addr)(ds:List Str):Prop:=∃ o es ep t,h.get? a=some o∧o.ExactSet∧o.data = .set es ep t∧es.size<scanBound∧t.fits es.size=true∧cV (cx w) t∧(∀ e∈es.toList,∃ tk,e.2 = .str (gP e) tk)∧es.toList.map gP=ds
def fL(w:World)(a:Addr)(ds:List Str):HO:=.ext fun h=>E1 w h a ds
theorem BW{prog:Program}{w:World}{h:Heap}{a:Addr}{S:Str→Bool}{n:Nat}(x:SetG (strKind prog w) (cV (cx w)) h a S n):∃ ds,E1 w h a ds∧ds.Nodup∧(∀ k,k∈ds ↔ S k=true)∧ds.length=n:=by
 obtain⟨o,es,ep,t,ho,T⟩:=x
 have hk:∀ e∈es.toList,∃ tk,e.2 = .str (gP e) tk:=fun e he=>by
  obtain⟨⟨k,hk,_⟩,_⟩:=T.el e he
  obtain⟨tk,e2⟩:=Value.isStrOf_shape hk
  exact⟨tk,by unfold gP; rw[e2]⟩
 have his:∀ e∈es.toList,∀ k,(strKind prog w).is k e.2=true ↔ k=gP e:=fun e he k=>by
  obtain⟨tk,e2⟩:=hk e he
  constructor
  ·intro z
   obtain⟨tk',e3⟩:=Value.isStrOf_shape z
   rw[e3]at e2
   cases e2; rfl
  ·rintro rfl; rw[e2]; exact lH _ _ _ _
 refine⟨es.toList.map gP,⟨o,es,ep,t,ho,T.ex,T.dat,T.few,T.fit,T.good,hk,rfl⟩,?_,fun k=>?_,by rw[List.length_map,Array.length_toList]; exact T.num⟩
 ·refine List.pairwise_map.mpr (List.Pairwise.imp_of_mem (fun {x y} hx hy hab e=>?_) T.apart)
  have h1:=hab (gP x) ((his x hx _).mpr rfl);rw[(his y hy _).mpr e]at h1; cases h1
 ·rw[T.mem,List.mem_map]
  constructor
  ·rintro⟨e,he,rfl⟩; exact⟨e,he,(his e he _).mpr rfl⟩
  ·rintro⟨e,he,z⟩; exact⟨e,he,((his e he _).mp z).symm⟩
section
variable{X:Cx}
theorem ux{m:Nat}(hr:Room m X.A){K:PySem.W.Frag}(hK:X.K=K):CallR X (.type "set") (Az K (fL X.w)):=by
 subst hK;intro pins s σ H xs us Q I r h
 obtain⟨p,ns,rfl,hq,h60,q⟩:=h
 obtain⟨u,rfl,ru⟩:=dG r
 cases ru;obtain⟨its,rv,pl,hz⟩:=I.list hq
 have hlen:its.length=ns.length:=by rw[← rv.length,List.length_map]
 refine xG (ns:=ns) hr.hd pl.isList (by simpa using iM rv) (by simp only[List.size_toArray]; unfold scanBound; omega) fun h' tk hS hk=>?_
 obtain⟨ds,hg,hnd,hmem,hdl⟩:=BW hS
 obtain⟨o,es,ep,t,ho,hrest⟩:=id hg
 refine⟨.ref s.heap.objs.size,_,I.laid (fun b o e=>hk b o (Heap.lt_size e) e) (Nat.le_refl _) (show ObjOk X.prog X.w _ h' _ (fL X.w s.heap.objs.size ds) from ⟨hg,⟨o,ho⟩,fun h1 h2 g k=>?_⟩),rfl,q _ ds (I.hok.fresh (Nat.le_refl _)) hnd (fun x=>?_) ?_⟩
 ·obtain⟨o,es,ep,t,ho,rest⟩:=g
  exact⟨o,es,ep,t,k o ho,rest⟩
 ·rw[hmem,tm]
  simp only[List.size_toArray,List.any_map,List.any_eq_true,List.mem_range]
  constructor
  ·rintro⟨i,hi,e⟩
   have e':ns.getD i "" = x:=by simpa using e
   rw[← e',List.getD_eq_getElem?_getD,List.getElem?_eq_getElem (by omega)]
   exact List.getElem_mem _
  ·intro hx
   obtain⟨i,hi,e⟩:=List.mem_iff_getElem.mp hx
   exact⟨i,by omega,by simp[List.getD_eq_getElem?_getD,List.getElem?_eq_getElem hi,e]⟩
 ·rw[hdl]
  have:=lG (fun i=>ns.getD i "") its.toArray.size
  simp only[List.size_toArray]at this ⊢
  omega
end
def jk(v:Value):Str:=match v with
 | .str d _=>d
 | _ => ""
theorem rz:∀ (l:List Value),(∀ v∈l,∃ tk,v = .str (jk v) tk)→StrsAre l (l.map jk)
 | [],_=>.nil
 | v::l,h=>by
  obtain⟨tk,e⟩:=h v List.mem_cons_self
  have r:=rz l fun u hu=>h u (List.mem_cons_of_mem _ hu)
  rw[List.map_cons];generalize jk v=d at e ⊢;subst e;exact .cons d tk r
section
variable{prog:Program}{w:World}{A:Around}{E:Value→Shared→Prop}{s:Shared}
theorem uP{a:Addr}{o:Obj}{es:Array (Int × Value)}{ep:Nat}{t:SetTable}{Q:Value→Shared→Prop}(hh:A.handled=none)(ho:s.heap.get? a=some o)(hx:o.ExactSet)(hd:o.data = .set es ep t)(hf:t.fits es.size=true)(h64:es.size<64)(hg:cV (cx w) t)
  (hint:∀ e∈es.toList,∃ tk,e.2 = .str (gP e) tk)
  (hQ:∀ h' d' tk q out c ns',(∀ b o,s.heap.get? b=some o→h'.get? b=some o)→s.heap.objs.size≤q→h'.get? q=some (seqObj "list" out c)→StrsAre out.toList ns'→ns'.Perm (es.toList.map gP)→sortedS ns'=true→Q (.ref q) { s with heap:=h',drawn:=d',toks:=tk }) :
  wpAny (model prog w) A (call (.builtin "sorted") [.ref a]) Q E s:=by
 refine Calls.call_function_entry kind_sorted plain_sorted entry_sorted (args_sorted1 _) ?_
 unfold Builtin.«sorted»
 refine wpAny_bind (m:=checkCount "sorted" 1 1 _) (wpAny_pure ?_)
 refine wpAny_bind (uE hh ho hx hd hf (by unfold scanBound; omega) hg fun h' d' tk acc hk hlt hp=>?_)
 have hal:acc.length=es.size:=by rw[hp.length_eq]; simp
 have hI:StrsAre acc (acc.map jk):=rz acc fun v hv=>by
  obtain⟨e,he,rfl⟩:=List.mem_map.mp (hp.mem_iff.mp hv)
  exact hint e he
 have hperm:(acc.map jk).Perm (es.toList.map gP):=by
  have:=hp.map jk
  rw[List.map_map]at this
  exact this
 refine wpAny_bind (wpAny_newList ?_ (by rw[hal,sizeLine_eq]; omega))
 have hoL:(h'.push (seqObj "list" acc.toArray 0)).get? h'.objs.size=some (seqObj "list" acc.toArray 0):=Heap.get?_push_size _ rfl
 show wpAny _ _ _ _ _ { s with heap:=h'.push (seqObj "list" acc.toArray 0),drawn:=d',toks:=tk }
 refine wpAny_bind (wpAny_holding (wpAny_call_entry slot_list_sort ⟨_,hoL,rfl⟩ entry_list_sort (list_sort_treeK strKind_oneLt hoL hI.keysOf (fun v₁ v₂ rest e=>keyKind_strs (by rw[← e]; exact hI)) (by omega) fun st' b1 b2=>⟨_,rfl,?_⟩) (args_list_sort _)))
 obtain⟨ns',a1,a2,a3⟩:=sorted_out_str hI b1 b2
 generalize (arrOf st').map (·.2)=out at a1 ⊢;obtain⟨c,hc⟩:=sortedHeap_at (out:=out) hoL
 refine wpAny_pure ⟨_,rfl,hQ _ d' tk h'.objs.size out c ns' (fun b o e=>?_) (Nat.le_of_lt hlt) hc a1 (a2.trans hperm) a3⟩
 have hb:=Heap.lt_size (hk b o e);rw[sortedHeap_old (Nat.ne_of_lt hb) (by rw[Heap.size_push]; exact Nat.lt_succ_of_lt hb)]
 exact Heap.get?_push_of_some _ (hk b o e)
end
section
variable{X:Cx}
theorem nC{m:Nat}(hr:Room m X.A):CallR X (.builtin "sorted") (mU (fL X.w)):=by
 intro pins s σ H xs us Q I r h
 obtain⟨p,ds,rfl,e,h60,q⟩:=h
 obtain⟨u,rfl,ru⟩:=dG r
 cases ru;obtain⟨o,es,ep,t,ho,hx,hd,hfew,hf,hg,hint,hds⟩:=(show ObjOk X.prog X.w H s.heap p (fL X.w p ds) from I.hok p _ e).1
 have hz:es.size≤60:=by rw[← hds,List.length_map,Array.length_toList]at h60; exact h60
 have hs:sizeLine=16777216:=sizeLine_eq
 refine uP hr.hd ho hx hd hf (by omega) hg hint fun h' d' tk qa out c ns' hk hq hc a1 a2 a3=>?_
 have hl:ns'.length≤60:=by rw[a2.length_eq,List.length_map,Array.length_toList]; exact hz
 have I2:=I.laid (t':=tk) (a:=qa) (o:=.lst (ns'.map V.str)) hk hq (show ObjOk X.prog X.w _ h' _ (.lst (ns'.map V.str)) from ⟨by rw[List.length_map]; omega,out.toList,c,ml a1,by simpa using hc⟩)
 refine⟨.ref qa,_,?_,rfl,q _ ns' (I.hok.fresh hq) (by rw[← hds]; exact a2) a3⟩
 exact⟨I2.ok,I2.os,I2.bare,I2.base,I2.loc,I2.cell,I2.free,I2.freeC,I2.pin,I2.hok,I2.len⟩
theorem q8{m:Nat}(K:PySem.W.Frag)(w:World)(hr:Room m X.A)(hK:X.K=K:=by rfl)(hw:X.w=w:=by rfl):CallR X (.type "set") (Az K (fL w)):=hw ▸ ux hr hK
theorem lf{m:Nat}(w:World)(hr:Room m X.A)(hw:X.w=w:=by rfl):CallR X (.builtin "sorted") (mU (fL w)):=hw ▸ nC hr
end
section
variable{X:Cx}{c a b:Expr}{tA tB1 tB2:TT}{pos:Pos}
end
end L2
namespace L2
open PySem PySem.Spec PyProof.Rows PySem.SeqAt PySem.Builtin PySem.Builtin.Str PySem.StrLaws
section
variable{X:Cx}
end
end L2
namespace L2
open PySem PySem.Spec PyProof.Rows PySem.SeqAt PySem.Builtin PySem.Builtin.Str PySem.StrLaws
def qt:V→List V→Hp→VK→Prop:=fun x xs H Q=>∃ s y,x = .str s∧xs=[.str y]∧Q (.bl (decide (0+y.length≤s.length)&&subAt s y 0)) H
theorem jy{H:Hp}{Q:VK}(s y:Str):qt (.str s) [.str y] H Q=Q (.bl (decide (0+y.length≤s.length)&&subAt s y 0)) H:=
 propext ⟨fun ⟨_,_,e1,e2,q⟩=>by cases e1; cases e2; exact q,fun q=>⟨s,y,rfl,rfl,q⟩⟩
theorem nj{X:Cx}:MtR X "str.startswith" qt:=by
 intro pins s σ H x xs v us Q I rx r h
 obtain⟨z,y,rfl,rfl,q⟩:=h
 obtain⟨t,rfl⟩:=rx
 obtain⟨u,rfl,ru⟩:=dG r
 obtain⟨u,rfl⟩:=ru
 exact call_gives F.slot_str_startswith (typeIs_str _ _ _) F.entry_str_startswith (F.args_str_startswith_2 _ _) (gives_str_startswith z y t u) ⟨.bl _,H,I,rfl,q⟩
theorem eV{X:Cx}(K:PySem.W.Frag)(hK:X.K=K:=by rfl):OpR X (binaryOp .Add) (nN K):=hK ▸ AH
theorem pA{K:PySem.W.Frag}{H:Hp}{Q:VK}(a b:Addr):nN K (.ref a) (.ref b) H Q=∃ xs ys,SqT K H a xs∧SqT K H b ys∧xs≠[]∧xs.length+ys.length≤sizeLine∧(ys=[]→Q (.ref a) H)∧(ys≠[]→∀ p,H p=none→Q (.ref p) (upd H p (.tup (xs++ys)))):=
 propext ⟨fun ⟨_,_,xs,ys,e1,e2,q⟩=>by cases e1; cases e2; exact⟨xs,ys,q⟩,fun ⟨xs,ys,q⟩=>⟨a,b,xs,ys,rfl,rfl,q⟩⟩
end L2
namespace L2
open PySem PySem.Spec PyProof.Rows
section
variable{X:Cx}
end
end L2
namespace L2
open PySem PySem.Spec PyProof.Rows
abbrev iT:=List (Option Int)
def MO(P:Program)(w:World):HeapKind P w (iT):=Ah (eh P w) (show 0≤7 by decide)
def EH(P:Program)(w:World)(a:Addr)(xs:List (iT × Addr × Value)):HO:=
 .ext fun h=>∃ o es ep,h.get? a=some o∧o.ExactDict∧o.data = .dict es ep∧es.toList=xs.map (entryOfKey (MO P w))∧(xs.map (·.1)).Nodup
def F9(H:Hp)(k:iT)(b:Addr):Prop:=H b=some (.tup (k.map ir))
def Iz(H:Hp)(p:iT × V)(q:iT × Addr × Value):Prop:=q.1=p.1∧F9 H p.1 q.2.1∧RelV p.2 q.2.2
def DO(P:Program)(w:World)(H:Hp)(a:Addr)(kvs:List (iT × V)):Prop:=
 ∃ xs,H a=some (EH P w a xs)∧(a == sysModules)=false∧xs.length≤sizeLine∧Paired (Iz H) kvs xs
section
variable{P:Program}{w:World}{H:Hp}
end
section
variable{X:Cx}{pins:List (Addr × Obj)}{σ : St}{H:Hp}{s:Shared}{a b:Addr}{k:iT}{kvs:List (iT × V)}
end
end L2
namespace L2
open PySem PySem.Spec PyProof PyProof.Rows
section
variable{K:PySem.W.Frag}{a b:Addr}{xs ys:List V}{g:TG}{te:TE}{nT:Nat}{σ : St}{D:Addr}{Q:VK}{H:Hp}
theorem vH{tc:TT}(Pv:Nat→List V→Hp→Prop)(h0:Pv 0 [] H)(hl:∀ i zs H,i≤xs.length→Pv i zs H→SqL K H a xs)
  (hs:∀ i zs H x t,xs[i]? = some x→i<xs.length→Pv i zs H→H t=none→g (.ref t) (σ++List.replicate nT none) (upd H t (.tup [.int i,x])) (nI xs.length i Pv D zs tc te))
  (hd:∀ zs H,Pv xs.length zs H→Q (.ref D) H):fw (vU K a) g tc te nT σ D Q H:=by
 refine o8 xs.length Pv h0 (fun i zs H hi p=>⟨xs,xs[i],hl i zs H (Nat.le_of_lt hi) p,by simp[hi]⟩) (fun zs H p=>⟨xs,hl _ zs H (Nat.le_refl _) p,Nat.le_refl _⟩) (fun i zs H v H' hi p yl=>?_) hd
 obtain⟨t,x,ht,rfl,rfl,y1⟩:=yl
 exact hs i zs H x t (y1 xs (hl i zs H (Nat.le_of_lt hi) p)) hi p ht
end
theorem AQ{α : Type}{xs:List α}{v:α}(h:xs[xs.length - 1]? = some v):cC xs (-1)=some v:=by
 have hl:0<xs.length:=by
  refine Classical.byContradiction fun hn=>?_
  rw[List.getElem?_eq_none (by omega)]at h; cases h
 unfold cC iS;rw[if_neg (by decide),if_pos (by omega)]
 show xs[(-1+(xs.length:Int)).toNat]? = some v
 rw[show (-1+(xs.length:Int)).toNat=xs.length - 1 by omega]; exact h
section
variable{prog:Program}{w:World}{A:Around}{E:Value→Shared→Prop}{s:Shared}
end
end L2
namespace L2
open PySem PySem.Spec PyProof PyProof.Rows
section
variable{X:Cx}
end
section
variable{X:Cx}
end
section
variable{d:Addr}{o:Obj}{kvs:List (aK × V)}{g:TG}{σ : St}{H:Hp}
end
end L2
namespace PySem.SeqAt
open AutoSeq1 (wpAny_loadPart')
open MeetsSeq MeetsSeq2 MeetsSeq3
end PySem.SeqAt
namespace L2
open PySem PySem.Spec PyProof PyProof.Rows
section
variable{X:Cx}
end
end L2
namespace L2
open PySem PySem.Spec PyProof PyProof.Rows
section
variable{X:Cx}
end
end L2
namespace L2
open PySem PySem.Spec PyProof.Rows
section
variable{X:Cx}{pins:List (Addr × Obj)}{σ : St}{H:Hp}{s:Shared}{a:Addr}{kvs:List (Option Int × V)}
end
section
variable{X:Cx}(P:Program)(w:World)
end
end L2
namespace L2
open PySem PySem.Spec PyProof PyProof.Rows
section
variable{prog:Program}{w:World}{A:Around}{E:Value→Shared→Prop}{s:Shared}
variable{z TI TO i1 i2 t1 t2:Addr}{xs ys:Array Value}{k1 k2:Nat}{a b:Value}
abbrev E5 (h:Heap) (t1:Addr):Heap:=h.push { cls:=.type "list_iterator", data:=.fields #[.ref t1,.int 0 0] }
abbrev Kd (h:Heap) (t1 t2:Addr):Heap:=(E5 h t1).push { cls:=.type "tuple_iterator", data:=.fields #[.ref t2,.int 0 0] }
end
section
variable{K:PySem.W.Frag}{a b:Addr}{xs ys:List V}{g:TG}{te:TE}{nT:Nat}{σ : St}{D:Addr}{Q:VK}{H:Hp}
end
end L2
namespace L2
open PySem PySem.Spec PyProof PyProof.Rows PySem.SeqAt
section
variable{X:Cx}
end
section
variable{X:Cx}
end
section
variable{X:Cx}
end
end L2
namespace L2
open PySem PySem.Spec PyProof PyProof.Rows
section
variable{X:Cx}
end
section
variable{prog:Program}{w:World}{κ : Type}[DecidableEq κ]{knd:HeapKind prog w κ}{A:Around}{E:Value→Shared→Prop}{s:Shared}
end
section
variable{X:Cx}
end
end L2
namespace L2
open PySem PySem.Spec PyProof PyProof.Rows
section
variable{X:Cx}{pins:List (Addr × Obj)}{σ : List (Option V)}{H:Hp}{s:Shared}
end
section
variable{X:Cx}
def xg:lM:=fun o i v H Q=>∃ a b kvs k,o = .ref a∧i = .ref b∧H a=some (.dT kvs)∧H b=some (.tup (k.map kV))∧kvs.length<sizeLine∧Q (upd H a (.dT (cK kvs k v)))
theorem xh{n:Nat}(hr:Room n X.A):PSet X xg:=by
 intro pins s σ H o i v ov iv u Q I ro ri rv h
 obtain⟨a,b,kvs,k,rfl,rfl,e,eb,hl,q⟩:=h
 cases ro;exact mL (by have:=hr.un; omega) I (DPut.t e eb hl) ri rv fun s' I'=>⟨_,I',q⟩
end
open PySem.SeqAt
section
variable{X:Cx}
end
end L2
namespace PySem.SeqAt
open AutoSeq1 (wpAny_loadPart')
open MeetsSeq MeetsSeq2 MeetsSeq3
open SeqRoads2
section
variable{A:Around}{s:Shared}
end
end PySem.SeqAt
namespace L2
open PySem PySem.Spec PyProof PyProof.Rows PySem.SeqAt
section
variable{X:Cx}{pins:List (Addr × Obj)}{σ : St}{H:Hp}{s:Shared}
end
end L2
namespace PySem
section
variable{M:Program}{w:World}{A:Around}{R:Result→Shared→Prop}{I:Addr}{fp wr:List Addr}{n:Nat}{Pv:Nat→Value→Prop}{St:Nat→Heap→Prop}
end
end PySem
namespace PySem
section
variable{M:Program}{w:World}{A:Around}{E:Value→Shared→Prop}{s:Shared}
end
end PySem
namespace L2
open PySem PySem.Spec PyProof PyProof.Rows PySem.SeqAt
section
variable{X:Cx}
end
end L2
namespace L2
open PySem PySem.Spec PyProof PyProof.Rows
section
variable{X:Cx}
end
end L2
namespace L2
open PySem PySem.Spec PyProof.Rows
abbrev gX:=Sum Str (List (Option Int))
def vw(prog:Program)(w:World)(h:Heap):gX→Value→Prop
 | .inl u,v=>∃ t,v=Value.str u t
 | .inr l,v=>IsTupK (eh prog w) h l v
theorem El(i j:Str):decide (i=j)=decide ((Sum.inl i:gX)=Sum.inl j):=by
 by_cases z:i=j
 ·subst z; simp
 ·have z':¬ ((Sum.inl i:gX)=Sum.inl j):=fun q=>z (Sum.inl.inj q)
  rw[decide_eq_false z',decide_eq_false z]
theorem EB(l l':List (Option Int)):decide (l=l')=decide ((Sum.inr l:gX)=Sum.inr l'):=by
 by_cases z:l=l'
 ·subst z; simp
 ·have z':¬ ((Sum.inr l:gX)=Sum.inr l'):=fun q=>z (Sum.inr.inj q)
  rw[decide_eq_false z',decide_eq_false z]
theorem EA(i:Str)(l:List (Option Int)):decide ((Sum.inl i:gX)=Sum.inr l)=false:=decide_eq_false (fun q=>nomatch q)
theorem EN(i:Str)(l:List (Option Int)):decide ((Sum.inr l:gX)=Sum.inl i)=false:=decide_eq_false (fun q=>nomatch q)
theorem ER{prog:Program}{w:World}{A:Around}{E:Value→Shared→Prop}{s:Shared}{u v:Value}{Q:Bool→Shared→Prop}(hu:A.units+1<cLine):∀ (x y:gX),vw prog w s.heap x u→vw prog w s.heap y v→Q (decide (x=y)) s→
  wpAny (model prog w) A (PySem.eqBool u v) Q E s
 | .inl i,.inl j,⟨t,e1⟩,⟨t',e2⟩,h=>by
  subst e1 e2;rw[← El]at h
  exact wpAny_eqBool_str h
 | .inl i,.inr l,⟨t,e1⟩,hy,h=>by
  subst e1;obtain⟨b,its,rfl,ht⟩:=IsTupK.tup (K:=eh prog w) hy
  rw[EA]at h
  exact SeqAt.EqAt.str_tuple i t ht (Nat.lt_of_succ_lt hu) prog w E Q h
 | .inr l,.inl j,hx,⟨t,e1⟩,h=>by
  subst e1;obtain⟨b,its,rfl,ht⟩:=IsTupK.tup (K:=eh prog w) hx
  rw[EN]at h
  exact SeqAt.EqAt.tuple_str j t ht (Nat.lt_of_succ_lt hu) prog w E Q h
 | .inr l,.inr l',hx,hy,h=>by
  rw[← EB]at h
  exact lZ (K:=eh prog w) (tI hu) hx hy h
def IT(prog:Program)(w:World):IK prog w gX where
 is:=vw prog w
 hash:=fun k=>match k with
  | .inl u=>hashStr w u
  | .inr l=>pX (eh prog w) l
 draws:=fun k=>match k with
  | .inl _=>1
  | .inr l=>gN (eh prog w) l+1
 deep:=1
 inj:=fun {h v x y} a b=>by
  cases x with
  | inl i=>
   obtain⟨t,rfl⟩:=(show ∃ t,v=Value.str i t from a)
   cases y with
   | inl j=>obtain⟨t',e⟩:=(show ∃ t',Value.str i t=Value.str j t' from b); injection e with e1 _; rw[e1]
   | inr l=>obtain⟨a,_,e,_⟩:=IsTupK.tup (show IsTupK (eh prog w) h l _ from b); cases e
  | inr l=>
   cases y with
   | inl j=>
    obtain⟨t,rfl⟩:=(show ∃ t,v=Value.str j t from b)
    obtain⟨a,_,e,_⟩:=IsTupK.tup (show IsTupK (eh prog w) h l _ from a); cases e
   | inr l'=>rw[(vg (eh prog w)).inj (show IsTupK (eh prog w) h l v from a) (show IsTupK (eh prog w) h l' v from b)]
 keeps:=fun {h h' k v d o es ep} a ho hd hs=>by
  cases k with
  | inl i=>exact a
  | inr l=>exact(vg (eh prog w)).keeps (show IsTupK (eh prog w) h l v from a) ho hd hs
 pyHash:=fun {A E s k v Q} hu hk h=>by
  cases k with
  | inl i=>
   obtain⟨t,rfl⟩:=(show ∃ t,v=Value.str i t from hk)
   exact wpAny_pyHash_str h
  | inr l=>exact jf (K:=eh prog w) (tI hu) hk h
 eqBool:=fun {A E s x y u v Q} hu hx hy h=>ER hu x y hx hy h
 quiet:=fun {A E s k v n Q} hk h=>by
  cases k with
  | inl i=>
   obtain⟨t,rfl⟩:=(show ∃ t,v=Value.str i t from hk)
   rw[eqIsQuiet_byValue _ rfl];exact wpAny_pure h
  | inr l=>exact iw (K:=eh prog w) hk h
abbrev lC:=Str × List (Option Int)
def sk(k:lC):List gX:=[.inl k.1,.inr k.2]
def MS(P:Program)(w:World):HeapKind P w (List gX):=Ah (IT P w) (show 1≤7 by decide)
def EE(P:Program)(w:World)(a:Addr)(xs:List (List gX × Addr × Value)):HO:=
 .ext fun h=>∃ o es ep,h.get? a=some o∧o.ExactDict∧o.data = .dict es ep∧es.toList=xs.map (entryOfKey (MS P w))∧(xs.map (·.1)).Nodup
def Ft(H:Hp)(k:lC)(b:Addr):Prop:=∃ t,H b=some (.tup [.str k.1,.ref t])∧H t=some (.tup (k.2.map ir))
def Hm(H:Hp)(p:lC × V)(q:List gX × Addr × Value):Prop:=q.1=sk p.1∧Ft H p.1 q.2.1∧RelV p.2 q.2.2
def DS(P:Program)(w:World)(H:Hp)(a:Addr)(kvs:List (lC × V)):Prop:=
 ∃ xs,H a=some (EE P w a xs)∧(a == sysModules)=false∧xs.length≤sizeLine∧Paired (Hm H) kvs xs
section
variable{P:Program}{w:World}{H:Hp}
end
section
variable{X:Cx}{pins:List (Addr × Obj)}{σ : St}{H:Hp}{s:Shared}{a b:Addr}{k:lC}{kvs:List (lC × V)}
end
end L2
namespace L2
open PySem PySem.Spec PyProof.Rows
section
variable{prog:Program}{w:World}{A:Around}{E:Value→Shared→Prop}{s:Shared}
end
section
variable{X:Cx}{pins:List (Addr × Obj)}{σ : St}{H:Hp}{s:Shared}
end
section
variable{X:Cx}{pins:List (Addr × Obj)}{σ : St}{H H1:Hp}{s s1:Shared}
end
end L2
namespace L2
open PySem PySem.Spec PyProof.Rows
section
variable{prog:Program}{w:World}{A:Around}{E:Value→Shared→Prop}{s:Shared}
theorem mE{it t:Addr}{items:Array Value}(hne:t≠it):∀ (n i:Nat) (s:Shared) (Q:List Value→Shared→Prop),s.heap.IsListIter it t i→s.heap.IsList t items→i+n≤items.size→
  (∀ h',h'.IsListIter it t (i+n)→Heap.SameBut it s.heap h'→Q ((items.toList.drop i).take n) { s with heap:=h' })→wpAny (model prog w) A (draw (.ref it) n) Q E s
 | 0,i,s,Q,hit,_,_,hQ=>by
  show wpAny _ _ (pure []) Q E s
  exact wpAny_pure (by simpa using hQ s.heap hit (Heap.SameBut.refl ..))
 | n+1,i,s,Q,hit,ht,hle,hQ=>by
  have hlt:i<items.size:=by omega
  show wpAny _ _ (pyNext (.ref it) >>= _) Q E s
  refine wpAny_bind (wpAny_pyNext_list_item hit ht (x:=items[i]) (by simp[hlt]) fun h₁ hit₁ hs₁=>?_)
  refine wpAny_bind (wpAny_holding (mE hne n (i+1) _ _ hit₁ (ht.extBut hs₁.extBut hne) (by omega) fun h₂ hit₂ hs₂=>wpAny_pure ?_))
  have hd:items.toList.drop i=items[i]::items.toList.drop (i+1):=by simp[List.drop_eq_getElem_cons,hlt]
  have:=hQ h₂ (by rw[show i+(n+1)=i+1+n by omega]; exact hit₂) (hs₁.trans hs₂)
  rw[hd,List.take_succ_cons]at this
  exact this
theorem j5{t:Addr}{items:Array Value}{Q:List Value→Shared→Prop}(hh:A.handled=none)(ht:s.heap.IsList t items)
  (hQ:∀ h',Heap.ExtBut s.heap.objs.size s.heap h'→Q items.toList { s with heap:=h' }):wpAny (model prog w) A (unpackItems (.ref t) items.size none) Q E s:=by
 obtain⟨o,ho,hc,hd⟩:=id ht
 have hlt:t≠s.heap.objs.size:=Nat.ne_of_lt (Heap.lt_size ho)
 unfold unpackItems;refine wpAny_bind ?_
 ·unfold notIterableAtAll
  refine wpAny_bind (wpAny_specialOf (show s.TypeIs (.ref t) "list" from ⟨o,ho,hc⟩) F.slot_list_iter.lookup ?_)
  refine wpAny_pure ?_
  simp only[Bool.false_eq_true,if_false]
  refine wpAny_bind (wpAny_holding (wpAny_pyIter_list ht ?_))
  refine wpAny_bind (wpAny_holding (mE hlt items.size 0 _ _ ⟨_,Heap.get?_push_size _ rfl,rfl,rfl⟩ (Heap.IsList.push ht _) (by omega) fun h₁ hit₁ hs₁=>?_))
  have hall:List.take items.size (List.drop 0 items.toList)=items.toList:=by
   rw[List.drop_zero]; exact List.take_of_length_le (by simp)
  rw[hall];rw[if_neg (by simp)]
  have ht₁:h₁.IsList t items:=(Heap.IsList.push ht _).extBut hs₁.extBut hlt
  refine wpAny_bind (wpAny_holding (wpAny_pyNext_list_end hh hit₁ ht₁ (by simp) fun h₂ he₂=>?_))
  simp only[Option.isSome_none,Bool.false_eq_true,if_false]
  refine wpAny_pure (hQ h₂ fun b o hb e=>he₂ b o hb (hs₁.extBut b o hb (Heap.get?_push_of_some _ e)))
theorem jv{env:Env}{elts:List Expr}{x1}{pos:Pos}{t:Addr}{items:Array Value}{Q:Unit→Shared→Prop}(hh:A.handled=none)(ht:s.heap.IsList t items)
  (hn:(assignEach elts env).length=items.size) (hstar:(assignEach elts env).findIdx? (·.1)=none)
  (h:∀ h',Heap.ExtBut s.heap.objs.size s.heap h'→wpAny (model prog w) A (assignInOrder ((assignEach elts env).map (·.2)) items.toList) Q E { s with heap:=h' }) :
  wpAny (model prog w) A (assign (.Tuple elts x1 pos) env (.ref t)) Q E s:=by
 rw[assign_Tuple];refine wpAny_bind (wpAny_standAt ?_)
 unfold unpack;rw[hn,hstar];exact wpAny_bind (wpAny_holding (j5 hh ht h))
end
section
variable{X:Cx}
def Di(K:PySem.W.Frag)(n:Nat)(t:fC):TG:=fun v σ H Q=>∃ a xs,v = .ref a∧SqL K H a xs∧xs.length=n∧t xs σ H Q
theorem A_(K:PySem.W.Frag)(n:Nat)(t:fC)(v:V){σ : St}{H:Hp}{G:St→Hp→Prop}:Di K n t v σ H G=∃ a xs,v = .ref a∧SqL K H a xs∧xs.length=n∧t xs σ H G:=rfl
theorem Bi(K:PySem.W.Frag){es:List Expr}{k n:Nat}{t:fC}{pos:Pos}(h:PGs X es t)(hn:(assignEach es X.env).length=n:=by rfl)(hst:(assignEach es X.env).findIdx? (·.1)=none:=by rfl)(hK:X.K=K:=by rfl)(hc:X.calm=true:=by rfl):PG X (.Tuple es k pos) (Di K n t):=by
 subst hK;intro pins s σ H v u Q I r hw
 obtain⟨a,xs,e1,hq,hl,hw⟩:=hw
 subst e1
 cases r;obtain⟨its,rv,pl,hz⟩:=I.list hq
 refine jv (I.ok.hd hc) pl.isList (by simp[hn,← hl,rv.length]) hst fun h' hx=>?_
 have I1:Inv X pins σ H { s with heap:=h' }:=I.kept (t':=s.toks) fun b o e=>hx b o (Nat.ne_of_lt (Heap.lt_size e)) e
 exact h pins _ σ H xs _ Q I1 (by simpa using rv) hw
end
end L2
namespace L2
open PySem PySem.Spec PyProof.Rows
def bN(n s:Nat):Bool:=n.testBit s
theorem lQ(n s:Nat):bN n s=decide (n / 2 ^ s % 2=1):=Nat.testBit_eq_decide_div_mod_eq
theorem AX(n s:Nat):n &&& 2 ^ s=(if bN n s=true then 2 ^ s else 0):=by
 unfold bN;refine Nat.eq_of_testBit_eq fun i=>?_
 rw[Nat.testBit_and,Nat.testBit_two_pow]
 by_cases c:s=i
 ·subst c
  cases h:n.testBit s <;> simp
 ·rw[decide_eq_false c,Bool.and_false]
  split
  ·rw[Nat.testBit_two_pow,decide_eq_false c]
  ·rw[Nat.zero_testBit]
def nG(n s:Nat):Nat:=if bN n s=true then n - 2 ^ s else n
def qA(n s:Nat):Nat:=if bN n s=true then n else n+2 ^ s
theorem nh{n s:Nat}(h:bN n s=true):2 ^ s≤n:=Nat.ge_two_pow_of_testBit h
theorem xF(n s:Nat):n ||| 2 ^ s=qA n s:=by
 unfold qA
 by_cases c:bN n s=true
 ·rw[if_pos c]
  refine Nat.eq_of_testBit_eq fun i=>?_
  rw[Nat.testBit_or,Nat.testBit_two_pow]
  by_cases d:s=i
  ·subst d
   have:n.testBit s=true:=c
   rw[this]; rfl
  ·rw[decide_eq_false d,Bool.or_false]
 ·rw[if_neg c]
  have hb:n / 2 ^ s % 2=0:=by
   rw[lQ,decide_eq_true_eq]at c; omega
  have hm:n % 2 ^ (s+1)=n % 2 ^ s:=by rw[Nat.mod_pow_succ,hb]; omega
  have hlt:n % 2 ^ (s+1)<2 ^ s:=by rw[hm]; exact Nat.mod_lt _ (Nat.two_pow_pos s)
  have e:=Nat.div_add_mod n (2 ^ (s+1));generalize n % 2 ^ (s+1)=b at hlt e;generalize n / 2 ^ (s+1)=a at e;have p2:2 ^ (s+1)=2 ^ s+2 ^ s:=by rw[Nat.pow_succ]; omega
  have h1:=Nat.two_pow_add_eq_or_of_lt (i:=s+1) (b:=b) (by omega) a
  have h2:=Nat.two_pow_add_eq_or_of_lt (i:=s+1) (b:=b+2 ^ s) (by omega) a
  rw[← e,h1,Nat.or_assoc,Nat.or_two_pow_eq_add_of_lt hlt,← h2]; omega
theorem fY(x:Int):PySem.Builtin.bitNot (PySem.Builtin.bitNot x)=x:=by unfold PySem.Builtin.bitNot; omega
theorem l_(n:Nat):decide (0≤PySem.Builtin.bitNot (n:Int))=false:=decide_eq_false (by unfold PySem.Builtin.bitNot; omega)
theorem qX(n s:Nat):PySem.Builtin.bitAnd (n:Int) (PySem.Builtin.bitNot ((2 ^ s:Nat):Int))=(nG n s:Int):=by
 unfold PySem.Builtin.bitAnd;rw[l_,decide_eq_true (Int.natCast_nonneg n)];show (n:Int) - (((n:Int).toNat &&& (PySem.Builtin.bitNot (PySem.Builtin.bitNot ((2 ^ s:Nat):Int))).toNat:Nat):Int)=_
 rw[fY,Int.toNat_natCast,Int.toNat_natCast,AX];unfold nG;split
 ·rename_i h
  have:=nh h
  omega
 ·simp
theorem C5(n s:Nat):PySem.Builtin.bitOr (n:Int) ((2 ^ s:Nat):Int)=(qA n s:Int):=by
 unfold PySem.Builtin.bitOr PySem.Builtin.bitAnd;rw[l_,l_];show PySem.Builtin.bitNot (PySem.Builtin.bitNot (((PySem.Builtin.bitNot (PySem.Builtin.bitNot (n:Int))).toNat ||| (PySem.Builtin.bitNot (PySem.Builtin.bitNot ((2 ^ s:Nat):Int))).toNat:Nat):Int))=_
 rw[fY,fY,fY,Int.toNat_natCast,Int.toNat_natCast,xF]
theorem D9(n s:Nat):PySem.Builtin.bitAnd ((n:Int) / 2 ^ s) 1=if bN n s=true then 1 else 0:=by
 rw[PyProof.Rows.bitAnd_m1,lQ];have e:(n:Int) / 2 ^ s % 2=((n / 2 ^ s % 2:Nat):Int):=by push_cast; rfl
 rw[e];split
 ·rename_i h; rw[of_decide_eq_true h]; rfl
 ·rename_i h
  rw[decide_eq_true_eq]at h
  have:n / 2 ^ s % 2=0:=by omega
  rw[this]; rfl
end L2
namespace L2
open PySem PySem.Spec PyProof PyProof.Rows
def RawD(h:Heap)(d:Addr)(es:Array DictEntry)(ep:Nat):Prop:=∃ o,h.get? d=some o∧o.ExactDict∧o.data = .dict es ep
section
variable{prog:Program}{w:World}{A:Around}{E:Value→Shared→Prop}{s:Shared}{d:Addr}{es:Array DictEntry}{ep:Nat}
theorem RawD.ty(x:RawD s.heap d es ep):s.TypeIs (.ref d) "dict" := let ⟨o,eo,ex,_⟩:=x; ⟨o,eo,ex.1⟩
theorem RawD.by{h h':Heap}(x:RawD h d es ep)(k:∀ o,h.get? d=some o→h'.get? d=some o):RawD h' d es ep:=let ⟨o,eo,r⟩:=x; ⟨o,k o eo,r⟩
theorem yg{Q:Value→Shared→Prop}(nd:(d == sysModules)=false)(x:RawD s.heap d es ep)
  (q:Q (.ref s.heap.objs.size) { s with heap:=s.heap.push { cls:=.type "dict_keyiterator", data:=.fields #[.ref d,.int 0 0,.int es.size 0,.int ep 0] } }):wpAny (model prog w) A (pyIter (.ref d)) Q E s:=by
 obtain⟨o,eo,ex,ed⟩:=id x
 have ty:=x.ty;refine wpAny_pyIter_slot ty PySem.F.slot_dict_iter (wpAny_call_entry PySem.F.slot_dict_iter ty PySem.F.entry_dict_iter ?_ (PySem.F.args_dict_iter_1 _))
 unfold Builtin.«dict.__iter__» Builtin.Dict.dictSlotNone
 refine wpAny_bind (wpAny_bind (wpAny_notOrdered_dict ty ?_))
 show wpAny _ _ (pure (Value.ref d)) _ _ s
 refine wpAny_pure ?_
 show wpAny _ _ (Builtin.Dict.showsAll d >>= _) _ _ s
 unfold Builtin.Dict.showsAll;rw[if_neg (by rw[nd]; decide)]
 refine wpAny_bind (wpAny_pure (wpAny_bind (wpAny_dictEntries eo ed (wpAny_bind (wpAny_dictEpoch eo ed ?_)))))
 refine wpAny_bind (wpAny_newObj_type (wpAny_pure ⟨_,rfl, "dict_keyiterator", _,⟨_,Heap.get?_push_size _ rfl,rfl⟩,PySem.F.slot_dict_keyiterator_next.lookup,?_⟩))
 simpa [rawInt] using q
theorem xT{it:Addr}{i:Nat}{Q:Option Value→Shared→Prop}(ki:s.heap.IsKeyIter it d i es.size ep)(x:RawD s.heap d es ep)(hi:i<es.size)
  (q:∀ h',h'.IsKeyIter it d (i+1) es.size ep→Heap.SameBut it s.heap h'→Q (some es[i].key) { s with heap:=h' }):wpAny (model prog w) A (pyNext (.ref it)) Q E s:=by
 obtain⟨u,eu,uc,ud⟩:=id ki
 obtain⟨o,eo,ex,ed⟩:=id x
 have ty:=ki.typeIs;unfold pyNext;refine wpAny_bind (wpAny_attempt (wpAny_callSpecial?_slot (name:=Str.ofString "__next__") ty PySem.F.slot_dict_keyiterator_next (wpAny_call_entry PySem.F.slot_dict_keyiterator_next ty PySem.F.entry_dict_keyiterator_next ?_ (PySem.F.args_dict_keyiterator_next_1 _))))
 refine wpAny_bind (wpAny_pure (wpAny_bind (wpAny_bind ?_)))
 refine wpAny_bind (wpAny_typeNameOfWhole_keyiter ty (wpAny_pure (wpAny_bind (wpAny_fieldsOf eu ud ?_))))
 have ow:Builtin.Dict_items.ownsTuple "dict_keyiterator" = false:=by decide
 simp only[ow,Bool.false_eq_true,if_false]
 show wpAny _ _ (if (Value.ref d == Value.none)=true then _ else _) _ _ s
 rw[if_neg (show ¬ (Value.ref d == Value.none)=true from fun z=>Bool.false_ne_true z)]
 refine wpAny_bind (wpAny_pure (wpAny_bind (wpAny_dictEntries eo ed ?_)))
 rw[if_neg (by simp)]
 refine wpAny_bind (wpAny_pure (wpAny_bind (wpAny_dictEpoch eo ed ?_)))
 rw[if_neg (by simp)]
 refine wpAny_pure ?_
 simp only[show ¬ ((i:Int)<0) by omega,if_false,Int.toNat_natCast,Array.getElem?_eq_getElem hi]
 refine wpAny_bind (wpAny_bind (wpAny_typeNameOfWhole_keyiter ty (wpAny_pure (wpAny_bind (wpAny_isOneOf_keyiter ty ?_)))))
 show wpAny _ _ (setField (.ref it) 1 (rawInt ((i:Int)+1)) >>= _) _ _ s
 refine wpAny_bind (wpAny_setField eu ud (by simp) ?_)
 have k':(s.heap.update it (Obj.mapFields (·.setIfInBounds 1 (rawInt ((i:Int)+1))))).IsKeyIter it d (i+1) es.size ep:=
  ⟨_,Heap.get?_update_self _ eu (Obj.isFreed_of_fields (Obj.data_mapFields ud _)),(Obj.cls_mapFields ..).trans uc,by rw[Obj.data_mapFields ud]; simp[rawInt]⟩
 generalize hz:s.heap.update it (Obj.mapFields (·.setIfInBounds 1 (rawInt ((i:Int)+1))))=h2 at k' ⊢;refine wpAny_bind (wpAny_holding (wpAny_bind (wpAny_isOneOf_keyiter (s:={ s with heap:=h2 }) k'.typeIs ?_)))
 show wpAny _ _ (pure es[i].key) _ _ _
 exact wpAny_pure (wpAny_pure ⟨_,rfl,wpAny_pure (q h2 k' (hz ▸ Heap.SameBut.update ..))⟩)
theorem Bx{it:Addr}{i:Nat}{Q:Option Value→Shared→Prop}(hh:A.handled=none)(ki:s.heap.IsKeyIter it d i es.size ep)(x:RawD s.heap d es ep)(hi:es.size≤i)
  (q:∀ h',Heap.ExtBut it s.heap h'→Q none { s with heap:=h' }):wpAny (model prog w) A (pyNext (.ref it)) Q E s:=by
 obtain⟨u,eu,uc,ud⟩:=id ki
 obtain⟨o,eo,ex,ed⟩:=id x
 have ty:=ki.typeIs;unfold pyNext;refine wpAny_bind (wpAny_attempt (wpAny_callSpecial?_slot (name:=Str.ofString "__next__") ty PySem.F.slot_dict_keyiterator_next (wpAny_call_entry PySem.F.slot_dict_keyiterator_next ty PySem.F.entry_dict_keyiterator_next ?_ (PySem.F.args_dict_keyiterator_next_1 _))))
 refine wpAny_bind (wpAny_pure (wpAny_bind (wpAny_bind ?_)))
 refine wpAny_bind (wpAny_typeNameOfWhole_keyiter ty (wpAny_pure (wpAny_bind (wpAny_fieldsOf eu ud ?_))))
 have ow:Builtin.Dict_items.ownsTuple "dict_keyiterator" = false:=by decide
 simp only[ow,Bool.false_eq_true,if_false]
 show wpAny _ _ (if (Value.ref d == Value.none)=true then _ else _) _ _ s
 rw[if_neg (show ¬ (Value.ref d == Value.none)=true from fun z=>Bool.false_ne_true z)]
 refine wpAny_bind (wpAny_pure (wpAny_bind (wpAny_dictEntries eo ed ?_)))
 rw[if_neg (by simp)]
 refine wpAny_bind (wpAny_pure (wpAny_bind (wpAny_dictEpoch eo ed ?_)))
 rw[if_neg (by simp)]
 refine wpAny_pure ?_
 simp only[show ¬ ((i:Int)<0) by omega,if_false,Int.toNat_natCast,Array.getElem?_eq_none hi]
 refine wpAny_bind (wpAny_bind (wpAny_typeNameOfWhole_keyiter ty (wpAny_pure ?_)))
 show wpAny _ _ (setField (.ref it) 0 .none >>= _) _ _ s
 refine wpAny_bind (wpAny_setField eu ud (by simp) ?_)
 show wpAny _ _ (newExc (.type "StopIteration") [] >>= _) _ _ _
 simp only[newExc,newTuple]
 refine wpAny_bind (wpAny_bind (wpAny_newObj_type (wpAny_bind (m:=firstArgMember _ _) (wpAny_of_eq (a:=Value.none) (by first | rfl | (simp only[firstArgMember]; rfl)) ?_)) (by size_fits)))
 refine wpAny_newObj_type ?_ (by size_fits)
 simp only[raiseNew]
 refine wpAny_bind (wpAny_handled ?_)
 rw[show A.in1.handled=none from hh];refine wpAny_bind (wpAny_pure (wpAny_throw ?_))
 refine wpAny_bind (wpAny_isInstance (b:=true) (T := "StopIteration") ⟨_,Heap.get?_push_size _ rfl,rfl⟩ isSubtype_stop ?_)
 exact wpAny_pure (q _ (((Heap.SameBut.update ..).extBut.push _).push _))
theorem v0(hh:A.handled=none)(I:Addr)(ne:d≠I):Walks prog w A I [I,d] [I] es.size (fun i v=>∃ e,es[i]? = some e∧v=e.key) (fun i h=>h.IsKeyIter I d i es.size ep∧RawD h d es ep) where
 sub:=fun b hb=>by simp at hb; simp[hb]
 frame:=fun i h h' st k=>⟨let ⟨o,e,r⟩:=st.1; ⟨o,k I (by simp) o e,r⟩,st.2.by fun o e=>k d (by simp) o e⟩
 item:=fun i s Q E hi st q=>xT st.1 st.2 hi fun h' k' sb=>q _ h' s.toks ⟨_,Array.getElem?_eq_getElem hi,rfl⟩ ⟨k',st.2.by fun o e=>sb.extBut d o ne e⟩ fun b o hb e=>sb.extBut b o (fun z=>hb (by simp[z])) e
 done:=fun s Q E st q=>Bx hh st.1 st.2 (Nat.le_refl _) fun h' eb=>q h' s.toks fun b o hb e=>eb b o (fun z=>hb (by simp[z])) e
 self:=fun i s Q E st q=>wpAny_pyIter_keyiter st.1 q
theorem Bq(nd:(d == sysModules)=false):PySem.W.KdlSrc prog w "dict" d d es.size (fun i v=>∃ e,es[i]? = some e∧v=e.key) (fun h=>RawD h d es ep) where
 type:=fun _ x=>x.ty
 there:=fun _ x=>let ⟨_,e,_⟩:=x; ⟨Heap.lt_size e,Heap.lt_size e⟩
 keep:=fun _ _ x k=>x.by fun o e=>k d (.inl rfl) o e
 notList:=by decide
 notTuple:=by decide
 hint:=fun _ _ _ _ x q=>PySem.W.kdl_hint_dict x.ty q
 iter:=fun _ s hh x=>⟨_,_,fun _ _ q=>yg nd x q,v0 hh _ (let ⟨_,e,_⟩:=x; Nat.ne_of_lt (Heap.lt_size e)),⟨_,Heap.get?_push_size _ rfl,rfl,rfl⟩,x.by fun o e=>Heap.get?_push_of_some _ e⟩
end
section
variable{X:Cx}
def wJ:List V→Hp→VK→Prop:=fun xs H Q=>∃ d,∃ kvs:List (List aK × V),xs=[.ref d]∧H d=some (.dT kvs)∧kvs.length≤60000∧∀ (l:Addr) (bs:List Addr),H l=none→Paired (fun (p:List aK × V) b=>H b=some (.tup (p.1.map kV))) kvs bs→Q (.ref l) (upd H l (.lst (bs.map V.ref)))
theorem Be{H:Hp}{kvs:List (List aK × V)}{ys:List (List aK × Addr × Value)}(h:Paired (fun (p:List aK × V) (q:List aK × Addr × Value)=>p.1=q.1∧H q.2.1=some (.tup (p.1.map kV))∧RelV p.2 q.2.2) kvs ys):Paired (fun (p:List aK × V) b=>H b=some (.tup (p.1.map kV))) kvs (ys.map (·.2.1)):=by
 induction h with
 | nil=>exact .nil
 | cons a b ih=>exact .cons a.2.1 ih
theorem ve{m:Nat}(hr:Room m X.A):CallR X (.type "list") wJ:=by
 intro pins s σ H xs us Q I r h
 obtain⟨d,kvs,rfl,ed,hn,q⟩:=h
 obtain⟨u,rfl,ru⟩:=dG r
 cases ru;obtain⟨_,nd,ys,rel,o,es,ep,eo,ex,od,he,_⟩:=(show ObjOk X.prog X.w H s.heap d (.dT kvs) from I.hok d _ ed)
 have hs:sizeLine=16777216:=sizeLine_eq
 have hl:kvs.length=ys.length:=Paired.length rel
 have hz:es.size=ys.length:=by rw[← Array.length_toList,he,List.length_map]
 refine PySem.W.kdl_call (Bq (es:=es) (ep:=ep) nd) hr.hd ⟨o,eo,ex,od⟩ (by omega) fun h' tk acc' c' hk hS hacc=>?_
 have hb:=Be rel;refine⟨.ref s.heap.objs.size,_,I.laid hk (Nat.le_refl _) (show ObjOk X.prog X.w _ h' _ (.lst ((ys.map (·.2.1)).map V.ref)) from ⟨by simp; omega,acc'.toList,c',?_,by simpa using hS⟩),rfl,q _ _ (I.hok.fresh (Nat.le_refl _)) hb⟩
 refine kT _ _ (by simp[hacc.1,hz]) fun j x w' e1 e2=>?_
 obtain⟨e,z1,z2⟩:=hacc.2 j w' (by rw[← Array.getElem?_toList]; exact e2)
 rw[← Array.getElem?_toList,he,List.getElem?_map]at z1
 rw[List.map_map,List.getElem?_map]at e1
 cases hy:ys[j]? with
 | none=>rw[hy]at e1; cases e1
 | some y=>
  rw[hy]at e1 z1
  cases e1
  cases z1;rw[z2];exact rfl
theorem wu{H:Hp}{Q:VK}(d:Addr):wJ [.ref d] H Q=∃ kvs:List (List aK × V),H d=some (.dT kvs)∧kvs.length≤60000∧∀ (l:Addr) (bs:List Addr),H l=none→Paired (fun (p:List aK × V) b=>H b=some (.tup (p.1.map kV))) kvs bs→Q (.ref l) (upd H l (.lst (bs.map V.ref))):=
 propext ⟨fun ⟨_,kvs,e,q⟩=>by cases e; exact⟨kvs,q⟩,fun ⟨kvs,q⟩=>⟨d,kvs,rfl,q⟩⟩
end
end L2
section
open PySem PySem.Spec PyProof.Rows L2
seal L2.PE L2.PT L2.PW L2.PA L2.PS L2.PSs L2.PG L2.PGs L2.PSet L2.PI L2.PIfs L2.OpR L2.UnR L2.CallR L2.IxR L2.MtR L2.SlR L2.PO L2.PPs
local macro_rules | `(tactic| walk_at "rd1")=>`(tactic| try simp only [sK,kh,jB,qN,rY,sg,oM,rN,qF,rM,ph,tz,rT,tF,Ag,xn,wR,pN,Ap,rk,wL,sx,pd,wU,wC,pH,rF,rB,sI,n5,v8,rO,qp,qg,my,jy,pA,oW,wG,oE,kH,oN,su,pR,oI,sO,oj,rf,pZ,qK,nc,oZ,qD,ox,nR,sr,j9,vT,Ax,mo,mM,i_,mV,mF,sf,qe,oT,kc,mn,rS,Au,rX,si,kD,qv,o_,pY,nX,jL,jx,ms,mG,qB,qh,o0,kP,pq,sw,sv,mH,mR,fu,rj,mv,oR,nV,rQ,qJ,oz,sS,s_,rP,sy,L2.start,List.map_cons,List.map_nil,List.length_cons,List.length_nil,List.replicate,List.cons_append,List.nil_append,List.append_nil,List.getElem?_cons_zero,List.getElem?_cons_succ,List.set_cons_zero,List.set_cons_succ,Nat.reduceAdd,Nat.reduceSub,Option.some.injEq,exists_eq_left',exists_eq_left,V.int.injEq,V.ref.injEq,V.str.injEq,V.bl.injEq,wI,sU,and_true,true_and,decide_eq_true_eq,Bool.not_true,Bool.not_false,if_true,Bool.false_eq_true,if_false,ite_true,ite_false])
local macro_rules | `(tactic| walk_at "nx")=>`(tactic| ((first | rw [lK] | (dsimp only; rw [lK])); walk_at "rd1"))
local macro_rules | `(tactic| walk_at "lk")=>`(tactic| repeat (first | exact CW | exact BE | rw [A3 (by decide +kernel)]))
local macro_rules | `(tactic| walk_at "pf")=>`(tactic| repeat (first | rw [putF_hit] | rw [yf] | rw [wH (by decide +kernel)]))
namespace K54
open PySem L2
abbrev cg:Stmt:=top 1
theorem sc_next_room:aD ["rule", "room", "text", "words"] ["rule", "room", "text"] (defScope cg):=mKk
abbrev gLk (s : Stmt) (n : Str) : Prop:=(defScope s).names.lookup n=some .globalImplicit
theorem oIn {a b : Prop} (h : a) : a ∨ b:=.inl h
abbrev bW:Stmt:=top 2
theorem sc_room_from:aD ["rule", "room", "row", "text"] ["rule", "room", "row"] (defScope bW):=mKk
abbrev eK:Stmt:=top 4
theorem y8:aD ["slot", "held"] ["slot", "held"] (defScope eK):=mKk
abbrev dA:Stmt:=top 5
theorem va:aD ["slot", "held"] ["slot", "held"] (defScope dA):=mKk
abbrev b4:Stmt:=top 6
theorem kW:aD ["row", "held"] ["row", "held"] (defScope b4):=mKk
abbrev cR:Stmt:=top 7
theorem pK:aD ["token"] ["token"] (defScope cR):=mKk
abbrev c_:Stmt:=top 8
theorem qZ:aD ["token"] ["token"] (defScope c_):=mKk
abbrev aW:Stmt:=top 9
theorem sc_texts_done:aD ["row", "token", "slot", "word"] ["row", "token"] (defScope aW):=mKk
theorem EW:ao (defScope aW) "token" := Or.inr (Or.inl (by decide +kernel))
theorem KN:ao (defScope aW) "slot" := Or.inr (Or.inl (by decide +kernel))
theorem Jy:aG (defScope aW) "slot" := Or.inr (by decide +kernel)
theorem JC:ao (defScope aW) "word" := Or.inr (Or.inl (by decide +kernel))
theorem K5:aG (defScope aW) "word" := Or.inr (by decide +kernel)
abbrev cI:Stmt:=top 10
theorem qS:aD ["row", "token"] ["row", "token"] (defScope cI):=mKk
abbrev bU:Stmt:=top 11
theorem lS:aD ["rule", "row", "token"] ["rule", "row", "token"] (defScope bU):=mKk
abbrev aN:Stmt:=top 12
theorem sc_behind_at:aD ["code", "rule", "at", "token", "row", "count", "behind", "room"] ["code", "rule", "at", "token"] (defScope aN):=mKk
theorem E3:ao (defScope aN) "row" := Or.inr (Or.inl (by decide +kernel))
theorem Km:aG (defScope aN) "row" := Or.inr (by decide +kernel)
abbrev bT:Stmt:=top 13
theorem sc_rooms_at:aD ["code", "rule", "at", "token", "row"] ["code", "rule", "at", "token"] (defScope bT):=mKk
abbrev cf:Stmt:=top 14
theorem pG:aD ["code", "rule", "at", "token"] ["code", "rule", "at", "token"] (defScope cf):=mKk
abbrev cF:Stmt:=top 18
theorem nn:aD ["kind"] ["kind"] (defScope cF):=mKk
abbrev dc:Stmt:=top 19
theorem uU:aD ["step"] ["step"] (defScope dc):=mKk
abbrev cD:Stmt:=top 20
theorem qi:aD ["step"] ["step"] (defScope cD):=mKk
abbrev bm:Stmt:=top 21
theorem sc_steps_within:aD ["program", "steps", "step", "block"] ["program"] (defScope bm):=mKk
abbrev bE:Stmt:=top 22
theorem sc_names_in:aD ["steps", "names", "step", "part", "kind"] ["steps"] (defScope bE):=mKk
theorem Kr:gLk bE "zip":=by decide +kernel
abbrev a_:Stmt:=top 23
theorem sc_lines_of:aD ["program", "lines", "step", "block", "closer"] ["program"] (defScope a_):=mKk
theorem Ks:gLk a_ "zip":=by decide +kernel
abbrev cN:Stmt:=top 24
theorem q9:aD ["program"] ["program"] (defScope cN):=mKk
abbrev aX:Stmt:=inClass (top 26) 0
theorem gv:aD ["self", "head", "lines", "blocks"] ["self", "head", "lines", "blocks"] (defScope aX):=mKk
abbrev cj:Stmt:=top 27
theorem kU:aD ["steps", "line"] ["steps", "line"] (defScope cj):=mKk
abbrev aH:Stmt:=top 28
theorem sc_numbered_step:aD ["step", "line", "lines", "blocks", "block", "steps"] ["step", "line"] (defScope aH):=mKk
abbrev bf:Stmt:=top 29
theorem sc_numbered_steps:aD ["steps", "line", "numbered", "step"] ["steps", "line"] (defScope bf):=mKk
abbrev bz:Stmt:=top 31
theorem ni:aD ["program"] ["program"] (defScope bz):=mKk
theorem Fg:gLk bz "enumerate":=by decide +kernel
abbrev bO:Stmt:=top 32
theorem sc_slots_of:aD ["program", "slots", "slot", "holder"] ["program"] (defScope bO):=mKk
theorem IQ:gLk bO "enumerate":=by decide +kernel
abbrev bq:Stmt:=top 33
theorem sc_simple_row:aD ["step", "slots", "line"] ["step", "slots"] (defScope bq):=mKk
theorem GD:ao (defScope bq) "slots" := Or.inr (Or.inl (by decide +kernel))
abbrev aQ:Stmt:=top 34
theorem sc_lend_rows:aD ["step", "at", "slots", "turned", "line", "back", "giver", "taker", "lent", "ahead", "within"] ["step", "at", "slots", "turned"] (defScope aQ):=mKk
abbrev bu:Stmt:=top 35
theorem sc_if_rows:aD ["step", "at", "slots", "turned", "more", "jump", "rest", "behind", "test"] ["step", "at", "slots", "turned"] (defScope bu):=mKk
abbrev bG:Stmt:=top 36
theorem sc_loop_rows:aD ["step", "at", "slots", "within", "behind"] ["step", "at", "slots"] (defScope bG):=mKk
abbrev ba:Stmt:=top 37
theorem sc_while_rows:aD ["step", "at", "slots", "turned", "first", "loop", "behind"] ["step", "at", "slots", "turned"] (defScope ba):=mKk
abbrev bD:Stmt:=top 38
theorem sc_rows_of:aD ["steps", "at", "slots", "turned", "rows", "step", "place"] ["steps", "at", "slots", "turned"] (defScope bD):=mKk
abbrev bv:Stmt:=top 39
theorem sc_rows_and_end:aD ["program", "turned", "steps"] ["program", "turned"] (defScope bv):=mKk
abbrev dz:Stmt:=top 40
theorem vJ:aD ["program"] ["program"] (defScope dz):=mKk
abbrev cy:Stmt:=top 41
theorem k_:aD ["program"] ["program"] (defScope cy):=mKk
abbrev ci:Stmt:=top 43
theorem lB:aD ["_law_script", "_law_k"] ["_law_script", "_law_k"] (defScope ci):=mKk
abbrev aI:Stmt:=top 44
theorem sc_law_words:aD ["_law_cell", "_law_many", "_law_letters", "_law_size", "_law_at", "_law_rest", "_law_base", "_law_k", "_law_words_here"] ["_law_cell", "_law_many"] (defScope aI):=mKk
theorem FM:aG (defScope aI) "_law_letters" := Or.inr (by decide +kernel)
theorem G1:aG (defScope aI) "_law_at" := Or.inr (by decide +kernel)
theorem FJ:ao (defScope aI) "_law_base" := Or.inr (Or.inl (by decide +kernel))
theorem Hb:aG (defScope aI) "_law_base" := Or.inr (by decide +kernel)
theorem Cq:aG (defScope aI) "_law_k" := Or.inr (by decide +kernel)
theorem x_:gLk aI "range":=by decide +kernel
abbrev bw:Stmt:=top 45
theorem sc_law_step:aD ["_law_cell", "_law_names", "_law_words_here", "_law_x", "_law_y", "_law_word", "_law_bound", "_law_some"] ["_law_cell", "_law_names", "_law_words_here"] (defScope bw):=mKk
abbrev dC:Stmt:=top 46
theorem tN:aD ["_law_pile", "_law_step_here"] ["_law_pile", "_law_step_here"] (defScope dC):=mKk
abbrev bL:Stmt:=top 47
theorem sc_law_close:aD ["_law_pile", "_law_head", "_law_first", "_law_second", "_law_side"] ["_law_pile"] (defScope bL):=mKk
abbrev aO:Stmt:=top 48
theorem sc_law_program:aD ["_law_cells", "_law_names", "_law_words_here", "_law_lends", "_law_deep", "_law_pile", "_law_cell", "_law_step_here"] ["_law_cells", "_law_names", "_law_words_here", "_law_lends", "_law_deep"] (defScope aO):=mKk
abbrev aJ:Stmt:=top 49
theorem sc_law_rule:aD ["_law_cells", "_law_sides", "_law_words_here", "_law_most", "_law_texts_here", "_law_k", "_law_bits", "_law_many", "_law_share", "_law_rooms", "_law_rest", "_law_room_here", "_law_text", "_law_digit"] ["_law_cells", "_law_sides", "_law_words_here", "_law_most"] (defScope aJ):=mKk
theorem C3:gLk aJ "range":=by decide +kernel
abbrev b6:Stmt:=top 50
theorem sc_law_slots:aD ["_law_code_here", "_law_most", "_law_row"] ["_law_code_here"] (defScope b6):=mKk
abbrev dB:Stmt:=top 51
theorem tZ:aD ["_law_held", "_law_slot"] ["_law_held", "_law_slot"] (defScope dB):=mKk
abbrev cQ:Stmt:=top 52
theorem qT:aD ["_law_rule_here", "_law_room_here", "_law_text"] ["_law_rule_here", "_law_room_here", "_law_text"] (defScope cQ):=mKk
abbrev aZ:Stmt:=top 53
theorem sc_law_code:aD ["_law_script", "_law_start", "_law_lends", "_law_deep", "_law_first", "_law_second", "_law_names", "_law_words_here", "_law_program_here"] ["_law_script", "_law_start", "_law_lends", "_law_deep"] (defScope aZ):=mKk
abbrev cA:Stmt:=top 58
theorem vc:aD ["_law_rule_here", "_law_row", "_law_token"] ["_law_rule_here", "_law_row", "_law_token"] (defScope cA):=mKk
abbrev bC:Stmt:=top 59
theorem sc_law_right:aD ["_law_code_here", "_law_rule_here", "_law_at", "_law_token", "_law_found"] ["_law_code_here", "_law_rule_here", "_law_at", "_law_token"] (defScope bC):=mKk
abbrev bF:Stmt:=top 54
theorem sc_law_pair:aD ["_law_cell", "_law_slots_here", "_law_rest", "_law_one", "_law_other", "_law_slot"] ["_law_cell", "_law_slots_here"] (defScope bF):=mKk
theorem G_:gLk bF "range":=by decide +kernel
abbrev aV:Stmt:=top 55
theorem sc_law_tokens:aD ["_law_cell", "_law_rule_here", "_law_slots_here", "_law_number", "_law_found", "_law_k", "_law_pair_here", "_law_room_here"] ["_law_cell", "_law_rule_here", "_law_slots_here"] (defScope aV):=mKk
theorem Iv:gLk aV "range":=by decide +kernel
abbrev cw:Stmt:=top 56
theorem oX:aD ["_law_row", "_law_token", "_law_sides"] ["_law_row", "_law_token", "_law_sides"] (defScope cw):=mKk
abbrev bS:Stmt:=top 57
theorem sc_law_room:aD ["_law_rule_here", "_law_row", "_law_token", "_law_room_here", "_law_text"] ["_law_rule_here", "_law_row", "_law_token"] (defScope bS):=mKk
abbrev aL:Stmt:=top 60
theorem sc_law:aD ["_law_script", "_law_second", "_law_words_here", "_law_cells", "_law_sides", "_law_rule_here", "_law_code_here", "_law_kept", "_law_slots_here", "_law_at", "_law_cell", "_law_tokens_here", "_law_pair_here", "_law_token"] ["_law_script"] (defScope aL):=mKk
theorem pD:ao (defScope aL) "_law_script" := Or.inr (Or.inl (by decide +kernel))
theorem KA:(defScope aL).names.lookup ("_law_cells" : Str)=some .local:=by decide +kernel
theorem lR:ao (defScope aL) "_law_rule_here" := Or.inr (Or.inl (by decide +kernel))
theorem FV:aG (defScope aL) "_law_rule_here" := Or.inr (by decide +kernel)
theorem GZ:aG (defScope aL) "_law_pair_here" := Or.inr (by decide +kernel)
theorem yu:gLk aL "range":=by decide +kernel
def bn(k:Str):List Str:=if k = "lend" then ["back"] else if k = "if" then ["else", "fi"] else if k = "while" then ["done"] else []
def ji:V→Str→Prop
 | .str y,x=>x=y
 | .int i,x=>i.natAbs.log2<1920∧x=Str.ofString (toString i)
 | _,_=>False
def bY:List (List Str)→List Str→List Str
 | i::is,c::cs=>(i++[c])++bY is cs
 | _,_=>[]
structure Cr (LA:Addr→List Str→Prop) (H:Hp) (a:Addr) (kind:Str) (hs:List V) (ws:List Str) (bs:List Addr) (ins:List (List Str)):Prop where
 at':H a=some (.tup (.str kind::hs++bs.map V.ref))
 parts:Paired ji hs ws
 size:((kind::ws).map (·.length)).sum+(kind::ws).length≤10000
 bl:bs.length=(bn kind).length
 inn:Paired LA bs ins
def kI(LA:Addr→List Str→Prop)(H:Hp)(a:Addr)(ls:List Str):Prop:=∃ kind hs ws bs ins,Cr LA H a kind hs ws bs ins∧ls=Txt.join " " (kind::ws)::bY ins (bn kind)
def LinesAt:Nat→Hp→Addr→List Str→Prop
 | 0=>fun _ _ _=>False
 | d+1=>fun H p L=>∃ (as:List Addr) (Ls:List (List Str)),H p=some (.lst (as.map V.ref))∧Paired (kI (LinesAt d H) H) as Ls∧L=Ls.flatten
theorem LinesAt.mono:∀ (d:Nat) {H H':Hp} {p:Addr} {L:List Str},LinesAt d H p L→Same H H'→LinesAt d H' p L
 | 0,_,_,_,_,h,_=>h.elim
 | d+1,H,H',p,L,⟨as,Ls,h1,h2,h3⟩,sm=>by
  refine⟨as,Ls,sm _ _ h1,Paired.imp' (fun a ls z=>?_) h2,h3⟩
  obtain⟨kind,hs,ws,bs,ins,z1,z2⟩:=z
  exact⟨kind,hs,ws,bs,ins,⟨sm _ _ z1.at',z1.parts,z1.size,z1.bl,Paired.imp' (fun b i y=>LinesAt.mono d y sm) z1.inn⟩,z2⟩
theorem b7{α β : Type}{R:α→β→Prop}:∀ {xs:List α} {ys:List β} {i:Nat} {x:α},Paired R xs ys→xs[i]? = some x→∃ y,ys[i]? = some y∧R x y
 | _,_,_,_,.nil,e=>by simp at e
 | _,_,0,_,.cons (b:=b) h _,e=>⟨b,rfl,by have:=Option.some.inj e; subst this; exact h⟩
 | _,_,i+1,_,.cons _ t,e=>by
  rw[List.getElem?_cons_succ]at e
  obtain⟨y,h1,h2⟩:=b7 t e
  exact⟨y,by rw[List.getElem?_cons_succ]; exact h1,h2⟩
theorem aM{α β : Type}{R:α→β→Prop}:∀ {xs:List α} {ys:List β},Paired R xs ys→xs.length=ys.length
 | _,_,.nil=>rfl
 | _,_,.cons _ t=>by rw[List.length_cons,List.length_cons,aM t]
theorem jI:∀ {ins:List (List Str)} {cs:List Str} {j:Nat} {i:List Str} {c:Str},ins[j]? = some i→cs[j]? = some c→bY (ins.take (j+1)) (cs.take (j+1))=bY (ins.take j) (cs.take j)++(i++[c])
 | [],_,_,_,_,h,_=>by simp at h
 | _::_,[],_,_,_,_,h=>by simp at h
 | a::ins,b::cs,0,i,c,h,h'=>by
  have e1:a=i:=by simpa using h
  have e2:b=c:=by simpa using h'
  subst e1 e2;show (a++[b])++bY [] []=bY [] []++(a++[b])
  simp[bY]
 | a::ins,b::cs,j+1,i,c,h,h'=>by
  have ih:=jI (ins:=ins) (cs:=cs) (j:=j) (i:=i) (c:=c) (by simpa using h) (by simpa using h')
  show (a++[b])++bY (ins.take (j+1)) (cs.take (j+1))=((a++[b])++bY (ins.take j) (cs.take j))++(i++[c])
  rw[ih,List.append_assoc (a++[b])]
theorem kB:∀ {ins:List (List Str)} {cs:List Str} (j:Nat),(bY (ins.take j) (cs.take j)).length≤(bY ins cs).length
 | [],_,j=>by simp[bY]
 | _::_,[],j=>by cases j <;> simp[bY]
 | a::ins,b::cs,0=>by simp[bY]
 | a::ins,b::cs,j+1=>by
  have ih:=kB (ins:=ins) (cs:=cs) j;show ((a++[b])++bY (ins.take j) (cs.take j)).length≤((a++[b])++bY ins cs).length
  simp only[List.length_append]; omega
theorem lc{α : Type}:∀ (Ls:List (List α)) (i:Nat),(Ls.take i).flatten.length≤Ls.flatten.length
 | [],i=>by simp
 | a::Ls,0=>by simp
 | a::Ls,i+1=>by
  have ih:=lc Ls i;rw[List.take_succ_cons,List.flatten_cons,List.flatten_cons,List.length_append,List.length_append]; omega
theorem wg{α : Type}{Ls:List (List α)}{i:Nat}{l:List α}(h:Ls[i]? = some l):(Ls.take (i+1)).flatten=(Ls.take i).flatten++l:=by
 rw[List.take_add_one,h,List.flatten_append]; simp
def iX(K:PySem.W.Frag):Sp:=fun vs H Q _=>∃ k:Str,vs=[.str k]∧∀ (p:Addr) (H':Hp),Same H H'→SqT K H' p ((bn k).map V.str)→Q (.ref p) H'
def iR(K:PySem.W.Frag):Sp:=fun vs H Q _=>∃ (a:Addr) (k:Str) (xs:List V),vs=[.ref a]∧SqT K H a (.str k::xs)∧(bn k).length≤xs.length+1∧
 ∀ (p:Addr) (H':Hp),Same H H'→SqT K H' p ((V.str k::xs).take (xs.length+1 - (bn k).length))→Q (.ref p) H'
def gB(K:PySem.W.Frag):Sp:=fun vs H Q _=>∃ (a:Addr) (k:Str) (xs:List V),vs=[.ref a]∧SqT K H a (.str k::xs)∧(bn k).length≤xs.length+1∧
 ∀ (p:Addr) (H':Hp),Same H H'→SqT K H' p ((V.str k::xs).drop (xs.length+1 - (bn k).length))→Q (.ref p) H'
def sF(d:Nat):Sp:=fun vs H Q _=>∃ (p:Addr) (L:List Str),vs=[.ref p]∧LinesAt d H p L∧L.length≤10000∧∀ (q:Addr) (H':Hp),Same H H'→H q=none→H' q=some (.lst (L.map V.str))→Q (.ref q) H'
section
variable{P:Program}{w:World}{K:PySem.W.Frag}{mg:Str→Option Value}{base:Heap}
theorem tU(D:DefAt K mg "closers_of" cF) {d a0 a1 a2:Addr} (g_CLOSERS:mg "CLOSERS" = some (.ref d)) (m:ModD w K d [("lend", .ref a0),("if", .ref a1),("while", .ref a2)])
  (q0:∀ H:Hp,SqT K H a0 [.str "back"]) (q1:∀ H:Hp,SqT K H a1 [.str "else", .str "fi"]) (q2:∀ H:Hp,SqT K H a2 [.str "done"]):aE P w K mg base 1 "closers_of" ["kind"] (iX K):=by
 refine D.cal nn (fun _ _ _ _ _ _ us hl=>match us,hl with | [_],_=>rfl) (fun vs H Q E h=>by obtain⟨k,rfl,_⟩:=h; rfl) (fun f cdv A outer s H vs Q E hr h=>?_)
 obtain⟨k,rfl,q⟩:=h
 refine⟨_,(aj (az (CU w K PySem.F.plainAttrs_dict PySem.F.slot_dict_get PySem.F.type_dict_get (AC w K) (rh g_CLOSERS) (aa (pv 0) (aa (aU ae) ae))))),?_⟩
 walk_at "rd1";refine⟨⟨d,_,rfl,m⟩,by decide,fun p hp=>?_⟩
 refine⟨d,_,k,.ref p,rfl,rfl,m,?_⟩
 have sm:=ah hp (.tup []);unfold bn at q
 by_cases h0:k = "lend"
 ·subst h0; exact q _ _ sm (q0 _)
 rw[if_neg h0]at q
 by_cases h1:k = "if"
 ·subst h1; exact q _ _ sm (q1 _)
 rw[if_neg h1]at q
 by_cases h2:k = "while"
 ·subst h2; exact q _ _ sm (q2 _)
 rw[if_neg h2]at q
 have e:cr [(("lend" : Str),V.ref a0),("if", .ref a1),("while", .ref a2)] k=none:=by simp[cr,Ne.symm h0,Ne.symm h1,Ne.symm h2]
 rw[e];exact q _ _ sm (SqT.of af)
theorem AE(D:DefAt K mg "head_of" dc) (z_len:mg "len" = none) (c_closers_of:aE P w K mg base 1 "closers_of" ["kind"] (iX K)):aE P w K mg base 2 "head_of" ["step"] (iR K):=by
 refine D.cal uU (fun _ _ _ _ _ _ us hl=>match us,hl with | [_],_=>rfl) (fun vs H Q E h=>by obtain⟨a,k,xs,rfl,_⟩:=h; rfl) (fun f cdv A outer s H vs Q E hr h=>?_)
 obtain⟨a,k,xs,rfl,ha,hl,q⟩:=h
 refine⟨_,(aj (az (dF (eI K) (pv 0) eJ (dL (ak jg (bH (bb K) z_len bR (aa (pv 0) ae)) (bH (bb K) z_len bR (aa (ay c_closers_of hr (aa (am (aw K) (pv 0) ac (fun _ _=>rfl)) ae)) ae))))))),?_⟩
 walk_at "rd1";refine⟨_,.inr ha,?_⟩
 refine⟨_,_,.inr ha,h8,?_⟩
 refine⟨k,rfl,fun p H1 sm1 hp=>?_⟩
 walk_at "rd1";refine⟨_,.inr hp,?_⟩
 walk_at "rd1"
 have e:((xs.length+1:Nat):Int) - ((((bn k).map V.str).length:Nat):Int)=((xs.length+1 - (bn k).length:Nat):Int):=by
  rw[List.length_map]; omega
 rw[e];refine eY (ha.same sm1) fun p2 H2 sm2 h2=>q p2 H2 (sm1.trans sm2) ?_
 rw[sQ]at h2
 exact h2
theorem wm(D:DefAt K mg "blocks_of" cD) (z_len:mg "len" = none) (c_head_of:aE P w K mg base 2 "head_of" ["step"] (iR K)):aE P w K mg base 3 "blocks_of" ["step"] (gB K):=by
 refine D.cal qi (fun _ _ _ _ _ _ us hl=>match us,hl with | [_],_=>rfl) (fun vs H Q E h=>by obtain⟨a,k,xs,rfl,_⟩:=h; rfl) (fun f cdv A outer s H vs Q E hr h=>?_)
 obtain⟨a,k,xs,rfl,ha,hl,q⟩:=h
 refine⟨_,(aj (az (dF (eI K) (pv 0) (dL (bH (bb K) z_len bR (aa (ay c_head_of hr (aa (pv 0) ae)) ae))) eJ))),?_⟩
 walk_at "rd1";refine⟨a,k,xs,rfl,ha,hl,fun p H1 sm1 hp=>?_⟩
 walk_at "rd1";refine⟨_,.inr hp,?_⟩
 have e:(((V.str k::xs).take (xs.length+1 - (bn k).length)).length:Int)=((xs.length+1 - (bn k).length:Nat):Int):=by
  rw[List.length_take,List.length_cons]; omega
 rw[e];refine eY (ha.same sm1) fun p2 H2 sm2 h2=>q p2 H2 (sm1.trans sm2) ?_
 rw[gK]at h2
 exact h2
theorem pJ(D:DefAt K mg "lines_of" a_) (z_str:mg "str" = none) (z_zip:mg "zip" = none) (c_closers_of:aE P w K mg base 1 "closers_of" ["kind"] (iX K)) (c_head_of:aE P w K mg base 2 "head_of" ["step"] (iR K)) (c_blocks_of:aE P w K mg base 3 "blocks_of" ["step"] (gB K)) :
  ∀ d:Nat,aE P w K mg base (d+4) "lines_of" ["program"] (sF d)
 | 0=>D.cal (k:=3) sc_lines_of (fun _ _ _ _ _ _ us hl=>match us,hl with | [_],_=>rfl) (fun vs H Q E h=>by obtain⟨p,L,rfl,_⟩:=h; rfl) (fun f cdv A outer s H vs Q E hr h=>by obtain⟨p,L,rfl,z,_⟩:=h; exact z.elim)
 | d+1=>by
  have c_lines_of:=pJ D z_str z_zip c_closers_of c_head_of c_blocks_of d;refine D.cal (k:=d+4) sc_lines_of (fun _ _ _ _ _ _ us hl=>match us,hl with | [_],_=>rfl) (fun vs H Q E h=>by obtain⟨p,L,rfl,_⟩:=h; rfl) (fun f cdv A outer s H vs Q E hr h=>?_)
  obtain⟨p,L,rfl,⟨as,Ls,h1,h2,rfl⟩,hL,q⟩:=h
  have hlen:=aM h2
  refine⟨_,(ai (au 1 sc_lines_of.nd (aS ae))
   (ai (b_ PassesOwn.never rfl (cX K (pv 0)) (bg 2 sc_lines_of.nd) (ai (bJ (bV K PySem.F.plainAttrs_list PySem.F.slot_list_append PySem.F.type_list_append bP (pv 1) (aa (bV K PySem.F.plainAttrs_str PySem.F.slot_str_join PySem.F.type_str_join (oA K) av (aa (fc (CompSc.to (fsc:=(defScope a_)) (N:=["program", "lines", "step", "block", "closer"]) (N0:=["program", "lines", "step", "block", "closer"]) (T:=["part"]) ⟨by decide +kernel,by decide +kernel,by decide +kernel,by decide +kernel,by decide +kernel,by decide +kernel,by decide +kernel⟩ rfl rfl) rfl (gi K (ay c_head_of hr (aa (pv 2) ae) (hle:=by omega))) (fun _ _ _ _=>(bg 5 (show (["program", "lines", "step", "block", "closer", "part"]:List Str).Nodup from by decide +kernel) (hx:=(gS (defScope a_) (by decide +kernel))) (hf:=jN (defScope a_) (by decide +kernel)))) (dD (show (["program", "lines", "step", "block", "closer"]:List Str).length≤5 from by decide)) (fun _ _ _ _=>eX) (fun _ _ _ _=>(dy xy z_str BM (aa (pv 5 (hv:=(cY (defScope a_) (by decide +kernel)))) ae) (hg:=(oh (defScope a_) (by decide +kernel)))))) ae)) ae)))
   (aj (b_ PassesOwn.never rfl (tf K Ks z_zip (aa (ay c_blocks_of hr (aa (pv 2) ae) (hle:=by omega)) (aa (ay c_closers_of hr (aa (am (aw K) (pv 2) ac (fun _ _=>rfl)) ae) (hle:=by omega)) ae))) (jr K (n:=2) (cW (bg 3 sc_lines_of.nd) (cW (bg 4 sc_lines_of.nd) hG))) (ai (bJ (bV K PySem.F.plainAttrs_list PySem.F.slot_list_extend PySem.F.type_list_extend fq (pv 1) (aa (ay c_lines_of hr (aa (pv 3) ae) (hle:=by omega)) ae)))
   (aj (bJ (bV K PySem.F.plainAttrs_list PySem.F.slot_list_append PySem.F.type_list_append bP (pv 1) (aa (pv 4) ae)))))))))
   (aj (az (pv 1))))),?_⟩
  walk_at "rd1";refine⟨by decide,fun lp hlp=>?_⟩
  generalize hH1:upd H lp _=H1
  have sm1:=gb hH1 hlp;have e1:=jp hH1;walk_at "nx";refine⟨⟨_,SqL.of (sm1 _ _ h1)⟩,?_⟩
  refine cS (xs:=as.map V.ref) (fun i σ H'=>∃ o2 o3 o4:Option V,σ=[some (.ref p),some (.ref lp),o2,o3,o4]∧Same H H'∧H' lp=some (.lst ((Ls.take i).flatten.map V.str)))
   ⟨none,none,none,rfl,sm1,e1⟩ (fun i σ H' _ h=>by obtain⟨_,_,_,_,sm,_⟩:=h; exact SqL.of (sm _ _ h1)) ?_ ?_
  ·rintro i v σ H' hv ⟨o2,o3,o4,rfl,sm,hl⟩
   have hi:i<as.length:=by have:=(List.getElem?_eq_some_iff.mp hv).1; simpa using this
   rw[List.getElem?_map,List.getElem?_eq_getElem hi]at hv
   cases hv;obtain⟨ls,hls,kind,hs,ws,bs,ins,st,rfl⟩:=b7 h2 (List.getElem?_eq_getElem hi)
   have hflat:=wg hls;have hfl:=lc Ls (i+1);rw[hflat]at hfl ⊢
   generalize (Ls.take i).flatten=pre at hl hfl hflat ⊢;rw[List.length_append,List.length_cons]at hfl
   have hat:SqT K H' as[i] (.str kind::(hs++bs.map V.ref)):=SqT.of (sm _ _ st.at')
   have hcl:(bn kind).length≤(hs++bs.map V.ref).length+1:=by rw[List.length_append,List.length_map,st.bl]; omega
   have hcut:(hs++bs.map V.ref).length+1 - (bn kind).length=hs.length+1:=by rw[List.length_append,List.length_map,st.bl]; omega
   have hpl:=aM st.parts;have hsz:=st.size;walk_at "rd1";refine⟨⟨_,SqL.of hl⟩,as[i],kind,hs++bs.map V.ref,rfl,hat,hcl,fun hp H2 sm2 hhp=>?_⟩
   rw[hcut]at hhp
   have etk:(V.str kind::(hs++bs.map V.ref)).take (hs.length+1)=V.str kind::hs:=by rw[List.take_succ_cons,List.take_left']; rfl
   rw[etk]at hhp
   walk_at "rd1";refine⟨⟨_,hhp⟩,fun C hC=>?_⟩
   refine iO (xs:=V.str kind::hs) (fun j ys H3=>Same H2 H3∧H3 C=some (.lst ys)∧ys=((kind::ws).take j).map V.str) ⟨ah hC _,af,rfl⟩ (fun j ys H3 _ h=>hhp.same h.1) ?_ ?_
   ·rintro j ys H3 x hx hj ⟨sm3,hl3,rfl⟩
    obtain⟨y,hy,hr'⟩:=b7 (R:=ji) (.cons (show ji (.str kind) kind from rfl) st.parts) hx
    have hjl:j<(kind::ws).length:=(List.getElem?_eq_some_iff.mp hy).1
    have fin:f_ (V.str kind::hs).length j (fun j ys H3=>Same H2 H3∧H3 C=some (.lst ys)∧ys=((kind::ws).take j).map V.str) C (((kind::ws).take j).map V.str) (.str y) H3:=by
     refine iA hj (by rw[List.length_map,List.length_take]; omega) (aR (by simp only[List.length_cons]at hsz hjl ⊢; omega)) hl3 ⟨sm3.upd hC _,af,?_⟩
     rw[List.take_add_one,hy,List.map_append]; rfl
    match x,hr' with
    | .str z,hr'=>
     have e:y=z:=hr'
     subst e;walk_at "rd1";exact fin
    | .int z,hr'=>
     obtain⟨g1,rfl⟩:=hr'
     walk_at "rd1";exact⟨g1,fin⟩
   rintro ys H3 ⟨sm3,hl3,rfl⟩
   have hl3':H3 C=some (.lst ((kind::ws).map V.str)):=by
    rw[hl3,List.length_cons,hpl,List.take_of_length_le (by simp)]
   have smA:=sm2.trans sm3;have h1l:(Str.ofString " ").length=1:=by decide
   walk_at "rd1";refine⟨kind::ws,SqL.of hl3',by rw[h1l]; omega,?_⟩
   refine⟨_,smA _ _ hl,by rw[List.length_map]; exact b9 (by omega),?_⟩
   generalize hH4:upd H3 lp _=H4
   have smH:Same H H4:=fun b o e=>by
    have nb:b≠lp:=fun z=>by subst z; rw[hlp]at e; cases e
    rw[← hH4,ax nb]; exact smA _ _ (sm _ _ e)
   have e4:H4 lp=some (.lst ((pre++[Txt.join " " (kind::ws)]).map V.str)):=by rw[← hH4,af,List.map_append]; rfl
   have hat4:SqT K H4 as[i] (.str kind::(hs++bs.map V.ref)):=SqT.of (smH _ _ st.at')
   walk_at "nx";refine⟨as[i],kind,hs++bs.map V.ref,rfl,hat4,hcl,fun bp H5 sm5 hbp=>?_⟩
   rw[hcut]at hbp
   have edr:(V.str kind::(hs++bs.map V.ref)).drop (hs.length+1)=bs.map V.ref:=by rw[List.drop_succ_cons,List.drop_left']; rfl
   rw[edr]at hbp
   walk_at "rd1";refine⟨_,_,.inr (hat4.same sm5),h8,kind,rfl,fun cp H6 sm6 hcp=>?_⟩
   walk_at "rd1";refine⟨⟨_,hbp.same sm6⟩,⟨_,hcp⟩,?_⟩
   have sm46:=sm5.trans sm6;have hil:=aM st.inn;have hbl:=st.bl
   refine mh (xs:=bs.map V.ref) (ys:=(bn kind).map V.str) (fun j σ H'=>∃ o3 o4:Option V,σ=[some (.ref p),some (.ref lp),some (.ref as[i]),o3,o4]∧Same H H'∧SqT K H' bp (bs.map V.ref)∧SqT K H' cp ((bn kind).map V.str)∧
     H' lp=some (.lst ((pre++([Txt.join " " (kind::ws)]++bY (ins.take j) ((bn kind).take j))).map V.str)))
    (by rw[List.length_map,List.length_map]; exact hbl) ⟨o3,o4,rfl,smH.trans sm46,hbp.same sm6,hcp,by rw[sm46 _ _ e4]; simp[bY]⟩ (fun j σ H' _ h=>by obtain⟨_,_,_,_,z1,z2,_⟩:=h; exact⟨z1,z2⟩) ?_ ?_
   ·rintro j x y t σ H7 hx hy ⟨o3,o4,rfl,sm7,hb7,hc7,hl7⟩ ht
    have hj:j<bs.length:=by have:=(List.getElem?_eq_some_iff.mp hx).1; simpa using this
    have hjc:j<(bn kind).length:=by omega
    rw[List.getElem?_map,List.getElem?_eq_getElem hj]at hx
    cases hx;rw[List.getElem?_map,List.getElem?_eq_getElem hjc]at hy
    cases hy;obtain⟨il,hil',hla⟩:=b7 st.inn (List.getElem?_eq_getElem hj)
    have hsn:=jI hil' (List.getElem?_eq_getElem hjc);have hcl1:=kB (ins:=ins) (cs:=bn kind) (j+1);rw[hsn]at hcl1 ⊢
    rw[List.length_append,List.length_append]at hcl1
    generalize bY (ins.take j) ((bn kind).take j)=mid at hl7 hsn hcl1 ⊢;have st7:=ah ht (.tup [V.ref bs[j],.str (bn kind)[j]]);have et7:upd H7 t (.tup [V.ref bs[j],.str (bn kind)[j]]) t=some (.tup [V.ref bs[j],.str (bn kind)[j]]):=af
    generalize upd H7 t (.tup [V.ref bs[j],.str (bn kind)[j]])=H8 at st7 et7 ⊢;have hl8:=st7 _ _ hl7;walk_at "rd1";refine⟨t,_,rfl,SqT.of et7,rfl,?_⟩
    walk_at "rd1";refine⟨⟨_,SqL.of hl8⟩,bs[j],il,rfl,LinesAt.mono d hla (sm7.trans st7),by omega,fun r H9 sm9 hr9 hl9=>?_⟩
    walk_at "rd1";refine⟨_,_,sm9 _ _ hl8,hl9,aR (by simp only[List.length_map,List.length_append,List.length_cons,List.length_nil]; omega),?_⟩
    have hb9:=((hb7.same st7).same sm9).updL (sm9 _ _ hl8) (o:=.lst ((pre++([Txt.join " " (kind::ws)]++mid)).map V.str++il.map V.str));have hc9:=((hc7.same st7).same sm9).updL (sm9 _ _ hl8) (o:=.lst ((pre++([Txt.join " " (kind::ws)]++mid)).map V.str++il.map V.str));have sm10:Same H (upd H9 lp (.lst ((pre++([Txt.join " " (kind::ws)]++mid)).map V.str++il.map V.str))):=((sm7.trans st7).trans sm9).upd hlp _
    have e10:upd H9 lp (.lst ((pre++([Txt.join " " (kind::ws)]++mid)).map V.str++il.map V.str)) lp=some (.lst ((pre++([Txt.join " " (kind::ws)]++mid)).map V.str++il.map V.str)):=af
    generalize upd H9 lp (.lst ((pre++([Txt.join " " (kind::ws)]++mid)).map V.str++il.map V.str))=H10 at hb9 hc9 sm10 e10 ⊢;walk_at "nx";refine⟨⟨_,SqL.of e10⟩,_,e10,b9 (by simp only[List.length_map,List.length_append,List.length_cons,List.length_nil]; omega),?_⟩
    refine⟨_,_,rfl,sm10.upd hlp _,hb9.updL e10,hc9.updL e10,?_⟩
    rw[af];simp only[List.map_append,List.map_cons,List.map_nil,List.append_assoc,List.cons_append,List.nil_append]
   ·rintro σ H7 ⟨o3,o4,rfl,sm7,_,_,hl7⟩
    refine⟨_,_,_,rfl,sm7,?_⟩
    rw[hl7,List.length_map,List.take_of_length_le (by omega),List.take_of_length_le (by omega)]; rfl
  ·rintro σ H' ⟨o2,o3,o4,rfl,sm,hl⟩
   walk_at "nx";rw[List.length_map,List.take_of_length_le (by omega)]at hl
   exact q lp H' sm hlp hl
end
abbrev letters:Str := "abcdefghijklmnopqrstuvwxyz"
def nK(K:PySem.W.Frag):Sp:=fun vs H Q _=>∃ (a:Addr) (ns:List Int),vs=[.ref a]∧SqL K H a (ns.map V.int)∧ns.length≤63∧∀ H',Q (.bl true) H'
def pC(K:PySem.W.Frag):Sp:=fun vs H Q _=>∃ (a:Addr) (ns:List Int) (k:Int),vs=[.ref a,.int k]∧SqL K H a (ns.map V.int)∧0≤k∧Q (.int (ns.getD k.toNat 0)) H
theorem pU:∀ (cs:List Nat) (acc:Array Nat),((cs.map fun c=>(⟨#[c]⟩ : Str)).foldl (fun acc p=>acc++(Str.ofString "").cps++p.cps) acc).toList=acc.toList++cs
 | [],acc=>by simp
 | c::cs,acc=>by
  rw[List.map_cons,List.foldl_cons,pU cs];have e:(Str.ofString "").cps = #[]:=by decide +kernel
  rw[e]; simp
theorem pL(cs:List Nat):(Txt.join "" (cs.map fun c=>(⟨#[c]⟩ : Str))).cps.toList=cs:=by
 cases cs with
 | nil=>rfl
 | cons c cs=>
  show (((c::cs).map fun c=>(⟨#[c]⟩ : Str)).drop 1 |>.foldl (fun acc p=>acc++(Str.ofString "").cps++p.cps) (((c::cs).map fun c=>(⟨#[c]⟩ : Str)).headD Str.empty).cps).toList=c::cs
  rw[List.map_cons,List.drop_one,List.tail_cons,pU]; rfl
theorem y6(cs:List Nat):(Txt.join "" (cs.map fun c=>(⟨#[c]⟩ : Str))).length=cs.length:=by
 have e:=congrArg List.length (pL cs)
 simpa [Str.length] using e
theorem iz(b:Nat):∀ (ss:List Str),(∀ s∈ss,s.length≤b)→(ss.map (·.length)).sum≤ss.length * b
 | [],_=>by simp
 | s::ss,h=>by
  have h1:=iz b ss fun x hx=>h x (List.mem_cons_of_mem _ hx)
  have h2:=h s List.mem_cons_self;rw[List.map_cons,List.sum_cons,List.length_cons,Nat.succ_mul];omega
theorem vQ(z:Int):∃ c,letters.length≤sizeLine∧cC letters.cps.toList (z % 26)=some c∧c∈letters.cps.toList:=by
 have hz:(z % 26).toNat<letters.cps.toList.length:=by
  show (z % 26).toNat<26
  omega
 refine⟨letters.cps.toList[(z % 26).toNat],by decide,?_,List.getElem_mem hz⟩
 have q:=aq (List.getElem?_eq_getElem hz)
 rwa [show (((z % 26).toNat:Nat):Int)=z % 26 by omega]at q
section
variable{P:Program}{w:World}{K:PySem.W.Frag}{mg:Str→Option Value}{base:Heap}
theorem BA(D:DefAt K mg "_law_cell_at" ci) (z_len:mg "len" = none):aE P w K mg base 1 "_law_cell_at" ["_law_script", "_law_k"] (pC K):=by
 refine D.cal lB (fun _ _ _ _ _ _ us hl=>match us,hl with | [_,_],_=>rfl) (fun vs H Q E h=>by obtain⟨a,ns,k,rfl,_⟩:=h; rfl) (fun f cdv A outer s H vs Q E hr h=>?_)
 obtain⟨a,ns,k,rfl,hS,h0,q⟩:=h
 refine⟨_,(ai (bj (aB wc (pv 1) (bH (bb K) z_len bR (aa (pv 0) ae)) (aA _)) (aj (az (am (aw K) (pv 0) (pv 1) (fun _ _=>rfl)))) aY)
   (aj (az ac))),?_⟩
 try simp only[lK,sK,kh,jB,qN,rY,sg,oM,rN,qF,rM,ph,tz,rT,tF,Ag,xn,wR,pN,Ap,rk,wL,sx,pd,wU,wC,pH,rF,rB,sI,n5,v8,rO,qp,qg,my,jy,pA,oW,wG,oE,kH,oN,su,pR,oI,sO,oj,rf,pZ,qK,nc,oZ,qD,ox,nR,sr,j9,vT,Ax,mo,mM,i_,mV,mF,sf,qe,oT,kc,mn,rS,Au,rX,si,kD,qv,o_,pY,nX,jL,jx,ms,mG,qB,qh,o0,kP,pq,sw,sv,mH,mR,fu,rj,mv,oR,nV,rQ,qJ,oz,sS,s_,rP,sy,L2.start,List.map_cons,List.map_nil,List.length_cons,List.length_nil,List.replicate,List.cons_append,List.nil_append,List.append_nil,List.getElem?_cons_zero,List.getElem?_cons_succ,List.set_cons_zero,List.set_cons_succ,Nat.reduceAdd,Nat.reduceSub,Option.some.injEq,exists_eq_left',exists_eq_left,V.int.injEq,V.ref.injEq,V.str.injEq,V.bl.injEq,wI,sU,and_true,true_and,decide_eq_true_eq,Bool.not_true,Bool.not_false,if_true,Bool.false_eq_true,if_false,ite_true,ite_false]
 refine⟨_,.inl hS,bd (fun c=>?_) (fun c=>?_)⟩
 ·rw[List.length_map]at c
  refine⟨_,.int (ns.getD k.toNat 0),.inl hS,jh h0 ?_,q⟩
  rw[List.getD_eq_getElem?_getD,List.getElem?_eq_getElem (by omega)]; rfl
 ·rw[List.length_map]at c
  have e:ns.getD k.toNat 0=0:=by
   rw[List.getD_eq_getElem?_getD,List.getElem?_eq_none (by omega)]; rfl
  rw[e]at q; exact q
end
def db:List Str:=["open", "copy", "drop", "tie", "do"]
structure gn (ws:List Str):Prop where
 two:2≤ws.length
 three:ws.length≤3
 kind:ws.headD "" ∈ db
 len:∀ x∈ws,x.length≤20
def EC(H:Hp)(a:Addr)(ws:List Str):Prop:=H a=some (.tup (ws.map V.str))∧gn ws
def ia{α : Type}(xs:List α)(lo hi:Option Int):List α:=(xs.drop (HT.sIx xs.length 0 lo)).take (HT.sIx xs.length xs.length hi - HT.sIx xs.length 0 lo)
theorem Bt{α : Type}(f:α→V)(xs:List α)(lo hi:Option Int):di (xs.map f) lo hi=(ia xs lo hi).map f:=by
 unfold di ia;rw[List.length_map,List.map_take,List.map_drop]
theorem xD(x:List Str):∀ v∈x.map V.str,bQ v=true:=by
 intro v hv
 obtain⟨o,_,rfl⟩:=List.mem_map.mp hv
 rfl
theorem ut{H:Hp}{a:Addr}{ws:List Str}{LA:Addr→List Str→Prop}(h:EC H a ws):kI LA H a [Txt.join " " ws]:=by
 obtain⟨h1,two,three,kd,len⟩:=h
 cases ws with
 | nil=>simp at two
 | cons k ws=>
  have hk:k∈db:=kd
  have hc:bn k=[]:=by
   simp only[db,List.mem_cons,List.mem_nil_iff,or_false]at hk
   rcases hk with rfl | rfl | rfl | rfl | rfl <;> decide
  have hp:∀ ws:List Str,Paired ji (ws.map V.str) ws:=fun ws=>by
   induction ws with
   | nil=>exact .nil
   | cons x ws ih=>exact .cons (show ji (.str x) x from rfl) ih
  refine⟨k,ws.map V.str,ws,[],[],⟨by rw[List.map_nil,List.append_nil]; exact h1,hp ws,?_,by rw[hc]; rfl,.nil⟩,by rw[hc]; rfl⟩
  have:=iz 20 (k::ws) len
  simp only[List.length_cons]at this two three ⊢
  omega
theorem fK{α β : Type}{R:α→β→Prop}{x:α}{y:β}(hxy:R x y):∀ {xs:List α} {ys:List β},Paired R xs ys→Paired R (xs++[x]) (ys++[y])
 | _,_,.nil=>.cons hxy .nil
 | _,_,.cons h t=>.cons h (fK hxy t)
set_option genSizeOf false in
inductive ap where
 | plain (ws:List Str)
 | lend (x y:Str) (b:List ap)
 | ite (n:Int) (b c:List ap)
 | whl (n:Int) (b:List ap)
def iW(n:Int):Str:=Str.ofString (toString n)
def dv(f:List ap→List Str):ap→List Str
 | .plain ws=>[Txt.join " " ws]
 | .lend x y b=>Txt.join " " ["lend", x,y]::(f b++[("back" : Str)])
 | .ite n b c=>Txt.join " " ["if", iW n]::(f b++[("else" : Str)]++(f c++[("fi" : Str)]))
 | .whl n b=>Txt.join " " ["while", iW n]::(f b++[("done" : Str)])
def d0:Nat→List ap→List Str
 | 0,_=>[]
 | d+1,T=>T.flatMap (dv (d0 d))
def kn(f:List ap→Prop):ap→Prop
 | .plain ws=>gn ws
 | .lend x y b=>x.length≤20∧y.length≤20∧f b
 | .ite n b c=>n.natAbs.log2<1920∧f b∧f c
 | .whl n b=>n.natAbs.log2<1920∧f b
def dN:Nat→List ap→Prop
 | 0,_=>False
 | d+1,T=>∀ s∈T,kn (dN d) s
def stpAt(PA:Addr→List ap→Prop)(H:Hp)(a:Addr):ap→Prop
 | .plain ws=>H a=some (.tup (ws.map V.str))
 | .lend x y b=>∃ q,H a=some (.tup [.str "lend", .str x,.str y,.ref q])∧PA q b
 | .ite n b c=>∃ q r,H a=some (.tup [.str "if", .int n,.ref q,.ref r])∧PA q b∧PA r c
 | .whl n b=>∃ q,H a=some (.tup [.str "while", .int n,.ref q])∧PA q b
def ProgAt(S:Addr→Prop):Nat→Hp→Addr→List ap→Prop
 | 0=>fun _ _ _=>False
 | d+1=>fun H p T=>S p∧∃ as:List Addr,H p=some (.lst (as.map V.ref))∧Paired (stpAt (ProgAt S d H) H) as T
theorem stpAt.imp{PA PA':Addr→List ap→Prop}{H H':Hp}{a:Addr}(ht:∀ b xs,H b=some (.tup xs)→H' b=some (.tup xs))(hp:∀ q b,PA q b→PA' q b):∀ {s:ap},stpAt PA H a s→stpAt PA' H' a s
 | .plain _,h=>ht _ _ h
 | .lend _ _ _,⟨q,h,z⟩=>⟨q,ht _ _ h,hp _ _ z⟩
 | .ite _ _ _,⟨q,r,h,z,y⟩=>⟨q,r,ht _ _ h,hp _ _ z,hp _ _ y⟩
 | .whl _ _,⟨q,h,z⟩=>⟨q,ht _ _ h,hp _ _ z⟩
theorem ProgAt.imp{S S':Addr→Prop}{H H':Hp}(ht:∀ b xs,H b=some (.tup xs)→H' b=some (.tup xs))(hl:∀ b xs,S b→H b=some (.lst xs)→H' b=some (.lst xs))(hS:∀ b,S b→S' b) :
  ∀ (d:Nat) {p:Addr} {T:List ap},ProgAt S d H p T→ProgAt S' d H' p T
 | 0,_,_,h=>h.elim
 | d+1,p,T,⟨h0,as,h1,h2⟩=>⟨hS _ h0,as,hl _ _ h0 h1,Paired.imp' (fun a s z=>z.imp ht fun q b y=>ProgAt.imp ht hl hS d y) h2⟩
theorem ProgAt.mono{S:Addr→Prop}{H H':Hp}{d:Nat}{p:Addr}{T:List ap}(h:ProgAt S d H p T)(sm:Same H H'):ProgAt S d H' p T:=h.imp (fun b xs e=>sm _ _ e) (fun b xs _ e=>sm _ _ e) (fun _ z=>z) d
theorem sE{n:Int}(h:n.natAbs.log2<1920):(iW n).length≤1921:=by
 have e:=int_text_length_le (k:=1920) (by decide) h
 unfold iW;rw[PySem.ofString_length]; exact e
theorem tR{PA:Addr→List ap→Prop}{LA:Addr→List Str→Prop}{H:Hp}{a:Addr}{f:List ap→List Str}{g:List ap→Prop}(hp:∀ q b,PA q b→g b→LA q (f b)):∀ {s:ap},stpAt PA H a s→kn g s→kI LA H a (dv f s)
 | .plain ws,h,ok=>ut ⟨h,ok⟩
 | .lend x y b,⟨q,h,z⟩,⟨o1,o2,o3⟩=>by
  refine⟨"lend", [.str x,.str y],[x,y],[q],[f b],⟨h,.cons rfl (.cons rfl .nil),?_,by show 1=(bn "lend").length; decide,.cons (hp _ _ z o3) .nil⟩,by show _=_::bY [f b] ["back"]; simp[dv,bY]⟩
  have:(Str.ofString "lend").length=4:=by decide
  simp only[List.map_cons,List.map_nil,List.sum_cons,List.sum_nil,List.length_cons,List.length_nil,this]; omega
 | .ite n b c,⟨q,r,h,z,y⟩,⟨o1,o2,o3⟩=>by
  refine⟨"if", [.int n],[iW n],[q,r],[f b,f c],⟨h,.cons ⟨o1,rfl⟩ .nil,?_,by show 2=(bn "if").length; decide,.cons (hp _ _ z o2) (.cons (hp _ _ y o3) .nil)⟩,?_⟩
  ·have:(Str.ofString "if").length=2:=by decide
   have:=sE o1
   simp only[List.map_cons,List.map_nil,List.sum_cons,List.sum_nil,List.length_cons,List.length_nil]; omega
  ·show _=_::bY [f b,f c] ["else", "fi"]
   simp[dv,bY]
 | .whl n b,⟨q,h,z⟩,⟨o1,o2⟩=>by
  refine⟨"while", [.int n],[iW n],[q],[f b],⟨h,.cons ⟨o1,rfl⟩ .nil,?_,by show 1=(bn "while").length; decide,.cons (hp _ _ z o2) .nil⟩,by show _=_::bY [f b] ["done"]; simp[dv,bY]⟩
  have:(Str.ofString "while").length=5:=by decide
  have:=sE o1
  simp only[List.map_cons,List.map_nil,List.sum_cons,List.sum_nil,List.length_cons,List.length_nil]; omega
theorem jE{PA:Addr→List ap→Prop}{LA:Addr→List Str→Prop}{H:Hp}{f:List ap→List Str}{g:List ap→Prop}(hp:∀ q b,PA q b→g b→LA q (f b)) :
  ∀ {as:List Addr} {T:List ap},Paired (stpAt PA H) as T→(∀ s∈T,kn g s)→Paired (kI LA H) as (T.map (dv f))
 | _,_,.nil,_=>.nil
 | _,_,.cons h t,ok=>.cons (tR hp h (ok _ List.mem_cons_self)) (jE hp t fun s hs=>ok s (List.mem_cons_of_mem _ hs))
theorem kR{S:Addr→Prop}{H:Hp}:∀ (d:Nat) {p:Addr} {T:List ap},ProgAt S d H p T→dN d T→LinesAt d H p (d0 d T)
 | 0,_,_,h,_=>h.elim
 | d+1,p,T,⟨_,as,h1,h2⟩,ok=>⟨as,T.map (dv (d0 d)),h1,jE (fun q b z o=>kR d z o) h2 ok,List.flatMap_def⟩
def bB(f:List ap→Nat):ap→Nat
 | .plain _=>1
 | .lend _ _ b=>f b+2
 | .ite _ b c=>f b+f c+3
 | .whl _ b=>f b+2
def ar:Nat→List ap→Nat
 | 0,_=>0
 | d+1,T=>(T.map (bB (ar d))).sum
def eP(f:ap→Nat):Nat→List ap→List (Nat × ap)
 | _,[]=>[]
 | l,s::T=>(l,s)::eP f (l+f s) T
theorem iP(f:ap→Nat)(s:ap):∀ (l:Nat) (T:List ap),eP f l (T++[s])=eP f l T++[(l+(T.map f).sum,s)]
 | l,[]=>by simp[eP]
 | l,t::T=>by
  show (l,t)::eP f (l+f t) (T++[s])=(l,t)::eP f (l+f t) T++[(l+(f t+(T.map f).sum),s)]
  rw[iP f s (l+f t) T,Nat.add_assoc]; rfl
theorem fF(f:ap→Nat):∀ (l:Nat) (T:List ap),(eP f l T).length=T.length
 | _,[]=>rfl
 | l,s::T=>by show (eP f (l+f s) T).length+1=T.length+1; rw[fF f _ T]
theorem sR(f:ap→Nat):∀ (l:Nat) (T:List ap) (i:Nat) (s:ap),T[i]? = some s→(eP f l T)[i]? = some (l+((T.take i).map f).sum,s)
 | _,[],_,_,h=>by simp at h
 | l,t::T,0,s,h=>by
  have e:t=s:=by simpa using h
  subst e; simp[eP]
 | l,t::T,i+1,s,h=>by
  have h':T[i]? = some s:=by simpa using h
  have ih:=sR f (l+f t) T i s h';show (eP f (l+f t) T)[i]? = _
  rw[ih,List.take_succ_cons,List.map_cons,List.sum_cons,Nat.add_assoc]
def kindOf:ap→Str
 | .plain ws=>ws.headD ""
 | .lend _ _ _ => "lend"
 | .ite _ _ _ => "if"
 | .whl _ _ => "while"
def dJ:ap→List V
 | .plain ws=>(ws.drop 1).map V.str
 | .lend x y _=>[.str x,.str y]
 | .ite n _ _=>[.int n]
 | .whl n _=>[.int n]
def cH(f:List ap→Nat)(l:Nat):ap→List (Nat × List ap)
 | .plain _=>[]
 | .lend _ _ b=>[(l+1,b)]
 | .ite _ b c=>[(l+1,b),(l+1+f b+1,c)]
 | .whl _ b=>[(l+1,b)]
def cJ(f:List ap→Nat)(l:Nat)(s:ap):List Nat:=l::(cH f l s).map fun z=>z.1+f z.2
theorem yM{f:List ap→Nat}{l:Nat}:∀ {s:ap} {j:Nat} {z:Nat × List ap},(cH f l s)[j]? = some z→∃ y,(cJ f l s)[j]? = some y∧z.1=y+1
 | .plain _,j,z,h=>by simp[cH]at h
 | .lend _ _ b,0,z,h=>by cases h; exact⟨l,rfl,rfl⟩
 | .lend _ _ b,j+1,z,h=>by simp[cH]at h
 | .ite _ b c,0,z,h=>by cases h; exact⟨l,rfl,rfl⟩
 | .ite _ b c,1,z,h=>by cases h; exact⟨l+1+f b,rfl,rfl⟩
 | .ite _ b c,j+2,z,h=>by simp[cH]at h
 | .whl _ b,0,z,h=>by cases h; exact⟨l,rfl,rfl⟩
 | .whl _ b,j+1,z,h=>by simp[cH]at h
theorem ke{f:List ap→Nat}{l:Nat}:∀ {s:ap},(cJ f l s).getLast? = some (l+bB f s - 1)∧1≤bB f s
 | .plain _=>by simp[cJ,cH,bB]
 | .lend _ _ b=>by simp[cJ,cH,bB]; omega
 | .ite _ b c=>by simp[cJ,cH,bB]; omega
 | .whl _ b=>by simp[cJ,cH,bB]; omega
def hV:Option Nat→V
 | none=>.non
 | some n=>.int n
set_option genInjectivity false in
set_option genSizeOf false in
structure RS where
 taken:Nat
 last:Int
 opened:Nat
 held:List (aK × V)
 log:List (List V)
def vf(st:RS)(k:aK):Option Nat:=match cr st.held k with
 | some (.int n)=>some n.toNat
 | _=>none
def nH(k:aK)(h:Option Nat)(st:RS):RS:={ st with held:=cK st.held k (hV h) }
def uq(l:Nat)(h:Option Nat)(w:Str)(st:RS):RS:=match h with
 | none=>st
 | some n=>{ st with log:=st.log++[[.int l,.int n,.str w,.int st.last]] }
def EK(l:Nat)(k:aK)(st:RS):RS:=nH k (some st.opened) (uq l (some st.opened) "open" { st with opened:=st.opened+1 })
def zb(l:Nat)(a b:Option Nat)(st:RS):RS:=match a,b with
 | some n,some m=>if n=m then st else { st with log:=st.log++[[.int l,.int n,.int m]] }
 | _,_=>st
def wy(l:Nat)(ws:List Str)(st:RS):RS:=match ws with
 | [k,x]=>if k = "open" then EK l (.inr x) st else nH (.inr x) none st
 | [k,x,y]=>if k = "do" then uq l (vf st (.inr y)) x st else if k = "copy" then nH (.inr x) (vf st (.inr y)) st else zb l (vf st (.inr x)) (vf st (.inr y)) st
 | _=>st
inductive fv:List Str→Prop
 | op (x:Str):fv ["open", x]
 | dr (x:Str):fv ["drop", x]
 | dd (u x:Str):fv ["do", u,x]
 | cp (x y:Str):fv ["copy", x,y]
 | ti (x y:Str):fv ["tie", x,y]
def GoodR(st:RS):Prop:=∀ k v,cr st.held k=some v→∃ h,v=hV h
theorem GoodR.hold{st:RS}(g:GoodR st)(k:aK)(h:Option Nat):GoodR (nH k h st):=fun j v e=>by
 have e':(if j=k then some (hV h) else cr st.held j)=some v:=by rw[← jQ]; exact e
 by_cases hj:j=k
 ·rw[if_pos hj]at e'; exact⟨h,(Option.some.inj e').symm⟩
 ·rw[if_neg hj]at e'; exact g j v e'
theorem kg(l:Nat)(h:Option Nat)(w:Str)(st:RS):(uq l h w st).held=st.held:=by cases h <;> rfl
theorem wO(l:Nat)(a b:Option Nat)(st:RS):(zb l a b st).held=st.held:=by
 unfold zb; split
 ·split <;> rfl
 ·rfl
theorem GoodR.of{st st':RS}(g:GoodR st)(e:st'.held=st.held):GoodR st':=fun k v h=>g k v (by rw[← e]; exact h)
theorem kJ{st:RS}(g:GoodR st)(l:Nat)(ws:List Str):GoodR (wy l ws st):=by
 unfold wy; split
 ·split
  ·exact GoodR.hold (GoodR.of g (by rw[kg])) _ _
  ·exact g.hold _ _
 ·split
  ·exact g.of (kg _ _ _ _)
  ·split
   ·exact g.hold _ _
   ·exact g.of (wO _ _ _ _)
 ·exact g
def nF(k:Str)(pp lp bp:Addr):List (Str × V):=[("kind", .str k),("parts", .ref pp),("lines", .ref lp),("blocks", .ref bp)]
theorem fe(k:Str)(pp lp bp:Addr):(nF k pp lp bp).lookup ("kind" : Str)=some (.str k):=by unfold nF; walk_at "lk"
theorem ef(k:Str)(pp lp bp:Addr):(nF k pp lp bp).lookup ("parts" : Str)=some (.ref pp):=by unfold nF; walk_at "lk"
theorem dQ(k:Str)(pp lp bp:Addr):(nF k pp lp bp).lookup ("lines" : Str)=some (.ref lp):=by unfold nF; walk_at "lk"
theorem fR(k:Str)(pp lp bp:Addr):(nF k pp lp bp).lookup ("blocks" : Str)=some (.ref bp):=by unfold nF; walk_at "lk"
def eU(ns:List Nat):List V:=ns.map fun (n:Nat)=>V.int (n:Int)
def nstpAt(K:PySem.W.Frag)(C:Addr)(f:List ap→Nat)(S:Addr→Prop)(PA:Addr→Nat→List ap→Prop)(H:Hp)(a:Addr)(l:Nat)(s:ap):Prop:=
 ∃ (dx pp lp bp:Addr) (bs:List Addr),H a=some (.ins C dx (nF (kindOf s) pp lp bp))∧SqT K H pp (dJ s)∧S lp∧H lp=some (.lst (eU (cJ f l s)))∧S bp∧H bp=some (.lst (bs.map V.ref))∧Paired (fun q (z:Nat × List ap)=>PA q z.1 z.2) bs (cH f l s)
def NumAt(K:PySem.W.Frag)(C:Addr)(S:Addr→Prop):Nat→Hp→Addr→Nat→List ap→Prop
 | 0=>fun _ _ _ _=>False
 | d+1=>fun H p l T=>S p∧∃ as:List Addr,H p=some (.lst (as.map V.ref))∧Paired (fun a (z:Nat × ap)=>nstpAt K C (ar d) S (NumAt K C S d H) H a z.1 z.2) as (eP (bB (ar d)) l T)
structure Stays (S:Addr→Prop) (H H':Hp):Prop where
 t:∀ b xs,H b=some (.tup xs)→H' b=some (.tup xs)
 z:∀ b o u,H b=some (.frz o u)→H' b=some (.frz o u)
 i:∀ b C dx fs,H b=some (.ins C dx fs)→H' b=some (.ins C dx fs)
 l:∀ b xs,S b→H b=some (.lst xs)→H' b=some (.lst xs)
theorem Stays.of{S:Addr→Prop}{H H':Hp}(sm:Same H H'):Stays S H H':=⟨fun b xs h=>sm _ _ h,fun b o u h=>sm _ _ h,fun b C dx fs h=>sm _ _ h,fun b xs _ h=>sm _ _ h⟩
theorem Stays.upd{S:Addr→Prop}{H:Hp}{p:Addr}{xs:List V}{o:HO}(h:H p=some (.lst xs))(hS:¬ S p):Stays S H (upd H p o):=
  ⟨fun b xs e=>by rw[ax (cP e h (fun z=>nomatch z))]; exact e,fun b o u e=>by rw[ax (cP e h (fun z=>nomatch z))]; exact e,fun b C dx fs e=>by rw[ax (cP e h (fun z=>nomatch z))]; exact e,
   fun b xs hb e=>by rw[ax (show b≠p from fun z=>hS (z ▸ hb))]; exact e⟩
theorem SqT.stays{K:PySem.W.Frag}{S:Addr→Prop}{H H':Hp}{a:Addr}{xs:List V}(h:SqT K H a xs)(st:Stays S H H'):SqT K H' a xs:=by
 rcases h with (h | ⟨o,h⟩) | h
 ·exact .inl (.inl (st.t _ _ h))
 ·exact .inl (.inr ⟨o,st.z _ _ _ h⟩)
 ·exact .inr h
theorem SqT.updI{K:PySem.W.Frag}{H:Hp}{a x C dx:Addr}{xs:List V}{fs:List (Str × V)}{o:HO}(h:SqT K H a xs)(hx:H x=some (.ins C dx fs)):SqT K (upd H x o) a xs:=by
 rcases h with (h | ⟨o',h⟩) | h
 ·exact .inl (.inl (by rw[ax (cP h hx (fun z=>nomatch z))]; exact h))
 ·exact .inl (.inr ⟨o',by rw[ax (cP h hx (fun z=>nomatch z))]; exact h⟩)
 ·exact .inr h
theorem nstpAt.imp{K:PySem.W.Frag}{C:Addr}{f:List ap→Nat}{S S':Addr→Prop}{PA PA':Addr→Nat→List ap→Prop}{H H':Hp}{a:Addr}{l:Nat}{s:ap}(h:nstpAt K C f S PA H a l s)(st:Stays S H H')(hS:∀ b,S b→S' b)(hp:∀ q l b,PA q l b→PA' q l b):nstpAt K C f S' PA' H' a l s:=by
 obtain⟨dx,pp,lp,bp,bs,h1,h2,h3,h4,h5,h6,h7⟩:=h
 exact⟨dx,pp,lp,bp,bs,st.i _ _ _ _ h1,SqT.stays h2 st,hS _ h3,st.l _ _ h3 h4,hS _ h5,st.l _ _ h5 h6,Paired.imp' (fun q z y=>hp _ _ _ y) h7⟩
theorem NumAt.imp{K:PySem.W.Frag}{C:Addr}{S S':Addr→Prop}{H H':Hp}(st:Stays S H H')(hS:∀ b,S b→S' b):∀ (d:Nat) {p:Addr} {l:Nat} {T:List ap},NumAt K C S d H p l T→NumAt K C S' d H' p l T
 | 0,_,_,_,h=>h.elim
 | d+1,p,l,T,⟨h0,as,h1,h2⟩=>⟨hS _ h0,as,st.l _ _ h0 h1,Paired.imp' (fun a z y=>y.imp st hS fun q l b y'=>NumAt.imp st hS d y') h2⟩
theorem NumAt.mono{K:PySem.W.Frag}{C:Addr}{S:Addr→Prop}{H H':Hp}{d:Nat}{p:Addr}{l:Nat}{T:List ap}(h:NumAt K C S d H p l T)(sm:Same H H'):NumAt K C S d H' p l T:=h.imp (Stays.of sm) (fun _ z=>z) d
theorem nstpAt.mono{K:PySem.W.Frag}{C:Addr}{S:Addr→Prop}{H H':Hp}{d:Nat}{a:Addr}{l:Nat}{s:ap}(h:nstpAt K C (ar d) S (NumAt K C S d H) H a l s)(sm:Same H H'):nstpAt K C (ar d) S (NumAt K C S d H') H' a l s:=
 h.imp (Stays.of sm) (fun _ z=>z) fun q l b y=>y.mono sm
theorem rC{α : Type}{xs:List α}{x:α}(h:xs.getLast? = some x):cC xs (-1)=some x:=by
 rcases List.eq_nil_or_concat xs with rfl | ⟨ys,y,rfl⟩
 ·simp at h
 ·have e:y=x:=by simpa using h
  subst e
  have e:iS (ys++[y]).length (-1)=some ys.length:=by
   unfold iS;simp only[List.length_append,List.length_cons,List.length_nil]
   split <;> simp_all <;> omega
  unfold cC;rw[List.concat_eq_append,e];simp
theorem ij{ns:List Nat}{n:Nat}(h:ns.getLast? = some n):cC (eU ns) (-1)=some (.int n):=rC (by unfold eU; rw[List.getLast?_map,h]; rfl)
theorem eF{ns:List Nat}{i n:Nat}(h:ns[i]? = some n):cC (eU ns) i=some (.int n):=aq (by unfold eU; rw[List.getElem?_map,h]; rfl)
theorem sL(d:Nat):∀ T:List ap,T.length≤ar (d+1) T
 | []=>Nat.zero_le _
 | s::T=>by
  have:=sL d T
  have h1:=(ke (f:=ar d) (l:=0) (s:=s)).2;show T.length+1≤bB (ar d) s+ar (d+1) T
  omega
theorem lT{d:Nat}:∀ {T:List ap} {s:ap},s∈T→bB (ar d) s≤ar (d+1) T
 | [],_,h=>by cases h
 | t::T,s,h=>by
  show bB (ar d) s≤bB (ar d) t+ar (d+1) T
  rcases List.mem_cons.mp h with rfl | h
  ·omega
  ·have:=lT (d:=d) h; omega
theorem pI{d i:Nat}{T:List ap}:ar (d+1) (T.take i)≤ar (d+1) T:=by
 have e:ar (d+1) T=ar (d+1) (T.take i)+ar (d+1) (T.drop i):=by
  show (T.map _).sum=((T.take i).map _).sum+((T.drop i).map _).sum
  rw[← List.sum_append,← List.map_append,List.take_append_drop]
 omega
theorem AU{f:List ap→Nat}{l:Nat}:∀ {s:ap} {z:Nat × List ap},z∈cH f l s→f z.2≤bB f s
 | .plain _,z,h=>by cases h
 | .lend _ _ b,z,h=>by simp[cH]at h; subst h; simp[bB]
 | .ite _ b c,z,h=>by
  simp[cH]at h
  rcases h with rfl | rfl <;> simp[bB] <;> omega
 | .whl _ b,z,h=>by simp[cH]at h; subst h; simp[bB]
theorem yR(f:List ap→Nat)(l:Nat)(s:ap):(cH f l s).length≤2:=by cases s <;> simp[cH]
theorem Bu{PA:Addr→List ap→Prop}{H:Hp}{a:Addr}{f:List ap→Nat}{g:List ap→Prop}{l:Nat}:∀ {s:ap},stpAt PA H a s→kn g s→∃ bs:List Addr,H a=some (.tup (.str (kindOf s)::(dJ s++bs.map V.ref)))∧bs.length=(bn (kindOf s)).length∧Paired (fun q (z:Nat × List ap)=>PA q z.2∧g z.2) bs (cH f l s)
 | .plain ws,h,ok=>by
  have hw:ws≠[]:=fun e=>by have:=ok.two; rw[e]at this; simp at this
  obtain⟨k,r,rfl⟩:=List.exists_cons_of_ne_nil hw
  have hk:k∈db:=ok.kind
  refine⟨[],?_,?_,.nil⟩
  ·show H a=some (.tup (.str k::(r.map V.str++[])))
   rw[List.append_nil]; exact h
  ·show 0=(bn k).length
   revert hk; unfold db
   intro hk
   simp only[List.mem_cons,List.not_mem_nil,or_false]at hk
   rcases hk with rfl | rfl | rfl | rfl | rfl <;> decide
 | .lend x y b,⟨q,h,z⟩,⟨_,_,o⟩=>⟨[q],h,by show 1=(bn "lend").length; decide,.cons ⟨z,o⟩ .nil⟩
 | .ite n b c,⟨q,r,h,z,y⟩,⟨_,o,o'⟩=>⟨[q,r],h,by show 2=(bn "if").length; decide,.cons ⟨z,o⟩ (.cons ⟨y,o'⟩ .nil)⟩
 | .whl n b,⟨q,h,z⟩,⟨_,o⟩=>⟨[q],h,by show 1=(bn "while").length; decide,.cons ⟨z,o⟩ .nil⟩
def li(K:PySem.W.Frag)(C:Addr):Sp:=fun vs H Q _=>∃ (x dx hp:Addr) (k:Str) (ps:List V) (lp bp:Addr),vs=[.ref x,.ref hp,.ref lp,.ref bp]∧H x=some (.ins C dx [])∧SqT K H hp (.str k::ps)∧
 ∀ (pp:Addr) (H':Hp),(∀ b o,H b=some o→b≠x→H' b=some o)→H' x=some (.ins C dx (nF k pp lp bp))→SqT K H' pp ps→Q .non H'
def iB(K:PySem.W.Frag)(C:Addr):Sp:=fun vs H Q _=>∃ (p:Addr) (l d:Nat) (T:List ap) (S:Addr→Prop),vs=[.ref p,.int (l:Int)]∧NumAt K C S (d+1) H p l T∧ar (d+1) T≤10000∧Q (.int ((l+ar (d+1) T:Nat):Int)) H
def Et(K:PySem.W.Frag)(C:Addr)(d:Nat):Sp:=fun vs H Q _=>∃ (a:Addr) (l:Nat) (s:ap) (S:Addr→Prop),vs=[.ref a,.int (l:Int)]∧stpAt (ProgAt S d H) H a s∧kn (dN d) s∧bB (ar d) s≤10000∧
 ∀ (q:Addr) (H':Hp),Same H H'→nstpAt K C (ar d) (fun b=>H b=none) (NumAt K C (fun b=>H b=none) d H') H' q l s→Q (.ref q) H'
def pS(K:PySem.W.Frag)(C:Addr)(d:Nat):Sp:=fun vs H Q _=>∃ (p:Addr) (l:Nat) (T:List ap) (S:Addr→Prop),vs=[.ref p,.int (l:Int)]∧ProgAt S d H p T∧dN d T∧ar d T≤10000∧
 ∀ (q:Addr) (H':Hp),Same H H'→NumAt K C (fun b=>H b=none) d H' q l T→Q (.ref q) H'
section
variable{P:Program}{w:World}{K:PySem.W.Frag}{mg:Str→Option Value}{base:Heap}{CN:Addr}
theorem yB(D:MakeAt K mg "NumberedStep" CN "NumberedStep.__init__" aX) (a_kind:Fl K CN "kind") (a_parts:Fl K CN "parts") (a_lines:Fl K CN "lines") (a_blocks:Fl K CN "blocks") :
  qc P w K mg base 1 "NumberedStep" CN ["self", "head", "lines", "blocks"] (li K CN):=by
 refine D.mkal (k:=0) gv (fun _ _ _ _ _ _ us hl=>match us,hl with | [_,_,_,_],_=>rfl) (fun vs H Q E h=>by obtain⟨x,dx,hp,k,ps,lp,bp,rfl,_⟩:=h; rfl) (fun f cdv A outer s H vs Q E hr h=>?_)
 obtain⟨x,dx,hp,k,ps,lp,bp,rfl,hx,hh,q⟩:=h
 refine⟨_,(ai (jn a_kind (pv 0) (am (aw K) (pv 1) ac (fun _ _=>rfl)))
   (ai (jn a_parts (pv 0) (dF (eI K) (pv 1) (dL ac) eJ))
   (ai (jn a_lines (pv 0) (pv 2))
   (aj (jn a_blocks (pv 0) (pv 3)))))),?_⟩
 walk_at "rd1";refine⟨_,_,.inr hh,h8,dx,_,hx,by decide,?_⟩
 generalize hH1:upd H x _=H1
 have e1:H1 x=some (.ins CN dx [("kind", .str k)]):=by rw[← hH1,af]; walk_at "pf"
 have k1:∀ b o,H b=some o→b≠x→H1 b=some o:=fun b o e n=>by rw[← hH1,ax n]; exact e
 have hh1:SqT K H1 hp (.str k::ps):=by rw[← hH1]; exact SqT.updI hh hx
 walk_at "nx";refine eY hh1 fun pp H2 sm2 hpp=>?_
 have ec:di (V.str k::ps) (some 1) none=ps:=gK _ 1
 rw[ec]at hpp
 refine⟨dx,_,sm2 _ _ e1,by simp,?_⟩
 generalize hH3:upd H2 x _=H3
 have e3:H3 x=some (.ins CN dx [("kind", .str k),("parts", .ref pp)]):=by rw[← hH3,af]; walk_at "pf"
 have k3:∀ b o,H2 b=some o→b≠x→H3 b=some o:=fun b o e n=>by rw[← hH3,ax n]; exact e
 have hp3:SqT K H3 pp ps:=by rw[← hH3]; exact SqT.updI hpp (sm2 _ _ e1)
 walk_at "nx";refine⟨dx,_,e3,by simp,?_⟩
 generalize hH4:upd H3 x _=H4
 have e4:H4 x=some (.ins CN dx [("kind", .str k),("parts", .ref pp),("lines", .ref lp)]):=by rw[← hH4,af]; walk_at "pf"
 have k4:∀ b o,H3 b=some o→b≠x→H4 b=some o:=fun b o e n=>by rw[← hH4,ax n]; exact e
 have hp4:SqT K H4 pp ps:=by rw[← hH4]; exact SqT.updI hp3 e3
 walk_at "nx";refine⟨dx,_,e4,by simp,?_⟩
 refine q pp _ (fun b o e n=>?_) ?_ (SqT.updI hp4 e4)
 ·rw[ax n]; exact k4 _ _ (k3 _ _ (sm2 _ _ (k1 _ _ e n)) n) n
 ·rw[af]; unfold nF; walk_at "pf"
theorem xC(D:DefAt K mg "line_behind" cj) (z_len:mg "len" = none) (a_lines:Fl K CN "lines"):aE P w K mg base 1 "line_behind" ["steps", "line"] (iB K CN):=by
 refine D.cal (k:=0) kU (fun _ _ _ _ _ _ us hl=>match us,hl with | [_,_],_=>rfl) (fun vs H Q E h=>by obtain⟨p,l,d,T,S,rfl,_⟩:=h; rfl) (fun f cdv A outer s H vs Q E hr h=>?_)
 obtain⟨p,l,d,T,S,rfl,⟨h0,as,h1,h2⟩,hz,q⟩:=h
 have hlen:=aM h2;rw[fF]at hlen
 refine⟨_,(aj (az (fE (aB aT (bH (bb K) z_len bR (aa (pv 0) ae)) ac (aA _)) (pv 1) (ak aC (am (aw K) (bI a_lines (am (aw K) (pv 0) (d_ dI ac) (fun _ _=>rfl))) (d_ dI ac) (fun _ _=>rfl)) ac)))),?_⟩
 walk_at "rd1";refine⟨_,.inl (SqL.of h1),?_⟩
 rw[List.length_map,hlen];rcases List.eq_nil_or_concat T with rfl | ⟨T',t,rfl⟩
 ·refine bd (fun c=>?_) (fun c=>absurd rfl c)
  exact q
 ·rw[List.concat_eq_append]at *
  refine bd (fun c=>absurd c (by rw[List.length_append]; simp; omega)) (fun c=>?_)
  rw[iP]at h2
  rcases List.eq_nil_or_concat as with rfl | ⟨as',a,rfl⟩
  ·have:=aM h2; simp at this
  rw[List.concat_eq_append]at *
  have hl':as'.length=T'.length:=by simpa using hlen
  have h3:nstpAt K CN (ar d) S (NumAt K CN S d H) H a (l+(T'.map (bB (ar d))).sum) t:=by
   obtain⟨z,hz1,hz2⟩:=b7 h2 (i:=as'.length) (x:=a) (by simp)
   rw[List.getElem?_append_right (by rw[fF]; omega),fF,hl']at hz1
   simp at hz1
   subst hz1; exact hz2
  obtain⟨dx,pp,lp,bp,bs,g1,g2,g3,g4,g5,g6,g7⟩:=h3
  obtain⟨g8,g9⟩:=ke (f:=ar d) (l:=l+(T'.map (bB (ar d))).sum) (s:=t)
  walk_at "rd1";refine⟨_,_,.inl (SqL.of h1),rC (x:=V.ref a) (by simp),?_⟩
  refine⟨a,rfl,dx,_,_,g1,dQ _ _ _ _,?_⟩
  walk_at "rd1";refine⟨_,_,.inl (SqL.of g4),ij g8,?_⟩
  walk_at "rd1"
  have e:((l+(T'.map (bB (ar d))).sum+bB (ar d) t - 1:Nat):Int)+1=((l+ar (d+1) (T'++[t]):Nat):Int):=by
   have:ar (d+1) (T'++[t])=(T'.map (bB (ar d))).sum+bB (ar d) t:=by show ((T'++[t]).map _).sum=_; simp
   omega
  rw[e]; exact q
theorem Dm(D:DefAt K mg "numbered_step" aH) (c_head_of:aE P w K mg base 2 "head_of" ["step"] (iR K)) (c_blocks_of:aE P w K mg base 3 "blocks_of" ["step"] (gB K)) (c_line_behind:aE P w K mg base 1 "line_behind" ["steps", "line"] (iB K CN))
  (k_NumberedStep:qc P w K mg base 1 "NumberedStep" CN ["self", "head", "lines", "blocks"] (li K CN)) {d:Nat} (c_numbered_steps:aE P w K mg base (2 * d+4) "numbered_steps" ["steps", "line"] (pS K CN d)) :
  aE P w K mg base (2 * d+5) "numbered_step" ["step", "line"] (Et K CN d):=by
 refine D.cal (k:=2 * d+4) sc_numbered_step (fun _ _ _ _ _ _ us hl=>match us,hl with | [_,_],_=>rfl) (fun vs H Q E h=>by obtain⟨a,l,s,S,rfl,_⟩:=h; rfl) (fun f cdv A outer sh H vs Q E hr h=>?_)
 obtain⟨a,l,s,S,rfl,h1,ok,hz,q⟩:=h
 obtain⟨bs,b1,b2,b3⟩:=Bu (f:=ar d) (l:=l) h1 ok
 refine⟨_,(ai (au 2 sc_numbered_step.nd (aS (aa (pv 1) ae)))
   (ai (au 3 sc_numbered_step.nd (aS ae))
   (ai (b_ PassesOwn.never rfl (gi K (ay c_blocks_of hr (aa (pv 0) ae) (hle:=by omega))) (bg 4 sc_numbered_step.nd) (ai (au 5 sc_numbered_step.nd (ay c_numbered_steps hr (aa (pv 4) (aa (ak aC (am (aw K) (pv 2) (d_ dI ac) (fun _ _=>rfl)) ac) ae)) (hle:=by omega)))
   (ai (bJ (bV K PySem.F.plainAttrs_list PySem.F.slot_list_append PySem.F.type_list_append bP (pv 3) (aa (pv 5) ae)))
   (aj (bJ (bV K PySem.F.plainAttrs_list PySem.F.slot_list_append PySem.F.type_list_append bP (pv 2) (aa (ay c_line_behind hr (aa (pv 5) (aa (ak aC (am (aw K) (pv 2) (d_ dI ac) (fun _ _=>rfl)) ac) ae)) (hle:=by omega)) ae)))))))
   (aj (az (Em k_NumberedStep hr (aa (ay c_head_of hr (aa (pv 0) ae) (hle:=by omega)) (aa (pv 2) (aa (pv 3) ae))) (hle:=by omega))))))),?_⟩
 walk_at "rd1";refine⟨by decide,fun lp hlp=>?_⟩
 generalize hA:upd H lp _=HA
 have sA:=gb hA hlp;have eA:=jp hA;walk_at "nx";refine⟨by decide,fun bp hbp=>?_⟩
 generalize hB:upd HA bp _=HB
 have sB:=gb hB hbp;have eB:=jp hB;have sAB:=sA.trans sB;have hcl:(bn (kindOf s)).length≤(dJ s++bs.map V.ref).length+1:=by rw[List.length_append,List.length_map,b2]; omega
 have hcut:(dJ s++bs.map V.ref).length+1 - (bn (kindOf s)).length=(dJ s).length+1:=by rw[List.length_append,List.length_map,b2]; omega
 walk_at "nx";refine⟨a,kindOf s,_,rfl,SqT.of (sAB _ _ b1),hcl,fun tp HC sC htp=>?_⟩
 rw[hcut]at htp
 have etk:(V.str (kindOf s)::(dJ s++bs.map V.ref)).drop ((dJ s).length+1)=bs.map V.ref:=by rw[List.drop_succ_cons,List.drop_left']; rfl
 rw[etk]at htp
 walk_at "rd1";refine⟨⟨_,htp⟩,?_⟩
 have hbl:=aM b3;have hb2:=yR (ar d) l s;have nlb:lp≠bp:=fun z=>by rw[← z]at hbp; rw[hbp]at eA; cases eA
 refine nQ (xs:=bs.map V.ref) (fun j σ H'=>∃ (o4 o5:Option V) (qs:List Addr),σ=[some (.ref a),some (.int (l:Int)),some (.ref lp),some (.ref bp),o4,o5]∧Same H H'∧SqT K H' tp (bs.map V.ref)∧H' lp=some (.lst (eU ((cJ (ar d) l s).take (j+1))))∧H' bp=some (.lst (qs.map V.ref))∧
   (∀ b,H' b=none→HC b=none)∧Paired (fun q (z:Nat × List ap)=>NumAt K CN (fun b=>HC b=none) d H' q z.1 z.2) qs ((cH (ar d) l s).take j))
  ⟨none,none,[],rfl,sAB.trans sC,htp,by rw[sC _ _ (sB _ _ eA)]; simp[eU,cJ],by rw[sC _ _ eB]; rfl,fun b h=>h,.nil⟩ (fun j σ H' _ h=>by obtain⟨_,_,_,_,_,z,_⟩:=h; exact z) ?_ ?_
 ·rintro j v σ H' hv ⟨o4,o5,qs,rfl,sm,ht',hl',hb',hfr,hp'⟩
  have hj:j<bs.length:=by have:=(List.getElem?_eq_some_iff.mp hv).1; simpa using this
  rw[List.getElem?_map,List.getElem?_eq_getElem hj]at hv
  cases hv;obtain⟨z,hz1,hz2,hz3⟩:=b7 b3 (List.getElem?_eq_getElem hj)
  obtain⟨y,hy1,hy2⟩:=yM hz1
  have hylast:((cJ (ar d) l s).take (j+1)).getLast? = some y:=by
   rw[List.take_add_one,hy1]; simp
  have hcnt:=AU (List.mem_of_getElem? hz1);walk_at "rd1";refine⟨_,_,.inl (SqL.of hl'),ij hylast,?_⟩
  walk_at "rd1";have ey:(y:Int)+1=((z.1:Nat):Int):=by omega
  rw[ey];refine⟨bs[j],z.1,z.2,S,rfl,hz2.mono sm,hz3,by omega,fun q' HD sD hq'=>?_⟩
  have qlen:=aM hp';rw[List.length_take]at qlen
  walk_at "nx";refine⟨⟨_,SqL.of (sD _ _ hb')⟩,_,sD _ _ hb',b9 (by rw[List.length_map]; omega),?_⟩
  generalize hE:upd HD bp _=HE
  have stE:Stays (fun b=>H' b=none) HD HE:=by rw[← hE]; exact Stays.upd (sD _ _ hb') (fun z=>by rw[hb']at z; cases z)
  have hqE:=NumAt.imp (S':=fun b=>H' b=none) stE (fun _ z=>z) d hq'
  have eE:HE bp=some (.lst (qs.map V.ref++[V.ref q'])):=by rw[← hE,af]
  have lE:HE lp=some (.lst (eU ((cJ (ar d) l s).take (j+1)))):=by rw[← hE,ax nlb]; exact sD _ _ hl'
  walk_at "nx";refine⟨⟨_,SqL.of lE⟩,_,_,.inl (SqL.of lE),ij hylast,?_⟩
  walk_at "rd1";rw[ey];have hC1:∀ b,H' b=none→HC b=none:=hfr
  have hqC:=NumAt.imp (S':=fun b=>HC b=none) (Stays.of (Same.refl HE)) hC1 d hqE
  cases d with
  | zero=>exact hqE.elim
  | succ d=>
  refine⟨q',z.1,d,z.2,_,rfl,hqE,by omega,?_⟩
  refine⟨_,lE,b9 (by unfold eU; rw[List.length_map,List.length_take]; omega),?_⟩
  generalize hF:upd HE lp _=HF
  have lpC:HC lp=some (.lst (eU [l])):=by rw[sC _ _ (sB _ _ eA)]; simp[eU]
  have bpC:HC bp=some (.lst []):=sC _ _ eB
  have stF:Stays (fun b=>HC b=none) HE HF:=by rw[← hF]; exact Stays.upd lE (fun z=>by rw[lpC]at z; cases z)
  have stE':Stays (fun b=>HC b=none) HD HE:=by rw[← hE]; exact Stays.upd (sD _ _ hb') (fun z=>by rw[bpC]at z; cases z)
  have up:∀ {p:Addr} {l:Nat} {T:List ap},NumAt K CN (fun b=>HC b=none) (d+1) H' p l T→NumAt K CN (fun b=>HC b=none) (d+1) HF p l T:=fun z=>NumAt.imp stF (fun _ y=>y) _ (NumAt.imp stE' (fun _ y=>y) _ (z.mono sD))
  refine⟨_,_,qs++[q'],rfl,?_,?_,?_,?_,?_,?_⟩
  ·rw[← hF,← hE]; exact((sm.trans sD).upd (sA.free hbp) _).upd hlp _
  ·exact SqT.stays (SqT.stays (ht'.same sD) stE') stF
  ·rw[← hF,af]
   have:(cJ (ar (d+1)) l s)[j+1]? = some (z.1+ar (d+1) z.2):=by
    unfold cJ;rw[List.getElem?_cons_succ,List.getElem?_map,hz1]; rfl
   unfold eU;rw[List.take_add_one (i:=j+1),this,List.map_append]; rfl
  ·rw[← hF,ax nlb.symm,eE,List.map_append]; rfl
  ·intro b hb
   refine hfr b (sD.free ?_)
   rw[← hF,← hE]at hb
   by_cases e1:b=lp
   ·rw[e1,af]at hb; cases hb
   ·rw[ax e1]at hb
    by_cases e2:b=bp
    ·rw[e2,af]at hb; cases hb
    ·rw[ax e2]at hb; exact hb
  ·rw[List.take_add_one,hz1]
   exact fK (R:=fun q (z:Nat × List ap)=>NumAt K CN (fun b=>HC b=none) (d+1) HF q z.1 z.2) (NumAt.imp stF (fun _ y=>y) _ hqC) (Paired.imp' (fun q z y=>up y) hp')
 ·rintro σ H' ⟨o4,o5,qs,rfl,sm,ht',hl',hb',hfr,hp'⟩
  rw[List.length_map,hbl,List.take_length]at hp'
  have hll:(cJ (ar d) l s).take ((bs.map V.ref).length+1)=cJ (ar d) l s:=by
   rw[List.take_of_length_le]; unfold cJ; rw[List.length_cons,List.length_map,List.length_map,hbl]; exact Nat.le_refl _
  rw[hll]at hl'
  walk_at "nx";refine⟨a,kindOf s,_,rfl,SqT.of (sm _ _ b1),hcl,fun hp HD sD hhp=>?_⟩
  rw[hcut]at hhp
  have etk2:(V.str (kindOf s)::(dJ s++bs.map V.ref)).take ((dJ s).length+1)=V.str (kindOf s)::dJ s:=by rw[List.take_succ_cons,List.take_left']; rfl
  rw[etk2]at hhp
  walk_at "rd1";intro x dx hx hdx ndx
  generalize hM:upd (upd HD dx (.own x)) x (.ins CN dx [])=HM
  have sM:Same HD HM:=by rw[← hM]; exact(ah hdx (.own x)).upd hx _
  have eM:HM x=some (.ins CN dx []):=by rw[← hM,af]
  refine⟨x,dx,hp,kindOf s,dJ s,lp,bp,rfl,eM,hhp.same sM,fun pp HN kN eN hpp=>⟨rfl,?_⟩⟩
  have sN:Same HD HN:=fun b o e=>kN b o (sM _ _ e) (aF e hx)
  have sHN:Same H HN:=(sm.trans sD).trans sN
  have hCH:∀ b,HC b=none→H b=none:=fun b z=>(sAB.trans sC).free z
  refine q x HN sHN ⟨dx,pp,lp,bp,qs,eN,hpp,hlp,sN _ _ (sD _ _ hl'),sA.free hbp,sN _ _ (sD _ _ hb'),?_⟩
  exact Paired.imp' (fun q z y=>NumAt.imp (Stays.of (sD.trans sN)) hCH d y) hp'
theorem rK(D0:DefAt K mg "numbered_step" aH) (D:DefAt K mg "numbered_steps" bf) (c_head_of:aE P w K mg base 2 "head_of" ["step"] (iR K)) (c_blocks_of:aE P w K mg base 3 "blocks_of" ["step"] (gB K)) (c_line_behind:aE P w K mg base 1 "line_behind" ["steps", "line"] (iB K CN))
  (k_NumberedStep:qc P w K mg base 1 "NumberedStep" CN ["self", "head", "lines", "blocks"] (li K CN)):∀ d:Nat,aE P w K mg base (2 * d+4) "numbered_steps" ["steps", "line"] (pS K CN d)
 | 0=>D.cal (k:=3) sc_numbered_steps (fun _ _ _ _ _ _ us hl=>match us,hl with | [_,_],_=>rfl) (fun vs H Q E h=>by obtain⟨p,l,T,S,rfl,_⟩:=h; rfl) (fun f cdv A outer s H vs Q E hr h=>by obtain⟨p,l,T,S,rfl,z,_⟩:=h; exact z.elim)
 | d+1=>by
  have c_numbered_step:=Dm D0 c_head_of c_blocks_of c_line_behind k_NumberedStep (rK D0 D c_head_of c_blocks_of c_line_behind k_NumberedStep d);refine D.cal (k:=2 * d+5) sc_numbered_steps (fun _ _ _ _ _ _ us hl=>match us,hl with | [_,_],_=>rfl) (fun vs H Q E h=>by obtain⟨p,l,T,S,rfl,_⟩:=h; rfl) (fun f cdv A outer s H vs Q E hr h=>?_)
  obtain⟨p,l,T,S,rfl,⟨h0,as,h1,h2⟩,ok,hz,q⟩:=h
  have hlen:=aM h2;have hTl:=sL d T
  refine⟨_,(ai (au 2 sc_numbered_steps.nd (aS ae))
   (ai (b_ PassesOwn.never rfl (cX K (pv 0)) (bg 3 sc_numbered_steps.nd) (aj (bJ (bV K PySem.F.plainAttrs_list PySem.F.slot_list_append PySem.F.type_list_append bP (pv 2) (aa (ay c_numbered_step hr (aa (pv 3) (aa (ay c_line_behind hr (aa (pv 2) (aa (pv 1) ae)) (hle:=by omega)) ae)) (hle:=by omega)) ae)))))
   (aj (az (pv 2))))),?_⟩
  walk_at "rd1";refine⟨by decide,fun lp hlp=>?_⟩
  generalize hA:upd H lp _=HA
  have sA:=gb hA hlp;have eA:=jp hA;walk_at "nx";refine⟨⟨_,SqL.of (sA _ _ h1)⟩,?_⟩
  have lpA:¬ HA lp=none:=fun z=>by rw[eA]at z; cases z
  refine cS (xs:=as.map V.ref) (fun i σ H'=>∃ (o3:Option V) (ns:List Addr),σ=[some (.ref p),some (.int (l:Int)),some (.ref lp),o3]∧Same H H'∧H' lp=some (.lst (ns.map V.ref))∧(∀ b,H' b=none→HA b=none)∧
    Paired (fun a (z:Nat × ap)=>nstpAt K CN (ar d) (fun b=>HA b=none) (NumAt K CN (fun b=>HA b=none) d H') H' a z.1 z.2) ns (eP (bB (ar d)) l (T.take i)))
   ⟨none,[],rfl,sA,eA,fun _ z=>z,.nil⟩ (fun i σ H' _ h=>by obtain⟨_,_,_,sm,_⟩:=h; exact SqL.of (sm _ _ h1)) ?_ ?_
  ·rintro i v σ H' hv ⟨o3,ns,rfl,sm,n1,nf,n2⟩
   have hi:i<as.length:=by have:=(List.getElem?_eq_some_iff.mp hv).1; simpa using this
   rw[List.getElem?_map,List.getElem?_eq_getElem hi]at hv
   cases hv;obtain⟨s,hs,hsa⟩:=b7 h2 (List.getElem?_eq_getElem hi)
   have hmem:=List.mem_of_getElem? hs;have hct:=lT (d:=d) hmem;have hctk:=pI (d:=d) (i:=i) (T:=T);have nlen:=aM n2;rw[fF,List.length_take]at nlen
   walk_at "rd1";refine⟨⟨_,SqL.of n1⟩,?_⟩
   refine⟨lp,l,d,T.take i,fun _=>True,rfl,⟨trivial,ns,n1,Paired.imp' (fun a z y=>y.imp (Stays.of (Same.refl H')) (fun _ _=>trivial) fun q l b y'=>NumAt.imp (Stays.of (Same.refl H')) (fun _ _=>trivial) d y') n2⟩,by omega,?_⟩
   refine⟨as[i],l+ar (d+1) (T.take i),s,S,rfl,?_,ok s hmem,by omega,fun q' HD sD hq'=>?_⟩
   ·exact stpAt.imp (fun b xs e=>sm _ _ e) (fun q b y=>y.mono sm) hsa
   refine⟨_,sD _ _ n1,b9 (by rw[List.length_map]; omega),?_⟩
   generalize hE:upd HD lp _=HE
   have eE:HE lp=some (.lst ((ns++[q']).map V.ref)):=by rw[← hE,af,List.map_append]; rfl
   have stE:Stays (fun b=>HA b=none) HD HE:=by rw[← hE]; exact Stays.upd (sD _ _ n1) lpA
   have hq2:nstpAt K CN (ar d) (fun b=>HA b=none) (NumAt K CN (fun b=>HA b=none) d HD) HD q' (l+ar (d+1) (T.take i)) s:=hq'.imp (Stays.of (Same.refl HD)) nf fun q l b y'=>NumAt.imp (Stays.of (Same.refl HD)) nf d y'
   have up:∀ {a:Addr} {l:Nat} {s:ap},nstpAt K CN (ar d) (fun b=>HA b=none) (NumAt K CN (fun b=>HA b=none) d HD) HD a l s→nstpAt K CN (ar d) (fun b=>HA b=none) (NumAt K CN (fun b=>HA b=none) d HE) HE a l s:=fun z=>z.imp stE (fun _ y=>y) fun q l b y'=>NumAt.imp stE (fun _ y=>y) d y'
   refine⟨_,ns++[q'],rfl,?_,eE,?_,?_⟩
   ·rw[← hE]; exact(sm.trans sD).upd hlp _
   ·intro b hb
    refine nf b (sD.free ?_)
    rw[← hE]at hb
    by_cases e1:b=lp
    ·rw[e1,af]at hb; cases hb
    ·rw[ax e1]at hb; exact hb
   ·have et:T.take (i+1)=T.take i++[s]:=by rw[List.take_add_one,hs]; rfl
    rw[et,iP];exact fK (R:=fun a (z:Nat × ap)=>nstpAt K CN (ar d) (fun b=>HA b=none) (NumAt K CN (fun b=>HA b=none) d HE) HE a z.1 z.2) (up hq2) (Paired.imp' (fun a z y=>up (nstpAt.mono y sD)) n2)
  ·rintro σ H' ⟨o3,ns,rfl,sm,n1,nf,n2⟩
   rw[List.length_map,hlen,List.take_length]at n2
   walk_at "nx";have hAH:∀ b,HA b=none→H b=none:=fun b z=>sA.free z
   exact q lp H' sm ⟨hlp,ns,n1,Paired.imp' (fun a z y=>y.imp (Stays.of (Same.refl H')) hAH fun q l b y'=>NumAt.imp (Stays.of (Same.refl H')) hAH d y') n2⟩
end
section
variable{P:Program}{w:World}{K:PySem.W.Frag}{mg:Str→Option Value}{base:Heap}
abbrev bi:=List V
def bX(kv:List (aK × V))(k:aK):V:=(cr kv k).getD .non
def iN(n:Nat):V:=.int (n:Int)
def gY(kv:List (aK × V))(l:Nat)(ws:List Str):bi:=
 if ws.headD "" = "do" then [.str "do", iN l,bX kv (.inr (ws.getD 2 "")),.str (ws.getD 1 "")] else .str (ws.headD "")::iN l::(ws.drop 1).map fun n=>bX kv (.inr n)
section
variable(kv:List (aK × V))(f:Bool→Nat→Nat→List ap→List bi)(cnt:List ap→Nat)
def gF(t:Bool)(a l:Nat)(x y:Str)(b:List ap):List bi:=
 [[.str "copy", iN l,bX kv (.inl l),bX kv (.inr x)],[.str "do", iN l,bX kv (.inl l),.str "lend"],[.str "copy", iN l,bX kv (.inr y),bX kv (.inl l)]]++f t (a+3) (l+1) b ++
 [[.str "do", iN (l+1+cnt b),bX kv (.inl l),.str "back"],[.str "drop", iN (l+1+cnt b),bX kv (.inr y)],[.str "drop", iN (l+1+cnt b),bX kv (.inl l)]]
def mQ(t:Bool)(a l:Nat)(n:Int)(b c:List ap):List bi:=
 [[.str "test", iN l,.int n,iN (a+1+(f t (a+1) (l+1) b).length+1)]]++f t (a+1) (l+1) b ++
 [[.str "jump", iN (l+1+cnt b),iN (a+1+(f t (a+1) (l+1) b).length+1+(f t (a+1+(f t (a+1) (l+1) b).length+1) (l+1+cnt b+1) c).length)]]++f t (a+1+(f t (a+1) (l+1) b).length+1) (l+1+cnt b+1) c
def fN(a l:Nat)(n:Int)(b:List ap):List bi:=
 [[.str "test", iN l,.int n,iN (a+1+(f false (a+1) (l+1) b).length+1)]]++f false (a+1) (l+1) b++[[.str "jump", iN (l+1+cnt b),iN a]]
def ej(t:Bool)(a l:Nat)(n:Int)(b:List ap):List bi:=
 if t=true then [[.str "test", iN l,.int n,iN (a+1+(f true (a+1) (l+1) b).length+(fN f cnt (a+1+(f true (a+1) (l+1) b).length) l n b).length)]]++f true (a+1) (l+1) b++fN f cnt (a+1+(f true (a+1) (l+1) b).length) l n b
 else fN f cnt a l n b
def im(t:Bool)(a l:Nat):ap→List bi
 | .plain ws=>[gY kv l ws]
 | .lend x y b=>gF kv f cnt t a l x y b
 | .ite n b c=>mQ f cnt t a l n b c
 | .whl n b=>ej f cnt t a l n b
end
def dw(g:Nat→Nat→ap→List bi)(c:ap→Nat):Nat→Nat→List ap→List bi
 | _,_,[]=>[]
 | a,l,s::T=>g a l s++dw g c (a+(g a l s).length) (l+c s) T
theorem jK(g:Nat→Nat→ap→List bi)(c:ap→Nat)(s:ap):∀ (T:List ap) (a l:Nat),dw g c a l (T++[s])=dw g c a l T++g (a+(dw g c a l T).length) (l+(T.map c).sum) s
 | [],a,l=>by simp[dw]
 | t::T,a,l=>by
  show g a l t++dw g c _ _ (T++[s])=(g a l t++dw g c _ _ T)++_
  have e:(dw g c a l (t::T)).length=(g a l t).length+(dw g c (a+(g a l t).length) (l+c t) T).length:=List.length_append
  rw[jK g c s T,List.append_assoc,e,List.map_cons,List.sum_cons,Nat.add_assoc,Nat.add_assoc]
def bM(kv:List (aK × V)):Nat→Bool→Nat→Nat→List ap→List bi
 | 0,_,_,_,_=>[]
 | d+1,t,a,l,T=>dw (im kv (bM kv d) (ar d) t) (bB (ar d)) a l T
theorem jU{f:Bool→Nat→Nat→List ap→List bi}{cnt:List ap→Nat}{a l:Nat}{n:Int}{b:List ap}:(fN f cnt a l n b).length=(f false (a+1) (l+1) b).length+2:=by
 unfold fN; simp
theorem zQ{kv:List (aK × V)}{f:Bool→Nat→Nat→List ap→List bi}{cnt:List ap→Nat}{m:Nat}(h0:∀ a l T,(f false a l T).length≤6 * cnt T)(h1:∀ a l T,(f true a l T).length≤6 * m * cnt T)(hm:1≤m):∀ (s:ap) (t:Bool) (a l:Nat),(im kv f cnt t a l s).length≤(if t=true then 6 * (m+1) else 6) * bB cnt s
 | .plain ws,t,a,l=>by
  show 1≤_ * 1
  split <;> omega
 | .lend x y b,t,a,l=>by
  cases t with
  | false=>
   have:=h0 (a+3) (l+1) b
   show (gF kv f cnt false a l x y b).length≤6 * (cnt b+2)
   unfold gF;simp only[List.length_append,List.length_cons,List.length_nil]
   omega
  | true=>
   have:=h1 (a+3) (l+1) b
   show (gF kv f cnt true a l x y b).length≤6 * (m+1) * (cnt b+2)
   unfold gF;simp only[List.length_append,List.length_cons,List.length_nil]
   have e:6 * (m+1) * (cnt b+2)=6 * m * cnt b+6 * cnt b+12 * m+12:=by rw[Nat.mul_add 6 m 1,Nat.add_mul,Nat.mul_add,Nat.mul_add]; omega
   omega
 | .ite n b c,t,a,l=>by
  cases t with
  | false=>
   have:=h0 (a+1) (l+1) b
   have:=h0 (a+1+(f false (a+1) (l+1) b).length+1) (l+1+cnt b+1) c
   show (mQ f cnt false a l n b c).length≤6 * (cnt b+cnt c+3)
   unfold mQ;simp only[List.length_append,List.length_cons,List.length_nil]
   omega
  | true=>
   have:=h1 (a+1) (l+1) b
   have:=h1 (a+1+(f true (a+1) (l+1) b).length+1) (l+1+cnt b+1) c
   show (mQ f cnt true a l n b c).length≤6 * (m+1) * (cnt b+cnt c+3)
   unfold mQ;simp only[List.length_append,List.length_cons,List.length_nil]
   have e:6 * (m+1) * (cnt b+cnt c+3)=6 * m * cnt b+6 * m * cnt c+18 * m+6 * cnt b+6 * cnt c+18:=by rw[Nat.mul_add 6 m 1,Nat.add_mul,Nat.mul_add,Nat.mul_add,Nat.mul_add,Nat.mul_add]; omega
   omega
 | .whl n b,t,a,l=>by
  cases t with
  | false=>
   have:=h0 (a+1) (l+1) b
   show (ej f cnt false a l n b).length≤6 * (cnt b+2)
   unfold ej;rw[if_neg (by decide),jU]
   omega
  | true=>
   have:=h1 (a+1) (l+1) b
   have:=h0 (a+1+(f true (a+1) (l+1) b).length+1) (l+1) b
   show (ej f cnt true a l n b).length≤6 * (m+1) * (cnt b+2)
   unfold ej;rw[if_pos rfl];simp only[List.length_append,List.length_cons,List.length_nil,jU]
   have e:6 * (m+1) * (cnt b+2)=6 * m * cnt b+6 * cnt b+12 * m+12:=by rw[Nat.mul_add 6 m 1,Nat.add_mul,Nat.mul_add,Nat.mul_add]; omega
   omega
theorem n_{g:Nat→Nat→ap→List bi}{c:ap→Nat}{k:Nat}(h:∀ s a l,(g a l s).length≤k * c s):∀ (T:List ap) (a l:Nat),(dw g c a l T).length≤k * (T.map c).sum
 | [],_,_=>Nat.zero_le _
 | s::T,a,l=>by
  have:=h s a l
  have:=n_ h T (a+(g a l s).length) (l+c s)
  show (g a l s++dw g c (a+(g a l s).length) (l+c s) T).length≤k * (c s+(T.map c).sum)
  rw[List.length_append,Nat.mul_add]; omega
theorem oO(kv:List (aK × V)):∀ (d:Nat) (a l:Nat) (T:List ap),(bM kv d false a l T).length≤6 * ar d T∧(bM kv d true a l T).length≤6 * (d+1) * ar d T
 | 0,_,_,_=>⟨Nat.zero_le _,Nat.zero_le _⟩
 | d+1,a,l,T=>by
  have ih:=oO kv d;have st:=zQ (kv:=kv) (f:=bM kv d) (cnt:=ar d) (m:=d+1) (fun a l T=>(ih a l T).1) (fun a l T=>(ih a l T).2) (by omega)
  exact⟨n_ (k:=6) (fun s a l=>by have:=st s false a l; simpa using this) T a l,n_ (k:=6 * (d+1+1)) (fun s a l=>by have:=st s true a l; simpa using this) T a l⟩
def bc(H:Hp)(c:Addr)(r:bi):Prop:=H c=some (.tup r)
def ei(ws:List Str):List Str:=if ws.headD "" = "do" then [ws.getD 2 ""] else ws.drop 1
def gC(kv:List (aK × V))(k:aK):Prop:=cr kv k=some (bX kv k)
def lU(kv:List (aK × V))(f:Nat→List ap→Prop)(cnt:List ap→Nat)(l:Nat):ap→Prop
 | .plain ws=>(ws.headD "" = "do" → ws.length=3)∧∀ n∈ei ws,gC kv (.inr n)
 | .lend x y b=>gC kv (.inr x)∧gC kv (.inr y)∧gC kv (.inl (l:Int))∧f (l+1) b
 | .ite _ b c=>f (l+1) b∧f (l+1+cnt b+1) c
 | .whl _ b=>f (l+1) b
def er(kv:List (aK × V)):Nat→Nat→List ap→Prop
 | 0,_,_=>False
 | d+1,l,T=>∀ z∈eP (bB (ar d)) l T,lU kv (er kv d) (ar d) z.1 z.2
section
variable{CN:Addr}
def yU(K:PySem.W.Frag)(C:Addr):Sp:=fun vs H Q _=>∃ (a sp:Addr) (l:Nat) (ws:List Str) (kv:List (aK × V)) (S:Addr→Prop) (PA:Addr→Nat→List ap→Prop) (g:List ap→Nat) (f:Nat→List ap→Prop),vs=[.ref a,.ref sp]∧nstpAt K C g S PA H a l (.plain ws)∧gn ws∧H sp=some (.dK kv)∧lU kv f g l (.plain ws)∧
 ∀ (t:Addr) (H':Hp),Same H H'→bc H' t (gY kv l ws)→Q (.ref t) H'
theorem wB(D:DefAt K mg "simple_row" bq) (z_tuple:mg "tuple" = none) (a_kind:Fl K CN "kind") (a_parts:Fl K CN "parts") (a_lines:Fl K CN "lines"):aE P w K mg base 1 "simple_row" ["step", "slots"] (yU K CN):=by
 refine D.cal (k:=0) sc_simple_row (fun _ _ _ _ _ _ us hl=>match us,hl with | [_,_],_=>rfl) (fun vs H Q E h=>by obtain⟨_,_,_,_,_,_,_,_,_,rfl,_⟩:=h; rfl) (fun f cdv A outer s H vs Q E hr h=>?_)
 obtain⟨a,sp,l,ws,kv,S,PA,g,ff,rfl,⟨dx,pp,lp,bp,bs,g1,g2,g3,g4,g5,g6,g7⟩,ok,esp,⟨hk3,hks⟩,q⟩:=h
 refine⟨_,(ai (au 2 sc_simple_row.nd (am (aw K) (bI a_lines (pv 0)) ac (fun _ _=>rfl)))
   (ai (bj (aB aT (bI a_kind (pv 0)) av (aA _)) (aj (az (aU (aa av (aa (pv 2) (aa (am (qE K) (pv 1 (hv:=GD)) (am (aw K) (bI a_parts (pv 0)) ac (fun _ _=>rfl)) (fun _ _=>rfl)) (aa (am (aw K) (bI a_parts (pv 0)) ac (fun _ _=>rfl)) ae))))))) aY)
   (aj (az (ak (eV K) (aU (aa (bI a_kind (pv 0)) (aa (pv 2) ae))) (dy (mY K) z_tuple qI (aa (fc (CompSc.to (fsc:=(defScope bq)) (N:=["step", "slots", "line"]) (N0:=["step", "slots", "line"]) (T:=["name"]) ⟨by decide +kernel,by decide +kernel,by decide +kernel,by decide +kernel,by decide +kernel,by decide +kernel,by decide +kernel⟩ rfl rfl) rfl ((gi K) (bI a_parts (pv 0))) (fun _ _ _ _=>(bg 3 (show (["step", "slots", "line", "name"]:List Str).Nodup from by decide +kernel) (hx:=(gS (defScope bq) (by decide +kernel))) (hf:=jN (defScope bq) (by decide +kernel)))) (dD (show (["step", "slots", "line"]:List Str).length≤3 from by decide)) (fun _ _ _ _=>eX) (fun _ _ _ _=>(am (qE K) (pv 1 (hv:=(cY (defScope bq) (by decide +kernel)))) (pv 3 (hv:=(cY (defScope bq) (by decide +kernel)))) (fun _ _=>rfl)))) ae))))))),?_⟩
 walk_at "rd1";refine⟨dx,_,_,g1,dQ _ _ _ _,?_⟩
 walk_at "rd1";refine⟨_,_,.inl (SqL.of g4),eF (i:=0) (n:=l) rfl,?_⟩
 walk_at "nx";refine⟨dx,_,_,g1,fe _ _ _ _,?_⟩
 walk_at "rd1";unfold gY at q;unfold ei at hks;refine bd (fun c=>?_) (fun c=>?_)
 ·have hdo:ws.headD "" = "do" := c
  rw[if_pos hdo]at q hks
  obtain⟨k0,w0,x0,rfl⟩ : ∃ k w x,ws=[k,w,x]:=by
   have:=hk3 hdo
   match ws,this with
   | [k,w,x],_=>exact⟨k,w,x,rfl⟩
  have hx:=hks x0 (by simp)
  refine⟨dx,_,_,g1,ef _ _ _ _,?_⟩
  walk_at "rd1";refine⟨_,_,.inr g2,aq (j:=1) (v:=.str x0) rfl,?_⟩
  refine .inr ⟨sp,kv,.inr x0,_,rfl,rfl,esp,hx,?_⟩
  refine⟨dx,_,_,g1,ef _ _ _ _,?_⟩
  walk_at "rd1";refine⟨_,_,.inr g2,aq (j:=0) (v:=.str w0) rfl,by decide,fun t ht=>?_⟩
  exact q t _ (ah ht _) af
 ·have hdo:¬ ws.headD "" = "do" := c
  rw[if_neg hdo]at q hks
  walk_at "nx";refine⟨dx,_,_,g1,fe _ _ _ _,by decide,fun t1 ht1=>?_⟩
  generalize hH1:upd H t1 _=H1
  have s1:Same H H1:=by rw[← hH1]; exact ah ht1 _
  have et1:H1 t1=some (.tup [.str (kindOf (.plain ws)),iN l]):=by rw[← hH1]; exact af
  refine⟨dx,_,_,s1 _ _ g1,ef _ _ _ _,?_⟩
  refine⟨pp,rfl,⟨_,g2.same s1⟩,fun L hL=>?_⟩
  have g2':SqT K H1 pp ((ws.drop 1).map V.str):=g2.same s1
  have esp1:=s1 _ _ esp;refine iO (xs:=(ws.drop 1).map V.str) (fun i ys H'=>Same H1 H'∧H' L=some (.lst ys)∧ys=((ws.drop 1).take i).map fun n=>bX kv (.inr n)) ⟨ah hL _,af,rfl⟩ (fun i ys H' _ hh=>g2'.same hh.1) ?_ ?_
  ·rintro i ys H' v hv hi ⟨sm,hl,rfl⟩
   rw[List.length_map]at hi
   rw[List.getElem?_map,List.getElem?_eq_getElem hi]at hv
   cases hv;have hn:=hks _ (List.getElem_mem hi);have h3:=ok.three;have hdl:(ws.drop 1).length≤3:=by rw[List.length_drop]; omega
   walk_at "rd1";refine .inr ⟨sp,kv,.inr (ws.drop 1)[i],_,rfl,rfl,sm _ _ esp1,hn,?_⟩
   refine iA (by rw[List.length_map]; exact hi) (by rw[List.length_map,List.length_take]; omega) (by rw[List.length_map]; exact aR (by omega)) hl ⟨sm.upd hL _,af,?_⟩
   rw[List.take_add_one,List.getElem?_eq_getElem hi,List.map_append]; rfl
  ·rintro ys H2 ⟨s2,e2,rfl⟩
   rw[List.length_map,List.take_length]at e2
   have h2:=ok.two;have h3:=ok.three;have hdl:(ws.drop 1).length≤3∧1≤(ws.drop 1).length:=by rw[List.length_drop]; omega
   walk_at "rd1";refine⟨_,.inl ⟨SqL.of e2,fun t2 ht2=>?_⟩⟩
   have s3:=ah ht2 (.tup ((ws.drop 1).map fun n=>bX kv (.inr n)))
   have et2:upd H2 t2 (.tup ((ws.drop 1).map fun n=>bX kv (.inr n))) t2=some (.tup ((ws.drop 1).map fun n=>bX kv (.inr n))):=af
   generalize upd H2 t2 (.tup ((ws.drop 1).map fun n=>bX kv (.inr n)))=H3 at s3 et2 ⊢
   refine⟨_,_,SqT.of (s3 _ _ (s2 _ _ et1)),SqT.of et2,by simp,by rw[List.length_map]; exact aR (by simp only[List.length_cons,List.length_nil]; omega),fun hz=>?_,fun _ t3 ht3=>?_⟩
   ·have:=congrArg List.length hz
    rw[List.length_map]at this
    simp only[List.length_nil]at this
    omega
   ·exact q t3 _ (((s1.trans s2).trans s3).trans (ah ht3 _)) af
end
def ListR(H:Hp)(q:Addr)(rows:List bi):Prop:=∃ as:List Addr,H q=some (.lst (as.map V.ref))∧Paired (bc H) as rows
theorem ListR.mono{H H':Hp}{q:Addr}{rows:List bi}(h:ListR H q rows)(s:Same H H'):ListR H' q rows:=let ⟨as,h1,h2⟩:=h; ⟨as,s _ _ h1,Paired.imp' (fun _ _ z=>s _ _ z) h2⟩
theorem dZ{α β : Type}{R:α→β→Prop}:∀ {xs zs:List α} {ys us:List β},Paired R xs ys→Paired R zs us→Paired R (xs++zs) (ys++us)
 | _,_,_,_,.nil,h=>h
 | _,_,_,_,.cons a t,h=>.cons a (dZ t h)
theorem dU{H:Hp}{x:Addr}{as bs:List Addr}{r1 r2:List bi}(a2:Paired (bc H) as r1)(b2:Paired (bc H) bs r2)(hx:H x=none):ListR (upd H x (.lst (as.map V.ref++bs.map V.ref))) x (r1++r2):=by
 have s:=ah hx (.lst (as.map V.ref++bs.map V.ref));exact⟨as++bs,by rw[af,List.map_append],dZ (Paired.imp' (fun _ _ z=>s _ _ z) a2) (Paired.imp' (fun _ _ z=>s _ _ z) b2)⟩
theorem dq{H:Hp}{as bs:List Addr}{r1 r2:List bi}(a2:Paired (bc H) as r1)(b2:Paired (bc H) bs r2)(hl:r1.length+r2.length≤1000000):(as.map V.ref).length+(bs.map V.ref).length≤sizeLine:=by
 rw[List.length_map,List.length_map,aM a2,aM b2]; exact aR hl
theorem gg{H:Hp}{c x:Addr}{r:bi}(hc:bc H c r)(hx:H x=none):ListR (upd H x (.lst [.ref c])) x [r]:=⟨[c],af,.cons (ah hx _ _ _ hc) .nil⟩
section
variable{CN:Addr}
def gf(K:PySem.W.Frag)(C:Addr)(d:Nat):Sp:=fun vs H Q _=>∃ (p sp:Addr) (a l:Nat) (t:Bool) (T:List ap) (kv:List (aK × V)) (S:Addr→Prop),vs=[.ref p,.int (a:Int),.ref sp,.bl t]∧NumAt K C S d H p l T∧dN d T∧H sp=some (.dK kv)∧er kv d l T∧ar d T≤200∧d≤20∧
 ∀ (q:Addr) (H':Hp),Same H H'→H q=none→ListR H' q (bM kv d t a l T)→Q (.ref q) H'
def wa(K:PySem.W.Frag)(C:Addr)(d:Nat):Sp:=fun vs H Q _=>∃ (x sp:Addr) (a l:Nat) (n:Int) (b:List ap) (kv:List (aK × V)) (S:Addr→Prop),vs=[.ref x,.int (a:Int),.ref sp]∧nstpAt K C (ar d) S (NumAt K C S d H) H x l (.whl n b)∧dN d b∧H sp=some (.dK kv)∧er kv d (l+1) b∧ar d b≤200∧d≤20∧
 ∀ (q:Addr) (H':Hp),Same H H'→H q=none→ListR H' q (fN (bM kv d) (ar d) a l n b)→Q (.ref q) H'
theorem dE{kv:List (aK × V)}{d a l:Nat}{t:Bool}{T:List ap}(h:ar d T≤200)(hd:d≤20):(bM kv d t a l T).length≤30000:=by
 have h1:=oO kv d a l T;have h2:6 * (d+1) * ar d T≤6 * 21 * 200:=Nat.mul_le_mul (by omega) h
 cases t with
 | false=>omega
 | true=>omega
theorem Bg(D:DefAt K mg "loop_rows" bG) (z_len:mg "len" = none) (a_parts:Fl K CN "parts") (a_lines:Fl K CN "lines") (a_blocks:Fl K CN "blocks") {d:Nat} (c_rows_of:aE P w K mg base (3 * d+2) "rows_of" ["steps", "at", "slots", "turned"] (gf K CN d)):aE P w K mg base (3 * d+3) "loop_rows" ["step", "at", "slots"] (wa K CN d):=by
 refine D.cal (k:=3 * d+2) sc_loop_rows (fun _ _ _ _ _ _ us hl=>match us,hl with | [_,_,_],_=>rfl) (fun vs H Q E h=>by obtain⟨_,_,_,_,_,_,_,_,rfl,_⟩:=h; rfl) (fun f cdv A outer s H vs Q E hr h=>?_)
 obtain⟨x,sp,a,l,n,b,kv,S,rfl,⟨dx,pp,lp,bp,bs,g1,g2,g3,g4,g5,g6,g7⟩,ok,esp,hk,hc,hd,q⟩:=h
 obtain⟨q0,rfl⟩ : ∃ q0,bs=[q0]:=by
  cases g7 with
  | cons _ t=>cases t; exact⟨_,rfl⟩
 have hb:NumAt K CN S d H q0 (l+1) b:=by
  cases g7 with
  | cons h _=>exact h
 refine⟨_,(ai (au 3 sc_loop_rows.nd (ay c_rows_of hr (aa (am (aw K) (bI a_blocks (pv 0)) ac (fun _ _=>rfl)) (aa (ak aC (pv 1) ac) (aa (pv 2) (aa fm ae)))) (hle:=by omega)))
   (ai (au 4 sc_loop_rows.nd (ak aC (ak aC (ak aC (pv 1) ac) (bH (bb K) z_len bR (aa (pv 3) ae))) ac))
   (aj (az (ak aC (ak aC (aS (aa (aU (aa av (aa (am (aw K) (bI a_lines (pv 0)) ac (fun _ _=>rfl)) (aa (am (aw K) (bI a_parts (pv 0)) ac (fun _ _=>rfl)) (aa (pv 4) ae))))) ae)) (pv 3)) (aS (aa (aU (aa av (aa (am (aw K) (bI a_lines (pv 0)) ac (fun _ _=>rfl)) (aa (pv 1) ae)))) ae))))))),?_⟩
 walk_at "rd1";refine⟨dx,_,_,g1,fR _ _ _ _,?_⟩
 walk_at "rd1";refine⟨_,_,.inl (SqL.of g6),aq (j:=0) (v:=V.ref q0) rfl,?_⟩
 refine⟨q0,sp,a+1,l+1,false,b,kv,S,by simp,hb,ok,esp,hk,hc,hd,fun wq H1 s1 hwq hW=>?_⟩
 have hWl:=dE (kv:=kv) (a:=a+1) (l:=l+1) (t:=false) hc hd;generalize hWW:bM kv d false (a+1) (l+1) b=W at hW hWl;obtain⟨was,w1,w2⟩:=id hW
 have wl:=aM w2;walk_at "nx";refine⟨_,.inl (SqL.of w1),?_⟩
 rw[List.length_map,wl];walk_at "nx";refine⟨dx,_,_,s1 _ _ g1,dQ _ _ _ _,?_⟩
 walk_at "rd1";refine⟨_,_,.inl (SqL.of (s1 _ _ g4)),eF (i:=0) (n:=l) rfl,?_⟩
 refine⟨dx,_,_,s1 _ _ g1,ef _ _ _ _,?_⟩
 walk_at "rd1";refine⟨_,_,.inr (g2.same s1),aq (j:=0) (v:=V.int n) rfl,by decide,fun t1 ht1=>?_⟩
 generalize hH2:upd H1 t1 _=H2
 have s2:Same H1 H2:=by rw[← hH2]; exact ah ht1 _
 have et1:bc H2 t1 [.str "test", iN l,.int n,iN (a+1+W.length+1)]:=by
  show H2 t1=_
  rw[← hH2,af];simp[iN]
 refine⟨by decide,fun l1 hl1=>?_⟩
 have s3:=ah hl1 (.lst [.ref t1]);have L1:=gg et1 hl1;generalize upd H2 l1 (.lst [.ref t1])=H3 at s3 L1 ⊢;have s13:=s2.trans s3;obtain⟨as1,a1,a2⟩:=L1
 obtain⟨bs1,b1,b2⟩:=hW.mono s13
 refine⟨_,_,a1,b1,dq a2 b2 (by simp only[List.length_cons,List.length_nil]; omega),fun l2 hl2=>?_⟩
 have s4:=ah hl2 (.lst (as1.map V.ref++bs1.map V.ref));have L2:=dU a2 b2 hl2;generalize upd H3 l2 (.lst (as1.map V.ref++bs1.map V.ref))=H4 at s4 L2 ⊢;have s04:=(s1.trans s13).trans s4;refine⟨dx,_,_,s04 _ _ g1,dQ _ _ _ _,?_⟩
 walk_at "rd1";refine⟨_,_,.inl (SqL.of (s04 _ _ g4)),eF (i:=1) (n:=l+1+ar d b) rfl,by decide,fun t2 ht2=>?_⟩
 generalize hH5:upd H4 t2 _=H5
 have s5:Same H4 H5:=by rw[← hH5]; exact ah ht2 _
 have et2:bc H5 t2 [.str "jump", iN (l+1+ar d b),iN a]:=by
  show H5 t2=_
  rw[← hH5,af];simp[iN]
 refine⟨by decide,fun l3 hl3=>?_⟩
 have s6:=ah hl3 (.lst [.ref t2]);have L3:=gg et2 hl3;generalize upd H5 l3 (.lst [.ref t2])=H6 at s6 L3 ⊢;obtain⟨as2,c1,c2⟩:=L2.mono (s5.trans s6)
 obtain⟨bs2,d1,d2⟩:=L3
 refine⟨_,_,c1,d1,dq c2 d2 (by simp only[List.length_append,List.length_cons,List.length_nil]; omega),fun l4 hl4=>?_⟩
 have s7:=ah hl4 (.lst (as2.map V.ref++bs2.map V.ref));have L4:=dU c2 d2 hl4;generalize upd H6 l4 (.lst (as2.map V.ref++bs2.map V.ref))=H7 at s7 L4 ⊢;refine q l4 H7 (((s04.trans s5).trans s6).trans s7) (((s04.trans s5).trans s6).free hl4) ?_
 unfold fN;rw[hWW];exact L4
end
section
variable{CN:Addr}
def yH(K:PySem.W.Frag)(C:Addr)(d:Nat):Sp:=fun vs H Q _=>∃ (x sp:Addr) (a l:Nat) (t:Bool) (n:Int) (b:List ap) (kv:List (aK × V)) (S:Addr→Prop),vs=[.ref x,.int (a:Int),.ref sp,.bl t]∧nstpAt K C (ar d) S (NumAt K C S d H) H x l (.whl n b)∧dN d b∧H sp=some (.dK kv)∧er kv d (l+1) b∧ar d b≤200∧d≤20∧
 ∀ (q:Addr) (H':Hp),Same H H'→H q=none→ListR H' q (ej (bM kv d) (ar d) t a l n b)→Q (.ref q) H'
theorem yy(D:DefAt K mg "while_rows" ba) (z_len:mg "len" = none) (a_parts:Fl K CN "parts") (a_lines:Fl K CN "lines") (a_blocks:Fl K CN "blocks") {d:Nat} (c_rows_of:aE P w K mg base (3 * d+2) "rows_of" ["steps", "at", "slots", "turned"] (gf K CN d)) (c_loop_rows:aE P w K mg base (3 * d+3) "loop_rows" ["step", "at", "slots"] (wa K CN d)):aE P w K mg base (3 * d+4) "while_rows" ["step", "at", "slots", "turned"] (yH K CN d):=by
 refine D.cal (k:=3 * d+3) sc_while_rows (fun _ _ _ _ _ _ us hl=>match us,hl with | [_,_,_,_],_=>rfl) (fun vs H Q E h=>by obtain⟨_,_,_,_,_,_,_,_,_,rfl,_⟩:=h; rfl) (fun f cdv A outer s H vs Q E hr h=>?_)
 obtain⟨x,sp,a,l,t,n,b,kv,S,rfl,hN,ok,esp,hk,hc,hd,q⟩:=h
 obtain⟨dx,pp,lp,bp,bs,g1,g2,g3,g4,g5,g6,g7⟩:=id hN
 obtain⟨q0,rfl⟩ : ∃ q0,bs=[q0]:=by
  cases g7 with
  | cons _ t=>cases t; exact⟨_,rfl⟩
 have hb:NumAt K CN S d H q0 (l+1) b:=by
  cases g7 with
  | cons h _=>exact h
 refine⟨_,(ai (bj (gk (dj (pv 3))) (aj (az (ay c_loop_rows hr (aa (pv 0) (aa (pv 1) (aa (pv 2) ae))) (hle:=by omega)))) aY)
   (ai (au 4 sc_while_rows.nd (ay c_rows_of hr (aa (am (aw K) (bI a_blocks (pv 0)) ac (fun _ _=>rfl)) (aa (ak aC (pv 1) ac) (aa (pv 2) (aa fm ae)))) (hle:=by omega)))
   (ai (au 5 sc_while_rows.nd (ay c_loop_rows hr (aa (pv 0) (aa (ak aC (ak aC (pv 1) ac) (bH (bb K) z_len bR (aa (pv 4) ae))) (aa (pv 2) ae))) (hle:=by omega)))
   (ai (au 6 sc_while_rows.nd (ak aC (ak aC (ak aC (pv 1) ac) (bH (bb K) z_len bR (aa (pv 4) ae))) (bH (bb K) z_len bR (aa (pv 5) ae))))
   (aj (az (ak aC (ak aC (aS (aa (aU (aa av (aa (am (aw K) (bI a_lines (pv 0)) ac (fun _ _=>rfl)) (aa (am (aw K) (bI a_parts (pv 0)) ac (fun _ _=>rfl)) (aa (pv 6) ae))))) ae)) (pv 4)) (pv 5)))))))),?_⟩
 walk_at "rd1"
 cases t with
 | false=>
  refine bd (fun _=>?_) (fun c=>absurd rfl c)
  exact⟨x,sp,a,l,n,b,kv,S,rfl,hN,ok,esp,hk,hc,hd,fun q' H' s' hq' L'=>q q' H' s' hq' (by unfold ej; rw[if_neg (by decide)]; exact L')⟩
 | true=>
  refine bd (fun c=>absurd c (by decide)) (fun _=>?_)
  walk_at "nx";refine⟨dx,_,_,g1,fR _ _ _ _,?_⟩
  walk_at "rd1";refine⟨_,_,.inl (SqL.of g6),aq (j:=0) (v:=V.ref q0) rfl,?_⟩
  refine⟨q0,sp,a+1,l+1,true,b,kv,S,by simp,hb,ok,esp,hk,hc,hd,fun wq H1 s1 hwq hW=>?_⟩
  have hWl:=dE (kv:=kv) (a:=a+1) (l:=l+1) (t:=true) hc hd;generalize hWW:bM kv d true (a+1) (l+1) b=W at hW hWl;obtain⟨was,w1,w2⟩:=id hW
  have wl:=aM w2;walk_at "nx";refine⟨_,.inl (SqL.of w1),?_⟩
  rw[List.length_map,wl];walk_at "rd1";refine⟨x,sp,a+1+W.length,l,n,b,kv,S,by simp,hN.mono s1,ok,s1 _ _ esp,hk,hc,hd,fun lq H2 s2 hlq hLp=>?_⟩
  have hLl:(fN (bM kv d) (ar d) (a+1+W.length) l n b).length≤30002:=by
   rw[jU];have:=dE (kv:=kv) (a:=a+1+W.length+1) (l:=l+1) (t:=false) hc hd
   omega
  generalize hLL:fN (bM kv d) (ar d) (a+1+W.length) l n b=LP at hLp hLl;obtain⟨las,l1,l2⟩:=id hLp
  have ll:=aM l2;have s12:=s1.trans s2;walk_at "nx";refine⟨_,.inl (SqL.of (s2 _ _ w1)),?_⟩
  rw[List.length_map,wl];walk_at "rd1";refine⟨_,.inl (SqL.of l1),?_⟩
  rw[List.length_map,ll];walk_at "nx";refine⟨dx,_,_,s12 _ _ g1,dQ _ _ _ _,?_⟩
  walk_at "rd1";refine⟨_,_,.inl (SqL.of (s12 _ _ g4)),eF (i:=0) (n:=l) rfl,?_⟩
  refine⟨dx,_,_,s12 _ _ g1,ef _ _ _ _,?_⟩
  walk_at "rd1";refine⟨_,_,.inr (g2.same s12),aq (j:=0) (v:=V.int n) rfl,by decide,fun t1 ht1=>?_⟩
  generalize hH3:upd H2 t1 _=H3
  have s3:Same H2 H3:=by rw[← hH3]; exact ah ht1 _
  have et1:bc H3 t1 [.str "test", iN l,.int n,iN (a+1+W.length+LP.length)]:=by
   show H3 t1=_
   rw[← hH3,af];simp[iN]
  refine⟨by decide,fun m1 hm1=>?_⟩
  have s4:=ah hm1 (.lst [.ref t1]);have L1:=gg et1 hm1;generalize upd H3 m1 (.lst [.ref t1])=H4 at s4 L1 ⊢;obtain⟨as1,a1,a2⟩:=L1
  obtain⟨bs1,b1,b2⟩:=hW.mono ((s2.trans s3).trans s4)
  refine⟨_,_,a1,b1,dq a2 b2 (by simp only[List.length_cons,List.length_nil]; omega),fun m2 hm2=>?_⟩
  have s5:=ah hm2 (.lst (as1.map V.ref++bs1.map V.ref));have L2:=dU a2 b2 hm2;generalize upd H4 m2 (.lst (as1.map V.ref++bs1.map V.ref))=H5 at s5 L2 ⊢;obtain⟨as2,c1,c2⟩:=L2
  obtain⟨bs2,d1,d2⟩:=hLp.mono ((s3.trans s4).trans s5)
  refine⟨_,_,c1,d1,dq c2 d2 (by simp only[List.length_append,List.length_cons,List.length_nil]; omega),fun m3 hm3=>?_⟩
  have s6:=ah hm3 (.lst (as2.map V.ref++bs2.map V.ref));have L4:=dU c2 d2 hm3;generalize upd H5 m3 (.lst (as2.map V.ref++bs2.map V.ref))=H6 at s6 L4 ⊢;have s05:=((s12.trans s3).trans s4).trans s5;refine q m3 H6 (s05.trans s6) (s05.free hm3) ?_
  unfold ej;rw[if_pos rfl,hWW,hLL];exact L4
def EF(K:PySem.W.Frag)(C:Addr)(d:Nat):Sp:=fun vs H Q _=>∃ (x sp:Addr) (a l:Nat) (t:Bool) (n:Int) (b c:List ap) (kv:List (aK × V)) (S:Addr→Prop),vs=[.ref x,.int (a:Int),.ref sp,.bl t]∧nstpAt K C (ar d) S (NumAt K C S d H) H x l (.ite n b c)∧dN d b∧dN d c∧H sp=some (.dK kv)∧er kv d (l+1) b∧er kv d (l+1+ar d b+1) c∧ar d b≤200∧ar d c≤200∧d≤20∧
 ∀ (q:Addr) (H':Hp),Same H H'→H q=none→ListR H' q (mQ (bM kv d) (ar d) t a l n b c)→Q (.ref q) H'
theorem Ex(D:DefAt K mg "if_rows" bu) (z_len:mg "len" = none) (a_parts:Fl K CN "parts") (a_lines:Fl K CN "lines") (a_blocks:Fl K CN "blocks") {d:Nat} (c_rows_of:aE P w K mg base (3 * d+2) "rows_of" ["steps", "at", "slots", "turned"] (gf K CN d)):aE P w K mg base (3 * d+3) "if_rows" ["step", "at", "slots", "turned"] (EF K CN d):=by
 refine D.cal (k:=3 * d+2) sc_if_rows (fun _ _ _ _ _ _ us hl=>match us,hl with | [_,_,_,_],_=>rfl) (fun vs H Q E h=>by obtain⟨_,_,_,_,_,_,_,_,_,_,rfl,_⟩:=h; rfl) (fun f cdv A outer s H vs Q E hr h=>?_)
 obtain⟨x,sp,a,l,t,n,b,c,kv,S,rfl,hN,ok,ok',esp,hk,hk',hc,hc',hd,q⟩:=h
 obtain⟨dx,pp,lp,bp,bs,g1,g2,g3,g4,g5,g6,g7⟩:=id hN
 obtain⟨q0,q1,rfl⟩ : ∃ q0 q1,bs=[q0,q1]:=by
  cases g7 with
  | cons _ t=>cases t with
   | cons _ t=>cases t; exact⟨_,_,rfl⟩
 have hb:NumAt K CN S d H q0 (l+1) b∧NumAt K CN S d H q1 (l+1+ar d b+1) c:=by
  cases g7 with
  | cons h t=>cases t with
   | cons h' _=>exact⟨h,h'⟩
 refine⟨_,(ai (au 4 sc_if_rows.nd (ay c_rows_of hr (aa (am (aw K) (bI a_blocks (pv 0)) ac (fun _ _=>rfl)) (aa (ak aC (pv 1) ac) (aa (pv 2) (aa (pv 3) ae)))) (hle:=by omega)))
   (ai (au 5 sc_if_rows.nd (ak aC (ak aC (pv 1) ac) (bH (bb K) z_len bR (aa (pv 4) ae))))
   (ai (au 6 sc_if_rows.nd (ay c_rows_of hr (aa (am (aw K) (bI a_blocks (pv 0)) ac (fun _ _=>rfl)) (aa (ak aC (pv 5) ac) (aa (pv 2) (aa (pv 3) ae)))) (hle:=by omega)))
   (ai (au 7 sc_if_rows.nd (ak aC (ak aC (pv 5) ac) (bH (bb K) z_len bR (aa (pv 6) ae))))
   (ai (au 8 sc_if_rows.nd (aU (aa av (aa (am (aw K) (bI a_lines (pv 0)) ac (fun _ _=>rfl)) (aa (am (aw K) (bI a_parts (pv 0)) ac (fun _ _=>rfl)) (aa (ak aC (pv 5) ac) ae))))))
   (aj (az (ak aC (ak aC (ak aC (aS (aa (pv 8) ae)) (pv 4)) (aS (aa (aU (aa av (aa (am (aw K) (bI a_lines (pv 0)) ac (fun _ _=>rfl)) (aa (pv 7) ae)))) ae))) (pv 6))))))))),?_⟩
 walk_at "rd1";refine⟨dx,_,_,g1,fR _ _ _ _,?_⟩
 walk_at "rd1";refine⟨_,_,.inl (SqL.of g6),aq (j:=0) (v:=V.ref q0) rfl,?_⟩
 refine⟨q0,sp,a+1,l+1,t,b,kv,S,by simp,hb.1,ok,esp,hk,hc,hd,fun wq H1 s1 hwq hW=>?_⟩
 have hWl:=dE (kv:=kv) (a:=a+1) (l:=l+1) (t:=t) hc hd;generalize hWW:bM kv d t (a+1) (l+1) b=W at hW hWl;obtain⟨was,w1,w2⟩:=id hW
 have wl:=aM w2;walk_at "nx";refine⟨_,.inl (SqL.of w1),?_⟩
 rw[List.length_map,wl];walk_at "nx";refine⟨dx,_,_,s1 _ _ g1,fR _ _ _ _,?_⟩
 walk_at "rd1";refine⟨_,_,.inl (SqL.of (s1 _ _ g6)),aq (j:=1) (v:=V.ref q1) rfl,?_⟩
 refine⟨q1,sp,a+1+W.length+1,l+1+ar d b+1,t,c,kv,S,by simp,hb.2.mono s1,ok',s1 _ _ esp,hk',hc',hd,fun rq H2 s2 hrq hR=>?_⟩
 have hRl:=dE (kv:=kv) (a:=a+1+W.length+1) (l:=l+1+ar d b+1) (t:=t) hc' hd;generalize hRR:bM kv d t (a+1+W.length+1) (l+1+ar d b+1) c=R at hR hRl;obtain⟨ras,r1,r2⟩:=id hR
 have rl:=aM r2;have s12:=s1.trans s2;walk_at "nx";refine⟨_,.inl (SqL.of r1),?_⟩
 rw[List.length_map,rl];walk_at "nx";refine⟨dx,_,_,s12 _ _ g1,dQ _ _ _ _,?_⟩
 walk_at "rd1";refine⟨_,_,.inl (SqL.of (s12 _ _ g4)),eF (i:=0) (n:=l) rfl,?_⟩
 refine⟨dx,_,_,s12 _ _ g1,ef _ _ _ _,?_⟩
 walk_at "rd1";refine⟨_,_,.inr (g2.same s12),aq (j:=0) (v:=V.int n) rfl,by decide,fun t1 ht1=>?_⟩
 generalize hH3:upd H2 t1 _=H3
 have s3:Same H2 H3:=by rw[← hH3]; exact ah ht1 _
 have et1:bc H3 t1 [.str "test", iN l,.int n,iN (a+1+W.length+1)]:=by
  show H3 t1=_
  rw[← hH3,af];simp[iN]
 walk_at "nx";refine⟨by decide,fun m1 hm1=>?_⟩
 have s4:=ah hm1 (.lst [.ref t1]);have L1:=gg et1 hm1;generalize upd H3 m1 (.lst [.ref t1])=H4 at s4 L1 ⊢;obtain⟨as1,a1,a2⟩:=L1
 obtain⟨bs1,b1,b2⟩:=hW.mono ((s2.trans s3).trans s4)
 refine⟨_,_,a1,b1,dq a2 b2 (by simp only[List.length_cons,List.length_nil]; omega),fun m2 hm2=>?_⟩
 have s5:=ah hm2 (.lst (as1.map V.ref++bs1.map V.ref));have L2:=dU a2 b2 hm2;generalize upd H4 m2 (.lst (as1.map V.ref++bs1.map V.ref))=H5 at s5 L2 ⊢;have s05:=((s12.trans s3).trans s4).trans s5;refine⟨dx,_,_,s05 _ _ g1,dQ _ _ _ _,?_⟩
 walk_at "rd1";refine⟨_,_,.inl (SqL.of (s05 _ _ g4)),eF (i:=1) (n:=l+1+ar d b) rfl,by decide,fun t2 ht2=>?_⟩
 generalize hH6:upd H5 t2 _=H6
 have s6:Same H5 H6:=by rw[← hH6]; exact ah ht2 _
 have et2:bc H6 t2 [.str "jump", iN (l+1+ar d b),iN (a+1+W.length+1+R.length)]:=by
  show H6 t2=_
  rw[← hH6,af];simp[iN]
 refine⟨by decide,fun m3 hm3=>?_⟩
 have s7:=ah hm3 (.lst [.ref t2]);have L3:=gg et2 hm3;generalize upd H6 m3 (.lst [.ref t2])=H7 at s7 L3 ⊢;obtain⟨as2,c1,c2⟩:=L2.mono (s6.trans s7)
 obtain⟨bs2,d1,d2⟩:=L3
 refine⟨_,_,c1,d1,dq c2 d2 (by simp only[List.length_append,List.length_cons,List.length_nil]; omega),fun m4 hm4=>?_⟩
 have s8:=ah hm4 (.lst (as2.map V.ref++bs2.map V.ref));have L4:=dU c2 d2 hm4;generalize upd H7 m4 (.lst (as2.map V.ref++bs2.map V.ref))=H8 at s8 L4 ⊢;obtain⟨as3,e1,e2⟩:=L4
 obtain⟨bs3,f1,f2⟩:=hR.mono (((((s3.trans s4).trans s5).trans s6).trans s7).trans s8)
 refine⟨_,_,e1,f1,dq e2 f2 (by simp only[List.length_append,List.length_cons,List.length_nil]; omega),fun m5 hm5=>?_⟩
 have s9:=ah hm5 (.lst (as3.map V.ref++bs3.map V.ref));have L5:=dU e2 f2 hm5;generalize upd H8 m5 (.lst (as3.map V.ref++bs3.map V.ref))=H9 at s9 L5 ⊢;have s08:=((s05.trans s6).trans s7).trans s8;refine q m5 H9 (s08.trans s9) (s08.free hm5) ?_
 unfold mQ;rw[hWW,hRR];exact L5
end
section
variable{CN:Addr}
def BB(K:PySem.W.Frag)(C:Addr)(d:Nat):Sp:=fun vs H Q _=>∃ (z sp:Addr) (a l:Nat) (t:Bool) (x y:Str) (b:List ap) (kv:List (aK × V)) (S:Addr→Prop),vs=[.ref z,.int (a:Int),.ref sp,.bl t]∧nstpAt K C (ar d) S (NumAt K C S d H) H z l (.lend x y b)∧dN d b∧H sp=some (.dK kv)∧gC kv (.inr x)∧gC kv (.inr y)∧gC kv (.inl (l:Int))∧er kv d (l+1) b∧ar d b≤200∧d≤20∧
 ∀ (q:Addr) (H':Hp),Same H H'→H q=none→ListR H' q (gF kv (bM kv d) (ar d) t a l x y b)→Q (.ref q) H'
theorem ku{H:Hp}{c1 c2 c3 x:Addr}{r1 r2 r3:bi}(h1:bc H c1 r1)(h2:bc H c2 r2)(h3:bc H c3 r3)(hx:H x=none):ListR (upd H x (.lst [.ref c1,.ref c2,.ref c3])) x [r1,r2,r3]:=⟨[c1,c2,c3],af,.cons (ah hx _ _ _ h1) (.cons (ah hx _ _ _ h2) (.cons (ah hx _ _ _ h3) .nil))⟩
theorem A9(D:DefAt K mg "lend_rows" aQ) (z_len:mg "len" = none) (a_parts:Fl K CN "parts") (a_lines:Fl K CN "lines") (a_blocks:Fl K CN "blocks") {d:Nat} (c_rows_of:aE P w K mg base (3 * d+2) "rows_of" ["steps", "at", "slots", "turned"] (gf K CN d)):aE P w K mg base (3 * d+3) "lend_rows" ["step", "at", "slots", "turned"] (BB K CN d):=by
 refine D.cal (k:=3 * d+2) sc_lend_rows (fun _ _ _ _ _ _ us hl=>match us,hl with | [_,_,_,_],_=>rfl) (fun vs H Q E h=>by obtain⟨_,_,_,_,_,_,_,_,_,_,rfl,_⟩:=h; rfl) (fun f cdv A outer s H vs Q E hr h=>?_)
 obtain⟨z,sp,a,l,t,x,y,b,kv,S,rfl,hN,ok,esp,kx,ky,kl,hk,hc,hd,q⟩:=h
 obtain⟨dx,pp,lp,bp,bs,g1,g2,g3,g4,g5,g6,g7⟩:=id hN
 obtain⟨q0,rfl⟩ : ∃ q0,bs=[q0]:=by
  cases g7 with
  | cons _ t=>cases t; exact⟨_,rfl⟩
 have hb:NumAt K CN S d H q0 (l+1) b:=by
  cases g7 with
  | cons h _=>exact h
 refine⟨_,(ai (au 4 sc_lend_rows.nd (am (aw K) (bI a_lines (pv 0)) ac (fun _ _=>rfl)))
   (ai (au 5 sc_lend_rows.nd (am (aw K) (bI a_lines (pv 0)) ac (fun _ _=>rfl)))
   (ai (au 6 sc_lend_rows.nd (am (qE K) (pv 2) (am (aw K) (bI a_parts (pv 0)) ac (fun _ _=>rfl)) (fun _ _=>rfl)))
   (ai (au 7 sc_lend_rows.nd (am (qE K) (pv 2) (am (aw K) (bI a_parts (pv 0)) ac (fun _ _=>rfl)) (fun _ _=>rfl)))
   (ai (au 8 sc_lend_rows.nd (am (qE K) (pv 2) (pv 4) (fun _ _=>rfl)))
   (ai (au 9 sc_lend_rows.nd (aS (aa (aU (aa av (aa (pv 4) (aa (pv 8) (aa (pv 6) ae))))) (aa (aU (aa av (aa (pv 4) (aa (pv 8) (aa av ae))))) (aa (aU (aa av (aa (pv 4) (aa (pv 7) (aa (pv 8) ae))))) ae)))))
   (ai (au 10 sc_lend_rows.nd (ay c_rows_of hr (aa (am (aw K) (bI a_blocks (pv 0)) ac (fun _ _=>rfl)) (aa (ak aC (pv 1) (bH (bb K) z_len bR (aa (pv 9) ae))) (aa (pv 2) (aa (pv 3) ae)))) (hle:=by omega)))
   (aj (az (ak aC (ak aC (pv 9) (pv 10)) (aS (aa (aU (aa av (aa (pv 5) (aa (pv 8) (aa av ae))))) (aa (aU (aa av (aa (pv 5) (aa (pv 7) ae)))) (aa (aU (aa av (aa (pv 5) (aa (pv 8) ae)))) ae)))))))))))))),?_⟩
 walk_at "rd1";refine⟨dx,_,_,g1,dQ _ _ _ _,?_⟩
 walk_at "rd1";refine⟨_,_,.inl (SqL.of g4),eF (i:=0) (n:=l) rfl,?_⟩
 walk_at "nx";refine⟨dx,_,_,g1,dQ _ _ _ _,?_⟩
 walk_at "rd1";refine⟨_,_,.inl (SqL.of g4),eF (i:=1) (n:=l+1+ar d b) rfl,?_⟩
 walk_at "nx";refine⟨dx,_,_,g1,ef _ _ _ _,?_⟩
 walk_at "rd1";refine⟨_,_,.inr g2,aq (j:=0) (v:=V.str x) rfl,.inr ⟨sp,kv,.inr x,_,rfl,rfl,esp,kx,?_⟩⟩
 walk_at "nx";refine⟨dx,_,_,g1,ef _ _ _ _,?_⟩
 walk_at "rd1";refine⟨_,_,.inr g2,aq (j:=1) (v:=V.str y) rfl,.inr ⟨sp,kv,.inr y,_,rfl,rfl,esp,ky,?_⟩⟩
 walk_at "nx";refine .inr ⟨sp,kv,.inl (l:Int),_,rfl,rfl,esp,kl,?_⟩
 generalize hgx:bX kv (.inr x)=gx
 generalize hgy:bX kv (.inr y)=gy
 generalize hgl:bX kv (.inl (l:Int))=gl
 walk_at "nx";refine⟨by decide,fun t1 ht1=>?_⟩
 generalize hH1:upd H t1 _=H1
 have s1:Same H H1:=by rw[← hH1]; exact ah ht1 _
 have r1:bc H1 t1 [.str "copy", iN l,gl,gx]:=by show H1 t1=_; rw[← hH1]; exact af
 refine⟨by decide,fun t2 ht2=>?_⟩
 generalize hH2:upd H1 t2 _=H2
 have s2:Same H1 H2:=by rw[← hH2]; exact ah ht2 _
 have r2:bc H2 t2 [.str "do", iN l,gl,.str "lend"]:=by show H2 t2=_; rw[← hH2]; exact af
 refine⟨by decide,fun t3 ht3=>?_⟩
 generalize hH3:upd H2 t3 _=H3
 have s3:Same H2 H3:=by rw[← hH3]; exact ah ht3 _
 have r3:bc H3 t3 [.str "copy", iN l,gy,gl]:=by show H3 t3=_; rw[← hH3]; exact af
 refine⟨by decide,fun m1 hm1=>?_⟩
 have s4:=ah hm1 (.lst [.ref t1,.ref t2,.ref t3]);have L1:=ku (s3 _ _ (s2 _ _ r1)) (s3 _ _ r2) r3 hm1;have em1:upd H3 m1 (.lst [.ref t1,.ref t2,.ref t3]) m1=some (.lst [.ref t1,.ref t2,.ref t3]):=af
 generalize upd H3 m1 (.lst [.ref t1,.ref t2,.ref t3])=H4 at s4 L1 em1 ⊢;have s04:=((s1.trans s2).trans s3).trans s4;walk_at "nx";refine⟨dx,_,_,s04 _ _ g1,fR _ _ _ _,?_⟩
 walk_at "rd1";refine⟨_,_,.inl (SqL.of (s04 _ _ g6)),aq (j:=0) (v:=V.ref q0) rfl,?_⟩
 walk_at "rd1";refine⟨_,.inl (SqL.of em1),?_⟩
 refine⟨q0,sp,a+3,l+1,t,b,kv,S,by simp,hb.mono s04,ok,s04 _ _ esp,hk,hc,hd,fun wq H5 s5 hwq hW=>?_⟩
 have hWl:=dE (kv:=kv) (a:=a+3) (l:=l+1) (t:=t) hc hd;generalize hWW:bM kv d t (a+3) (l+1) b=W at hW hWl;have s05:=s04.trans s5;walk_at "nx";obtain⟨as1,a1,a2⟩:=L1.mono s5
 obtain⟨bs1,b1,b2⟩:=id hW
 refine⟨_,_,a1,b1,dq a2 b2 (by simp only[List.length_cons,List.length_nil]; omega),fun m2 hm2=>?_⟩
 have s6:=ah hm2 (.lst (as1.map V.ref++bs1.map V.ref));have L2:=dU a2 b2 hm2;generalize upd H5 m2 (.lst (as1.map V.ref++bs1.map V.ref))=H6 at s6 L2 ⊢;refine⟨by decide,fun t4 ht4=>?_⟩
 generalize hH7:upd H6 t4 _=H7
 have s7:Same H6 H7:=by rw[← hH7]; exact ah ht4 _
 have r4:bc H7 t4 [.str "do", iN (l+1+ar d b),gl,.str "back"]:=by show H7 t4=_; rw[← hH7]; exact af
 refine⟨by decide,fun t5 ht5=>?_⟩
 generalize hH8:upd H7 t5 _=H8
 have s8:Same H7 H8:=by rw[← hH8]; exact ah ht5 _
 have r5:bc H8 t5 [.str "drop", iN (l+1+ar d b),gy]:=by show H8 t5=_; rw[← hH8]; exact af
 refine⟨by decide,fun t6 ht6=>?_⟩
 generalize hH9:upd H8 t6 _=H9
 have s9:Same H8 H9:=by rw[← hH9]; exact ah ht6 _
 have r6:bc H9 t6 [.str "drop", iN (l+1+ar d b),gl]:=by show H9 t6=_; rw[← hH9]; exact af
 refine⟨by decide,fun m3 hm3=>?_⟩
 have s10:=ah hm3 (.lst [.ref t4,.ref t5,.ref t6]);have L3:=ku (s9 _ _ (s8 _ _ r4)) (s9 _ _ r5) r6 hm3;generalize upd H9 m3 (.lst [.ref t4,.ref t5,.ref t6])=H10 at s10 L3 ⊢;obtain⟨as2,c1,c2⟩:=L2.mono (((s7.trans s8).trans s9).trans s10)
 obtain⟨bs2,d1,d2⟩:=L3
 refine⟨_,_,c1,d1,dq c2 d2 (by simp only[List.length_append,List.length_cons,List.length_nil]; omega),fun m4 hm4=>?_⟩
 have s11:=ah hm4 (.lst (as2.map V.ref++bs2.map V.ref));have L4:=dU c2 d2 hm4;generalize upd H10 m4 (.lst (as2.map V.ref++bs2.map V.ref))=H11 at s11 L4 ⊢;have s010:=((((s05.trans s6).trans s7).trans s8).trans s9).trans s10;refine q m4 H11 (s010.trans s11) (s010.free hm4) ?_
 unfold gF;rw[hWW,hgx,hgy,hgl];exact L4
theorem rV(D:DefAt K mg "rows_of" bD) (DL:DefAt K mg "lend_rows" aQ) (DI:DefAt K mg "if_rows" bu) (DO:DefAt K mg "loop_rows" bG) (DW:DefAt K mg "while_rows" ba) (DS:DefAt K mg "simple_row" bq) (z_len:mg "len" = none) (z_tuple:mg "tuple" = none) (a_kind:Fl K CN "kind") (a_parts:Fl K CN "parts") (a_lines:Fl K CN "lines") (a_blocks:Fl K CN "blocks"):∀ d:Nat,aE P w K mg base (3 * d+2) "rows_of" ["steps", "at", "slots", "turned"] (gf K CN d)
 | 0=>D.cal (k:=1) sc_rows_of (fun _ _ _ _ _ _ us hl=>match us,hl with | [_,_,_,_],_=>rfl) (fun vs H Q E h=>by obtain⟨_,_,_,_,_,_,_,_,rfl,_⟩:=h; rfl) (fun f cdv A outer s H vs Q E hr h=>by obtain⟨_,_,_,_,_,_,_,_,rfl,z,_⟩:=h; exact z.elim)
 | d+1=>by
  have ih:=rV D DL DI DO DW DS z_len z_tuple a_kind a_parts a_lines a_blocks d;have c_lend_rows:=A9 DL z_len a_parts a_lines a_blocks ih;have c_if_rows:=Ex DI z_len a_parts a_lines a_blocks ih;have c_while_rows:=yy DW z_len a_parts a_lines a_blocks ih (Bg DO z_len a_parts a_lines a_blocks ih);have c_simple_row:=wB (P:=P) (w:=w) (base:=base) DS z_tuple a_kind a_parts a_lines;refine D.cal (k:=3 * d+4) sc_rows_of (fun _ _ _ _ _ _ us hl=>match us,hl with | [_,_,_,_],_=>rfl) (fun vs H Q E h=>by obtain⟨_,_,_,_,_,_,_,_,rfl,_⟩:=h; rfl) (fun f cdv A outer s H vs Q E hr h=>?_)
  obtain⟨p,sp,a,l,t,T,kv,S,rfl,⟨h0,as,h1,h2⟩,ok,esp,hk,hc,hd,q⟩:=h
  have hlen:=aM h2;rw[fF]at hlen
  refine⟨_,(ai (au 4 sc_rows_of.nd (aS ae))
   (ai (b_ PassesOwn.never rfl (cX K (pv 0)) (bg 5 sc_rows_of.nd) (ai (au 6 sc_rows_of.nd (ak aC (pv 1) (bH (bb K) z_len bR (aa (pv 4) ae))))
   (aj (bj (aB aT (bI a_kind (pv 5)) av (aA _)) (aj (bJ (bV K PySem.F.plainAttrs_list PySem.F.slot_list_extend PySem.F.type_list_extend fq (pv 4) (aa (ay c_lend_rows hr (aa (pv 5) (aa (pv 6) (aa (pv 2) (aa (pv 3) ae)))) (hle:=by omega)) ae)))) (aj (bj (aB aT (bI a_kind (pv 5)) av (aA _)) (aj (bJ (bV K PySem.F.plainAttrs_list PySem.F.slot_list_extend PySem.F.type_list_extend fq (pv 4) (aa (ay c_if_rows hr (aa (pv 5) (aa (pv 6) (aa (pv 2) (aa (pv 3) ae)))) (hle:=by omega)) ae)))) (aj (bj (aB aT (bI a_kind (pv 5)) av (aA _)) (aj (bJ (bV K PySem.F.plainAttrs_list PySem.F.slot_list_extend PySem.F.type_list_extend fq (pv 4) (aa (ay c_while_rows hr (aa (pv 5) (aa (pv 6) (aa (pv 2) (aa (pv 3) ae)))) (hle:=by omega)) ae)))) (aj (bJ (bV K PySem.F.plainAttrs_list PySem.F.slot_list_append PySem.F.type_list_append bP (pv 4) (aa (ay c_simple_row hr (aa (pv 5) (aa (pv 2) ae)) (hle:=by omega)) ae))))))))))))
   (aj (az (pv 4))))),?_⟩
  walk_at "rd1";refine⟨by decide,fun R hR=>?_⟩
  have s1:=ah hR (.lst []);have eR0:upd H R (.lst []) R=some (.lst (([]:List Addr).map V.ref)):=af
  generalize upd H R (.lst [])=H1 at s1 eR0 ⊢;walk_at "nx";refine⟨⟨_,SqL.of (s1 _ _ h1)⟩,?_⟩
  have hnR:∀ {z:Addr} {o:HO},H z=some o→z≠R:=fun e=>aF e hR
  refine cS (xs:=as.map V.ref) (fun i σ H'=>∃ (o5 o6:Option V),σ=[some (.ref p),some (.int (a:Int)),some (.ref sp),some (.bl t),some (.ref R),o5,o6]∧Same H H'∧ListR H' R (bM kv (d+1) t a l (T.take i)))
   ⟨_,_,rfl,s1,[],eR0,.nil⟩ (fun i σ H' _ hh=>by obtain⟨_,_,_,sm,_⟩:=hh; exact SqL.of (sm _ _ h1)) (fun i v σ H2 hv hh=>?_) (fun σ H2 hh=>?_)
  ·obtain⟨o5,o6,rfl,sm,ras,r1,r2⟩:=hh
   rw[List.getElem?_map]at hv
   cases hi:as[i]? with
   | none=>rw[hi]at hv; cases hv
   | some x=>
    rw[hi]at hv; cases hv
    have hiT:i<T.length:=by have:=(List.getElem?_eq_some_iff.mp hi).1; omega
    have hs:=List.getElem?_eq_getElem hiT;have hz:=sR (bB (ar d)) l T i _ hs;obtain⟨z,hz1,hz2⟩:=b7 h2 hi
    rw[hz]at hz1
    have hz1:=Option.some.inj hz1;subst hz1;have hkz:=hk _ (List.mem_of_getElem? hz);have hmem:=List.getElem_mem hiT;generalize T[i]=st at hs hz hz2 hkz hmem;have oks:=ok st hmem;have hcs:=lT (d:=d) hmem;generalize hl':l+((T.take i).map (bB (ar d))).sum=l' at hz hz2 hkz;have etk:T.take (i+1)=T.take i++[st]:=by rw[List.take_add_one,hs]; rfl
    have erow:bM kv (d+1) t a l (T.take (i+1))=bM kv (d+1) t a l (T.take i)++im kv (bM kv d) (ar d) t (a+(bM kv (d+1) t a l (T.take i)).length) l' st:=by
     rw[etk];show dw _ _ a l (T.take i++[st])=_
     rw[jK,hl']; rfl
    have hcnt:=pI (d:=d) (i:=i) (T:=T);have hpre:=dE (kv:=kv) (d:=d+1) (a:=a) (l:=l) (t:=t) (T:=T.take i) (by omega) hd
    rw[erow];generalize bM kv (d+1) t a l (T.take i)=pre at r2 hpre;have rl:=aM r2;have hx2:=hz2.mono sm;obtain⟨dx,pp,lp,bp,bs,g1,g2,g3,g4,g5,g6,g7⟩:=id hx2
    have put:∀ {b:Addr} {H3:Hp} {rows:List bi},Same H2 H3→ListR H3 b rows→b≠R→rows.length≤100000→∃ xs zs,H3 R=some (.lst xs)∧H3 b=some (.lst zs)∧xs.length+zs.length≤sizeLine∧(Same H (upd H3 R (.lst (xs++zs)))∧ListR (upd H3 R (.lst (xs++zs))) R (pre++rows)):=fun {b H3 rows} s3 hL hne hl3=>by
     obtain⟨bas,e1,e2⟩:=hL
     have bl:=aM e2;have eR3:=s3 _ _ r1
     have tp:∀ {c:Addr} {r:bi},bc H3 c r→bc (upd H3 R (.lst (ras.map V.ref++bas.map V.ref))) c r:=fun {c r} z=>by
      show upd H3 R _ c=_
      rw[ax (cP z eR3 (fun y=>nomatch y))]; exact z
     refine⟨_,_,eR3,e1,by rw[List.length_map,List.length_map,rl,bl]; exact aR (by omega),fun c o y=>?_,ras++bas,by rw[af,List.map_append],dZ (Paired.imp' (fun _ _ y=>tp (s3 _ _ y)) r2) (Paired.imp' (fun _ _ y=>tp y) e2)⟩
     rw[ax (hnR y)]; exact s3 _ _ (sm _ _ y)
    walk_at "rd1";refine⟨_,.inl (SqL.of r1),?_⟩
    rw[List.length_map,rl];walk_at "nx";refine⟨dx,_,_,g1,fe _ _ _ _,?_⟩
    walk_at "rd1";have hst200:bB (ar d) st≤200:=by omega
    have hsl:(im kv (bM kv d) (ar d) t (a+pre.length) l' st).length≤30000:=by
     have:=dE (kv:=kv) (d:=d+1) (a:=a+pre.length) (l:=l') (t:=t) (T:=[st]) (by show bB (ar d) st+0≤200; omega) hd
     have e:bM kv (d+1) t (a+pre.length) l' [st]=im kv (bM kv d) (ar d) t (a+pre.length) l' st++[]:=rfl
     rw[e,List.append_nil]at this
     exact this
    cases st with
    | lend x0 y0 b0=>
     obtain⟨k1,k2,k3,k4⟩ : gC kv (.inr x0)∧gC kv (.inr y0)∧gC kv (.inl (l':Int))∧er kv d (l'+1) b0:=hkz
     have hcb:ar d b0+2≤200:=hst200
     refine bd (fun _=>?_) (fun c=>absurd rfl c)
     refine⟨⟨_,SqL.of r1⟩,x,sp,a+pre.length,l',t,x0,y0,b0,kv,S,by simp,hx2,oks.2.2,sm _ _ esp,k1,k2,k3,k4,by omega,by omega,fun q' H3 s3 hq' L3=>?_⟩
     dsimp only
     rw[fu];obtain⟨xs,zs,p1,p2,p3,p4,p5⟩:=put s3 L3 (aF r1 hq').symm (by have:(gF kv (bM kv d) (ar d) t (a+pre.length) l' x0 y0 b0).length≤30000:=hsl; omega)
     exact⟨xs,zs,p1,p2,p3,_,_,rfl,p4,p5⟩
    | ite n0 b0 c0=>
     obtain⟨k1,k2⟩ : er kv d (l'+1) b0∧er kv d (l'+1+ar d b0+1) c0:=hkz
     have hcb:ar d b0+ar d c0+3≤200:=hst200
     refine bd (fun c=>absurd c (by show ¬ (Str.ofString "if" = Str.ofString "lend"); decide +kernel)) (fun _=>?_)
     refine⟨dx,_,_,g1,fe _ _ _ _,?_⟩
     walk_at "rd1";refine bd (fun _=>?_) (fun c=>absurd rfl c)
     refine⟨⟨_,SqL.of r1⟩,x,sp,a+pre.length,l',t,n0,b0,c0,kv,S,by simp,hx2,oks.2.1,oks.2.2,sm _ _ esp,k1,k2,by omega,by omega,by omega,fun q' H3 s3 hq' L3=>?_⟩
     dsimp only
     rw[fu];obtain⟨xs,zs,p1,p2,p3,p4,p5⟩:=put s3 L3 (aF r1 hq').symm (by have:(mQ (bM kv d) (ar d) t (a+pre.length) l' n0 b0 c0).length≤30000:=hsl; omega)
     exact⟨xs,zs,p1,p2,p3,_,_,rfl,p4,p5⟩
    | whl n0 b0=>
     have k1:er kv d (l'+1) b0:=hkz
     have hcb:ar d b0+2≤200:=hst200
     refine bd (fun c=>absurd c (by show ¬ (Str.ofString "while" = Str.ofString "lend"); decide +kernel)) (fun _=>?_)
     refine⟨dx,_,_,g1,fe _ _ _ _,?_⟩
     walk_at "rd1";refine bd (fun c=>absurd c (by show ¬ (Str.ofString "while" = Str.ofString "if"); decide +kernel)) (fun _=>?_)
     refine⟨dx,_,_,g1,fe _ _ _ _,?_⟩
     walk_at "rd1";refine bd (fun _=>?_) (fun c=>absurd rfl c)
     refine⟨⟨_,SqL.of r1⟩,x,sp,a+pre.length,l',t,n0,b0,kv,S,by simp,hx2,oks.2,sm _ _ esp,k1,by omega,by omega,fun q' H3 s3 hq' L3=>?_⟩
     dsimp only
     rw[fu];obtain⟨xs,zs,p1,p2,p3,p4,p5⟩:=put s3 L3 (aF r1 hq').symm (by have:(ej (bM kv d) (ar d) t (a+pre.length) l' n0 b0).length≤30000:=hsl; omega)
     exact⟨xs,zs,p1,p2,p3,_,_,rfl,p4,p5⟩
    | plain ws=>
     have hkd:ws.headD "" ∈ db:=oks.kind
     have nk:∀ {u:Str},u∉db→¬ kindOf (.plain ws)=u:=fun hu c=>hu (by have c':ws.headD "" = _:=c; rw[← c']; exact hkd)
     refine bd (fun c=>absurd c (nk (by decide +kernel))) (fun _=>?_)
     refine⟨dx,_,_,g1,fe _ _ _ _,?_⟩
     walk_at "rd1";refine bd (fun c=>absurd c (nk (by decide +kernel))) (fun _=>?_)
     refine⟨dx,_,_,g1,fe _ _ _ _,?_⟩
     walk_at "rd1";refine bd (fun c=>absurd c (nk (by decide +kernel))) (fun _=>?_)
     refine⟨⟨_,SqL.of r1⟩,x,sp,l',ws,kv,S,_,ar d,er kv d,rfl,hx2,oks,sm _ _ esp,hkz,fun c H3 s3 hc3=>?_⟩
     have eR3:=s3 _ _ r1
     have tp:∀ {c:Addr} {r:bi},bc H3 c r→∀ zs,bc (upd H3 R (.lst zs)) c r:=fun {c r} z zs=>by
      show upd H3 R _ c=_
      rw[ax (cP z eR3 (fun y=>nomatch y))]; exact z
     walk_at "rd1";refine⟨_,eR3,b9 (by rw[List.length_map]; omega),_,_,rfl,fun c' o y=>?_,ras++[c],by rw[af,List.map_append]; rfl,dZ (Paired.imp' (fun _ _ y=>tp (s3 _ _ y) _) r2) (.cons (tp hc3 _) .nil)⟩
     rw[ax (hnR y)]; exact s3 _ _ (sm _ _ y)
  ·obtain⟨o5,o6,rfl,sm,hL⟩:=hh
   rw[List.length_map,hlen,List.take_length]at hL
   walk_at "nx";exact q R H2 sm hR hL
end
def gH(s:Str):Bool:=decide (0+("lend " : Str).length≤s.length)&&PySem.Builtin.Str.subAt s "lend " 0
def fP(L:List Str):List Nat:=(List.range L.length).filter fun i=>gH (L.getD i "")
def jF(d:Nat):Sp:=fun vs H Q _=>∃ (p:Addr) (L:List Str),vs=[.ref p]∧LinesAt d H p L∧L.length≤1000∧∀ (q:Addr) (H':Hp),Same H H'→H q=none→H' q=some (.lst ((fP L).map iN))→Q (.ref q) H'
theorem jA(f:Nat→Bool)(i:Nat):(List.range (i+1)).filter f=(List.range i).filter f++(if f i=true then [i] else []):=by
 rw[List.range_succ,List.filter_append]
 congr 1
 rw[List.filter_cons];split <;> rfl
theorem qj(D:DefAt K mg "lend_lines" bz) (z_enumerate:mg "enumerate" = none) {d k:Nat} (c_lines_of:aE P w K mg base k "lines_of" ["program"] (sF d)):aE P w K mg base (k+1) "lend_lines" ["program"] (jF d):=by
 refine D.cal (k:=k) ni (fun _ _ _ _ _ _ us hl=>match us,hl with | [_],_=>rfl) (fun vs H Q E h=>by obtain⟨_,_,rfl,_⟩:=h; rfl) (fun f cdv A outer s H vs Q E hr h=>?_)
 obtain⟨p,L,rfl,hL,hl,q⟩:=h
 refine⟨_,(aj (az (fc (CompSc.to (fsc:=(defScope bz)) (N:=["program"]) (N0:=["program"]) (T:=["at", "line"]) ⟨by decide +kernel,by decide +kernel,by decide +kernel,by decide +kernel,by decide +kernel,by decide +kernel,by decide +kernel⟩ rfl rfl) rfl (og K Fg z_enumerate (aa (ay c_lines_of hr (aa (pv 0) ae) (hle:=by omega)) ae)) (fun _ _ _ _=>(jr K (n:=2) (cW (bg 1 (show (["program", "at", "line"]:List Str).Nodup from by decide +kernel) (hx:=(gS (defScope bz) (by decide +kernel))) (hf:=jN (defScope bz) (by decide +kernel))) (cW (bg 2 (show (["program", "at", "line"]:List Str).Nodup from by decide +kernel) (hx:=(gS (defScope bz) (by decide +kernel))) (hf:=jN (defScope bz) (by decide +kernel))) hG)))) (A6 (mI (dD (show (["program"]:List Str).length≤1 from by decide)) lr (mI (dD (show (["program"]:List Str).length≤2 from by decide)) lr zr tH) (yZ lr tH))) (fun _ _ _ _=>(n9 (dj (bV K PySem.F.plainAttrs_str PySem.F.slot_str_startswith PySem.F.type_str_startswith nj (pv 2 (hv:=(cY (defScope bz) (by decide +kernel)))) (aa av ae))))) (fun _ _ _ _=>(pv 1 (hv:=(cY (defScope bz) (by decide +kernel)))))))),?_⟩
 walk_at "rd1";refine⟨p,L,rfl,hL,by omega,fun lq H1 s1 hlq e1=>?_⟩
 refine⟨lq,rfl,⟨_,e1⟩,fun R hR=>?_⟩
 refine vH (xs:=L.map V.str) (fun i ys H'=>∃ ns:List Nat,Same H1 H'∧H' R=some (.lst ys)∧ys=ns.map iN∧ns.length≤i∧ns=(List.range i).filter fun j=>gH (L.getD j "")) ⟨[],ah hR _,af,rfl,Nat.le_refl _,rfl⟩ (fun i ys H' _ hh=>by obtain⟨_,sm,_⟩:=hh; exact SqL.of (sm _ _ e1)) ?_ ?_
 ·rintro i ys H' v t hv hi ⟨ns,sm,hl',rfl,hnl,hns⟩ ht
  rw[List.length_map]at hi
  rw[List.getElem?_map,List.getElem?_eq_getElem hi]at hv
  cases hv;have s2:=ah ht (.tup [.int (i:Int),.str L[i]]);have et:upd H' t (.tup [.int (i:Int),.str L[i]]) t=some (.tup [.int (i:Int),.str L[i]]):=af
  generalize upd H' t (.tup [.int (i:Int),.str L[i]])=H2 at s2 et ⊢;have sm2:=sm.trans s2;have eR2:=s2 _ _ hl'
  have hg:gH (L.getD i "")=(decide (0+("lend " : Str).length≤L[i].length)&&PySem.Builtin.Str.subAt L[i] "lend " 0):=by
   unfold gH;rw[List.getD_eq_getElem?_getD,List.getElem?_eq_getElem hi]; rfl
  walk_at "rd1";refine⟨t,_,rfl,SqT.of et,rfl,?_⟩
  walk_at "rd1";rw[← hg];refine bd (fun c=>?_) (fun c=>?_)
  ·refine qO (by rw[List.length_map]; exact hi) (by rw[List.length_map]; exact hnl) (by rw[List.length_map]; exact aR (by omega)) eR2 ⟨ns++[i],sm2.upd hR _,af,pc _ _,by simp; omega,?_⟩
   rw[jA,if_pos c,← hns]
  ·refine uv (by rw[List.length_map]; exact hi) ⟨ns,sm2,eR2,rfl,by omega,?_⟩
   rw[jA,if_neg c,← hns,List.append_nil]
 ·rintro ys H2 ⟨ns,s2,e2,rfl,_,hns⟩
  rw[List.length_map]at hns
  refine q R H2 (s1.trans s2) (s1.free hR) ?_
  rw[hns]at e2
  exact e2
def iG(ks:List aK):List (aK × V):=(List.range ks.length).foldl (fun acc i=>cK acc (ks.getD i (.inl 0)) (iN i)) []
def gq(ks:List aK)(i:Nat):List (aK × V):=(List.range i).foldl (fun acc i=>cK acc (ks.getD i (.inl 0)) (iN i)) []
theorem gJ(ks:List aK)(i:Nat):gq ks (i+1)=cK (gq ks i) (ks.getD i (.inl 0)) (iN i):=by
 unfold gq; rw[List.range_succ,List.foldl_append]; rfl
theorem qu(ks:List aK):∀ i,(gq ks i).length≤i
 | 0=>Nat.le_refl _
 | i+1=>by
  have:=qu ks i
  rw[gJ];unfold cK;split
  ·rw[List.length_map]; omega
  ·rw[List.length_append]; simp; omega
theorem qx(ks:List aK):∀ (i j:Nat) k,j<i→ks[j]? = some k→(cr (gq ks i) k).isSome=true
 | 0,j,_,h,_=>absurd h (Nat.not_lt_zero _)
 | i+1,j,k,h,hk=>by
  rw[gJ,jQ];split
  ·rfl
  ·rename_i c
   rcases Nat.lt_or_ge j i with z | z
   ·exact qx ks i j k z hk
   ·have:j=i:=by omega
    subst this;exact absurd (by rw[List.getD_eq_getElem?_getD,hk]; rfl) c
theorem js{ks:List aK}{k:aK}(h:k∈ks):gC (iG ks) k:=by
 obtain⟨j,hj⟩:=List.mem_iff_getElem?.mp h
 have:=qx ks ks.length j k (List.getElem?_eq_some_iff.mp hj).1 hj
 show cr (gq ks ks.length) k=some (bX (gq ks ks.length) k)
 unfold bX
 cases e:cr (gq ks ks.length) k with
 | none=>rw[e]at this; cases this
 | some v=>rfl
section
variable{NO:Hp→Addr→List Str→Prop}
def BX(NO:Hp→Addr→List Str→Prop):Sp:=fun vs H Q _=>∃ (p:Addr) (NM:List Str),vs=[.ref p]∧NO H p NM∧∀ (q:Addr) (H':Hp),Same H H'→H q=none→H' q=some (.lst (NM.map V.str))→Q (.ref q) H'
def cE(NM:List Str)(L:List Str):List aK:=NM.map Sum.inr++(fP L).map fun (n:Nat)=>Sum.inl (n:Int)
def sJ(NO:Hp→Addr→List Str→Prop)(d:Nat):Sp:=fun vs H Q _=>∃ (p:Addr) (NM L:List Str),vs=[.ref p]∧NO H p NM∧LinesAt d H p L∧L.length≤1000∧NM.length≤1000∧∀ (q:Addr) (H':Hp),Same H H'→H q=none→H' q=some (.dK (iG (cE NM L)))→Q (.ref q) H'
theorem y_(noM:∀ {H H':Hp} {p:Addr} {NM:List Str},NO H p NM→Same H H'→NO H' p NM)(D:DefAt K mg "slots_of" bO) (z_enumerate:mg "enumerate" = none) {d k:Nat} (c_names_of:aE P w K mg base k "names_of" ["program"] (BX NO)) (c_lend_lines:aE P w K mg base k "lend_lines" ["program"] (jF d)):aE P w K mg base (k+1) "slots_of" ["program"] (sJ NO d):=by
 refine D.cal (k:=k) sc_slots_of (fun _ _ _ _ _ _ us hl=>match us,hl with | [_],_=>rfl) (fun vs H Q E h=>by obtain⟨_,_,_,rfl,_⟩:=h; rfl) (fun f cdv A outer s H vs Q E hr h=>?_)
 obtain⟨p,NM,L,rfl,hN,hL,hl,hnl,q⟩:=h
 refine⟨_,(ai (au 1 sc_slots_of.nd qr)
   (ai (b_ PassesOwn.never rfl (og K IQ z_enumerate (aa (ak aC (ay c_names_of hr (aa (pv 0) ae) (hle:=by omega)) (ay c_lend_lines hr (aa (pv 0) ae) (hle:=by omega))) ae)) (jr K (n:=2) (cW (bg 2 sc_slots_of.nd) (cW (bg 3 sc_slots_of.nd) hG))) (aj (gU (pv 2) (jc (pv 1) (pv 3) (Ad hr)))))
   (aj (az (pv 1))))),?_⟩
 walk_at "rd1";intro RD hRD
 have s1:=ah hRD (.dK []);have eRD:upd H RD (.dK []) RD=some (.dK (gq (cE NM L) 0)):=af
 generalize upd H RD (.dK [])=H1 at s1 eRD ⊢;walk_at "nx";refine⟨p,NM,rfl,noM hN s1,fun nq H2 s2 hnq e2=>?_⟩
 have s12:=s1.trans s2;refine⟨p,L,rfl,hL.mono _ s12,hl,fun lq H3 s3 hlq e3=>?_⟩
 have hll:(fP L).length≤1000:=by
  unfold fP;refine Nat.le_trans (List.length_filter_le _ _) ?_
  rw[List.length_range]; exact hl
 dsimp only
 rw[i_];refine⟨_,_,s3 _ _ e2,e3,by rw[List.length_map,List.length_map]; exact aR (by omega),fun cq hcq=>?_⟩
 have ecat:NM.map V.str++(fP L).map iN=(cE NM L).map kV:=by
  unfold cE;rw[List.map_append,List.map_map,List.map_map]; rfl
 rw[ecat];have hkl:(cE NM L).length≤2000:=by unfold cE; rw[List.length_append,List.length_map,List.length_map]; omega
 generalize hks:cE NM L=ks at eRD hkl q ⊢;have s4:=ah hcq (.lst (ks.map kV));have ecq:upd H3 cq (.lst (ks.map kV)) cq=some (.lst (ks.map kV)):=af
 generalize upd H3 cq (.lst (ks.map kV))=H4 at s4 ecq ⊢;have s24:=(s2.trans s3).trans s4;have eRD4:=s24 _ _ eRD;have ncR:cq≠RD:=cP ecq eRD4 (fun z=>nomatch z)
 walk_at "rd1";refine⟨⟨_,ecq⟩,?_⟩
 refine xr (xs:=ks.map kV) (fun i σ H'=>∃ (o2 o3:Option V),σ=[some (.ref p),some (.ref RD),o2,o3]∧(∀ b o,b≠RD→H4 b=some o→H' b=some o)∧H' RD=some (.dK (gq ks i)))
  ⟨_,_,rfl,fun _ _ _ z=>z,eRD4⟩ (fun i σ H' _ hh=>by obtain⟨_,_,_,sb,_⟩:=hh; exact SqL.of (sb _ _ ncR ecq)) (fun i v t σ H5 hv hh ht=>?_) (fun σ H5 hh=>?_)
 ·obtain⟨o2,o3,rfl,sb,e5⟩:=hh
  rw[List.getElem?_map]at hv
  cases hi:ks[i]? with
  | none=>rw[hi]at hv; cases hv
  | some k0=>
   rw[hi]at hv; cases hv
   have hil:=(List.getElem?_eq_some_iff.mp hi).1;have s6:=ah ht (.tup [.int (i:Int),kV k0]);have et:upd H5 t (.tup [.int (i:Int),kV k0]) t=some (.tup [.int (i:Int),kV k0]):=af
   generalize upd H5 t (.tup [.int (i:Int),kV k0])=H6 at s6 et ⊢;have hkt:=qu ks i;walk_at "rd1";refine⟨t,_,rfl,SqT.of et,rfl,?_⟩
   walk_at "rd1";refine⟨RD,_,k0,rfl,rfl,s6 _ _ e5,b9 (by omega),_,_,rfl,fun b o hb z=>by rw[ax hb]; exact s6 _ _ (sb b o hb z),?_⟩
   rw[af,gJ,List.getD_eq_getElem?_getD,hi]; rfl
 ·obtain⟨o2,o3,rfl,sb,e5⟩:=hh
  rw[List.length_map]at e5
  walk_at "nx";refine q RD H5 (fun b o z=>sb b o (aF z hRD) (s4 _ _ (s3 _ _ (s12 _ _ z)))) hRD e5
end
theorem oG{f:List ap→List Str}{g:List ap→Nat}(h:∀ T,(f T).length=g T):∀ s:ap,(dv f s).length=bB g s
 | .plain _=>rfl
 | .lend _ _ b=>by simp[dv,bB,h]
 | .ite _ b c=>by simp[dv,bB,h]; omega
 | .whl _ b=>by simp[dv,bB,h]
theorem hU:∀ (d:Nat) (T:List ap),(d0 d T).length=ar d T
 | 0,_=>rfl
 | d+1,T=>by
  show (T.flatMap (dv (d0 d))).length=(T.map (bB (ar d))).sum
  induction T with
  | nil=>rfl
  | cons s T ih=>rw[List.flatMap_cons,List.length_append,List.map_cons,List.sum_cons,ih,oG (hU d)]
def Sub(L:List Str)(l:Nat)(X:List Str):Prop:=∀ (i:Nat) s,X[i]? = some s→L[l+i]? = some s
theorem Sub.left{L X Y:List Str}{l:Nat}(h:Sub L l (X++Y)):Sub L l X:=fun i s e=>h i s (by rw[List.getElem?_append_left (List.getElem?_eq_some_iff.mp e).1]; exact e)
theorem Sub.right{L X Y:List Str}{l:Nat}(h:Sub L l (X++Y)):Sub L (l+X.length) Y:=fun i s e=>by
 have:=h (X.length+i) s (by rw[List.getElem?_append_right (by omega),Nat.add_sub_cancel_left]; exact e)
 rw[← Nat.add_assoc]at this; exact this
def As(f:List ap→Prop)(N:Str→Prop):ap→Prop
 | .plain ws=>(ws.headD "" = "do" → ws.length=3)∧∀ n∈ei ws,N n
 | .lend x y b=>N x∧N y∧f b
 | .ite _ b c=>f b∧f c
 | .whl _ b=>f b
def r_(N:Str→Prop):Nat→List ap→Prop
 | 0,_=>False
 | d+1,T=>∀ s∈T,As (r_ N d) N s
theorem xB(x y:Str):gH (Txt.join " " ["lend", x,y])=true:=by
 have e:Txt.join " " ["lend", x,y]=("lend " : Str)++(x++((" " : Str)++y)):=by
  apply Bs
  have h1:("lend " : Str).cps.toList=("lend" : Str).cps.toList++(" " : Str).cps.toList:=by decide +kernel
  rw[jo,jo,jo,h1];show ((("lend" : Str).cps++(" " : Str).cps++x.cps)++(" " : Str).cps++y.cps).toList=_
  simp only[Array.toList_append,List.append_assoc]
 rw[e];unfold gH;have hl:("lend " : Str).length=5:=by decide +kernel
 rw[Str.length_append,hl,decide_eq_true (by omega),Bool.true_and]
 unfold PySem.Builtin.Str.subAt;rw[hl,beq_iff_eq]
 apply Array.ext'
 rw[Array.toList_extract,jo];have h5:("lend " : Str).cps.toList.length=5:=by decide +kernel
 simp[List.extract_eq_drop_take,List.take_append,h5]
theorem xH{L:List Str}{i:Nat}{s:Str}(h:L[i]? = some s)(hs:gH s=true):i∈fP L:=by
 unfold fP;rw[List.mem_filter];refine⟨List.mem_range.mpr (List.getElem?_eq_some_iff.mp h).1,?_⟩
 rw[List.getD_eq_getElem?_getD,h]; exact hs
section
variable{NM L:List Str}
theorem zJ{f:Nat→List ap→Prop}{g:List ap→Prop}{d l:Nat}(hf:∀ l b,Sub L l (d0 d b)→g b→f l b):∀ (s:ap),Sub L l (dv (d0 d) s)→As g (fun n=>n∈NM) s→lU (iG (cE NM L)) f (ar d) l s
 | .plain ws,_,⟨h1,h2⟩=>⟨h1,fun n hn=>js (by unfold cE; exact List.mem_append_left _ (List.mem_map.mpr ⟨n,h2 n hn,rfl⟩))⟩
 | .lend x y b,hS,⟨hx,hy,hb⟩=>by
  have hh:L[l]? = some (Txt.join " " ["lend", x,y]):=hS 0 _ rfl
  refine⟨js (by unfold cE; exact List.mem_append_left _ (List.mem_map.mpr ⟨x,hx,rfl⟩)),js (by unfold cE; exact List.mem_append_left _ (List.mem_map.mpr ⟨y,hy,rfl⟩)),js (by unfold cE; exact List.mem_append_right _ (List.mem_map.mpr ⟨l,xH hh (xB x y),rfl⟩)),hf _ _ ?_ hb⟩
  have:Sub L l ([Txt.join " " ["lend", x,y]]++(d0 d b++[("back" : Str)])):=hS
  exact this.right.left
 | .ite n b c,hS,⟨hb,hc⟩=>by
  have:Sub L l ([Txt.join " " ["if", iW n]]++((d0 d b++[("else" : Str)])++(d0 d c++[("fi" : Str)]))):=hS
  refine⟨hf _ _ this.right.left.left hb,hf _ _ ?_ hc⟩
  have h2:=this.right.right.left;rw[List.length_append,hU,List.length_singleton,List.length_singleton]at h2
  rw[show l+1+ar d b+1=l+1+(ar d b+1) by omega]; exact h2
 | .whl n b,hS,hb=>by
  have:Sub L l ([Txt.join " " ["while", iW n]]++(d0 d b++[("done" : Str)])):=hS
  exact hf _ _ this.right.left hb
theorem lV:∀ (d l:Nat) (T:List ap),Sub L l (d0 d T)→r_ (fun n=>n∈NM) d T→er (iG (cE NM L)) d l T
 | 0,_,_,_,h=>h
 | d+1,l,T,hS,hN=>by
  have go:∀ (T:List ap) (l:Nat),Sub L l (T.flatMap (dv (d0 d)))→(∀ s∈T,As (r_ (fun n=>n∈NM) d) (fun n=>n∈NM) s)→∀ z∈eP (bB (ar d)) l T,lU (iG (cE NM L)) (er (iG (cE NM L)) d) (ar d) z.1 z.2:=fun T=>by
   induction T with
   | nil=>intro l _ _ z hz; cases hz
   | cons s T ih=>
    intro l hS hN z hz
    rw[List.flatMap_cons]at hS
    rcases List.mem_cons.mp hz with rfl | hz
    ·exact zJ (fun l b h1 h2=>lV d l b h1 h2) s hS.left (hN s List.mem_cons_self)
    ·have h2:=hS.right
     rw[oG (hU d)]at h2
     exact ih (l+bB (ar d) s) h2 (fun s hs=>hN s (List.mem_cons_of_mem _ hs)) z hz
  exact go T l hS hN
end
section
variable{CN:Addr}{NO:Hp→Addr→List Str→Prop}
def ig(NM:List Str)(d:Nat)(t:Bool)(T:List ap):List bi:=bM (iG (cE NM (d0 d T))) d t 0 0 T++[[.str "end", iN (ar d T)]]
structure kQ (NO:Hp→Addr→List Str→Prop) (H:Hp) (p:Addr) (d:Nat) (T:List ap) (NM:List Str):Prop where
 prog:∃ S,ProgAt S d H p T
 ok:dN d T
 no:NO H p NM
 ln:LinesAt d H p (d0 d T)
 nm:r_ (fun n=>n∈NM) d T
 cnt:ar d T≤200
 nl:NM.length≤1000
 d20:d≤20
def lA(NO:Hp→Addr→List Str→Prop)(d:Nat):Sp:=fun vs H Q _=>∃ (p:Addr) (t:Bool) (T:List ap) (NM:List Str),vs=[.ref p,.bl t]∧kQ NO H p d T NM∧∀ (q:Addr) (H':Hp),Same H H'→H q=none→ListR H' q (ig NM d t T)→Q (.ref q) H'
theorem uQ(noM:∀ {H H':Hp} {p:Addr} {NM:List Str},NO H p NM→Same H H'→NO H' p NM)(D:DefAt K mg "rows_and_end" bv) {d k:Nat} (hk1:1≤k) (c_numbered_steps:aE P w K mg base (2 * d+4) "numbered_steps" ["steps", "line"] (pS K CN d)) (c_rows_of:aE P w K mg base (3 * d+2) "rows_of" ["steps", "at", "slots", "turned"] (gf K CN d)) (c_slots_of:aE P w K mg base k "slots_of" ["program"] (sJ NO d)) (c_line_behind:aE P w K mg base 1 "line_behind" ["steps", "line"] (iB K CN)) (h1:2 * d+4≤k) (h2:3 * d+2≤k):aE P w K mg base (k+1) "rows_and_end" ["program", "turned"] (lA NO d):=by
 refine D.cal (k:=k) sc_rows_and_end (fun _ _ _ _ _ _ us hl=>match us,hl with | [_,_],_=>rfl) (fun vs H Q E h=>by obtain⟨_,_,_,_,rfl,_⟩:=h; rfl) (fun f cdv A outer s H vs Q E hr h=>?_)
 obtain⟨p,t,T,NM,rfl,I,q⟩:=h
 obtain⟨S,hP⟩:=I.prog
 have hcnt:=I.cnt
 refine⟨_,(ai (au 2 sc_rows_and_end.nd (ay c_numbered_steps hr (aa (pv 0) (aa ac ae)) (hle:=by omega)))
   (aj (az (ak aC (ay c_rows_of hr (aa (pv 2) (aa ac (aa (ay c_slots_of hr (aa (pv 0) ae) (hle:=by omega)) (aa (pv 1) ae)))) (hle:=by omega)) (aS (aa (aU (aa av (aa (ay c_line_behind hr (aa (pv 2) (aa ac ae)) (hle:=by omega)) ae))) ae)))))),?_⟩
 walk_at "rd1";refine⟨p,0,T,S,rfl,hP,I.ok,by omega,fun nq H1 s1 hN=>?_⟩
 walk_at "nx";refine⟨p,NM,d0 d T,rfl,noM I.no s1,I.ln.mono _ s1,by rw[hU]; omega,I.nl,fun sq H2 s2 hsq e2=>?_⟩
 refine⟨nq,sq,0,0,t,T,_,_,rfl,hN.mono s2,I.ok,e2,lV d 0 T (fun i s e=>by rw[Nat.zero_add]; exact e) I.nm,I.cnt,I.d20,fun rq H3 s3 hrq hR=>?_⟩
 have hRl:=dE (kv:=iG (cE NM (d0 d T))) (a:=0) (l:=0) (t:=t) I.cnt I.d20;generalize hRR:bM (iG (cE NM (d0 d T))) d t 0 0 T=R at hR hRl;have s23:=s2.trans s3
 cases d with
 | zero=>exact hN.elim
 | succ d=>
  refine⟨nq,0,d,T,_,rfl,hN.mono s23,by omega,?_⟩
  walk_at "rd1";refine⟨by decide,fun t1 ht1=>?_⟩
  generalize hH4:upd H3 t1 _=H4
  have s4:Same H3 H4:=by rw[← hH4]; exact ah ht1 _
  have et1:bc H4 t1 [.str "end", iN (ar (d+1) T)]:=by
   show H4 t1=_
   rw[← hH4,af,Nat.zero_add]; rfl
  refine⟨by decide,fun m1 hm1=>?_⟩
  have s5:=ah hm1 (.lst [.ref t1]);have L1:=gg et1 hm1;generalize upd H4 m1 (.lst [.ref t1])=H5 at s5 L1 ⊢;obtain⟨as1,a1,a2⟩:=hR.mono (s4.trans s5)
  obtain⟨bs1,b1,b2⟩:=L1
  refine⟨_,_,a1,b1,dq a2 b2 (by simp only[List.length_cons,List.length_nil]; omega),fun m2 hm2=>?_⟩
  have s6:=ah hm2 (.lst (as1.map V.ref++bs1.map V.ref));have L2:=dU a2 b2 hm2;generalize upd H5 m2 (.lst (as1.map V.ref++bs1.map V.ref))=H6 at s6 L2 ⊢;have s05:=((s1.trans s23).trans s4).trans s5;refine q m2 H6 (s05.trans s6) (s05.free hm2) ?_
  unfold ig;rw[hRR];exact L2
def xR(NO:Hp→Addr→List Str→Prop)(d:Nat):Sp:=fun vs H Q _=>∃ (p:Addr) (T:List ap) (NM:List Str),vs=[.ref p]∧kQ NO H p d T NM∧∀ (q:Addr) (H':Hp),Same H H'→H q=none→ListR H' q (ig NM d false T)→Q (.ref q) H'
theorem A0(D:DefAt K mg "code_of" dz) {d k:Nat} (c_rows_and_end:aE P w K mg base k "rows_and_end" ["program", "turned"] (lA NO d)):aE P w K mg base (k+1) "code_of" ["program"] (xR NO d):=by
 refine D.cal (k:=k) vJ (fun _ _ _ _ _ _ us hl=>match us,hl with | [_],_=>rfl) (fun vs H Q E h=>by obtain⟨_,_,_,rfl,_⟩:=h; rfl) (fun f cdv A outer s H vs Q E hr h=>?_)
 obtain⟨p,T,NM,rfl,I,q⟩:=h
 refine⟨_,(aj (az (ay c_rows_and_end hr (aa (pv 0) (aa fm ae)) (hle:=by omega)))),?_⟩
 walk_at "rd1";exact⟨p,false,T,NM,rfl,I,q⟩
def oP(NO:Hp→Addr→List Str→Prop)(d:Nat):Sp:=fun vs H Q _=>∃ (p:Addr) (T:List ap) (NM:List Str),vs=[.ref p]∧kQ NO H p d T NM∧∀ (q:Addr) (H':Hp),Same H H'→H q=none→ListR H' q (ig NM d true T)→Q (.ref q) H'
theorem wQ(D:DefAt K mg "turned_code" cy) {d k:Nat} (c_rows_and_end:aE P w K mg base k "rows_and_end" ["program", "turned"] (lA NO d)):aE P w K mg base (k+1) "turned_code" ["program"] (oP NO d):=by
 refine D.cal (k:=k) k_ (fun _ _ _ _ _ _ us hl=>match us,hl with | [_],_=>rfl) (fun vs H Q E h=>by obtain⟨_,_,_,rfl,_⟩:=h; rfl) (fun f cdv A outer s H vs Q E hr h=>?_)
 obtain⟨p,T,NM,rfl,I,q⟩:=h
 refine⟨_,(aj (az (ay c_rows_and_end hr (aa (pv 0) (aa fm ae)) (hle:=by omega)))),?_⟩
 walk_at "rd1";exact⟨p,true,T,NM,rfl,I,q⟩
end
end
def dM:ap→List (List ap)
 | .plain _=>[]
 | .lend _ _ b=>[b]
 | .ite _ b c=>[b,c]
 | .whl _ b=>[b]
def fj(f:List ap→List ap)(s:ap):List ap:=s::(dM s).flatMap f
def cz:Nat→List ap→List ap
 | 0,_=>[]
 | d+1,T=>T.flatMap (fj (cz d))
inductive fg:List Str→Prop
 | opn (x:Str):fg ["open", x]
 | drp (x:Str):fg ["drop", x]
 | cpy (x y:Str):fg ["copy", x,y]
 | tie (x y:Str):fg ["tie", x,y]
 | doo (u x:Str):fg ["do", u,x]
def bZ:ap→List Str
 | .plain ws=>if ws.headD "" = "do" then ws.drop 2 else ws.drop 1
 | .lend x y _=>[x,y]
 | .ite _ _ _=>[]
 | .whl _ _=>[]
def fz(f:List ap→Prop):ap→Prop
 | .plain ws=>fg ws
 | .lend _ _ b=>f b
 | .ite _ b c=>f b∧f c
 | .whl _ b=>f b
def iL:Nat→List ap→Prop
 | 0,_=>False
 | d+1,T=>∀ s∈T,fz (iL d) s
def headAt(H:Hp)(a:Addr)(s:ap):Prop:=stpAt (fun _ _=>True) H a s
theorem headAt.mono{H H':Hp}{a:Addr}{s:ap}(h:headAt H a s)(sm:Same H H'):headAt H' a s:=stpAt.imp (fun b xs e=>sm _ _ e) (fun _ _ _=>trivial) h
theorem uL{PA:Addr→List ap→Prop}{H:Hp}{a:Addr}{g:List ap→Prop}:∀ {s:ap},stpAt PA H a s→fz g s→∃ (kind:Str) (hs:List V) (bs:List Addr),H a=some (.tup (.str kind::hs++bs.map V.ref))∧bs.length=(bn kind).length∧Paired PA bs (dM s)∧∀ b∈dM s,g b
 | .plain ws,h,ok=>by
  cases ok with
  | opn x=>exact⟨"open", [.str x],[],h,by show 0=(bn "open").length; decide,.nil,by simp[dM]⟩
  | drp x=>exact⟨"drop", [.str x],[],h,by show 0=(bn "drop").length; decide,.nil,by simp[dM]⟩
  | cpy x y=>exact⟨"copy", [.str x,.str y],[],h,by show 0=(bn "copy").length; decide,.nil,by simp[dM]⟩
  | tie x y=>exact⟨"tie", [.str x,.str y],[],h,by show 0=(bn "tie").length; decide,.nil,by simp[dM]⟩
  | doo u x=>exact⟨"do", [.str u,.str x],[],h,by show 0=(bn "do").length; decide,.nil,by simp[dM]⟩
 | .lend x y b,⟨q,h,z⟩,ok=>⟨"lend", [.str x,.str y],[q],h,by show 1=(bn "lend").length; decide,.cons z .nil,by simpa [dM,fz] using ok⟩
 | .ite n b c,⟨q,r,h,z,y⟩,ok=>⟨"if", [.int n],[q,r],h,by show 2=(bn "if").length; decide,.cons z (.cons y .nil),by simpa [dM,fz] using ok⟩
 | .whl n b,⟨q,h,z⟩,ok=>⟨"while", [.int n],[q],h,by show 1=(bn "while").length; decide,.cons z .nil,by simpa [dM,fz] using ok⟩
def qm(d:Nat):Sp:=fun vs H Q _=>∃ (p:Addr) (T:List ap) (S:Addr→Prop),vs=[.ref p]∧ProgAt S d H p T∧iL d T∧(cz d T).length≤5000∧
 ∀ (q:Addr) (H':Hp) (ads:List Addr),Same H H'→H q=none→H' q=some (.lst (ads.map V.ref))→Paired (headAt H') ads (cz d T)→Q (.ref q) H'
theorem tS{α β : Type}(f:α→List β)(T:List α)(i:Nat):((T.take i).flatMap f).length≤(T.flatMap f).length:=by
 rw[List.flatMap_def,List.flatMap_def,List.map_take]; exact lc _ _
theorem lF{α β : Type}(f:α→List β){T:List α}{i:Nat}{x:α}(h:T[i]? = some x):(T.take (i+1)).flatMap f=(T.take i).flatMap f++f x:=by
 rw[List.take_add_one,h,List.flatMap_append]; simp
theorem kA{α β : Type}{R:α→β→Prop}:∀ {xs zs:List α} {ys us:List β},Paired R xs ys→Paired R zs us→Paired R (xs++zs) (ys++us)
 | _,_,_,_,.nil,h=>h
 | _,_,_,_,.cons h t,h'=>.cons h (kA t h')
section
variable{P:Program}{w:World}{K:PySem.W.Frag}{mg:Str→Option Value}{base:Heap}
theorem mj(D:DefAt K mg "steps_within" bm) (c_blocks_of:aE P w K mg base 3 "blocks_of" ["step"] (gB K)):∀ d:Nat,aE P w K mg base (d+4) "steps_within" ["program"] (qm d)
 | 0=>D.cal (k:=3) sc_steps_within (fun _ _ _ _ _ _ us hl=>match us,hl with | [_],_=>rfl) (fun vs H Q E h=>by obtain⟨p,T,S,rfl,_⟩:=h; rfl) (fun f cdv A outer s H vs Q E hr h=>by obtain⟨p,T,S,rfl,z,_⟩:=h; exact z.elim)
 | d+1=>by
  have c_steps_within:=mj D c_blocks_of d;refine D.cal (k:=d+4) sc_steps_within (fun _ _ _ _ _ _ us hl=>match us,hl with | [_],_=>rfl) (fun vs H Q E h=>by obtain⟨p,T,S,rfl,_⟩:=h; rfl) (fun f cdv A outer s H vs Q E hr h=>?_)
  obtain⟨p,T,S,rfl,⟨hS,as,h1,h2⟩,ok,hL,q⟩:=h
  have hlen:=aM h2
  refine⟨_,(ai (au 1 sc_steps_within.nd (aS ae))
   (ai (b_ PassesOwn.never rfl (cX K (pv 0)) (bg 2 sc_steps_within.nd) (ai (bJ (bV K PySem.F.plainAttrs_list PySem.F.slot_list_append PySem.F.type_list_append bP (pv 1) (aa (pv 2) ae)))
   (aj (b_ PassesOwn.never rfl (gi K (ay c_blocks_of hr (aa (pv 2) ae) (hle:=by omega))) (bg 3 sc_steps_within.nd) (aj (bJ (bV K PySem.F.plainAttrs_list PySem.F.slot_list_extend PySem.F.type_list_extend fq (pv 1) (aa (ay c_steps_within hr (aa (pv 3) ae) (hle:=by omega)) ae))))))))
   (aj (az (pv 1))))),?_⟩
  walk_at "rd1";refine⟨by decide,fun lp hlp=>?_⟩
  generalize hH1:upd H lp _=H1
  have sm1:=gb hH1 hlp;have e1:=jp hH1;walk_at "nx";refine⟨⟨_,SqL.of (sm1 _ _ h1)⟩,?_⟩
  refine cS (xs:=as.map V.ref) (fun i σ H'=>∃ (ads:List Addr) (o2 o3:Option V),σ=[some (.ref p),some (.ref lp),o2,o3]∧Same H H'∧H' lp=some (.lst (ads.map V.ref))∧Paired (headAt H') ads ((T.take i).flatMap (fj (cz d))))
   ⟨[],none,none,rfl,sm1,e1,.nil⟩ (fun i σ H' _ h=>by obtain⟨_,_,_,_,sm,_⟩:=h; exact SqL.of (sm _ _ h1)) ?_ ?_
  ·rintro i v σ H' hv ⟨ads,o2,o3,rfl,sm,hl,hp⟩
   have hi:i<as.length:=by have:=(List.getElem?_eq_some_iff.mp hv).1; simpa using this
   rw[List.getElem?_map,List.getElem?_eq_getElem hi]at hv
   cases hv;obtain⟨s,hs,st⟩:=b7 h2 (List.getElem?_eq_getElem hi)
   have oks:=ok s (List.mem_of_getElem? hs);obtain⟨kind,hds,bs,ha,hbl,hbp,hbo⟩:=uL st oks
   have hflat:=lF (fj (cz d)) hs;have hfl:=tS (fj (cz d)) T (i+1);have hL':(T.flatMap (fj (cz d))).length≤5000:=hL
   rw[hflat]at hfl ⊢
   have hpl:=aM hp;generalize (T.take i).flatMap (fj (cz d))=pre at hp hfl hpl ⊢;have hps:(fj (cz d) s).length=1+((dM s).flatMap (cz d)).length:=by show (s::_).length=_; rw[List.length_cons]; omega
   rw[List.length_append,hps]at hfl
   have hhd:headAt H as[i] s:=stpAt.imp (fun b xs e=>e) (fun _ _ _=>trivial) st
   walk_at "rd1";refine⟨⟨_,SqL.of hl⟩,_,hl,by rw[List.length_map]; exact b9 (by omega),?_⟩
   have upl:∀ {X:Hp} {o:HO} {l:List Addr} {us:List ap} {ys:List V},X lp=some (.lst ys)→Paired (headAt X) l us→Paired (headAt (upd X lp o)) l us:=fun {X o l us ys} e h=>Paired.imp' (fun a s z=>stpAt.imp (fun b xs e'=>by rw[ax (cP e' e (fun z=>nomatch z))]; exact e') (fun _ _ _=>trivial) z) h
   have hp2:=upl (o:=.lst (ads.map V.ref++[.ref as[i]])) hl hp;have sm2:Same H (upd H' lp (.lst (ads.map V.ref++[.ref as[i]]))):=sm.upd hlp _
   have e2:upd H' lp (.lst (ads.map V.ref++[.ref as[i]])) lp=some (.lst ((ads++[as[i]]).map V.ref)):=by rw[af,List.map_append]; rfl
   generalize upd H' lp (.lst (ads.map V.ref++[.ref as[i]]))=H2 at hp2 sm2 e2 ⊢;have hat:SqT K H2 as[i] (.str kind::(hds++bs.map V.ref)):=SqT.of (sm2 _ _ ha)
   have hcl:(bn kind).length≤(hds++bs.map V.ref).length+1:=by rw[List.length_append,List.length_map,hbl]; omega
   have hcut:(hds++bs.map V.ref).length+1 - (bn kind).length=hds.length+1:=by rw[List.length_append,List.length_map,hbl]; omega
   walk_at "nx";refine⟨as[i],kind,hds++bs.map V.ref,rfl,hat,hcl,fun bp H3 sm3 hbp3=>?_⟩
   rw[hcut]at hbp3
   have edr:(V.str kind::(hds++bs.map V.ref)).drop (hds.length+1)=bs.map V.ref:=by rw[List.drop_succ_cons,List.drop_left']; rfl
   rw[edr]at hbp3
   walk_at "rd1";refine⟨⟨_,hbp3⟩,?_⟩
   have hil:=aM hbp
   refine nQ (xs:=bs.map V.ref) (fun j σ H'=>∃ (ads':List Addr) (o3:Option V),σ=[some (.ref p),some (.ref lp),some (.ref as[i]),o3]∧Same H H'∧SqT K H' bp (bs.map V.ref)∧H' lp=some (.lst (ads'.map V.ref))∧Paired (headAt H') ads' (pre++(s::((dM s).take j).flatMap (cz d))))
    ⟨ads++[as[i]],o3,rfl,sm2.trans sm3,hbp3,sm3 _ _ e2,?_⟩ (fun j σ H' _ h=>by obtain⟨_,_,_,_,z1,_⟩:=h; exact z1) ?_ ?_
   ·exact fK (R:=headAt H3) (hhd.mono (sm2.trans sm3)) (Paired.imp' (fun a s z=>headAt.mono z sm3) hp2)
   ·rintro j x σ H4 hx ⟨ads',o3,rfl,sm4,hb4,hl4,hp4⟩
    have hj:j<bs.length:=by have:=(List.getElem?_eq_some_iff.mp hx).1; simpa using this
    rw[List.getElem?_map,List.getElem?_eq_getElem hj]at hx
    cases hx;obtain⟨b,hb,hpb⟩:=b7 hbp (List.getElem?_eq_getElem hj)
    have hsn:=lF (cz d) hb;have hle:=tS (cz d) (dM s) (j+1);rw[hsn]at hle ⊢
    rw[List.length_append]at hle
    have hpl4:=aM hp4;rw[List.length_append,List.length_cons]at hpl4
    walk_at "rd1";refine⟨⟨_,SqL.of hl4⟩,bs[j],b,S,rfl,hpb.mono sm4,hbo b (List.mem_of_getElem? hb),by omega,fun r H5 ads5 sm5 hr5 hl5 hp5=>?_⟩
    have hpl5:=aM hp5;walk_at "rd1";refine⟨_,_,sm5 _ _ hl4,hl5,aR (by rw[List.length_map,List.length_map]; omega),?_⟩
    refine⟨ads'++ads5,_,rfl,(sm4.trans sm5).upd hlp _,(hb4.same sm5).updL (sm5 _ _ hl4),by rw[af,List.map_append],?_⟩
    rw[← List.cons_append,← List.append_assoc];exact kA (upl (sm5 _ _ hl4) (Paired.imp' (fun a s z=>headAt.mono z sm5) hp4)) (upl (sm5 _ _ hl4) hp5)
   ·rintro σ H4 ⟨ads',o3,rfl,sm4,hb4,hl4,hp4⟩
    rw[List.length_map,List.take_of_length_le (by omega)]at hp4
    exact⟨ads',_,_,rfl,sm4,hl4,hp4⟩
  ·rintro σ H' ⟨ads,o2,o3,rfl,sm,hl,hp⟩
   walk_at "nx";rw[List.length_map,List.take_of_length_le (by omega)]at hp
   exact q lp H' ads sm hlp hl hp
def gu(acc:List Str)(x:Str):List Str:=if x∈acc then acc else acc++[x]
def fh(l:List Str):List Str:=l.foldl gu []
def iY(l:List Str):List (aK × V):=l.map fun x=>(Sum.inr x,V.bl true)
theorem AT(acc:List Str)(x:Str):cK (iY acc) (.inr x) (.bl true)=iY (gu acc x):=by
 unfold cK gu
 by_cases h:x∈acc
 ·rw[if_pos h]
  have ha:((iY acc).any fun kv=>decide (kv.1=(Sum.inr x:aK)))=true:=by
   rw[List.any_eq_true];exact⟨(.inr x,.bl true),List.mem_map.mpr ⟨x,h,rfl⟩,by simp⟩
  rw[if_pos ha];unfold iY;rw[List.map_map];refine List.map_congr_left fun y _=>?_
  by_cases e:y=x
  ·subst e; simp
  ·have:¬ ((Sum.inr y:aK)=Sum.inr x):=fun z=>e (Sum.inr.inj z)
   simp[this]
 ·rw[if_neg h]
  have ha:((iY acc).any fun kv=>decide (kv.1=(Sum.inr x:aK)))=false:=by
   rw[List.any_eq_false];intro kv hkv
   obtain⟨y,hy,rfl⟩:=List.mem_map.mp hkv
   have:¬ ((Sum.inr y:aK)=Sum.inr x):=fun z=>h (Sum.inr.inj z ▸ hy)
   simp[this]
  rw[if_neg (by rw[ha]; exact Bool.false_ne_true)]
  unfold iY;rw[List.map_append]; rfl
theorem g0:∀ (l acc:List Str),(l.foldl gu acc).length≤acc.length+l.length
 | [],acc=>by simp
 | x::l,acc=>by
  have:=g0 l (gu acc x)
  have h2:(gu acc x).length≤acc.length+1:=by unfold gu; split <;> simp
  rw[List.foldl_cons,List.length_cons]; omega
def cu:List V→List Str→List Str
 | .str x::xs,k::ks=>if k = "name" then x::cu xs ks else cu xs ks
 | _::xs,_::ks=>cu xs ks
 | _,_=>[]
def dW:List (Str × List Str):=[("open", ["name"]),("do", ["word", "name"]),("copy", ["name", "name"]),("drop", ["name"]),("tie", ["name", "name"]),("lend", ["name", "name", "steps"]),("if", ["bound", "steps", "steps"]),("while", ["bound", "steps"])]
structure JK (H:Hp) (a:Addr) (s:ap) (kind:Str) (xs:List V) (ks:List Str):Prop where
 at':H a=some (.tup (.str kind::xs))
 kd:(kind,ks)∈dW
 len:xs.length=ks.length
 txt:∀ (i:Nat) (x:V),xs[i]? = some x→ks[i]? = some "name" → ∃ y,x = .str y
 names:cu xs ks=bZ s
theorem pz{α : Type}{a b x:α}{i:Nat}(h:[a,b][i]? = some x):(i=0∧x=a)∨(i=1∧x=b):=by
 match i,h with
 | 0,h=>exact .inl ⟨rfl,by simpa using h.symm⟩
 | 1,h=>exact .inr ⟨rfl,by simpa using h.symm⟩
 | i+2,h=>simp at h
theorem vt{H:Hp}{a:Addr}{g:List ap→Prop}:∀ {s:ap},headAt H a s→fz g s→∃ kind xs ks,JK H a s kind xs ks
 | .plain ws,h,ok=>by
  cases ok with
  | opn x=>exact⟨"open", [.str x],["name"],h,by simp[dW],rfl,fun i y e _=>by match i,e with | 0,e=>exact⟨x,by simpa using e.symm⟩ | i+1,e=>simp at e,by simp[cu,bZ]; decide⟩
  | drp x=>exact⟨"drop", [.str x],["name"],h,by simp[dW],rfl,fun i y e _=>by match i,e with | 0,e=>exact⟨x,by simpa using e.symm⟩ | i+1,e=>simp at e,by simp[cu,bZ]; decide⟩
  | cpy x y=>exact⟨"copy", [.str x,.str y],["name", "name"],h,by simp[dW],rfl,fun i z e _=>by rcases pz e with ⟨_,rfl⟩ | ⟨_,rfl⟩ <;> exact⟨_,rfl⟩,by simp[cu,bZ]; decide⟩
  | tie x y=>exact⟨"tie", [.str x,.str y],["name", "name"],h,by simp[dW],rfl,fun i z e _=>by rcases pz e with ⟨_,rfl⟩ | ⟨_,rfl⟩ <;> exact⟨_,rfl⟩,by simp[cu,bZ]; decide⟩
  | doo u x=>exact⟨"do", [.str u,.str x],["word", "name"],h,by simp[dW],rfl,fun i z e _=>by rcases pz e with ⟨_,rfl⟩ | ⟨_,rfl⟩ <;> exact⟨_,rfl⟩,by simp[cu,bZ]; decide⟩
 | .lend x y b,⟨q,h,_⟩,ok=>⟨"lend", [.str x,.str y,.ref q],["name", "name", "steps"],h,by simp[dW],rfl,fun i z e e2=>by match i,e,e2 with | 0,e,e2=>exact⟨_,by simpa using e.symm⟩ | 1,e,e2=>exact⟨_,by simpa using e.symm⟩ | 2,e,e2=>exact absurd (by simpa using e2) (show ¬ (("steps" : Str) = "name") from by decide) | i+3,e,e2=>simp at e,by simp[cu,bZ]⟩
 | .ite n b c,⟨q,r,h,_,_⟩,ok=>⟨"if", [.int n,.ref q,.ref r],["bound", "steps", "steps"],h,by simp[dW],rfl,fun i z e e2=>by match i,e,e2 with | 0,e,e2=>exact absurd (by simpa using e2) (show ¬ (("bound" : Str) = "name") from by decide) | 1,e,e2=>exact absurd (by simpa using e2) (show ¬ (("steps" : Str) = "name") from by decide) | 2,e,e2=>exact absurd (by simpa using e2) (show ¬ (("steps" : Str) = "name") from by decide) | i+3,e,e2=>simp at e,by simp[cu,bZ]⟩
 | .whl n b,⟨q,h,_⟩,ok=>⟨"while", [.int n,.ref q],["bound", "steps"],h,by simp[dW],rfl,fun i z e e2=>by match i,e,e2 with | 0,e,e2=>exact absurd (by simpa using e2) (show ¬ (("bound" : Str) = "name") from by decide) | 1,e,e2=>exact absurd (by simpa using e2) (show ¬ (("steps" : Str) = "name") from by decide) | i+2,e,e2=>simp at e,by simp[cu,bZ]⟩
theorem pO:∀ {xs:List V} {ks:List Str} (x:V) (k:Str),xs.length=ks.length→cu (xs++[x]) (ks++[k])=cu xs ks++cu [x] [k]
 | [],[],x,k,_=>rfl
 | [],_::_,_,_,h=>by simp at h
 | _::_,[],_,_,h=>by simp at h
 | y::xs,c::ks,x,k,h=>by
  have ih:=pO (xs:=xs) (ks:=ks) x k (by simpa using h)
  cases y <;> simp only[List.cons_append,cu,ih]
  split <;> simp
theorem nA(xs:List V)(ks:List Str)(j:Nat)(h:xs.length=ks.length):(cu (xs.take j) (ks.take j)).length≤(cu xs ks).length:=by
 induction xs generalizing ks j with
 | nil=>simp[cu]
 | cons y xs ih=>
  cases ks with
  | nil=>simp at h
  | cons c ks=>
   cases j with
   | zero=>simp[cu]
   | succ j=>
    have:=ih ks j (by simpa using h)
    rw[List.take_succ_cons,List.take_succ_cons]
    cases y <;> simp only[cu] <;> (try split) <;> (try simp only[List.length_cons]) <;> omega
theorem zi{K:PySem.W.Frag}{H:Hp}{a l:Addr}{xs:List V}{kvs:List (aK × V)}{o:HO}(h:SqT K H a xs)(hl:H l=some (.dK kvs)):SqT K (upd H l o) a xs:=by
 rcases h with (h | ⟨o',h⟩) | h
 ·exact .inl (.inl (by rw[ax (cP h hl (fun z=>nomatch z))]; exact h))
 ·exact .inl (.inr ⟨o',by rw[ax (cP h hl (fun z=>nomatch z))]; exact h⟩)
 ·exact .inr h
def mS:Sp:=fun vs H Q _=>∃ (sp:Addr) (ads:List Addr) (Ps:List ap) (g:List ap→Prop),vs=[.ref sp]∧H sp=some (.lst (ads.map V.ref))∧Paired (headAt H) ads Ps∧(∀ s∈Ps,fz g s)∧(Ps.flatMap bZ).length≤5000∧
 ∀ (q:Addr) (H':Hp),Same H H'→H q=none→H' q=some (.lst ((fh (Ps.flatMap bZ)).map V.str))→Q (.ref q) H'
theorem vN(D:DefAt K mg "names_in" bE) (z_zip:mg "zip" = none) (z_list:mg "list" = none) {dP:Addr} {kvs:List (Str × V)} (g_PARTS:mg "PARTS" = some (.ref dP)) (m:ModD w K dP kvs)
  (qk:∀ kind ks,(kind,ks)∈dW→∃ a,cr kvs kind=some (.ref a)∧∀ H:Hp,SqT K H a (ks.map V.str)):aE P w K mg base 1 "names_in" ["steps"] mS:=by
 refine D.cal sc_names_in (fun _ _ _ _ _ _ us hl=>match us,hl with | [_],_=>rfl) (fun vs H Q E h=>by obtain⟨_,_,_,_,rfl,_⟩:=h; rfl) (fun f cdv A outer s H vs Q E hr h=>?_)
 obtain⟨sp,ads,Ps,g,rfl,hsp,hp,hok,hL,q⟩:=h
 have hlen:=aM hp
 refine⟨_,(ai (au 1 sc_names_in.nd qr)
   (ai (b_ PassesOwn.never rfl (cX K (pv 0)) (bg 2 sc_names_in.nd) (aj (b_ PassesOwn.never rfl (tf K Kr z_zip (aa (dF (eI K) (pv 2) (dL ac) eJ) (aa (am (Gi w K) (rh g_PARTS) (am (aw K) (pv 2) ac (fun _ _=>rfl)) (fun _ _=>rfl)) ae))) (jr K (n:=2) (cW (bg 3 sc_names_in.nd) (cW (bg 4 sc_names_in.nd) hG))) (aj (bj (aB aT (pv 4) av (aA _)) (aj (gU fm (jc (pv 1) (pv 3) (Ad hr)))) aY)))))
   (aj (az (dy (tY hr) z_list hJ (aa (pv 1) ae)))))),?_⟩
 walk_at "rd1";refine fun dp hdp=>?_
 generalize hH1:upd H dp _=H1
 have sm1:=gb hH1 hdp;have e1:=jp hH1;walk_at "nx";refine⟨⟨_,SqL.of (sm1 _ _ hsp)⟩,?_⟩
 refine cS (xs:=ads.map V.ref) (fun i σ H'=>∃ o2 o3 o4:Option V,σ=[some (.ref sp),some (.ref dp),o2,o3,o4]∧Same H H'∧H' dp=some (.dK (iY (fh ((Ps.take i).flatMap bZ)))))
  ⟨none,none,none,rfl,sm1,e1⟩ (fun i σ H' _ h=>by obtain⟨_,_,_,_,sm,_⟩:=h; exact SqL.of (sm _ _ hsp)) ?_ ?_
 ·rintro i v σ H' hv ⟨o2,o3,o4,rfl,sm,hd⟩
  have hi:i<ads.length:=by have:=(List.getElem?_eq_some_iff.mp hv).1; simpa using this
  rw[List.getElem?_map,List.getElem?_eq_getElem hi]at hv
  cases hv;obtain⟨s,hs,st⟩:=b7 hp (List.getElem?_eq_getElem hi)
  obtain⟨kind,xs,ks,hd1,hd2,hd3,hd4,hd5⟩:=vt st (hok s (List.mem_of_getElem? hs))
  obtain⟨ka,hka,hks⟩:=qk kind ks hd2
  have hsn:=lF bZ hs;have hfl:=tS bZ Ps (i+1);rw[hsn]at hfl ⊢
  have hded:fh ((Ps.take i).flatMap bZ++bZ s)=(bZ s).foldl gu (fh ((Ps.take i).flatMap bZ)):=by unfold fh; rw[List.foldl_append]
  rw[hded];have hac:=g0 ((Ps.take i).flatMap bZ) [];rw[List.length_append]at hfl
  rw[List.length_nil]at hac
  have hac':(fh ((Ps.take i).flatMap bZ)).length≤((Ps.take i).flatMap bZ).length:=by unfold fh; omega
  generalize fh ((Ps.take i).flatMap bZ)=acc at hd hac' ⊢;have hat:SqT K H' ads[i] (.str kind::xs):=SqT.of (sm _ _ hd1)
  walk_at "rd1";refine eY hat fun p2 H2 sm2 h2=>?_
  have e1:di (V.str kind::xs) (some 1) none=xs:=gK _ 1
  rw[e1]at h2
  walk_at "rd1";refine⟨_,_,.inr (hat.same sm2),h8,dP,kvs,kind,.ref ka,rfl,rfl,m,hka,?_⟩
  refine⟨p2,ka,rfl,⟨_,h2⟩,⟨_,hks _⟩,?_⟩
  refine mh (xs:=xs) (ys:=ks.map V.str) (fun j σ H'=>∃ o3 o4:Option V,σ=[some (.ref sp),some (.ref dp),some (.ref ads[i]),o3,o4]∧Same H H'∧SqT K H' p2 xs∧H' dp=some (.dK (iY ((cu (xs.take j) (ks.take j)).foldl gu acc))))
   (by rw[List.length_map]; exact hd3) ⟨o3,o4,rfl,sm.trans sm2,h2,sm2 _ _ hd⟩ (fun j σ H' _ h=>by obtain⟨_,_,_,_,z1,_⟩:=h; exact⟨z1,hks _⟩) ?_ ?_
  ·rintro j x y t σ H3 hx hy ⟨o3,o4,rfl,sm3,h3,hd3'⟩ ht
   have hjx:j<xs.length:=(List.getElem?_eq_some_iff.mp hx).1
   have hjk:j<ks.length:=by omega
   have hkj:ks[j]? = some ks[j]:=List.getElem?_eq_getElem hjk
   rw[List.getElem?_map,hkj]at hy
   cases hy;have ht1:xs.take (j+1)=xs.take j++[x]:=by rw[List.take_add_one,hx]; rfl
   have ht2:ks.take (j+1)=ks.take j++[ks[j]]:=by rw[List.take_add_one,hkj]; rfl
   have hpa:=pO (xs:=xs.take j) (ks:=ks.take j) x ks[j] (by rw[List.length_take,List.length_take,hd3])
   have hpl:=nA xs ks j hd3;rw[hd5]at hpl
   have hfl2:=g0 (cu (xs.take j) (ks.take j)) acc;rw[ht1,ht2,hpa];have htx:=hd4 j x hx;rw[hkj]at htx
   generalize ks[j]=kj at hpa htx ⊢;generalize cu (xs.take j) (ks.take j)=pk at hd3' hpl hfl2 ⊢;have st:=ah ht (.tup [x,V.str kj]);have et:upd H3 t (.tup [x,V.str kj]) t=some (.tup [x,V.str kj]):=af
   generalize upd H3 t (.tup [x,V.str kj])=H4 at st et ⊢;walk_at "rd1";refine⟨t,_,rfl,SqT.of et,rfl,?_⟩
   walk_at "rd1";refine bd (fun c=>?_) (fun c=>?_)
   ·subst c
    obtain⟨z,rfl⟩:=htx rfl
    have hd4':=st _ _ hd3';refine⟨dp,_,.inr z,rfl,rfl,hd4',by unfold iY; rw[List.length_map]; exact b9 (by omega),?_⟩
    rw[AT];refine⟨_,_,rfl,(sm3.trans st).upd hdp _,zi (h3.same st) hd4',?_⟩
    rw[af,List.foldl_append]; rfl
   ·have hno:cu [x] [kj]=[]:=by
     cases x <;> simp[cu,c]
    rw[hno,List.append_nil];exact⟨_,_,rfl,sm3.trans st,h3.same st,st _ _ hd3'⟩
  ·rintro σ H3 ⟨o3,o4,rfl,sm3,h3,hd3'⟩
   rw[List.take_length,List.take_of_length_le (by omega),hd5]at hd3'
   exact⟨_,_,_,rfl,sm3,hd3'⟩
 ·rintro σ H' ⟨o2,o3,o4,rfl,sm,hd⟩
  walk_at "nx";rw[List.length_map,List.take_of_length_le (by omega)]at hd
  have hac:=g0 (Ps.flatMap bZ) [];rw[List.length_nil]at hac
  refine⟨_,hd,by unfold iY fh; rw[List.length_map]; omega,fun l hl=>q l _ (sm.trans (ah hl _)) (sm.free hl) ?_⟩
  rw[af];unfold iY;rw[List.map_map]; rfl
def ng:Sp:=fun vs H Q _=>∃ (p:Addr) (T:List ap) (S:Addr→Prop),vs=[.ref p]∧ProgAt S 10 H p T∧iL 10 T∧(cz 10 T).length≤1000∧((cz 10 T).flatMap bZ).length≤5000∧
 ∀ (q:Addr) (H':Hp),Same H H'→H q=none→H' q=some (.lst ((fh ((cz 10 T).flatMap bZ)).map V.str))→Q (.ref q) H'
theorem pP:∀ (d:Nat) {T:List ap},iL d T→∀ s∈cz d T,∃ g:List ap→Prop,fz g s
 | 0,_,h,_,_=>h.elim
 | d+1,T,ok,s,hs=>by
  obtain⟨u,hu,hs⟩:=List.mem_flatMap.mp hs
  have o:=ok u hu;rcases List.mem_cons.mp hs with rfl | hs
  ·exact⟨_,o⟩
  obtain⟨b,hb,hs⟩:=List.mem_flatMap.mp hs
  refine pP d (T:=b) ?_ s hs
  cases u with
  | plain ws=>simp[dM]at hb
  | lend x y c=>
   have:b=c:=by simpa [dM] using hb
   subst this; exact o
  | ite n c e=>
   obtain⟨o1,o2⟩:=o
   have:b=c∨b=e:=by simpa [dM] using hb
   rcases this with rfl | rfl
   ·exact o1
   ·exact o2
  | whl n c=>
   have:b=c:=by simpa [dM] using hb
   subst this; exact o
theorem y7:∀ {s:ap} {g:List ap→Prop},fz g s→fz (fun _=>True) s
 | .plain _,_,h=>h
 | .lend _ _ _,_,_=>trivial
 | .ite _ _ _,_,_=>⟨trivial,trivial⟩
 | .whl _ _,_,_=>trivial
theorem uS(D:DefAt K mg "names_of" cN) (c_names_in:aE P w K mg base 1 "names_in" ["steps"] mS) (c_steps_within:aE P w K mg base 14 "steps_within" ["program"] (qm 10)):aE P w K mg base 15 "names_of" ["program"] ng:=by
 refine D.cal q9 (fun _ _ _ _ _ _ us hl=>match us,hl with | [_],_=>rfl) (fun vs H Q E h=>by obtain⟨_,_,_,rfl,_⟩:=h; rfl) (fun f cdv A outer s H vs Q E hr h=>?_)
 obtain⟨p,T,S,rfl,hp,ok,h1,h2,q⟩:=h
 refine⟨_,(aj (az (ay c_names_in hr (aa (ay c_steps_within hr (aa (pv 0) ae) (hle:=by omega)) ae) (hle:=by omega)))),?_⟩
 walk_at "rd1";refine⟨p,T,S,rfl,hp,ok,by omega,fun sp H1 ads sm1 hsp hl1 hp1=>?_⟩
 walk_at "rd1";refine⟨sp,ads,cz 10 T,fun _=>True,rfl,hl1,hp1,fun s hs=>let ⟨g,z⟩:=pP 10 ok s hs; y7 z,h2,fun r H2 sm2 hr2 hl2=>?_⟩
 exact q r H2 (sm1.trans sm2) (sm1.free hr2) hl2
theorem om{ws:List Str}(h:fg ws):(ws.headD "" = "do" → ws.length=3)∧ei ws=bZ (.plain ws):=by
 cases h with
 | opn x=>exact⟨fun c=>absurd c (by show ¬ (Str.ofString "open" = Str.ofString "do"); decide +kernel),by unfold ei; simp only[bZ]; rw[if_neg (by show ¬ (Str.ofString "open" = Str.ofString "do"); decide +kernel),if_neg (by show ¬ (Str.ofString "open" = Str.ofString "do"); decide +kernel)]⟩
 | drp x=>exact⟨fun c=>absurd c (by show ¬ (Str.ofString "drop" = Str.ofString "do"); decide +kernel),by unfold ei; simp only[bZ]; rw[if_neg (by show ¬ (Str.ofString "drop" = Str.ofString "do"); decide +kernel),if_neg (by show ¬ (Str.ofString "drop" = Str.ofString "do"); decide +kernel)]⟩
 | cpy x y=>exact⟨fun c=>absurd c (by show ¬ (Str.ofString "copy" = Str.ofString "do"); decide +kernel),by unfold ei; simp only[bZ]; rw[if_neg (by show ¬ (Str.ofString "copy" = Str.ofString "do"); decide +kernel),if_neg (by show ¬ (Str.ofString "copy" = Str.ofString "do"); decide +kernel)]⟩
 | tie x y=>exact⟨fun c=>absurd c (by show ¬ (Str.ofString "tie" = Str.ofString "do"); decide +kernel),by unfold ei; simp only[bZ]; rw[if_neg (by show ¬ (Str.ofString "tie" = Str.ofString "do"); decide +kernel),if_neg (by show ¬ (Str.ofString "tie" = Str.ofString "do"); decide +kernel)]⟩
 | doo u x=>exact⟨fun _=>rfl,by unfold ei; simp only[bZ]; rw[if_pos (by rfl),if_pos (by rfl)]; rfl⟩
theorem Bb{f g:List ap→Prop}{N:Str→Prop}{pr:List ap→List ap}(hf:∀ b,g b→(∀ n∈(pr b).flatMap bZ,N n)→f b):∀ (s:ap),fz g s→(∀ n∈(fj pr s).flatMap bZ,N n)→As f N s
 | .plain ws,ok,h=>by
  obtain⟨h1,h2⟩:=om ok
  refine⟨h1,fun n hn=>h n ?_⟩
  rw[h2]at hn
  exact List.mem_flatMap.mpr ⟨.plain ws,List.mem_cons_self,hn⟩
 | .lend x y b,ok,h=>by
  refine⟨h x (List.mem_flatMap.mpr ⟨.lend x y b,List.mem_cons_self,by simp[bZ]⟩),h y (List.mem_flatMap.mpr ⟨.lend x y b,List.mem_cons_self,by simp[bZ]⟩),hf b ok fun n hn=>h n ?_⟩
  obtain⟨s,hs,hn⟩:=List.mem_flatMap.mp hn
  exact List.mem_flatMap.mpr ⟨s,List.mem_cons_of_mem _ (List.mem_flatMap.mpr ⟨b,by simp[dM],hs⟩),hn⟩
 | .ite m b c,ok,h=>by
  refine⟨hf b ok.1 fun n hn=>h n ?_,hf c ok.2 fun n hn=>h n ?_⟩
  ·obtain⟨s,hs,hn⟩:=List.mem_flatMap.mp hn
   exact List.mem_flatMap.mpr ⟨s,List.mem_cons_of_mem _ (List.mem_flatMap.mpr ⟨b,by simp[dM],hs⟩),hn⟩
  ·obtain⟨s,hs,hn⟩:=List.mem_flatMap.mp hn
   exact List.mem_flatMap.mpr ⟨s,List.mem_cons_of_mem _ (List.mem_flatMap.mpr ⟨c,by simp[dM],hs⟩),hn⟩
 | .whl m b,ok,h=>hf b ok fun n hn=>h n (by
   obtain⟨s,hs,hn⟩:=List.mem_flatMap.mp hn
   exact List.mem_flatMap.mpr ⟨s,List.mem_cons_of_mem _ (List.mem_flatMap.mpr ⟨b,by simp[dM],hs⟩),hn⟩)
theorem xJ{N:Str→Prop}:∀ (d:Nat) (T:List ap),iL d T→(∀ n∈(cz d T).flatMap bZ,N n)→r_ N d T
 | 0,_,h,_=>h
 | d+1,T,ok,h=>fun s hs=>Bb (fun b hb hn=>xJ d b hb hn) s (ok s hs) fun n hn=>h n (by
   obtain⟨s',hs',hn⟩:=List.mem_flatMap.mp hn
   exact List.mem_flatMap.mpr ⟨s',List.mem_flatMap.mpr ⟨s,hs,hs'⟩,hn⟩)
end
def e_(x:Str):Prop:=32∉x.cps.toList
def ie(f:List ap→Prop):ap→Prop
 | .plain ws=>fv ws∧∀ x∈ws,e_ x
 | .lend x y b=>e_ x∧e_ y∧f b
 | .ite n b c=>n.natAbs<10 ^ 61∧f b∧f c
 | .whl n b=>n.natAbs<10 ^ 61∧f b
def dn:Nat→List ap→Prop
 | 0,_=>False
 | d+1,T=>∀ s∈T,ie (dn d) s
theorem oV{d:Nat}{T:List ap}{s:ap}(h:dn (d+1) T)(hs:ie (dn d) s):dn (d+1) (T++[s]):=fun u hu=>(List.mem_append.mp hu).elim (h u) (fun z=>by rw[List.mem_singleton.mp z]; exact hs)
theorem j8(d:Nat):dn (d+1) []:=fun s hs=>by cases hs
section
variable(W:List (List Str))(pt:Nat→Nat)(fs:Nat→Nat)(sl:Str→V)(lent:Nat→V)
end
theorem wW{f g:List ap→Prop}(h:∀ b,f b→g b):∀ {s:ap},ie f s→fz g s
 | .plain ws,⟨px,_⟩=>by
  show fg ws
  cases px with
  | op x=>exact .opn x
  | dr x=>exact .drp x
  | dd u x=>exact .doo u x
  | cp x y=>exact .cpy x y
  | ti x y=>exact .tie x y
 | .lend _ _ _,z=>h _ z.2.2
 | .ite _ _ _,z=>⟨h _ z.2.1,h _ z.2.2⟩
 | .whl _ _,z=>h _ z.2
theorem ql:∀ {d:Nat} {T:List ap},dn d T→iL d T
 | 0,_,h=>h
 | _+1,_,h=>fun s hs=>wW (fun _ z=>ql z) (h s hs)
theorem AS{l:List Str}{n:Str}(h:n∈l):n∈fh l:=by
 unfold fh
 have go:∀ (l acc:List Str),n∈acc∨n∈l→n∈l.foldl gu acc:=fun l=>by
  induction l with
  | nil=>intro acc h; exact h.elim id (fun z=>by cases z)
  | cons x l ih=>
   intro acc h
   refine ih _ ?_
   unfold gu;rcases h with h | h
   ·left; split
    ·exact h
    ·exact List.mem_append_left _ h
   ·rcases List.mem_cons.mp h with rfl | h
    ·left; split
     ·assumption
     ·exact List.mem_append_right _ List.mem_cons_self
    ·exact .inr h
 exact go l [] (.inr h)
theorem qQ{ws:List Str}(px:fv ws):ws.headD "" = "open" ∨ ws.headD "" = "drop" ∨ ws.headD "" = "do" ∨ ws.headD "" = "copy" ∨ ws.headD "" = "tie" := by
 cases px
 ·exact .inl rfl
 ·exact .inr (.inl rfl)
 ·exact .inr (.inr (.inl rfl))
 ·exact .inr (.inr (.inr (.inl rfl)))
 ·exact .inr (.inr (.inr (.inr rfl)))
set_option genSizeOf false in
inductive Al where
 | top
 | lend (x y:Str)
 | ite (n:Int)
 | whl (n:Int)
set_option genInjectivity false in
set_option genSizeOf false in
structure rA where
 hd:Al
 a:List ap
 b:List ap
 s:Bool
def dX:Al→List V
 | .top=>[.str "top"]
 | .lend x y=>[.str "lend", .str x,.str y]
 | .ite n=>[.str "if", .int n]
 | .whl n=>[.str "while", .int n]
def gG(f:rA):ap:=match f.hd with
 | .top=>.plain []
 | .lend x y=>.lend x y f.a
 | .ite n=>.ite n f.a f.b
 | .whl n=>.whl n f.a
def bK(f:rA)(s:ap):rA:=if f.s=true then { f with b:=f.b++[s] } else { f with a:=f.a++[s] }
set_option genInjectivity false in
set_option genSizeOf false in
structure FrX where
 fa:Addr
 a1:Addr
 a2:Addr
 f:rA
def eQ(fs:List FrX):List Addr:=fs.flatMap fun x=>[x.fa,x.a1,x.a2]
def iH(b:Bool):V:=.int (if b=true then 1 else 0)
def FrAt(S:Addr→Prop)(H:Hp)(d:Nat)(x:FrX):Prop:=∃ (ha:Addr) (as1 as2:List Addr),H x.fa=some (.lst [.ref ha,.ref x.a1,.ref x.a2,iH x.f.s])∧H ha=some (.tup (dX x.f.hd))∧H x.a1=some (.lst (as1.map V.ref))∧H x.a2=some (.lst (as2.map V.ref))∧Paired (stpAt (ProgAt S d H) H) as1 x.f.a∧Paired (stpAt (ProgAt S d H) H) as2 x.f.b
structure PInv (H0 H:Hp) (pp:Addr) (fs:List FrX) (S:Addr→Prop):Prop where
 sm:Same H0 H
 pile:H pp=some (.lst (fs.map fun x=>V.ref x.fa))
 fr:∀ k x,fs[k]? = some x→FrAt S H (9 - k) x
 nd:(pp::eQ fs).Nodup
 ns:∀ b∈pp::eQ fs,¬ S b
 nw:∀ b∈pp::eQ fs,H0 b=none
 sn:∀ b,S b→H0 b=none∧∃ xs,H b=some (.lst xs)
theorem rZ{S:Addr→Prop}{b q:Addr}(hb:S b)(hq:¬ S q):b≠q:=fun e=>hq (e ▸ hb)
theorem Fb{L:List Addr}{q p:Addr}(hq:q∈L)(hp:p∉L):p≠q:=fun e=>hp (e ▸ hq)
theorem cG{S S':Addr→Prop}{H H':Hp}{d:Nat}(ht:∀ b xs,H b=some (.tup xs)→H' b=some (.tup xs))(hl:∀ b xs,S b→H b=some (.lst xs)→H' b=some (.lst xs))(hS:∀ b,S b→S' b){as:List Addr}{T:List ap}(h:Paired (stpAt (ProgAt S d H) H) as T):Paired (stpAt (ProgAt S' d H') H') as T:=
 Paired.imp' (fun a s z=>stpAt.imp ht (fun q b y=>ProgAt.imp ht hl hS d y) z) h
theorem FrAt.imp{S S':Addr→Prop}{H H':Hp}{d:Nat}{x:FrX}(h:FrAt S H d x)(ht:∀ b xs,H b=some (.tup xs)→H' b=some (.tup xs))(hl:∀ b xs,S b→H b=some (.lst xs)→H' b=some (.lst xs))(hS:∀ b,S b→S' b)(ho:∀ b o,(b=x.fa∨b=x.a1∨b=x.a2)→H b=some o→H' b=some o):FrAt S' H' d x:=by
 obtain⟨ha,as1,as2,h1,h2,h3,h4,h5,h6⟩:=h
 exact⟨ha,as1,as2,ho _ _ (.inl rfl) h1,ht _ _ h2,ho _ _ (.inr (.inl rfl)) h3,ho _ _ (.inr (.inr rfl)) h4,cG ht hl hS h5,cG ht hl hS h6⟩
theorem eR{fs:List FrX}{x:FrX}(h:x∈fs):x.fa∈eQ fs∧x.a1∈eQ fs∧x.a2∈eQ fs:=by
 unfold eQ;refine⟨?_,?_,?_⟩ <;> exact List.mem_flatMap.mpr ⟨x,h,by simp⟩
theorem eL(fs gs:List FrX):eQ (fs++gs)=eQ fs++eQ gs:=List.flatMap_append
theorem PInv.alloc{H0 H H':Hp}{pp:Addr}{fs:List FrX}{S:Addr→Prop}(I:PInv H0 H pp fs S)(s:Same H H'):PInv H0 H' pp fs S:=
 ⟨I.sm.trans s,s _ _ I.pile,fun k x e=>(I.fr k x e).imp (fun b xs z=>s _ _ z) (fun b xs _ z=>s _ _ z) (fun _ z=>z) (fun b o _ z=>s _ _ z),I.nd,I.ns,I.nw,fun b hb=>⟨(I.sn b hb).1,by obtain⟨xs,z⟩:=(I.sn b hb).2; exact⟨xs,s _ _ z⟩⟩⟩
theorem PInv.free{H0 H:Hp}{pp:Addr}{fs:List FrX}{S:Addr→Prop}(I:PInv H0 H pp fs S){t:Addr}(h:H t=none):H0 t=none∧¬ S t:=by
 refine⟨I.sm.free h,fun z=>?_⟩
 obtain⟨_,xs,e⟩:=I.sn t z
 rw[h]at e; cases e
theorem PInv.notop{H0 H:Hp}{pp:Addr}{fs:List FrX}{S:Addr→Prop}(I:PInv H0 H pp fs S){t:Addr}(h:H t=none):t∉pp::eQ fs:=fun z=>by
 rcases List.mem_cons.mp z with rfl | z
 ·rw[I.pile]at h; cases h
 ·obtain⟨x,hx,hm⟩:=List.mem_flatMap.mp z
  obtain⟨k,hk,rfl⟩:=List.mem_iff_getElem.mp hx
  obtain⟨ha,as1,as2,h1,h2,h3,h4,_⟩:=I.fr k _ (List.getElem?_eq_getElem hk)
  simp only[List.mem_cons,List.not_mem_nil,or_false]at hm
  rcases hm with e | e | e <;> rw[e]at h
  ·rw[h1]at h; cases h
  ·rw[h3]at h; cases h
  ·rw[h4]at h; cases h
theorem PInv.write{H0 H:Hp}{pp:Addr}{gs:List FrX}{x x':FrX}{S:Addr→Prop}(I:PInv H0 H pp (gs++[x]) S){q:Addr}{ys:List V}(hq:q=x.fa∨q=x.a1∨q=x.a2)(e1:x'.fa=x.fa)(e2:x'.a1=x.a1)(e3:x'.a2=x.a2)(hx:FrAt S (upd H q (.lst ys)) (9 - gs.length) x'):PInv H0 (upd H q (.lst ys)) pp (gs++[x']) S:=by
 have hop:eQ (gs++[x'])=eQ (gs++[x]):=by
  rw[eL,eL];show _++[x'.fa,x'.a1,x'.a2]=_++[x.fa,x.a1,x.a2]
  rw[e1,e2,e3]
 have hxm:x∈gs++[x]:=List.mem_append_right _ List.mem_cons_self
 have hqm:q∈eQ (gs++[x]):=by
  obtain⟨m1,m2,m3⟩:=eR hxm
  rcases hq with rfl | rfl | rfl <;> assumption
 have hqS:¬ S q:=I.ns q (List.mem_cons_of_mem _ hqm)
 have hq0:H0 q=none:=I.nw q (List.mem_cons_of_mem _ hqm)
 obtain⟨ha,as1,as2,h1,h2,h3,h4,_⟩:=I.fr gs.length x (by rw[List.getElem?_append_right (Nat.le_refl _),Nat.sub_self]; rfl)
 have hql:∃ zs,H q=some (.lst zs):=by
  rcases hq with rfl | rfl | rfl
  ·exact⟨_,h1⟩
  ·exact⟨_,h3⟩
  ·exact⟨_,h4⟩
 obtain⟨zs,hqz⟩:=hql
 have ht:∀ b xs,H b=some (.tup xs)→upd H q (.lst ys) b=some (.tup xs):=fun b xs z=>by rw[ax (cP z hqz (fun y=>nomatch y))]; exact z
 have hl:∀ b xs,S b→H b=some (.lst xs)→upd H q (.lst ys) b=some (.lst xs):=fun b xs hb z=>by rw[ax (rZ hb hqS)]; exact z
 have hnd:=I.nd;rw[List.nodup_cons]at hnd
 refine⟨I.sm.upd hq0 _,?_,fun k y hy=>?_,by rw[hop]; exact I.nd,by rw[hop]; exact I.ns,by rw[hop]; exact I.nw,fun b hb=>⟨(I.sn b hb).1,?_⟩⟩
 ·rw[ax (Fb hqm hnd.1),I.pile,List.map_append,List.map_append]
  show some (HO.lst (_++[V.ref x.fa]))=some (HO.lst (_++[V.ref x'.fa]))
  rw[e1]
 ·by_cases hk:k<gs.length
  ·rw[List.getElem?_append_left hk]at hy
   refine(I.fr k y (by rw[List.getElem?_append_left hk]; exact hy)).imp ht hl (fun _ z=>z) (fun b o hb z=>?_)
   have hbm:b∈eQ gs:=by
    obtain⟨m1,m2,m3⟩:=eR (List.mem_of_getElem? hy)
    rcases hb with rfl | rfl | rfl <;> assumption
   have hqx:q∈eQ [x]:=by
    obtain⟨m1,m2,m3⟩:=eR (fs:=[x]) (x:=x) List.mem_cons_self
    rcases hq with rfl | rfl | rfl <;> assumption
   have:=hnd.2
   rw[eL,List.nodup_append]at this
   rw[ax (this.2.2 b hbm q hqx)]; exact z
  ·rw[List.getElem?_append_right (by omega)]at hy
   have hk0:k - gs.length=0:=by have:=(List.getElem?_eq_some_iff.mp hy).1; simp at this; omega
   rw[hk0]at hy
   cases hy;rw[show k=gs.length by omega]
   exact hx
 ·obtain⟨xs,z⟩:=(I.sn b hb).2
  exact⟨xs,hl b xs hb z⟩
theorem df{α : Type}(gs:List α)(x:α):(gs++[x])[gs.length]? = some x:=by rw[List.getElem?_append_right (Nat.le_refl _),Nat.sub_self]; rfl
theorem PInv.put{H0 H:Hp}{pp:Addr}{gs:List FrX}{x:FrX}{S:Addr→Prop}(I:PInv H0 H pp (gs++[x]) S){t:Addr}{st:ap}(ht:stpAt (ProgAt S (9 - gs.length) H) H t st) :
  ∃ (q:Addr) (as:List Addr),q=(if x.f.s=true then x.a2 else x.a1)∧H q=some (.lst (as.map V.ref))∧as.length=(if x.f.s=true then x.f.b else x.f.a).length∧PInv H0 (upd H q (.lst (as.map V.ref++[.ref t]))) pp (gs++[{ x with f:=bK x.f st }]) S:=by
 obtain⟨ha,as1,as2,h1,h2,h3,h4,h5,h6⟩:=I.fr gs.length x (df gs x)
 have hxm:x∈gs++[x]:=List.mem_append_right _ List.mem_cons_self
 have hnd:=I.nd;rw[List.nodup_cons,eL,List.nodup_append]at hnd
 have h3n:[x.fa,x.a1,x.a2].Nodup:=hnd.2.2.1
 simp only[List.nodup_cons,List.mem_cons,List.not_mem_nil,or_false,not_or,not_false_eq_true,List.nodup_nil,and_true]at h3n
 obtain⟨⟨n1,n2⟩,n3⟩:=h3n
 obtain⟨m1,m2,m3⟩:=eR hxm
 cases hs:x.f.s with
 | true=>
  refine⟨x.a2,as2,rfl,h4,aM h6,I.write (.inr (.inr rfl)) rfl rfl rfl ?_⟩
  have hqS:¬ S x.a2:=I.ns _ (List.mem_cons_of_mem _ m3)
  have kt:∀ b xs,H b=some (.tup xs)→upd H x.a2 (.lst (as2.map V.ref++[.ref t])) b=some (.tup xs):=fun b xs z=>by rw[ax (cP z h4 (fun y=>nomatch y))]; exact z
  have kl:∀ b xs,S b→H b=some (.lst xs)→upd H x.a2 (.lst (as2.map V.ref++[.ref t])) b=some (.lst xs):=fun b xs hb z=>by rw[ax (rZ hb hqS)]; exact z
  refine⟨ha,as1,as2++[t],?_,kt _ _ ?_,?_,by rw[af,List.map_append]; rfl,?_,?_⟩
  ·show upd H x.a2 _ x.fa=some (.lst [.ref ha,.ref x.a1,.ref x.a2,iH (bK x.f st).s])
   rw[ax n2,h1]; unfold bK; rw[if_pos hs]
  ·show H ha=some (.tup (dX (bK x.f st).hd))
   rw[h2]; unfold bK; rw[if_pos hs]
  ·show upd H x.a2 _ x.a1=_
   rw[ax n3]; exact h3
  ·show Paired _ as1 (bK x.f st).a
   unfold bK; rw[if_pos hs]
   exact cG kt kl (fun _ z=>z) h5
  ·show Paired _ (as2++[t]) (bK x.f st).b
   unfold bK; rw[if_pos hs]
   exact cG kt kl (fun _ z=>z) (dZ h6 (.cons ht .nil))
 | false=>
  refine⟨x.a1,as1,rfl,h3,aM h5,I.write (.inr (.inl rfl)) rfl rfl rfl ?_⟩
  have hqS:¬ S x.a1:=I.ns _ (List.mem_cons_of_mem _ m2)
  have kt:∀ b xs,H b=some (.tup xs)→upd H x.a1 (.lst (as1.map V.ref++[.ref t])) b=some (.tup xs):=fun b xs z=>by rw[ax (cP z h3 (fun y=>nomatch y))]; exact z
  have kl:∀ b xs,S b→H b=some (.lst xs)→upd H x.a1 (.lst (as1.map V.ref++[.ref t])) b=some (.lst xs):=fun b xs hb z=>by rw[ax (rZ hb hqS)]; exact z
  have hs':¬ x.f.s=true:=by rw[hs]; decide
  refine⟨ha,as1++[t],as2,?_,kt _ _ ?_,by rw[af,List.map_append]; rfl,?_,?_,?_⟩
  ·show upd H x.a1 _ x.fa=some (.lst [.ref ha,.ref x.a1,.ref x.a2,iH (bK x.f st).s])
   rw[ax n1,h1]; unfold bK; rw[if_neg hs']
  ·show H ha=some (.tup (dX (bK x.f st).hd))
   rw[h2]; unfold bK; rw[if_neg hs']
  ·show upd H x.a1 _ x.a2=_
   rw[ax (Ne.symm n3)]; exact h4
  ·show Paired _ (as1++[t]) (bK x.f st).a
   unfold bK; rw[if_neg hs']
   exact cG kt kl (fun _ z=>z) (dZ h5 (.cons ht .nil))
  ·show Paired _ as2 (bK x.f st).b
   unfold bK; rw[if_neg hs']
   exact cG kt kl (fun _ z=>z) h6
theorem PInv.push{H0 H:Hp}{pp:Addr}{fs:List FrX}{S:Addr→Prop}(I:PInv H0 H pp fs S){x:FrX}(hx:FrAt S H (9 - fs.length) x)(n1:[x.fa,x.a1,x.a2].Nodup)(hf:∀ b∈[x.fa,x.a1,x.a2],b∉pp::eQ fs∧¬ S b∧H0 b=none):PInv H0 (upd H pp (.lst (fs.map (fun x=>V.ref x.fa)++[.ref x.fa]))) pp (fs++[x]) S:=by
 have hpS:¬ S pp:=I.ns pp List.mem_cons_self
 have hp0:H0 pp=none:=I.nw pp List.mem_cons_self
 have hnd:=I.nd;rw[List.nodup_cons]at hnd
 have kt:∀ b xs,H b=some (.tup xs)→upd H pp (.lst (fs.map (fun x=>V.ref x.fa)++[.ref x.fa])) b=some (.tup xs):=fun b xs z=>by rw[ax (cP z I.pile (fun y=>nomatch y))]; exact z
 have kl:∀ b xs,S b→H b=some (.lst xs)→upd H pp (.lst (fs.map (fun x=>V.ref x.fa)++[.ref x.fa])) b=some (.lst xs):=fun b xs hb z=>by rw[ax (rZ hb hpS)]; exact z
 have ko:∀ b o,b≠pp→H b=some o→upd H pp (.lst (fs.map (fun x=>V.ref x.fa)++[.ref x.fa])) b=some o:=fun b o hb z=>by rw[ax hb]; exact z
 have hop:eQ (fs++[x])=eQ fs++[x.fa,x.a1,x.a2]:=by rw[eL]; rfl
 refine⟨I.sm.upd hp0 _,by rw[af,List.map_append]; rfl,fun k y hy=>?_,?_,fun b hb=>?_,fun b hb=>?_,fun b hb=>⟨(I.sn b hb).1,by obtain⟨xs,z⟩:=(I.sn b hb).2; exact⟨xs,kl b xs hb z⟩⟩⟩
 ·by_cases hk:k<fs.length
  ·rw[List.getElem?_append_left hk]at hy
   refine(I.fr k y hy).imp kt kl (fun _ z=>z) (fun b o hb z=>ko b o (fun e=>?_) z)
   obtain⟨m1,m2,m3⟩:=eR (List.mem_of_getElem? hy)
   rcases hb with h | h | h
   ·exact hnd.1 (by rw[← e,h]; exact m1)
   ·exact hnd.1 (by rw[← e,h]; exact m2)
   ·exact hnd.1 (by rw[← e,h]; exact m3)
  ·rw[List.getElem?_append_right (by omega)]at hy
   have hk0:k - fs.length=0:=by have:=(List.getElem?_eq_some_iff.mp hy).1; simp at this; omega
   rw[hk0]at hy
   cases hy;rw[show k=fs.length by omega]
   refine hx.imp kt kl (fun _ z=>z) (fun b o hb z=>ko b o (fun e=>?_) z)
   have hb':b∈[x.fa,x.a1,x.a2]:=by rcases hb with h | h | h <;> rw[h] <;> simp
   exact(hf b hb').1 (by rw[e]; exact List.mem_cons_self)
 ·rw[hop,← List.cons_append,List.nodup_append]
  exact⟨I.nd,n1,fun a ha b hb e=>(hf b hb).1 (e ▸ ha)⟩
 ·rw[hop,← List.cons_append]at hb
  rcases List.mem_append.mp hb with h | h
  ·exact I.ns b h
  ·exact(hf b h).2.1
 ·rw[hop,← List.cons_append]at hb
  rcases List.mem_append.mp hb with h | h
  ·exact I.nw b h
  ·exact(hf b h).2.2
theorem PInv.pop{H0 H:Hp}{pp:Addr}{gs:List FrX}{x:FrX}{S:Addr→Prop}(I:PInv H0 H pp (gs++[x]) S)(hg:gs.length≤8) :
  PInv H0 (upd H pp (.lst (gs.map fun x=>V.ref x.fa))) pp gs (fun b=>S b∨b=x.a1∨b=x.a2)∧ProgAt (fun b=>S b∨b=x.a1∨b=x.a2) (10 - gs.length) (upd H pp (.lst (gs.map fun x=>V.ref x.fa))) x.a1 x.f.a∧ProgAt (fun b=>S b∨b=x.a1∨b=x.a2) (10 - gs.length) (upd H pp (.lst (gs.map fun x=>V.ref x.fa))) x.a2 x.f.b:=by
 obtain⟨ha,as1,as2,h1,h2,h3,h4,h5,h6⟩:=I.fr gs.length x (df gs x)
 have hpS:¬ S pp:=I.ns pp List.mem_cons_self
 have hp0:H0 pp=none:=I.nw pp List.mem_cons_self
 have hnd:=I.nd;rw[eL,← List.cons_append,List.nodup_append]at hnd
 obtain⟨d1,d2,d3⟩:=hnd
 have dx:∀ b∈pp::eQ gs,b≠x.a1∧b≠x.a2:=fun b hb=>⟨fun e=>d3 b hb x.a1 (by show _∈[x.fa,x.a1,x.a2]; simp) e,fun e=>d3 b hb x.a2 (by show _∈[x.fa,x.a1,x.a2]; simp) e⟩
 have kt:∀ b xs,H b=some (.tup xs)→upd H pp (.lst (gs.map fun x=>V.ref x.fa)) b=some (.tup xs):=fun b xs z=>by rw[ax (cP z I.pile (fun y=>nomatch y))]; exact z
 have kl:∀ b xs,S b→H b=some (.lst xs)→upd H pp (.lst (gs.map fun x=>V.ref x.fa)) b=some (.lst xs):=fun b xs hb z=>by rw[ax (rZ hb hpS)]; exact z
 have p1:=(dx pp List.mem_cons_self).1;have p2:=(dx pp List.mem_cons_self).2;have k3:upd H pp (.lst (gs.map fun x=>V.ref x.fa)) x.a1=some (.lst (as1.map V.ref)):=by rw[ax p1.symm]; exact h3
 have k4:upd H pp (.lst (gs.map fun x=>V.ref x.fa)) x.a2=some (.lst (as2.map V.ref)):=by rw[ax p2.symm]; exact h4
 have hxm:x∈gs++[x]:=List.mem_append_right _ List.mem_cons_self
 obtain⟨m1,m2,m3⟩:=eR hxm
 have e9:10 - gs.length=9 - gs.length+1:=by omega
 refine⟨⟨I.sm.upd hp0 _,af,fun k y hy=>?_,d1,fun b hb z=>?_,fun b hb=>?_,fun b hb=>?_⟩,?_,?_⟩
 ·have hk:=(List.getElem?_eq_some_iff.mp hy).1
  refine(I.fr k y (by rw[List.getElem?_append_left hk]; exact hy)).imp kt kl (fun _ z=>.inl z) (fun b o hb z=>?_)
  have hbm:b∈eQ gs:=by
   obtain⟨m1,m2,m3⟩:=eR (List.mem_of_getElem? hy)
   rcases hb with rfl | rfl | rfl <;> assumption
  rw[List.nodup_cons]at d1
  rw[ax (Fb hbm d1.1).symm]; exact z
 ·rcases z with z | z | z
  ·exact I.ns b (by rw[eL,← List.cons_append]; exact List.mem_append_left _ hb) z
  ·exact(dx b hb).1 z
  ·exact(dx b hb).2 z
 ·exact I.nw b (by rw[eL,← List.cons_append]; exact List.mem_append_left _ hb)
 ·rcases hb with hb | rfl | rfl
  ·exact⟨(I.sn b hb).1,by obtain⟨xs,z⟩:=(I.sn b hb).2; exact⟨xs,kl b xs hb z⟩⟩
  ·exact⟨I.nw _ (List.mem_cons_of_mem _ m2),_,k3⟩
  ·exact⟨I.nw _ (List.mem_cons_of_mem _ m3),_,k4⟩
 ·rw[e9]
  exact⟨.inr (.inl rfl),as1,k3,cG kt kl (fun _ z=>.inl z) h5⟩
 ·rw[e9]
  exact⟨.inr (.inr rfl),as2,k4,cG kt kl (fun _ z=>.inl z) h6⟩
section
variable{P:Program}{w:World}{K:PySem.W.Frag}{mg:Str→Option Value}{base:Heap}
def uH:Sp:=fun vs H Q _=>∃ (pp t:Addr) (H0:Hp) (gs:List FrX) (x:FrX) (S:Addr→Prop) (st:ap),vs=[.ref pp,.ref t]∧PInv H0 H pp (gs++[x]) S∧stpAt (ProgAt S (9 - gs.length) H) H t st∧x.f.a.length≤1000∧x.f.b.length≤1000∧gs.length≤100∧
 ∀ H':Hp,PInv H0 H' pp (gs++[{ x with f:=bK x.f st }]) S→Q .non H'
theorem fT{gs:List FrX}{x:FrX}:cC ((gs++[x]).map fun x=>V.ref x.fa) (-1)=some (.ref x.fa):=AQ (by rw[List.length_map,List.getElem?_map,List.length_append]; simp)
theorem DR(D:DefAt K mg "_law_put" dC):aE P w K mg base 1 "_law_put" ["_law_pile", "_law_step_here"] uH:=by
 refine D.cal (k:=0) tN (fun _ _ _ _ _ _ us hl=>match us,hl with | [_,_],_=>rfl) (fun vs H Q E h=>by obtain⟨_,_,_,_,_,_,_,rfl,_⟩:=h; rfl) (fun f cdv A outer s0 H vs Q E hr h=>?_)
 obtain⟨pp,t,H0,gs,x,S,st,rfl,I,ht,hl1,hl2,hgl,q⟩:=h
 refine⟨_,(aj (bJ (bV K PySem.F.plainAttrs_list PySem.F.slot_list_append PySem.F.type_list_append bP (am (aw K) (am (aw K) (pv 0) (d_ dI ac) (fun _ _=>rfl)) (ak aC ac (am (aw K) (am (aw K) (pv 0) (d_ dI ac) (fun _ _=>rfl)) ac (fun _ _=>rfl))) (fun _ _=>rfl)) (aa (pv 1) ae)))),?_⟩
 obtain⟨ha,as1,as2,h1,h2,h3,h4,h5,h6⟩:=I.fr gs.length x (df gs x)
 obtain⟨q0,as,hq,hqa,hal,I2⟩:=I.put ht
 walk_at "rd1";refine⟨_,_,.inl (SqL.of I.pile),fT,?_⟩
 walk_at "rd1";refine⟨_,_,.inl (SqL.of I.pile),fT,?_⟩
 walk_at "rd1";refine⟨_,_,.inl (SqL.of h1),aq (j:=3) rfl,?_⟩
 cases hs:x.f.s with
 | true=>
  rw[hs,if_pos rfl]at hq hal
  subst hq;rw[show iH true=V.int 1 from rfl];walk_at "rd1";refine⟨_,_,.inl (SqL.of h1),aq (j:=2) rfl,?_⟩
  walk_at "rd1";refine⟨⟨_,SqL.of hqa⟩,_,hqa,by rw[List.length_map,hal]; exact b9 (by omega),?_⟩
  exact q _ I2
 | false=>
  rw[hs,if_neg (by decide)]at hq hal
  subst hq;rw[show iH false=V.int 0 from rfl];walk_at "rd1";refine⟨_,_,.inl (SqL.of h1),aq (j:=1) rfl,?_⟩
  walk_at "rd1";refine⟨⟨_,SqL.of hqa⟩,_,hqa,by rw[List.length_map,hal]; exact b9 (by omega),?_⟩
  exact q _ I2
def rW:Sp:=fun vs H Q _=>∃ (pp:Addr) (H0:Hp) (gs:List FrX) (g x:FrX) (S:Addr→Prop),vs=[.ref pp]∧PInv H0 H pp (gs++[g]++[x]) S∧x.f.hd ≠ .top∧g.f.a.length≤1000∧g.f.b.length≤1000∧gs.length≤7∧
 ∀ (H':Hp) (S':Addr→Prop),PInv H0 H' pp (gs++[{ g with f:=bK g.f (gG x.f) }]) S'→Q .non H'
theorem zC(D:DefAt K mg "_law_close" bL) (c_law_put:aE P w K mg base 1 "_law_put" ["_law_pile", "_law_step_here"] uH):aE P w K mg base 2 "_law_close" ["_law_pile"] rW:=by
 refine D.cal (k:=1) sc_law_close (fun _ _ _ _ _ _ us hl=>match us,hl with | [_],_=>rfl) (fun vs H Q E h=>by obtain⟨_,_,_,_,_,_,rfl,_⟩:=h; rfl) (fun f cdv A outer s0 H vs Q E hr h=>?_)
 obtain⟨pp,H0,gs,g,x,S,rfl,I,hx,hl1,hl2,hgl,q⟩:=h
 refine⟨_,(ai (gU (Bv K PySem.F.plainAttrs_list PySem.F.slot_list_pop PySem.F.type_list_pop AG (pv 0)) (Bi K (n:=4) (cW (bg 1 sc_law_close.nd) (cW (bg 2 sc_law_close.nd) (cW (bg 3 sc_law_close.nd) (cW (bg 4 sc_law_close.nd) hG))))))
   (aj (bj (aB aT (am (aw K) (pv 1) ac (fun _ _=>rfl)) av (aA _)) (aj (bJ (ay c_law_put hr (aa (pv 0) (aa (ak (eV K) (pv 1) (aU (aa (pv 2) (aa (pv 3) ae)))) ae))))) (aj (bJ (ay c_law_put hr (aa (pv 0) (aa (ak (eV K) (pv 1) (aU (aa (pv 2) ae))) ae)))))))),?_⟩
 obtain⟨ha,as1,as2,h1,h2,h3,h4,h5,h6⟩:=I.fr (gs++[g]).length x (df (gs++[g]) x)
 obtain⟨I2,pa,pb⟩:=I.pop (by rw[List.length_append]; simp; omega)
 have hlen:(gs++[g]).length=gs.length+1:=by simp
 rw[hlen,show 10 - (gs.length+1)=9 - gs.length by omega]at pa pb
 walk_at "rd1";refine⟨⟨_,SqL.of I.pile⟩,_,_,I.pile,(by rw[List.map_append,List.length_append,List.getElem?_append_right (by simp)]; simp:_=some (V.ref x.fa)),?_⟩
 rw[List.map_append,List.map_cons,List.map_nil,List.dropLast_concat]
 have nxp:x.fa≠pp:=fun e=>by
  have:=I.nd
  rw[List.nodup_cons]at this
  exact this.1 (by rw[← e]; exact(eR (List.mem_append_right _ List.mem_cons_self)).1)
 have h1':upd H pp (.lst ((gs++[g]).map fun x=>V.ref x.fa)) x.fa=some (.lst [.ref ha,.ref x.a1,.ref x.a2,iH x.f.s]):=by rw[ax nxp]; exact h1
 have h2':upd H pp (.lst ((gs++[g]).map fun x=>V.ref x.fa)) ha=some (.tup (dX x.f.hd)):=by rw[ax (cP h2 I.pile (fun y=>nomatch y))]; exact h2
 generalize upd H pp (.lst ((gs++[g]).map fun x=>V.ref x.fa))=H1 at I2 pa pb h1' h2' ⊢
 rw[A_];refine⟨x.fa,_,rfl,SqL.of h1',rfl,?_⟩
 have hgg:FrX.mk g.fa g.a1 g.a2 (bK g.f (gG x.f))={ g with f:=bK g.f (gG x.f) }:=rfl
 cases hh:x.f.hd with
 | top=>exact absurd hh hx
 | ite n=>
  rw[hh]at h2'
  walk_at "rd1";walk_at "nx";refine⟨_,_,.inr (SqT.of h2'),(show cC (dX (.ite n)) 0=some (.str "if") from h8),?_⟩
  walk_at "rd1";refine⟨by decide,fun t1 ht1=>?_⟩
  have s2:=ah ht1 (.tup [.ref x.a1,.ref x.a2]);have e2:upd H1 t1 (.tup [.ref x.a1,.ref x.a2]) t1=some (.tup [.ref x.a1,.ref x.a2]):=af
  generalize upd H1 t1 (.tup [.ref x.a1,.ref x.a2])=H2 at s2 e2 ⊢;refine⟨_,_,SqT.of (s2 _ _ h2'),SqT.of e2,by simp[dX],aR (by simp[dX]),fun z=>by simp at z,fun _ t2 ht2=>?_⟩
  have s3:=ah ht2 (.tup (dX (.ite n)++[.ref x.a1,.ref x.a2]));have e3:upd H2 t2 (.tup (dX (.ite n)++[.ref x.a1,.ref x.a2])) t2=some (.tup [.str "if", .int n,.ref x.a1,.ref x.a2]):=af
  generalize upd H2 t2 (.tup (dX (.ite n)++[.ref x.a1,.ref x.a2]))=H3 at s3 e3 ⊢;have s13:=s2.trans s3;refine⟨pp,t2,H0,gs,g,_,gG x.f,rfl,I2.alloc s13,?_,hl1,hl2,by omega,fun H' I3=>q H' _ I3⟩
  unfold gG;rw[hh];exact⟨x.a1,x.a2,e3,pa.mono s13,pb.mono s13⟩
 | lend u v=>
  rw[hh]at h2'
  walk_at "rd1";walk_at "nx";refine⟨_,_,.inr (SqT.of h2'),(show cC (dX (.lend u v)) 0=some (.str "lend") from h8),?_⟩
  walk_at "rd1";rw[if_neg (by decide +kernel)]
  refine⟨by decide,fun t1 ht1=>?_⟩
  have s2:=ah ht1 (.tup [.ref x.a1]);have e2:upd H1 t1 (.tup [.ref x.a1]) t1=some (.tup [.ref x.a1]):=af
  generalize upd H1 t1 (.tup [.ref x.a1])=H2 at s2 e2 ⊢;refine⟨_,_,SqT.of (s2 _ _ h2'),SqT.of e2,by simp[dX],aR (by simp[dX]),fun z=>by simp at z,fun _ t2 ht2=>?_⟩
  have s3:=ah ht2 (.tup (dX (.lend u v)++[.ref x.a1]));have e3:upd H2 t2 (.tup (dX (.lend u v)++[.ref x.a1])) t2=some (.tup [.str "lend", .str u,.str v,.ref x.a1]):=af
  generalize upd H2 t2 (.tup (dX (.lend u v)++[.ref x.a1]))=H3 at s3 e3 ⊢;have s13:=s2.trans s3;refine⟨pp,t2,H0,gs,g,_,gG x.f,rfl,I2.alloc s13,?_,hl1,hl2,by omega,fun H' I3=>q H' _ I3⟩
  unfold gG;rw[hh];exact⟨x.a1,e3,pa.mono s13⟩
 | whl n=>
  rw[hh]at h2'
  walk_at "rd1";walk_at "nx";refine⟨_,_,.inr (SqT.of h2'),(show cC (dX (.whl n)) 0=some (.str "while") from h8),?_⟩
  walk_at "rd1";rw[if_neg (by decide +kernel)]
  refine⟨by decide,fun t1 ht1=>?_⟩
  have s2:=ah ht1 (.tup [.ref x.a1]);have e2:upd H1 t1 (.tup [.ref x.a1]) t1=some (.tup [.ref x.a1]):=af
  generalize upd H1 t1 (.tup [.ref x.a1])=H2 at s2 e2 ⊢;refine⟨_,_,SqT.of (s2 _ _ h2'),SqT.of e2,by simp[dX],aR (by simp[dX]),fun z=>by simp at z,fun _ t2 ht2=>?_⟩
  have s3:=ah ht2 (.tup (dX (.whl n)++[.ref x.a1]));have e3:upd H2 t2 (.tup (dX (.whl n)++[.ref x.a1])) t2=some (.tup [.str "while", .int n,.ref x.a1]):=af
  generalize upd H2 t2 (.tup (dX (.whl n)++[.ref x.a1]))=H3 at s3 e3 ⊢;have s13:=s2.trans s3;refine⟨pp,t2,H0,gs,g,_,gG x.f,rfl,I2.alloc s13,?_,hl1,hl2,by omega,fun H' I3=>q H' _ I3⟩
  unfold gG;rw[hh];exact⟨x.a1,e3,pa.mono s13⟩
theorem Bc{x:Str}(h:∀ c∈x.cps.toList,c∈letters.cps.toList):32∉x.cps.toList:=fun z=>absurd (h 32 z) (by decide)
def eC(x:Str):Prop:=x.length≤20∧e_ x
def lN:Sp:=fun vs H Q _=>∃ (c:Int) (n:Nat),vs=[.int c,.int (n:Int)]∧n≤10∧∀ (L:Addr) (ss:List Str) (H':Hp),Same H H'→H L=none→H' L=some (.lst (ss.map V.str))→ss.length=n→(∀ x∈ss,eC x)→Q (.ref L) H'
theorem yk(D:DefAt K mg "_law_words" aI) (z_range:mg "range" = none) (z_int:mg "int" = none):aE P w K mg base 1 "_law_words" ["_law_cell", "_law_many"] lN:=by
 refine D.cal (k:=0) sc_law_words (fun _ _ _ _ _ _ us hl=>match us,hl with | [_,_],_=>rfl) (fun vs H Q E h=>by obtain⟨_,_,rfl,_⟩:=h; rfl) (fun f cdv A outer s0 H vs Q E hr h=>?_)
 obtain⟨c,n,rfl,hn,q⟩:=h
 refine⟨_,(ai (au 2 sc_law_words.nd av (hx:=FM))
   (ai (au 3 sc_law_words.nd (ak aC ac (ak bo (pv 0) ac)))
   (ai (au 4 sc_law_words.nd (ak bo (ak cM (pv 0) ac) (pv 3)) (hx:=G1))
   (ai (au 5 sc_law_words.nd (ak bo (ak cM (pv 0) ac) (ak jd ac ac)))
   (ai (au 6 sc_law_words.nd (aS ae) (hx:=Hb))
   (ai (b_ PassesOwn.never rfl (de x_ z_range (aa (pv 3) ae)) (bg 7 sc_law_words.nd (hx:=Cq)) (ai (bJ (bV K PySem.F.plainAttrs_list PySem.F.slot_list_append PySem.F.type_list_append bP (pv 6 (hv:=FJ)) (aa (ak bo (pv 5) ac) ae)))
   (aj (au 5 sc_law_words.nd (ak cM (pv 5) ac)))))
   (ai (au 8 sc_law_words.nd (aS ae))
   (ai (b_ PassesOwn.never rfl (de x_ z_range (aa (pv 1) ae)) (bg 7 sc_law_words.nd (hx:=Cq)) (aj (bJ (bV K PySem.F.plainAttrs_list PySem.F.slot_list_append PySem.F.type_list_append bP (pv 8) (aa (bV K PySem.F.plainAttrs_str PySem.F.slot_str_join PySem.F.type_str_join (oA K) av (aa (fc (CompSc.to (fsc:=(defScope aI)) (N:=["_law_cell", "_law_many", "_law_letters", "_law_size", "_law_at", "_law_rest", "_law_base", "_law_k", "_law_words_here"]) (N0:=["_law_cell", "_law_many", "_law_letters", "_law_size", "_law_at", "_law_rest", "_law_base", "_law_k", "_law_words_here"]) (T:=["_law_j"]) ⟨by decide +kernel,by decide +kernel,by decide +kernel,by decide +kernel,by decide +kernel,by decide +kernel,by decide +kernel⟩ rfl rfl) rfl (de x_ z_range (aa (pv 3) ae)) (fun _ _ _ _=>(bg 9 (show (["_law_cell", "_law_many", "_law_letters", "_law_size", "_law_at", "_law_rest", "_law_base", "_law_k", "_law_words_here", "_law_j"]:List Str).Nodup from by decide +kernel) (hx:=(gS (defScope aI) (by decide +kernel))) (hf:=jN (defScope aI) (by decide +kernel)))) (dD (show (["_law_cell", "_law_many", "_law_letters", "_law_size", "_law_at", "_law_rest", "_law_base", "_law_k", "_law_words_here"]:List Str).length≤9 from by decide)) (fun _ _ _ _=>eX) (fun _ _ _ _=>(am (aw K) (pv 2 (hv:=(cY (defScope aI) (by decide +kernel)))) (ak bo (ak aC (am (aw K) (pv 6 (hv:=(cY (defScope aI) (by decide +kernel)))) (pv 9 (hv:=(cY (defScope aI) (by decide +kernel)))) (fun _ _=>rfl)) (ak cU (pv 7 (hv:=(cY (defScope aI) (by decide +kernel)))) (dy fQ z_int jj (aa (ck aT (pv 9 (hv:=(cY (defScope aI) (by decide +kernel)))) (pv 4 (hv:=(cY (defScope aI) (by decide +kernel)))) (aA _)) ae) (hg:=(oh (defScope aI) (by decide +kernel)))))) ac) (fun _ _=>rfl)))) ae)) ae)))))
   (aj (az (pv 8))))))))))),?_⟩
 walk_at "rd1";walk_at "nx";refine⟨by decide,?_⟩
 have hsz0:∃ z:Nat,1+c % 8=(z:Int)∧1≤z∧z≤8:=⟨(1+c % 8).toNat,by omega,by omega,by omega⟩
 obtain⟨sz,esz,sz0,sz1⟩:=hsz0
 rw[esz];walk_at "nx";refine⟨⟨by decide,by decide⟩,by omega,?_⟩
 generalize c / 8 % (sz:Int)=at'
 walk_at "nx";refine⟨⟨by decide,by decide⟩,⟨by decide,by decide,by decide⟩,by decide,?_⟩
 generalize hrest:c / 64 % 26 ^ Int.toNat 8=rest
 walk_at "nx";refine⟨by decide,fun p hp=>?_⟩
 have s1:=ah hp (.lst []);have e1:upd H p (.lst []) p=some (.lst (([]:List Int).map V.int)):=af
 generalize upd H p (.lst [])=H1 at s1 e1 ⊢;walk_at "nx";refine⟨by omega,by omega,?_⟩
 rw[Int.toNat_natCast]
 refine dR (fun i σ H'=>∃ (ns:List Int) (r0:Int) (o7:Option V),σ=[some (.int c),some (.int (n:Int)),some (.str "abcdefghijklmnopqrstuvwxyz"),some (.int (sz:Int)),some (.int at'),some (.int r0),some (.ref p),o7,none]∧Same H H'∧H' p=some (.lst (ns.map V.int))∧ns.length=i)
  ⟨[],rest,none,rfl,s1,e1,rfl⟩ ?_ ?_
 ·rintro i σ H' hi ⟨ns,r0,o7,rfl,sm,hl,hnl⟩
  walk_at "rd1";refine⟨⟨_,SqL.of hl⟩,by decide,?_⟩
  walk_at "rd1";refine⟨_,hl,by rw[List.length_map]; exact b9 (by omega),?_⟩
  walk_at "nx";exact⟨⟨by decide,by decide⟩,ns++[r0 % 26],_,_,rfl,sm.upd hp _,by rw[af,List.map_append]; rfl,by simp[hnl]⟩
 rintro σ H2 ⟨ns,r0,o7,rfl,s2,e2,hnl⟩
 walk_at "nx";refine⟨by decide,fun L hL=>?_⟩
 have s3:=ah hL (.lst []);have e3:upd H2 L (.lst []) L=some (.lst (([]:List Str).map V.str)):=af
 have hLH:H L=none:=s2.free hL
 have npL:p≠L:=aF e2 hL
 have e2':=s3 _ _ e2;generalize upd H2 L (.lst [])=H3 at s3 e3 e2' ⊢;walk_at "nx";refine⟨by omega,by omega,?_⟩
 rw[Int.toNat_natCast]
 refine dR (fun i σ H'=>∃ (ss:List Str) (o7:Option V),σ=[some (.int c),some (.int (n:Int)),some (.str "abcdefghijklmnopqrstuvwxyz"),some (.int (sz:Int)),some (.int at'),some (.int r0),some (.ref p),o7,some (.ref L)]∧Same H H'∧H' p=some (.lst (ns.map V.int))∧H' L=some (.lst (ss.map V.str))∧ss.length=i∧∀ x∈ss,eC x)
  ⟨[],_,rfl,s2.trans s3,e2',e3,rfl,by simp⟩ ?_ ?_
 ·rintro i σ H' hi ⟨ss,o7,rfl,sm,hl,hL',hsl,hsw⟩
  walk_at "rd1";refine⟨⟨_,SqL.of hL'⟩,by omega,by omega,fun C hC=>?_⟩
  rw[Int.toNat_natCast];refine gR (fun j ys H2=>Same H' H2∧H2 C=some (.lst ys)∧∃ ds:List Nat,ys=ds.map (fun d=>V.str ⟨#[d]⟩)∧ds.length=j∧∀ d∈ds,d∈letters.cps.toList) ⟨ah hC _,af,[],rfl,rfl,by simp⟩ ?_ ?_
  ·rintro j ys H4 hj ⟨sm4,hl4,ds,rfl,hdl,hdm⟩
   walk_at "rd1";have hjn:j<ns.length:=by omega
   refine⟨_,_,.inl (SqL.of (sm4 _ _ hl)),(show cC (ns.map V.int) (0+(j:Int))=some (.int ns[j]) by rw[Int.zero_add]; exact aq (by rw[List.getElem?_map,List.getElem?_eq_getElem hjn]; rfl)),?_⟩
   walk_at "rd1";obtain⟨ch,z1,z2,z3⟩:=vQ (ns[j]+(0+(i:Int)) * if 0+(j:Int)=at' then 1 else 0)
   refine⟨.inl ⟨by omega,by omega⟩,by decide,ch,z1,z2,?_⟩
   refine iA hj (by rw[List.length_map]; omega) (aR (by omega)) hl4 ⟨sm4.upd hC _,af,ds++[ch],by rw[List.map_append]; rfl,by simp[hdl],fun d hd=>?_⟩
   rcases List.mem_append.mp hd with hd | hd
   ·exact hdm d hd
   ·rw[List.mem_singleton.mp hd]; exact z3
  ·rintro ys H4 ⟨sm4,hl4,ds,rfl,hdl,hdm⟩
   walk_at "rd1";have hmm:ds.map (fun c=>V.str ⟨#[c]⟩)=(ds.map fun c=>(⟨#[c]⟩ : Str)).map V.str:=by rw[List.map_map]; rfl
   rw[hmm]at hl4
   have h1l:(Str.ofString "").length=0:=by decide
   refine⟨_,SqL.of hl4,?_,?_⟩
   ·rw[h1l]
    have:=iz 1 (ds.map fun c=>(⟨#[c]⟩ : Str)) (fun s hs=>by obtain⟨c,_,rfl⟩:=List.mem_map.mp hs; exact Nat.le_refl _)
    rw[List.length_map]at this ⊢
    omega
   have hbl:(Txt.join "" (ds.map fun c=>(⟨#[c]⟩ : Str))).length=sz:=by rw[y6]; exact hdl
   have hbm:∀ c∈(Txt.join "" (ds.map fun c=>(⟨#[c]⟩ : Str))).cps.toList,c∈letters.cps.toList:=by rw[pL]; exact hdm
   generalize Txt.join "" (ds.map fun c=>(⟨#[c]⟩ : Str))=bs at hbl hbm ⊢
   have hL4:=sm4 _ _ hL';walk_at "rd1";refine⟨_,hL4,by rw[List.length_map]; exact b9 (by omega),ss++[bs],_,rfl,(sm.trans sm4).upd hLH _,?_,by rw[af,List.map_append]; rfl,by simp[hsl],fun x hx=>?_⟩
   ·rw[ax npL]; exact sm4 _ _ hl
   ·rcases List.mem_append.mp hx with hx | hx
    ·exact hsw x hx
    ·rw[List.mem_singleton.mp hx]; exact⟨by omega,Bc hbm⟩
 ·rintro σ H4 ⟨ss,o7,rfl,sm,hl,hL',hsl,hsw⟩
  walk_at "nx";exact q L ss H4 sm hLH hL' hsl hsw
def m6(nm:List Str)(z:Int):Str:=nm.getD (z % (nm.length:Int)).toNat ""
theorem n8{nm:List Str}(h:1≤nm.length)(z:Int):m6 nm z∈nm∧cC (nm.map V.str) (z % (nm.length:Int))=some (.str (m6 nm z)):=by
 have h0:=Int.emod_nonneg z (show (nm.length:Int)≠0 by omega)
 have h1:=Int.emod_lt_of_pos z (show (0:Int)<nm.length by omega)
 have hl:(z % (nm.length:Int)).toNat<nm.length:=by omega
 have e:m6 nm z=nm[(z % (nm.length:Int)).toNat]:=by unfold m6; rw[List.getD_eq_getElem?_getD,List.getElem?_eq_getElem hl]; rfl
 refine⟨by rw[e]; exact List.getElem_mem hl,?_⟩
 have:=aq (xs:=nm.map V.str) (j:=(z % (nm.length:Int)).toNat) (v:=.str (m6 nm z)) (by rw[List.getElem?_map,List.getElem?_eq_getElem hl,e]; rfl)
 rwa [show (((z % (nm.length:Int)).toNat:Nat):Int)=z % (nm.length:Int) by omega]at this
def u_(c:Int):Int:=c * 40692 % (2 * 10 ^ 60 - 1) - 10 ^ 60+1
theorem Bk(c:Int):(u_ c).natAbs<10 ^ 61:=by
 unfold u_;have h0:=Int.emod_nonneg (c * 40692) (show (2 * 10 ^ 60 - 1:Int)≠0 by decide)
 have h1:=Int.emod_lt_of_pos (c * 40692) (show (0:Int)<2 * 10 ^ 60 - 1 by decide)
 omega
def vv(x y wd:Str)(b:Int):List (List V):=[[.str "open", .str x],[.str "do", .str wd,.str x],[.str "do", .str wd,.str x],[.str "do", .str wd,.str x],[.str "copy", .str x,.str y],[.str "drop", .str x],[.str "tie", .str x,.str y],[.str "lend", .str x,.str y],[.str "if", .int b],[.str "while", .int b],[.str "while", .int b],[.str "do", .str wd,.str x],[.str "tie", .str x,.str y],[.str "open", .str x],[.str "other"],[.str "close"]]
inductive fW:List V→Prop
 | plain (ws:List Str):fv ws→gn ws→(∀ x∈ws,e_ x)→fW (ws.map V.str)
 | lend (x y:Str):eC x→eC y→fW [.str "lend", .str x,.str y]
 | ite (n:Int):n.natAbs<10 ^ 61→fW [.str "if", .int n]
 | whl (n:Int):n.natAbs<10 ^ 61→fW [.str "while", .int n]
 | other:fW [.str "other"]
 | close:fW [.str "close"]
theorem rJ{h x:Str}(hh:h∈db)(hl:h.length≤20)(hx:x.length≤20):gn [h,x]:=⟨by simp,by simp,hh,fun z hz=>by
 simp only[List.mem_cons,List.not_mem_nil,or_false]at hz
 rcases hz with rfl | rfl <;> assumption⟩
theorem lD{h x y:Str}(hh:h∈db)(hl:h.length≤20)(hx:x.length≤20)(hy:y.length≤20):gn [h,x,y]:=⟨by simp,by simp,hh,fun z hz=>by
 simp only[List.mem_cons,List.not_mem_nil,or_false]at hz
 rcases hz with rfl | rfl | rfl <;> assumption⟩
theorem vI{x y wd:Str}{b:Int}(hx:eC x)(hy:eC y)(hw:eC wd)(hb:b.natAbs<10 ^ 61):∀ r∈vv x y wd b,fW r:=by
 have kk:∀ {u:Str},u∈(["open", "do", "copy", "drop", "tie"]:List Str)→e_ u:=fun {u} hu=>by
  simp only[List.mem_cons,List.not_mem_nil,or_false]at hu
  rcases hu with rfl | rfl | rfl | rfl | rfl <;> (unfold e_; decide)
 have f2:∀ {a c:Str},e_ a→e_ c→∀ z∈[a,c],e_ z:=fun ha hc z hz=>by
  simp only[List.mem_cons,List.not_mem_nil,or_false]at hz
  rcases hz with rfl | rfl <;> assumption
 have f3:∀ {a c e:Str},e_ a→e_ c→e_ e→∀ z∈[a,c,e],e_ z:=fun ha hc he z hz=>by
  simp only[List.mem_cons,List.not_mem_nil,or_false]at hz
  rcases hz with rfl | rfl | rfl <;> assumption
 have op:fW [.str "open", .str x]:=.plain ["open", x] (.op x) (rJ (by decide +kernel) (by decide) hx.1) (f2 (kk (by decide +kernel)) hx.2)
 have dr:fW [.str "drop", .str x]:=.plain ["drop", x] (.dr x) (rJ (by decide +kernel) (by decide) hx.1) (f2 (kk (by decide +kernel)) hx.2)
 have dd:fW [.str "do", .str wd,.str x]:=.plain ["do", wd,x] (.dd wd x) (lD (by decide +kernel) (by decide) hw.1 hx.1) (f3 (kk (by decide +kernel)) hw.2 hx.2)
 have cp:fW [.str "copy", .str x,.str y]:=.plain ["copy", x,y] (.cp x y) (lD (by decide +kernel) (by decide) hx.1 hy.1) (f3 (kk (by decide +kernel)) hx.2 hy.2)
 have ti:fW [.str "tie", .str x,.str y]:=.plain ["tie", x,y] (.ti x y) (lD (by decide +kernel) (by decide) hx.1 hy.1) (f3 (kk (by decide +kernel)) hx.2 hy.2)
 have le:fW [.str "lend", .str x,.str y]:=.lend x y hx hy
 have it:fW [.str "if", .int b]:=.ite b hb
 have wh:fW [.str "while", .int b]:=.whl b hb
 intro r hr
 unfold vv at hr;simp only[List.mem_cons,List.not_mem_nil,or_false]at hr
 rcases hr with rfl | rfl | rfl | rfl | rfl | rfl | rfl | rfl | rfl | rfl | rfl | rfl | rfl | rfl | rfl | rfl
 ·exact op
 ·exact dd
 ·exact dd
 ·exact dd
 ·exact cp
 ·exact dr
 ·exact ti
 ·exact le
 ·exact it
 ·exact wh
 ·exact wh
 ·exact dd
 ·exact ti
 ·exact op
 ·exact .other
 ·exact .close
def xx:Sp:=fun vs H Q _=>∃ (c:Int) (np wp:Addr) (nm ws:List Str),vs=[.int c,.ref np,.ref wp]∧H np=some (.lst (nm.map V.str))∧H wp=some (.lst (ws.map V.str))∧1≤nm.length∧nm.length≤20∧1≤ws.length∧ws.length≤20∧(∀ x∈nm,eC x)∧(∀ x∈ws,eC x)∧
 ∀ (t:Addr) (H':Hp) (v:List V),Same H H'→H' t=some (.tup v)→fW v→Q (.ref t) H'
theorem AO(D:DefAt K mg "_law_step" bw) (z_len:mg "len" = none):aE P w K mg base 1 "_law_step" ["_law_cell", "_law_names", "_law_words_here"] xx:=by
 refine D.cal (k:=0) sc_law_step (fun _ _ _ _ _ _ us hl=>match us,hl with | [_,_,_],_=>rfl) (fun vs H Q E h=>by obtain⟨_,_,_,_,_,rfl,_⟩:=h; rfl) (fun f cdv A outer s0 H vs Q E hr h=>?_)
 obtain⟨c,np,wp,nm,ws,rfl,hnp,hwp,n1,n2,w1,w2,hnm,hws,q⟩:=h
 refine⟨_,(ai (au 3 sc_law_step.nd (am (aw K) (pv 1) (ak bo (ak bo (ak cU (pv 0) ac) ac) (bH (bb K) z_len bR (aa (pv 1) ae))) (fun _ _=>rfl)))
   (ai (au 4 sc_law_step.nd (am (aw K) (pv 1) (ak bo (ak bo (ak cU (pv 0) ac) ac) (bH (bb K) z_len bR (aa (pv 1) ae))) (fun _ _=>rfl)))
   (ai (au 5 sc_law_step.nd (am (aw K) (pv 2) (ak bo (ak bo (ak cU (pv 0) ac) ac) (bH (bb K) z_len bR (aa (pv 2) ae))) (fun _ _=>rfl)))
   (ai (au 6 sc_law_step.nd (ak aC (ak jg (ak bo (ak cU (pv 0) ac) (ak jg (ak cU ac (ak jd ac ac)) ac)) (ak jd ac ac)) ac))
   (ai (au 7 sc_law_step.nd (aS (aa (aU (aa av (aa (pv 3) ae))) (aa (aU (aa av (aa (pv 5) (aa (pv 3) ae)))) (aa (aU (aa av (aa (pv 5) (aa (pv 3) ae)))) (aa (aU (aa av (aa (pv 5) (aa (pv 3) ae)))) (aa (aU (aa av (aa (pv 3) (aa (pv 4) ae)))) (aa (aU (aa av (aa (pv 3) ae))) ae))))))))
   (ai (au 7 sc_law_step.nd (ak aC (pv 7) (aS (aa (aU (aa av (aa (pv 3) (aa (pv 4) ae)))) (aa (aU (aa av (aa (pv 3) (aa (pv 4) ae)))) (aa (aU (aa av (aa (pv 6) ae))) (aa (aU (aa av (aa (pv 6) ae))) (aa (aU (aa av (aa (pv 6) ae))) ae))))))))
   (ai (au 7 sc_law_step.nd (ak aC (pv 7) (aS (aa (aU (aa av (aa (pv 5) (aa (pv 3) ae)))) (aa (aU (aa av (aa (pv 3) (aa (pv 4) ae)))) (aa (aU (aa av (aa (pv 3) ae))) (aa (aU (aa av ae)) (aa (aU (aa av ae)) ae))))))))
   (aj (az (am (aw K) (pv 7) (ak bo (pv 0) ac) (fun _ _=>rfl))))))))))),?_⟩
 obtain⟨x1,x2⟩:=n8 n1 (c * 48271 % 99991)
 obtain⟨y1,y2⟩:=n8 n1 (c * 69621 % 99989)
 obtain⟨u1,u2⟩:=n8 w1 (c * 16807 % 99971)
 walk_at "rd1";refine⟨.inr ⟨by decide,by decide⟩,by decide,_,.inl (SqL.of hnp),?_⟩
 rw[List.length_map];refine⟨by omega,_,_,.inl (SqL.of hnp),x2,?_⟩
 generalize m6 nm (c * 48271 % 99991)=x at x1 ⊢;walk_at "nx";refine⟨.inr ⟨by decide,by decide⟩,by decide,_,.inl (SqL.of hnp),?_⟩
 rw[List.length_map];refine⟨by omega,_,_,.inl (SqL.of hnp),y2,?_⟩
 generalize m6 nm (c * 69621 % 99989)=y at y1 ⊢;walk_at "nx";refine⟨.inr ⟨by decide,by decide⟩,by decide,_,.inl (SqL.of hwp),?_⟩
 rw[List.length_map];refine⟨by omega,_,_,.inl (SqL.of hwp),u2,?_⟩
 generalize m6 ws (c * 16807 % 99971)=wd at u1 ⊢;walk_at "nx";refine⟨.inr ⟨by decide,by decide⟩,⟨by decide,by decide,by decide⟩,.inl ⟨by decide,by decide⟩,by decide,⟨by decide,by decide,by decide⟩,?_⟩
 have hb:=Bk c;rw[show c * 40692 % (2 * 10 ^ Int.toNat 60 - 1) - 10 ^ Int.toNat 60+1=u_ c from rfl];generalize u_ c=b at hb ⊢;walk_at "nx";refine⟨by decide,fun t1 ht1=>?_⟩
 generalize hT1:upd H t1 _=H1
 have s1:Same H H1:=by rw[← hT1]; exact ah ht1 _
 have r1:bc H1 t1 [.str "open", .str x]:=by show H1 t1=_; rw[← hT1]; exact af
 refine⟨by decide,fun t2 ht2=>?_⟩
 generalize hT2:upd H1 t2 _=H2
 have s2:Same H1 H2:=by rw[← hT2]; exact ah ht2 _
 have r2:bc H2 t2 [.str "do", .str wd,.str x]:=by show H2 t2=_; rw[← hT2]; exact af
 refine⟨by decide,fun t3 ht3=>?_⟩
 generalize hT3:upd H2 t3 _=H3
 have s3:Same H2 H3:=by rw[← hT3]; exact ah ht3 _
 have r3:bc H3 t3 [.str "do", .str wd,.str x]:=by show H3 t3=_; rw[← hT3]; exact af
 refine⟨by decide,fun t4 ht4=>?_⟩
 generalize hT4:upd H3 t4 _=H4
 have s4:Same H3 H4:=by rw[← hT4]; exact ah ht4 _
 have r4:bc H4 t4 [.str "do", .str wd,.str x]:=by show H4 t4=_; rw[← hT4]; exact af
 refine⟨by decide,fun t5 ht5=>?_⟩
 generalize hT5:upd H4 t5 _=H5
 have s5:Same H4 H5:=by rw[← hT5]; exact ah ht5 _
 have r5:bc H5 t5 [.str "copy", .str x,.str y]:=by show H5 t5=_; rw[← hT5]; exact af
 refine⟨by decide,fun t6 ht6=>?_⟩
 generalize hT6:upd H5 t6 _=H6
 have s6:Same H5 H6:=by rw[← hT6]; exact ah ht6 _
 have r6:bc H6 t6 [.str "drop", .str x]:=by show H6 t6=_; rw[← hT6]; exact af
 refine⟨by decide,fun l0 hl0=>?_⟩
 have sl0:=ah hl0 (.lst [.ref t1,.ref t2,.ref t3,.ref t4,.ref t5,.ref t6]);have L0:ListR (upd H6 l0 (.lst [.ref t1,.ref t2,.ref t3,.ref t4,.ref t5,.ref t6])) l0 [[.str "open", .str x],[.str "do", .str wd,.str x],[.str "do", .str wd,.str x],[.str "do", .str wd,.str x],[.str "copy", .str x,.str y],[.str "drop", .str x]]:=⟨[t1,t2,t3,t4,t5,t6],af,.cons (sl0 _ _ (s6 _ _ (s5 _ _ (s4 _ _ (s3 _ _ (s2 _ _ (r1))))))) (.cons (sl0 _ _ (s6 _ _ (s5 _ _ (s4 _ _ (s3 _ _ (r2)))))) (.cons (sl0 _ _ (s6 _ _ (s5 _ _ (s4 _ _ (r3))))) (.cons (sl0 _ _ (s6 _ _ (s5 _ _ (r4)))) (.cons (sl0 _ _ (s6 _ _ (r5))) (.cons (sl0 _ _ (r6)) .nil)))))⟩
 have sg0:Same H (upd H6 l0 (.lst [.ref t1,.ref t2,.ref t3,.ref t4,.ref t5,.ref t6])):=((((((s1.trans s2).trans s3).trans s4).trans s5).trans s6).trans sl0)
 generalize upd H6 l0 (.lst [.ref t1,.ref t2,.ref t3,.ref t4,.ref t5,.ref t6])=HL0 at L0 sg0 ⊢;have C0:=L0;have S0:=sg0;clear hT1 hT2 hT3 hT4 hT5 hT6;walk_at "nx";refine⟨by decide,fun t7 ht7=>?_⟩
 generalize hT7:upd HL0 t7 _=H7
 have s7:Same HL0 H7:=by rw[← hT7]; exact ah ht7 _
 have r7:bc H7 t7 [.str "tie", .str x,.str y]:=by show H7 t7=_; rw[← hT7]; exact af
 refine⟨by decide,fun t8 ht8=>?_⟩
 generalize hT8:upd H7 t8 _=H8
 have s8:Same H7 H8:=by rw[← hT8]; exact ah ht8 _
 have r8:bc H8 t8 [.str "lend", .str x,.str y]:=by show H8 t8=_; rw[← hT8]; exact af
 refine⟨by decide,fun t9 ht9=>?_⟩
 generalize hT9:upd H8 t9 _=H9
 have s9:Same H8 H9:=by rw[← hT9]; exact ah ht9 _
 have r9:bc H9 t9 [.str "if", .int b]:=by show H9 t9=_; rw[← hT9]; exact af
 refine⟨by decide,fun t10 ht10=>?_⟩
 generalize hT10:upd H9 t10 _=H10
 have s10:Same H9 H10:=by rw[← hT10]; exact ah ht10 _
 have r10:bc H10 t10 [.str "while", .int b]:=by show H10 t10=_; rw[← hT10]; exact af
 refine⟨by decide,fun t11 ht11=>?_⟩
 generalize hT11:upd H10 t11 _=H11
 have s11:Same H10 H11:=by rw[← hT11]; exact ah ht11 _
 have r11:bc H11 t11 [.str "while", .int b]:=by show H11 t11=_; rw[← hT11]; exact af
 refine⟨by decide,fun l1 hl1=>?_⟩
 have sl1:=ah hl1 (.lst [.ref t7,.ref t8,.ref t9,.ref t10,.ref t11]);have L1:ListR (upd H11 l1 (.lst [.ref t7,.ref t8,.ref t9,.ref t10,.ref t11])) l1 [[.str "tie", .str x,.str y],[.str "lend", .str x,.str y],[.str "if", .int b],[.str "while", .int b],[.str "while", .int b]]:=⟨[t7,t8,t9,t10,t11],af,.cons (sl1 _ _ (s11 _ _ (s10 _ _ (s9 _ _ (s8 _ _ (r7)))))) (.cons (sl1 _ _ (s11 _ _ (s10 _ _ (s9 _ _ (r8))))) (.cons (sl1 _ _ (s11 _ _ (s10 _ _ (r9)))) (.cons (sl1 _ _ (s11 _ _ (r10))) (.cons (sl1 _ _ (r11)) .nil))))⟩
 have sg1:Same HL0 (upd H11 l1 (.lst [.ref t7,.ref t8,.ref t9,.ref t10,.ref t11])):=(((((s7.trans s8).trans s9).trans s10).trans s11).trans sl1)
 generalize upd H11 l1 (.lst [.ref t7,.ref t8,.ref t9,.ref t10,.ref t11])=HL1 at L1 sg1 ⊢;obtain⟨as1,a1,b1⟩:=C0.mono sg1
 obtain⟨cs1,c1,d1⟩:=L1
 refine⟨_,_,a1,c1,dq b1 d1 (by simp),fun m1 hm1=>?_⟩
 have C1:=dU b1 d1 hm1;have S1:=(S0.trans sg1).trans (ah hm1 (.lst (as1.map V.ref++cs1.map V.ref)));generalize upd HL1 m1 (.lst (as1.map V.ref++cs1.map V.ref))=HC1 at C1 S1 ⊢;walk_at "nx";refine⟨by decide,fun t12 ht12=>?_⟩
 generalize hT12:upd HC1 t12 _=H12
 have s12:Same HC1 H12:=by rw[← hT12]; exact ah ht12 _
 have r12:bc H12 t12 [.str "do", .str wd,.str x]:=by show H12 t12=_; rw[← hT12]; exact af
 refine⟨by decide,fun t13 ht13=>?_⟩
 generalize hT13:upd H12 t13 _=H13
 have s13:Same H12 H13:=by rw[← hT13]; exact ah ht13 _
 have r13:bc H13 t13 [.str "tie", .str x,.str y]:=by show H13 t13=_; rw[← hT13]; exact af
 refine⟨by decide,fun t14 ht14=>?_⟩
 generalize hT14:upd H13 t14 _=H14
 have s14:Same H13 H14:=by rw[← hT14]; exact ah ht14 _
 have r14:bc H14 t14 [.str "open", .str x]:=by show H14 t14=_; rw[← hT14]; exact af
 refine⟨by decide,fun t15 ht15=>?_⟩
 generalize hT15:upd H14 t15 _=H15
 have s15:Same H14 H15:=by rw[← hT15]; exact ah ht15 _
 have r15:bc H15 t15 [.str "other"]:=by show H15 t15=_; rw[← hT15]; exact af
 refine⟨by decide,fun t16 ht16=>?_⟩
 generalize hT16:upd H15 t16 _=H16
 have s16:Same H15 H16:=by rw[← hT16]; exact ah ht16 _
 have r16:bc H16 t16 [.str "close"]:=by show H16 t16=_; rw[← hT16]; exact af
 refine⟨by decide,fun l2 hl2=>?_⟩
 have sl2:=ah hl2 (.lst [.ref t12,.ref t13,.ref t14,.ref t15,.ref t16]);have L2:ListR (upd H16 l2 (.lst [.ref t12,.ref t13,.ref t14,.ref t15,.ref t16])) l2 [[.str "do", .str wd,.str x],[.str "tie", .str x,.str y],[.str "open", .str x],[.str "other"],[.str "close"]]:=⟨[t12,t13,t14,t15,t16],af,.cons (sl2 _ _ (s16 _ _ (s15 _ _ (s14 _ _ (s13 _ _ (r12)))))) (.cons (sl2 _ _ (s16 _ _ (s15 _ _ (s14 _ _ (r13))))) (.cons (sl2 _ _ (s16 _ _ (s15 _ _ (r14)))) (.cons (sl2 _ _ (s16 _ _ (r15))) (.cons (sl2 _ _ (r16)) .nil))))⟩
 have sg2:Same HC1 (upd H16 l2 (.lst [.ref t12,.ref t13,.ref t14,.ref t15,.ref t16])):=(((((s12.trans s13).trans s14).trans s15).trans s16).trans sl2)
 generalize upd H16 l2 (.lst [.ref t12,.ref t13,.ref t14,.ref t15,.ref t16])=HL2 at L2 sg2 ⊢;obtain⟨as2,a2,b2⟩:=C1.mono sg2
 obtain⟨cs2,c2,d2⟩:=L2
 refine⟨_,_,a2,c2,dq b2 d2 (by simp),fun m2 hm2=>?_⟩
 have C2:=dU b2 d2 hm2;have S2:=(S1.trans sg2).trans (ah hm2 (.lst (as2.map V.ref++cs2.map V.ref)));generalize upd HL2 m2 (.lst (as2.map V.ref++cs2.map V.ref))=HC2 at C2 S2 ⊢;walk_at "nx";have C2':ListR HC2 m2 (vv x y wd b):=C2
 refine⟨by decide,?_⟩
 obtain⟨as,a1',b1'⟩:=C2'
 have hal:=aM b1';have hi0:=Int.emod_nonneg c (show (16:Int)≠0 by decide)
 have hi1:=Int.emod_lt_of_pos c (show (0:Int)<16 by decide)
 have hal16:as.length=16:=hal
 have hil:(c % 16).toNat<as.length:=by omega
 obtain⟨r,e1,e2⟩:=b7 b1' (List.getElem?_eq_getElem hil)
 refine⟨_,_,.inl (SqL.of a1'),(show cC (as.map V.ref) (c % 16)=some (.ref as[(c % 16).toNat]) from ?_),q _ HC2 r S2 e2 (vI (hnm x x1) (hnm y y1) (hws wd u1) hb r (List.mem_of_getElem? e1))⟩
 have:=aq (xs:=as.map V.ref) (j:=(c % 16).toNat) (v:=.ref as[(c % 16).toNat]) (by rw[List.getElem?_map,List.getElem?_eq_getElem hil]; rfl)
 rwa [show (((c % 16).toNat:Nat):Int)=c % 16 by omega]at this
end
def DH:Al→Prop
 | .top=>False
 | .lend x y=>eC x∧eC y
 | .ite n=>n.natAbs<10 ^ 61
 | .whl n=>n.natAbs<10 ^ 61
def gM(k:Nat)(x:FrX):Nat:=ar (10 - k) x.f.a+ar (10 - k) x.f.b+(if k=0 then 0 else 3)
def gQ:Nat→List FrX→Nat
 | _,[]=>0
 | k,x::r=>gM k x+gQ (k+1) r
theorem fG(x:FrX):∀ (gs:List FrX) (k:Nat),gQ k (gs++[x])=gQ k gs+gM (k+gs.length) x
 | [],k=>by simp[gQ]
 | g::gs,k=>by
  show gM k g+gQ (k+1) (gs++[x])=gM k g+gQ (k+1) gs+_
  rw[fG x gs (k+1),List.length_cons,show k+1+gs.length=k+(gs.length+1) by omega]; omega
structure DM (k:Nat) (f:rA):Prop where
 top:k=0→f.hd = .top
 hd:0<k→DH f.hd
 a:dn (10 - k) f.a∧dN (10 - k) f.a
 b:dn (10 - k) f.b∧dN (10 - k) f.b
 sd:(∃ n,f.hd = .ite n)∨(f.s=false∧f.b=[])
structure POk (fs:List FrX) (m:Nat):Prop where
 ok:∀ k x,fs[k]? = some x→DM k x.f
 cnt:gQ 0 fs≤m
 len:fs.length≤5
 pos:1≤fs.length
theorem iu{α : Type}{gs:List α}{x y:α}{k:Nat}(h:(gs++[x])[k]? = some y):(k<gs.length∧gs[k]? = some y)∨(k=gs.length∧y=x):=by
 by_cases hk:k<gs.length
 ·rw[List.getElem?_append_left hk]at h; exact .inl ⟨hk,h⟩
 ·rw[List.getElem?_append_right (by omega)]at h
  have hk0:k - gs.length=0:=by have:=(List.getElem?_eq_some_iff.mp h).1; simp at this; omega
  rw[hk0]at h
  cases h;exact .inr ⟨by omega,rfl⟩
theorem Br(d:Nat)(T U:List ap):ar (d+1) (T++U)=ar (d+1) T+ar (d+1) U:=by
 show ((T++U).map _).sum=_
 rw[List.map_append,List.sum_append]; rfl
theorem v3{d:Nat}{T U:List ap}(h:dN (d+1) T)(h':dN (d+1) U):dN (d+1) (T++U):=fun s hs=>(List.mem_append.mp hs).elim (h s) (h' s)
theorem POk.put{gs:List FrX}{x:FrX}{m c:Nat}{st:ap}(I:POk (gs++[x]) m)(h1:ie (dn (9 - gs.length)) st)(h2:kn (dN (9 - gs.length)) st)(h3:bB (ar (9 - gs.length)) st≤c):POk (gs++[{ x with f:=bK x.f st }]) (m+c):=by
 have hl:gs.length≤4:=by have:=I.len; simp at this; omega
 have e10:10 - gs.length=9 - gs.length+1:=by omega
 have hx:=I.ok gs.length x (df gs x);obtain⟨a1,a2⟩:=hx.a
 obtain⟨b1,b2⟩:=hx.b
 have hc:=I.cnt;rw[fG,Nat.zero_add]at hc
 refine⟨fun k y hy=>?_,?_,by have:=I.len; simpa using this,by simp⟩
 ·rcases iu hy with ⟨hk,hy⟩ | ⟨rfl,rfl⟩
  ·exact I.ok k y (by rw[List.getElem?_append_left hk]; exact hy)
  ·unfold bK
   rw[e10]at a1 a2 b1 b2
   have n1:dn (9 - gs.length+1) (x.f.a++[st]):=oV a1 h1
   have n2:dN (9 - gs.length+1) (x.f.a++[st]):=v3 a2 fun u hu=>by rw[List.mem_singleton.mp hu]; exact h2
   have n3:dn (9 - gs.length+1) (x.f.b++[st]):=oV b1 h1
   have n4:dN (9 - gs.length+1) (x.f.b++[st]):=v3 b2 fun u hu=>by rw[List.mem_singleton.mp hu]; exact h2
   split
   ·rename_i hs
    refine⟨hx.top,hx.hd,by rw[e10]; exact⟨a1,a2⟩,by rw[e10]; exact⟨n3,n4⟩,?_⟩
    rcases hx.sd with z | ⟨z,_⟩
    ·exact .inl z
    ·rw[hs]at z; cases z
   ·refine⟨hx.top,hx.hd,by rw[e10]; exact⟨n1,n2⟩,by rw[e10]; exact⟨b1,b2⟩,?_⟩
    rcases hx.sd with z | ⟨z,z2⟩
    ·exact .inl z
    ·exact .inr ⟨z,z2⟩
 ·rw[fG,Nat.zero_add]
  unfold gM at hc ⊢
  unfold bK;rw[e10]at hc ⊢
  have hst:ar (9 - gs.length+1) [st]≤c:=by show bB (ar (9 - gs.length)) st+0≤c; omega
  split <;> simp only[Br] <;> omega
theorem POk.drop{gs:List FrX}{x:FrX}{m:Nat}(I:POk (gs++[x]) m)(hg:1≤gs.length):POk gs (m - (ar (10 - gs.length) x.f.a+ar (10 - gs.length) x.f.b+3))∧ar (10 - gs.length) x.f.a+ar (10 - gs.length) x.f.b+3≤m:=by
 have hc:=I.cnt;rw[fG,Nat.zero_add]at hc
 unfold gM at hc;rw[if_neg (by omega)]at hc
 exact⟨⟨fun k y hy=>I.ok k y (by rw[List.getElem?_append_left (List.getElem?_eq_some_iff.mp hy).1]; exact hy),by omega,by have:=I.len; simp at this; omega,hg⟩,by omega⟩
theorem Bp{k:Nat}{f:rA}(hk:0<k)(hk5:k≤5)(h:DM k f):ie (dn (10 - k)) (gG f)∧kn (dN (10 - k)) (gG f)∧bB (ar (10 - k)) (gG f)≤ar (10 - k) f.a+ar (10 - k) f.b+3:=by
 have hh:=h.hd hk
 have e61:∀ n:Int,n.natAbs<10 ^ 61→n.natAbs.log2<1920:=fun n hn=>by
  by_cases z:n.natAbs=0
  ·rw[z]; decide
  ·have:=(Nat.log2_lt z (k:=1920)).mpr (Nat.lt_trans hn (by decide))
   exact this
 unfold gG
 cases hhd:f.hd with
 | top=>rw[hhd]at hh; exact hh.elim
 | lend x y=>
  rw[hhd]at hh
  exact⟨⟨hh.1.2,hh.2.2,h.a.1⟩,⟨hh.1.1,hh.2.1,h.a.2⟩,by show ar _ f.a+2≤_; omega⟩
 | ite n=>
  rw[hhd]at hh
  exact⟨⟨hh,h.a.1,h.b.1⟩,⟨e61 n hh,h.a.2,h.b.2⟩,Nat.le_refl _⟩
 | whl n=>
  rw[hhd]at hh
  exact⟨⟨hh,h.a.1⟩,⟨e61 n hh,h.a.2⟩,by show ar _ f.a+2≤_; omega⟩
theorem POk.close{gs:List FrX}{g x:FrX}{m:Nat}(I:POk (gs++[g]++[x]) m):POk (gs++[{ g with f:=bK g.f (gG x.f) }]) m:=by
 have hlen:(gs++[g]).length=gs.length+1:=by simp
 have hl5:=I.len;rw[List.length_append,hlen]at hl5
 simp at hl5
 have hx:=I.ok (gs++[g]).length x (df _ x);rw[hlen]at hx
 obtain⟨m1,m2,m3⟩:=Bp (by omega) (by omega) hx
 obtain⟨I2,hle⟩:=I.drop (by rw[hlen]; omega)
 rw[hlen]at I2 hle
 rw[show 10 - (gs.length+1)=9 - gs.length by omega]at m1 m2 m3 I2 hle
 have:=I2.put m1 m2 m3
 rwa [Nat.sub_add_cancel hle]at this
theorem POk.side{gs:List FrX}{x:FrX}{m:Nat}{n:Int}(I:POk (gs++[x]) m)(h:x.f.hd = .ite n):POk (gs++[{ x with f:={ x.f with s:=true } }]) m:=by
 have hx:=I.ok gs.length x (df gs x);refine⟨fun k y hy=>?_,?_,by have:=I.len; simpa using this,by simp⟩
 ·rcases iu hy with ⟨hk,hy⟩ | ⟨rfl,rfl⟩
  ·exact I.ok k y (by rw[List.getElem?_append_left hk]; exact hy)
  ·exact⟨hx.top,hx.hd,hx.a,hx.b,.inl ⟨n,h⟩⟩
 ·have hc:=I.cnt
  rw[fG]at hc ⊢
  exact hc
theorem POk.open{fs:List FrX}{m:Nat}(I:POk fs m)(hl:fs.length≤4){h:Al}(hh:DH h)(fa a1 a2:Addr):POk (fs++[⟨fa,a1,a2,⟨h,[],[],false⟩⟩]) (m+3):=by
 have hp:=I.pos;have e10:10 - fs.length=9 - fs.length+1:=by omega
 have nl:dn (10 - fs.length) []∧dN (10 - fs.length) []:=by rw[e10]; exact⟨j8 _,fun s hs=>by cases hs⟩
 refine⟨fun k y hy=>?_,?_,by simp; omega,by simp⟩
 ·rcases iu hy with ⟨hk,hy⟩ | ⟨rfl,rfl⟩
  ·exact I.ok k y hy
  ·exact⟨fun z=>by omega,fun _=>hh,nl,nl,.inr ⟨rfl,rfl⟩⟩
 ·rw[fG,Nat.zero_add]
  unfold gM;rw[if_neg (by omega),e10]
  have:=I.cnt
  show gQ 0 fs+(0+0+3)≤m+3
  omega
theorem POk.small{fs:List FrX}{m k:Nat}{x:FrX}(I:POk fs m)(e:fs[k]? = some x):x.f.a.length≤m∧x.f.b.length≤m:=by
 have hk:=(List.getElem?_eq_some_iff.mp e).1;have hl:=I.len
 have w:∀ (fs:List FrX) (j k:Nat) (x:FrX),fs[k]? = some x→gM (j+k) x≤gQ j fs:=fun fs=>by
  induction fs with
  | nil=>intro j k x e; simp at e
  | cons y r ih=>
   intro j k x e
   cases k with
   | zero=>cases e; show gM j _≤gM j _+_; omega
   | succ k=>
    have:=ih (j+1) k x (by simpa using e)
    show _≤gM j y+gQ (j+1) r
    rw[show j+(k+1)=j+1+k by omega]; omega
 have h:=w fs 0 k x e;have hc:=I.cnt;rw[Nat.zero_add]at h
 unfold gM at h
 have ln:∀ (d:Nat) (T:List ap),T.length≤ar (d+1) T:=fun d T=>by
  show T.length≤(T.map (bB (ar d))).sum
  induction T with
  | nil=>exact Nat.le_refl _
  | cons s T ih=>
   rw[List.map_cons,List.sum_cons,List.length_cons];have:1≤bB (ar d) s:=by cases s <;> simp[bB]
   omega
 rw[show 10 - k=9 - k+1 by omega]at h
 have:=ln (9 - k) x.f.a
 have:=ln (9 - k) x.f.b
 omega
section
variable{P:Program}{w:World}{K:PySem.W.Frag}{mg:Str→Option Value}{base:Heap}
theorem eW(x:Str):∀ ss:List Str,gT (.str x) (ss.map V.str)=decide (x∈ss)
 | []=>rfl
 | y::ss=>by
  have ih:=eW x ss;show (fD (.str y) (.str x)||gT (.str x) (ss.map V.str))=_
  rw[ih];show ((y == x)||decide (x∈ss))=_
  by_cases h:y=x
  ·subst h; simp
  ·have h2:¬ x=y:=fun z=>h z.symm
   rw[beq_eq_false_iff_ne.mpr h];simp[h2]
theorem POk.mono{fs:List FrX}{m n:Nat}(I:POk fs m)(h:m≤n):POk fs n:=⟨I.ok,Nat.le_trans I.cnt h,I.len,I.pos⟩
def Root(a1:Addr)(fs:List FrX):Prop:=∃ x,fs[0]? = some x∧x.a1=a1
theorem Root.set{a1:Addr}{gs:List FrX}{x x':FrX}(h:Root a1 (gs++[x]))(e:x'.a1=x.a1):Root a1 (gs++[x']):=by
 cases gs with
 | nil=>obtain⟨y,hy,ha⟩:=h; cases hy; exact⟨x',rfl,by rw[e]; exact ha⟩
 | cons g gs=>obtain⟨y,hy,ha⟩:=h; exact⟨y,hy,ha⟩
theorem Root.cut{a1:Addr}{gs:List FrX}{x:FrX}(h:Root a1 (gs++[x]))(hg:1≤gs.length):Root a1 gs:=by
 cases gs with
 | nil=>simp at hg
 | cons g gs=>obtain⟨y,hy,ha⟩:=h; exact⟨y,hy,ha⟩
theorem Root.add{a1:Addr}{fs:List FrX}{x:FrX}(h:Root a1 fs):Root a1 (fs++[x]):=by
 cases fs with
 | nil=>obtain⟨y,hy,_⟩:=h; cases hy
 | cons g gs=>obtain⟨y,hy,ha⟩:=h; exact⟨y,hy,ha⟩
theorem PInv.side{H0 H:Hp}{pp:Addr}{gs:List FrX}{x:FrX}{S:Addr→Prop}(I:PInv H0 H pp (gs++[x]) S){ha:Addr}{z:V}(h1:H x.fa=some (.lst [.ref ha,.ref x.a1,.ref x.a2,z])):PInv H0 (upd H x.fa (.lst [.ref ha,.ref x.a1,.ref x.a2,.int 1])) pp (gs++[{ x with f:={ x.f with s:=true } }]) S:=by
 obtain⟨ha',as1,as2,h1',h2,h3,h4,h5,h6⟩:=I.fr gs.length x (df gs x)
 have eha:ha'=ha:=by rw[h1]at h1'; simp at h1'; exact h1'.1.symm
 subst eha;have hxm:x∈gs++[x]:=List.mem_append_right _ List.mem_cons_self
 have hnd:=I.nd;rw[List.nodup_cons,eL,List.nodup_append]at hnd
 have h3n:[x.fa,x.a1,x.a2].Nodup:=hnd.2.2.1
 simp only[List.nodup_cons,List.mem_cons,List.not_mem_nil,or_false,not_or,not_false_eq_true,List.nodup_nil,and_true]at h3n
 obtain⟨⟨n1,n2⟩,n3⟩:=h3n
 have hqS:¬ S x.fa:=I.ns _ (List.mem_cons_of_mem _ (eR hxm).1)
 have kt:∀ b xs,H b=some (.tup xs)→upd H x.fa (.lst [.ref ha',.ref x.a1,.ref x.a2,.int 1]) b=some (.tup xs):=fun b xs y=>by rw[ax (cP y h1 (fun y=>nomatch y))]; exact y
 have kl:∀ b xs,S b→H b=some (.lst xs)→upd H x.fa (.lst [.ref ha',.ref x.a1,.ref x.a2,.int 1]) b=some (.lst xs):=fun b xs hb y=>by rw[ax (rZ hb hqS)]; exact y
 refine I.write (.inl rfl) rfl rfl rfl ⟨ha',as1,as2,af,kt _ _ h2,?_,?_,cG kt kl (fun _ z=>z) h5,cG kt kl (fun _ z=>z) h6⟩
 ·rw[ax (Ne.symm n1)]; exact h3
 ·rw[ax (Ne.symm n2)]; exact h4
def mX:Sp:=fun vs H Q _=>∃ (cp np wp:Addr) (cs:List Int) (nm ws:List Str),vs=[.ref cp,.ref np,.ref wp,.int 3,.int 4]∧H cp=some (.lst (cs.map V.int))∧H np=some (.lst (nm.map V.str))∧H wp=some (.lst (ws.map V.str))∧cs.length≤20∧1≤nm.length∧nm.length≤20∧1≤ws.length∧ws.length≤20∧(∀ x∈nm,eC x)∧(∀ x∈ws,eC x)∧
 ∀ (root:Addr) (H':Hp) (S:Addr→Prop) (T:List ap),Same H H'→H root=none→ProgAt S 10 H' root T→dn 10 T→dN 10 T→ar 10 T≤60→Q (.ref root) H'
theorem ui(D:DefAt K mg "_law_program" aO) (z_len:mg "len" = none) (z_int:mg "int" = none) (c_law_step:aE P w K mg base 1 "_law_step" ["_law_cell", "_law_names", "_law_words_here"] xx) (c_law_put:aE P w K mg base 1 "_law_put" ["_law_pile", "_law_step_here"] uH) (c_law_close:aE P w K mg base 2 "_law_close" ["_law_pile"] rW):aE P w K mg base 3 "_law_program" ["_law_cells", "_law_names", "_law_words_here", "_law_lends", "_law_deep"] mX:=by
 refine D.cal (k:=2) sc_law_program (fun _ _ _ _ _ _ us hl=>match us,hl with | [_,_,_,_,_],_=>rfl) (fun vs H Q E h=>by obtain⟨_,_,_,_,_,_,rfl,_⟩:=h; rfl) (fun f cdv A outer s0 H vs Q E hr h=>?_)
 obtain⟨cp,np,wp,cs,nm,ws,rfl,hcp,hnp,hwp,hcl,n1,n2,w1,w2,hnm,hws,q⟩:=h
 refine⟨_,(ai (au 5 sc_law_program.nd (aS (aa (aS (aa (aU (aa av ae)) (aa (aS ae) (aa (aS ae) (aa ac ae))))) ae)))
   (ai (b_ PassesOwn.never rfl (cX K (pv 0)) (bg 6 sc_law_program.nd) (ai (au 7 sc_law_program.nd (ay c_law_step hr (aa (pv 6) (aa (pv 1) (aa (pv 2) ae)))))
   (aj (bj (aB (i8 K) (am (aw K) (pv 7) ac (fun _ _=>rfl)) (aU (aa av (aa av ae))) (by with_unfolding_all rfl)) (aj (bj (PW.pt' (cB (aB kq (bH (bb K) z_len bR (aa (pv 5) ae)) ac (aA _)) (cB (aB aT (am (aw K) (pv 7) ac (fun _ _=>rfl)) av (aA _)) (cB (aB aT (am (aw K) (am (aw K) (am (aw K) (pv 5) (d_ dI ac) (fun _ _=>rfl)) ac (fun _ _=>rfl)) ac (fun _ _=>rfl)) av (aA _)) (cT (aB aT (am (aw K) (am (aw K) (pv 5) (d_ dI ac) (fun _ _=>rfl)) ac (fun _ _=>rfl)) ac (aA _))))))) (aj (gU ac (jc (am (aw K) (pv 5) (d_ dI ac) (fun _ _=>rfl)) ac ED))) (aj (bj (aB kq (bH (bb K) z_len bR (aa (pv 5) ae)) ac (aA _)) (aj (bJ (ay c_law_close hr (aa (pv 5) ae)))) aY)))) (aj (bj (aB (i7 K) (am (aw K) (pv 7) ac (fun _ _=>rfl)) (aU (aa av (aa av (aa av ae)))) (by with_unfolding_all rfl)) (aj (bJ (ay c_law_put hr (aa (pv 5) (aa (pv 7) ae))))) (aj (bj (PW.pt' (cB (aB En (bH (bb K) z_len bR (aa (pv 5) ae)) (pv 4) (aA _)) (cT (PW.pt' (nD (aB oy (am (aw K) (pv 7) ac (fun _ _=>rfl)) av (aA _)) (km (aB kq (pv 3) ac (aA _)))))))) (ai (au 3 sc_law_program.nd (ak jg (pv 3) (dy fQ z_int jj (aa (ck aT (am (aw K) (pv 7) ac (fun _ _=>rfl)) av (aA _)) ae))))
   (aj (bJ (bV K PySem.F.plainAttrs_list PySem.F.slot_list_append PySem.F.type_list_append bP (pv 5) (aa (aS (aa (pv 7) (aa (aS ae) (aa (aS ae) (aa ac ae))))) ae))))) aY))))))))
   (ai (yr PassesOwn.never (aB kq (bH (bb K) z_len bR (aa (pv 5) ae)) ac (aA _)) (aj (bJ (ay c_law_close hr (aa (pv 5) ae)))))
   (aj (az (am (aw K) (am (aw K) (pv 5) ac (fun _ _=>rfl)) ac (fun _ _=>rfl))))))),?_⟩
 walk_at "rd1";refine⟨by decide,fun th hth=>?_⟩
 have s1:=ah hth (.tup [V.str "top"]);have e1:upd H th (.tup [V.str "top"]) th=some (.tup [V.str "top"]):=af
 generalize upd H th (.tup [V.str "top"])=H1 at s1 e1 ⊢;refine⟨by decide,fun a1 ha1=>?_⟩
 have s2:=ah ha1 (.lst []);have e2:upd H1 a1 (.lst []) a1=some (.lst (([]:List Addr).map V.ref)):=af
 generalize upd H1 a1 (.lst [])=H2 at s2 e2 ⊢;refine⟨by decide,fun a2 ha2=>?_⟩
 have s3:=ah ha2 (.lst []);have e3:upd H2 a2 (.lst []) a2=some (.lst (([]:List Addr).map V.ref)):=af
 generalize upd H2 a2 (.lst [])=H3 at s3 e3 ⊢;refine⟨by decide,fun fa hfa=>?_⟩
 have s4:=ah hfa (.lst [.ref th,.ref a1,.ref a2,.int 0]);have e4:upd H3 fa (.lst [.ref th,.ref a1,.ref a2,.int 0]) fa=some (.lst [.ref th,.ref a1,.ref a2,iH false]):=af
 generalize upd H3 fa (.lst [.ref th,.ref a1,.ref a2,.int 0])=H4 at s4 e4 ⊢;refine⟨by decide,fun pp hpp=>?_⟩
 have s5:=ah hpp (.lst [.ref fa]);have e5:upd H4 pp (.lst [.ref fa]) pp=some (.lst [.ref fa]):=af
 generalize upd H4 pp (.lst [.ref fa])=H5 at s5 e5 ⊢;have s12:=s1.trans s2;have s13:=s12.trans s3;have s14:=s13.trans s4;have s15:=s14.trans s5;have i1:a1≠a2:=aF e2 ha2
 have i2:a1≠fa:=aF (s3 _ _ e2) hfa
 have i3:a2≠fa:=aF e3 hfa
 have i4:a1≠pp:=aF (s4 _ _ (s3 _ _ e2)) hpp
 have i5:a2≠pp:=aF (s4 _ _ e3) hpp
 have i6:fa≠pp:=aF e4 hpp
 have I0:PInv H H5 pp [⟨fa,a1,a2,⟨.top,[],[],false⟩⟩] (fun _=>False):=by
  refine⟨s15,e5,fun k x hx=>?_,?_,fun b _ z=>z,fun b hb=>?_,fun b z=>z.elim⟩
  ·have hk:k=0:=by have:=(List.getElem?_eq_some_iff.mp hx).1; simp at this; omega
   subst hk
   cases hx;exact⟨th,[],[],s5 _ _ e4,s5 _ _ (s4 _ _ (s3 _ _ (s2 _ _ e1))),s5 _ _ (s4 _ _ (s3 _ _ e2)),s5 _ _ (s4 _ _ e3),.nil,.nil⟩
  ·show [pp,fa,a1,a2].Nodup
   simp only[List.nodup_cons,List.mem_cons,List.not_mem_nil,or_false,not_or,not_false_eq_true,List.nodup_nil,and_true]
   exact⟨⟨fun e=>i6 e.symm,fun e=>i4 e.symm,fun e=>i5 e.symm⟩,⟨fun e=>i2 e.symm,fun e=>i3 e.symm⟩,i1⟩
  ·have hb':b∈[pp,fa,a1,a2]:=hb
   simp only[List.mem_cons,List.not_mem_nil,or_false]at hb'
   rcases hb' with rfl | rfl | rfl | rfl
   ·exact s14.free hpp
   ·exact s13.free hfa
   ·exact s1.free ha1
   ·exact s12.free ha2
 have O0:POk [⟨fa,a1,a2,⟨.top,[],[],false⟩⟩] (3 * 0):=by
  refine⟨fun k x hx=>?_,Nat.le_refl _,by simp,by simp⟩
  have hk:k=0:=by have:=(List.getElem?_eq_some_iff.mp hx).1; simp at this; omega
  subst hk
  cases hx;exact⟨fun _=>rfl,fun z=>absurd z (by decide),⟨j8 9,fun s hs=>by cases hs⟩,⟨j8 9,fun s hs=>by cases hs⟩,.inr ⟨rfl,rfl⟩⟩
 walk_at "nx";refine⟨⟨_,SqL.of (s15 _ _ hcp)⟩,?_⟩
 refine cS (xs:=cs.map V.int) (fun i σ H'=>∃ (le:Int) (o6 o7:Option V) (fs:List FrX) (S:Addr→Prop),σ=[some (.ref cp),some (.ref np),some (.ref wp),some (.int le),some (.int 4),some (.ref pp),o6,o7]∧PInv H H' pp fs S∧POk fs (3 * i)∧Root a1 fs)
  ⟨3,none,none,_,_,rfl,I0,O0,_,rfl,rfl⟩ (fun i σ H' _ hh=>by obtain⟨_,_,_,_,_,_,I,_⟩:=hh; exact SqL.of (I.sm _ _ hcp)) ?_ ?_
 ·rintro i v σ H6 hv ⟨le,o6,o7,fs,S,rfl,I,O,hroot⟩
  have hi:i<cs.length:=by have:=(List.getElem?_eq_some_iff.mp hv).1; simpa using this
  rw[List.getElem?_map,List.getElem?_eq_getElem hi]at hv
  cases hv;walk_at "rd1";refine⟨cs[i],np,wp,nm,ws,rfl,I.sm _ _ hnp,I.sm _ _ hwp,n1,n2,w1,w2,hnm,hws,fun t H7 v s7 et hk=>?_⟩
  have I7:=I.alloc s7;walk_at "nx";have fin:∀ {H':Hp} {le:Int} {o6 o7:Option V} {fs':List FrX} {S':Addr→Prop},PInv H H' pp fs' S'→POk fs' (3 * i+3)→Root a1 fs'→∃ (le':Int) (p6 p7:Option V) (fs:List FrX) (S:Addr→Prop),[some (V.ref cp),some (.ref np),some (.ref wp),some (.int le),some (.int 4),some (.ref pp),o6,o7]=[some (.ref cp),some (.ref np),some (.ref wp),some (.int le'),some (.int 4),some (.ref pp),p6,p7]∧PInv H H' pp fs S∧POk fs (3 * (i+1))∧Root a1 fs:=fun I' O' R'=>⟨_,_,_,_,_,rfl,I',O',R'⟩
  have hfne:fs≠[]:=fun z=>by have:=O.pos; rw[z]at this; simp at this
  obtain⟨gs,x,rfl⟩ : ∃ gs x,fs=gs++[x]:=⟨fs.dropLast,fs.getLast hfne,(List.dropLast_concat_getLast hfne).symm⟩
  have hxk:=O.ok gs.length x (df gs x);have hxs:=O.small (df gs x);have hglen:=O.len;rw[List.length_append,List.length_cons,List.length_nil]at hglen
  have hvh:∃ (g:Str) (u:List V),v = .str g::u:=by cases hk <;> first | exact⟨_,_,rfl⟩ | (rename_i px _ _; cases px <;> exact⟨_,_,rfl⟩)
  obtain⟨gh,u,hv⟩:=hvh
  have hat:cC v 0=some (.str gh):=by rw[hv]; exact h8
  refine⟨_,_,.inr (SqT.of et),hat,by decide,fun p1 hp1=>?_⟩
  have s8:=ah hp1 (.tup [V.str "other", V.str "close"]);have e8:upd H7 p1 (.tup [V.str "other", V.str "close"]) p1=some (.tup ((["other", "close"]:List Str).map V.str)):=af
  generalize upd H7 p1 (.tup [V.str "other", V.str "close"])=H8 at s8 e8 ⊢;have I8:=I7.alloc s8;have et8:=s8 _ _ et;refine⟨_,.inr (SqT.of e8),rfl,rfl,?_⟩
  rw[eW];have plen:(((gs++[x]).map fun x=>V.ref x.fa).length:Int)=(gs.length:Int)+1:=by simp
  refine bd (fun c1=>?_) (fun c1=>?_)
  ·have hoc:gh = "other" ∨ gh = "close" := by have:=of_decide_eq_true c1; simpa only[List.mem_cons,List.not_mem_nil,or_false] using this
   refine⟨_,.inl (SqL.of I8.pile),?_⟩
   rw[plen];refine bd (fun c2=>?_) (fun c2=>?_)
   ·have hgne:gs≠[]:=fun z=>by rw[z]at c2; simp at c2
    refine⟨_,_,.inr (SqT.of et8),hat,?_⟩
    walk_at "rd1";obtain⟨ha,as1,as2,h1,h2,h3,h4,h5,h6⟩:=I8.fr gs.length x (df gs x)
    rcases hoc with rfl | rfl
    ·rw[if_pos rfl]
     refine⟨_,_,.inl (SqL.of I8.pile),fT,?_⟩
     walk_at "rd1";refine⟨_,_,.inl (SqL.of h1),h8,?_⟩
     walk_at "rd1"
     cases hhd:x.f.hd with
     | top=>
      have:=hxk.hd (by cases gs with | nil=>exact absurd rfl hgne | cons _ _=>simp)
      rw[hhd]at this; exact this.elim
     | lend y1 y2=>
      rw[hhd]at h2
      refine⟨_,_,.inr (SqT.of h2),(show cC (dX (.lend y1 y2)) 0=some (.str "lend") from h8),?_⟩
      walk_at "rd1";rw[if_neg (by decide +kernel)]
      refine⟨_,.inl (SqL.of I8.pile),?_⟩
      rw[plen,if_pos c2];obtain⟨hs2,g,rfl⟩ : ∃ hs2 g,gs=hs2++[g]:=⟨gs.dropLast,gs.getLast hgne,(List.dropLast_concat_getLast hgne).symm⟩
      have hgs:=O.small (k:=hs2.length) (x:=g) (by rw[List.append_assoc,List.getElem?_append_right (Nat.le_refl _),Nat.sub_self]; rfl)
      have hl5:=O.len;simp at hl5
      refine⟨pp,H,hs2,g,x,S,rfl,I8,fun z=>by
       have:=hxk.hd (by simp)
       rw[z]at this; exact this,by omega,by omega,by omega,fun H9 S9 I9=>?_⟩
      exact fin I9 (O.close.mono (by omega)) ((hroot.cut (by simp)).set rfl)
     | whl n=>
      rw[hhd]at h2
      refine⟨_,_,.inr (SqT.of h2),(show cC (dX (.whl n)) 0=some (.str "while") from h8),?_⟩
      walk_at "rd1";rw[if_neg (by decide +kernel)]
      refine⟨_,.inl (SqL.of I8.pile),?_⟩
      rw[plen,if_pos c2];obtain⟨hs2,g,rfl⟩ : ∃ hs2 g,gs=hs2++[g]:=⟨gs.dropLast,gs.getLast hgne,(List.dropLast_concat_getLast hgne).symm⟩
      have hgs:=O.small (k:=hs2.length) (x:=g) (by rw[List.append_assoc,List.getElem?_append_right (Nat.le_refl _),Nat.sub_self]; rfl)
      have hl5:=O.len;simp at hl5
      refine⟨pp,H,hs2,g,x,S,rfl,I8,fun z=>by
       have:=hxk.hd (by simp)
       rw[z]at this; exact this,by omega,by omega,by omega,fun H9 S9 I9=>?_⟩
      exact fin I9 (O.close.mono (by omega)) ((hroot.cut (by simp)).set rfl)
     | ite n=>
      rw[hhd]at h2
      refine⟨_,_,.inr (SqT.of h2),(show cC (dX (.ite n)) 0=some (.str "if") from h8),?_⟩
      walk_at "rd1";refine⟨_,_,.inl (SqL.of I8.pile),fT,?_⟩
      walk_at "rd1";refine⟨_,_,.inl (SqL.of h1),aq (j:=3) rfl,?_⟩
      cases hs:x.f.s with
      | true=>
       rw[show iH true=V.int 1 from rfl];walk_at "rd1";rw[if_neg (by decide)]
       refine⟨_,.inl (SqL.of I8.pile),?_⟩
       rw[plen,if_pos c2];obtain⟨hs2,g,rfl⟩ : ∃ hs2 g,gs=hs2++[g]:=⟨gs.dropLast,gs.getLast hgne,(List.dropLast_concat_getLast hgne).symm⟩
       have hgs:=O.small (k:=hs2.length) (x:=g) (by rw[List.append_assoc,List.getElem?_append_right (Nat.le_refl _),Nat.sub_self]; rfl)
       have hl5:=O.len;simp at hl5
       refine⟨pp,H,hs2,g,x,S,rfl,I8,fun z=>by
        have:=hxk.hd (by simp)
        rw[z]at this; exact this,by omega,by omega,by omega,fun H9 S9 I9=>?_⟩
       exact fin I9 (O.close.mono (by omega)) ((hroot.cut (by simp)).set rfl)
      | false=>
       rw[show iH false=V.int 0 from rfl];walk_at "rd1";refine⟨_,_,.inl (SqL.of I8.pile),fT,?_⟩
       walk_at "rd1";refine⟨_,3,h1,rfl,?_⟩
       exact fin (I8.side h1) ((O.side hhd).mono (by omega)) (hroot.set rfl)
    ·rw[if_neg (by decide +kernel)]
     refine⟨_,.inl (SqL.of I8.pile),?_⟩
     rw[plen,if_pos c2];obtain⟨hs2,g,rfl⟩ : ∃ hs2 g,gs=hs2++[g]:=⟨gs.dropLast,gs.getLast hgne,(List.dropLast_concat_getLast hgne).symm⟩
     have hgs:=O.small (k:=hs2.length) (x:=g) (by rw[List.append_assoc,List.getElem?_append_right (Nat.le_refl _),Nat.sub_self]; rfl)
     have hl5:=O.len;simp at hl5
     refine⟨pp,H,hs2,g,x,S,rfl,I8,fun z=>by
      have:=hxk.hd (by simp)
      rw[z]at this; exact this,by omega,by omega,by omega,fun H9 S9 I9=>?_⟩
     exact fin I9 (O.close.mono (by omega)) ((hroot.cut (by simp)).set rfl)
   ·refine⟨_,.inl (SqL.of I8.pile),?_⟩
    rw[plen,if_neg c2];exact fin I8 (O.mono (by omega)) hroot
  ·have hoc:gh∉(["other", "close"]:List Str):=fun z=>c1 (decide_eq_true z)
   walk_at "rd1";refine⟨_,_,.inr (SqT.of et8),hat,by decide,fun p2 hp2=>?_⟩
   have s9:=ah hp2 (.tup [V.str "lend", V.str "if", V.str "while"])
   have e9:upd H8 p2 (.tup [V.str "lend", V.str "if", V.str "while"]) p2=some (.tup ((["lend", "if", "while"]:List Str).map V.str)):=af
   generalize upd H8 p2 (.tup [V.str "lend", V.str "if", V.str "while"])=H9 at s9 e9 ⊢
   have I9:=I8.alloc s9;have et9:=s9 _ _ et8;refine⟨_,.inr (SqT.of e9),rfl,rfl,?_⟩
   rw[eW]
   cases hk with
   | plain ws' px pw hfr=>
    have hgh:ws'.headD "" = gh:=by cases px <;> (cases hv; rfl)
    have hni:gh∉(["lend", "if", "while"]:List Str):=by
     rw[← hgh];rcases qQ px with h | h | h | h | h <;> rw[h] <;> decide +kernel
    rw[decide_eq_false hni,if_pos (by decide)]
    refine⟨pp,t,H,gs,x,S,.plain ws',rfl,I9,et9,by omega,by omega,by omega,fun H10 I10=>?_⟩
    exact fin I10 ((O.put (st:=.plain ws') (c:=1) ⟨px,hfr⟩ pw (Nat.le_refl _)).mono (by omega)) (hroot.set rfl)
   | lend y1 y2 k1 k2=>
    cases hv;rw[decide_eq_true (by decide +kernel),if_neg (by decide)]
    refine⟨_,.inl (SqL.of I9.pile),?_⟩
    rw[plen];refine bd (fun c3=>?_) (fun c3=>?_)
    ·refine⟨_,_,.inr (SqT.of et9),hat,?_⟩
     walk_at "rd1";rw[if_neg (by simp)]
     refine bd (fun c4=>?_) (fun c4=>?_)
     ·refine⟨_,_,.inr (SqT.of et9),hat,?_⟩
      walk_at "rd1";walk_at "nx";refine⟨⟨_,SqL.of I9.pile⟩,by decide,fun b1 hb1=>?_⟩
      have s10:=ah hb1 (.lst []);have f1:upd H9 b1 (.lst []) b1=some (.lst (([]:List Addr).map V.ref)):=af
      generalize upd H9 b1 (.lst [])=H10 at s10 f1 ⊢;refine⟨by decide,fun b2 hb2=>?_⟩
      have s11:=ah hb2 (.lst []);have f2:upd H10 b2 (.lst []) b2=some (.lst (([]:List Addr).map V.ref)):=af
      generalize upd H10 b2 (.lst [])=H11 at s11 f2 ⊢;refine⟨by decide,fun fb hfb=>?_⟩
      have s12:=ah hfb (.lst [.ref t,.ref b1,.ref b2,.int 0]);have f3:upd H11 fb (.lst [.ref t,.ref b1,.ref b2,.int 0]) fb=some (.lst [.ref t,.ref b1,.ref b2,iH false]):=af
      generalize upd H11 fb (.lst [.ref t,.ref b1,.ref b2,.int 0])=H12 at s12 f3 ⊢;have I10:=I9.alloc s10;have I11:=I10.alloc s11;have I12:=I11.alloc s12;have j1:b1≠b2:=aF f1 hb2
      have j2:b1≠fb:=aF (s11 _ _ f1) hfb
      have j3:b2≠fb:=aF f2 hfb
      refine⟨_,I12.pile,by rw[List.length_map,List.length_append]; exact b9 (by simp; omega),?_⟩
      refine fin (I12.push (x:=⟨fb,b1,b2,⟨.lend y1 y2,[],[],false⟩⟩) ⟨t,[],[],f3,(s10.trans (s11.trans s12)) _ _ et9,(s11.trans s12) _ _ f1,s12 _ _ f2,.nil,.nil⟩ ?_ ?_) (O.open (h:=.lend y1 y2) (by simp; omega) ⟨k1,k2⟩ fb b1 b2) hroot.add
      ·show [fb,b1,b2].Nodup
       simp only[List.nodup_cons,List.mem_cons,List.not_mem_nil,or_false,not_or,not_false_eq_true,List.nodup_nil,and_true]
       exact⟨⟨fun e=>j2 e.symm,fun e=>j3 e.symm⟩,j1⟩
      ·intro b hb
       have hb':b∈[fb,b1,b2]:=hb
       simp only[List.mem_cons,List.not_mem_nil,or_false]at hb'
       rcases hb' with rfl | rfl | rfl
       ·exact⟨I11.notop hfb,(I11.free hfb).2,(I11.free hfb).1⟩
       ·exact⟨I9.notop hb1,(I9.free hb1).2,(I9.free hb1).1⟩
       ·exact⟨I10.notop hb2,(I10.free hb2).2,(I10.free hb2).1⟩
     ·exact fin I9 (O.mono (by omega)) hroot
    ·exact fin I9 (O.mono (by omega)) hroot
   | ite n k1=>
    cases hv;rw[decide_eq_true (by decide +kernel),if_neg (by decide)]
    refine⟨_,.inl (SqL.of I9.pile),?_⟩
    rw[plen];refine bd (fun c3=>?_) (fun c3=>?_)
    ·refine⟨_,_,.inr (SqT.of et9),hat,?_⟩
     walk_at "rd1";rw[if_pos (by decide +kernel)]
     refine⟨_,_,.inr (SqT.of et9),hat,?_⟩
     walk_at "rd1";walk_at "nx";refine⟨⟨_,SqL.of I9.pile⟩,by decide,fun b1 hb1=>?_⟩
     have s10:=ah hb1 (.lst []);have f1:upd H9 b1 (.lst []) b1=some (.lst (([]:List Addr).map V.ref)):=af
     generalize upd H9 b1 (.lst [])=H10 at s10 f1 ⊢;refine⟨by decide,fun b2 hb2=>?_⟩
     have s11:=ah hb2 (.lst []);have f2:upd H10 b2 (.lst []) b2=some (.lst (([]:List Addr).map V.ref)):=af
     generalize upd H10 b2 (.lst [])=H11 at s11 f2 ⊢;refine⟨by decide,fun fb hfb=>?_⟩
     have s12:=ah hfb (.lst [.ref t,.ref b1,.ref b2,.int 0]);have f3:upd H11 fb (.lst [.ref t,.ref b1,.ref b2,.int 0]) fb=some (.lst [.ref t,.ref b1,.ref b2,iH false]):=af
     generalize upd H11 fb (.lst [.ref t,.ref b1,.ref b2,.int 0])=H12 at s12 f3 ⊢;have I10:=I9.alloc s10;have I11:=I10.alloc s11;have I12:=I11.alloc s12;have j1:b1≠b2:=aF f1 hb2
     have j2:b1≠fb:=aF (s11 _ _ f1) hfb
     have j3:b2≠fb:=aF f2 hfb
     refine⟨_,I12.pile,by rw[List.length_map,List.length_append]; exact b9 (by simp; omega),?_⟩
     refine fin (I12.push (x:=⟨fb,b1,b2,⟨.ite n,[],[],false⟩⟩) ⟨t,[],[],f3,(s10.trans (s11.trans s12)) _ _ et9,(s11.trans s12) _ _ f1,s12 _ _ f2,.nil,.nil⟩ ?_ ?_) (O.open (h:=.ite n) (by simp; omega) k1 fb b1 b2) hroot.add
     ·show [fb,b1,b2].Nodup
      simp only[List.nodup_cons,List.mem_cons,List.not_mem_nil,or_false,not_or,not_false_eq_true,List.nodup_nil,and_true]
      exact⟨⟨fun e=>j2 e.symm,fun e=>j3 e.symm⟩,j1⟩
     ·intro b hb
      have hb':b∈[fb,b1,b2]:=hb
      simp only[List.mem_cons,List.not_mem_nil,or_false]at hb'
      rcases hb' with rfl | rfl | rfl
      ·exact⟨I11.notop hfb,(I11.free hfb).2,(I11.free hfb).1⟩
      ·exact⟨I9.notop hb1,(I9.free hb1).2,(I9.free hb1).1⟩
      ·exact⟨I10.notop hb2,(I10.free hb2).2,(I10.free hb2).1⟩
    ·exact fin I9 (O.mono (by omega)) hroot
   | whl n k1=>
    cases hv;rw[decide_eq_true (by decide +kernel),if_neg (by decide)]
    refine⟨_,.inl (SqL.of I9.pile),?_⟩
    rw[plen];refine bd (fun c3=>?_) (fun c3=>?_)
    ·refine⟨_,_,.inr (SqT.of et9),hat,?_⟩
     walk_at "rd1";rw[if_pos (by decide +kernel)]
     refine⟨_,_,.inr (SqT.of et9),hat,?_⟩
     walk_at "rd1";walk_at "nx";refine⟨⟨_,SqL.of I9.pile⟩,by decide,fun b1 hb1=>?_⟩
     have s10:=ah hb1 (.lst []);have f1:upd H9 b1 (.lst []) b1=some (.lst (([]:List Addr).map V.ref)):=af
     generalize upd H9 b1 (.lst [])=H10 at s10 f1 ⊢;refine⟨by decide,fun b2 hb2=>?_⟩
     have s11:=ah hb2 (.lst []);have f2:upd H10 b2 (.lst []) b2=some (.lst (([]:List Addr).map V.ref)):=af
     generalize upd H10 b2 (.lst [])=H11 at s11 f2 ⊢;refine⟨by decide,fun fb hfb=>?_⟩
     have s12:=ah hfb (.lst [.ref t,.ref b1,.ref b2,.int 0]);have f3:upd H11 fb (.lst [.ref t,.ref b1,.ref b2,.int 0]) fb=some (.lst [.ref t,.ref b1,.ref b2,iH false]):=af
     generalize upd H11 fb (.lst [.ref t,.ref b1,.ref b2,.int 0])=H12 at s12 f3 ⊢;have I10:=I9.alloc s10;have I11:=I10.alloc s11;have I12:=I11.alloc s12;have j1:b1≠b2:=aF f1 hb2
     have j2:b1≠fb:=aF (s11 _ _ f1) hfb
     have j3:b2≠fb:=aF f2 hfb
     refine⟨_,I12.pile,by rw[List.length_map,List.length_append]; exact b9 (by simp; omega),?_⟩
     refine fin (I12.push (x:=⟨fb,b1,b2,⟨.whl n,[],[],false⟩⟩) ⟨t,[],[],f3,(s10.trans (s11.trans s12)) _ _ et9,(s11.trans s12) _ _ f1,s12 _ _ f2,.nil,.nil⟩ ?_ ?_) (O.open (h:=.whl n) (by simp; omega) k1 fb b1 b2) hroot.add
     ·show [fb,b1,b2].Nodup
      simp only[List.nodup_cons,List.mem_cons,List.not_mem_nil,or_false,not_or,not_false_eq_true,List.nodup_nil,and_true]
      exact⟨⟨fun e=>j2 e.symm,fun e=>j3 e.symm⟩,j1⟩
     ·intro b hb
      have hb':b∈[fb,b1,b2]:=hb
      simp only[List.mem_cons,List.not_mem_nil,or_false]at hb'
      rcases hb' with rfl | rfl | rfl
      ·exact⟨I11.notop hfb,(I11.free hfb).2,(I11.free hfb).1⟩
      ·exact⟨I9.notop hb1,(I9.free hb1).2,(I9.free hb1).1⟩
      ·exact⟨I10.notop hb2,(I10.free hb2).2,(I10.free hb2).1⟩
    ·exact fin I9 (O.mono (by omega)) hroot
   | other=>cases hv; exact absurd (by decide +kernel) hoc
   | close=>cases hv; exact absurd (by decide +kernel) hoc
 ·rintro σ H6 ⟨le,o6,o7,fs,S,rfl,I,O,hroot⟩
  rw[List.length_map]at O
  walk_at "nx";refine⟨fun m σ H'=>∃ (fs:List FrX) (S:Addr→Prop),σ=[some (.ref cp),some (.ref np),some (.ref wp),some (.int le),some (.int 4),some (.ref pp),o6,o7]∧PInv H H' pp fs S∧POk fs (3 * cs.length)∧Root a1 fs∧fs.length=m,⟨_,fs,S,rfl,I,O,hroot,rfl⟩,?_⟩
  clear I O hroot;rintro m σ H7 ⟨fs,S,rfl,I,O,hroot,hm⟩
  have hfne:fs≠[]:=fun z=>by have:=O.pos; rw[z]at this; simp at this
  obtain⟨gs,x,rfl⟩ : ∃ gs x,fs=gs++[x]:=⟨fs.dropLast,fs.getLast hfne,(List.dropLast_concat_getLast hfne).symm⟩
  have hxk:=O.ok gs.length x (df gs x);have hxs:=O.small (df gs x);have plen:(((gs++[x]).map fun x=>V.ref x.fa).length:Int)=(gs.length:Int)+1:=by simp
  walk_at "rd1";refine⟨_,.inl (SqL.of I.pile),?_⟩
  rw[plen];refine bd (fun c2=>?_) (fun c2=>?_)
  ·have hgne:gs≠[]:=fun z=>by rw[z]at c2; simp at c2
   obtain⟨hs2,g,rfl⟩ : ∃ hs2 g,gs=hs2++[g]:=⟨gs.dropLast,gs.getLast hgne,(List.dropLast_concat_getLast hgne).symm⟩
   have hgs:=O.small (k:=hs2.length) (x:=g) (by rw[List.append_assoc,List.getElem?_append_right (Nat.le_refl _),Nat.sub_self]; rfl)
   have hl5:=O.len;simp at hl5 hm
   refine⟨fun σ' H'=>∃ (fs:List FrX) (S:Addr→Prop),σ'=[some (.ref cp),some (.ref np),some (.ref wp),some (.int le),some (.int 4),some (.ref pp),o6,o7]∧PInv H H' pp fs S∧POk fs (3 * cs.length)∧Root a1 fs∧fs.length=hs2.length+1,fun σ' H' z=>⟨hs2.length+1,by omega,z⟩,?_⟩
   refine⟨pp,H,hs2,g,x,S,rfl,I,fun z=>by
    have:=hxk.hd (by simp)
    rw[z]at this; exact this,by omega,by omega,by omega,fun H9 S9 I9=>?_⟩
   exact⟨_,S9,rfl,I9,O.close,(hroot.cut (by simp)).set rfl,by simp⟩
  ·have hg0:gs=[]:=List.eq_nil_of_length_eq_zero (by omega)
   subst hg0;obtain⟨ha,as1,as2,h1,h2,h3,h4,h5,h6⟩:=I.fr 0 x rfl
   obtain⟨y,hy,hya⟩:=hroot
   cases hy;walk_at "nx";refine⟨_,_,.inl (SqL.of I.pile),h8,?_⟩
   walk_at "rd1";refine⟨_,_,.inl (SqL.of h1),aq (j:=1) rfl,?_⟩
   have hc:=O.cnt;have hw:gM 0 x+0≤3 * cs.length:=hc
   unfold gM at hw;refine q x.a1 H7 (fun b=>S b∨b=x.a1) x.f.a I.sm (I.nw _ (List.mem_cons_of_mem _ (eR (fs:=[]++[x]) (x:=x) (by simp)).2.1)) ⟨.inr rfl,as1,h3,cG (fun _ _ z=>z) (fun _ _ _ z=>z) (fun _ z=>.inl z) h5⟩ hxk.a.1 hxk.a.2 (by simp at hw; omega)
end
def b8:Option Nat→V
 | none=>.non
 | some n=>.int n
set_option genInjectivity false in
set_option genSizeOf false in
structure Rl where
 s:Int
 ws:List Str
 rs:List (List (Option Nat))
structure eZ (r:Rl):Prop where
 s:r.s=1∨r.s=2
 nw:r.ws.length≤16
 n0:1≤r.rs.length
 n1:r.rs.length≤60
 row:∀ x∈r.rs,x.length=r.ws.length∧∀ k,some k∈x→k<r.rs.length
 lw:∀ w∈r.ws,w.length≤30
def RoomsAs(H:Hp)(p:Addr)(rs:List (List (Option Nat)))(as:List Addr):Prop:=
 H p=some (.lst (as.map V.ref))∧as.length=rs.length∧∀ (i:Nat) a x,as[i]? = some a→rs[i]? = some x→H a=some (.lst (x.map b8))
def RuleAt(H:Hp)(p:Addr)(r:Rl):Prop:=∃ pw pr as,H p=some (.tup [.int r.s,.ref pw,.ref pr])∧H pw=some (.lst (r.ws.map V.str))∧RoomsAs H pr r.rs as
theorem RoomsAs.mono{H H':Hp}{p:Addr}{rs:List (List (Option Nat))}{as:List Addr}(sm:Same H H')(h:RoomsAs H p rs as):RoomsAs H' p rs as:=by
 obtain⟨h1,h2,h3⟩:=h
 exact⟨sm _ _ h1,h2,fun i a x e1 e2=>sm _ _ (h3 i a x e1 e2)⟩
theorem RuleAt.mono{H H':Hp}{p:Addr}{r:Rl}(sm:Same H H')(h:RuleAt H p r):RuleAt H' p r:=by
 obtain⟨pw,pr,as,h1,h2,h3⟩:=h
 exact⟨pw,pr,as,sm _ _ h1,sm _ _ h2,h3.mono sm⟩
theorem mq(ss:List Str):(ss.map V.str).all bQ=true:=by
 rw[List.all_eq_true]; intro x hx; obtain⟨s,_,rfl⟩:=List.mem_map.mp hx; rfl
theorem sj(y:Str)(ss:List Str):gT (.str y) (ss.map V.str)=decide (y∈ss):=by
 rw[Bool.eq_iff_iff];unfold gT;rw[List.any_eq_true,decide_eq_true_eq]
 constructor
 ·rintro⟨x,hx,e⟩
  obtain⟨s,hs,rfl⟩:=List.mem_map.mp hx
  have e':(s == y)=true:=e
  rw[← eq_of_beq e']; exact hs
 ·intro h
  exact⟨.str y,List.mem_map.mpr ⟨y,h,rfl⟩,by show (y == y)=true; simp⟩
theorem xc(x:List (Option Nat)):∀ v∈x.map b8,bQ v=true:=by
 intro v hv
 obtain⟨o,_,rfl⟩:=List.mem_map.mp hv
 cases o <;> rfl
theorem zL{K:PySem.W.Frag}{H:Hp}{p q:Addr}{rs:List (List (Option Nat))}{as bs:List Addr}(h1:RoomsAs H p rs as)(h2:RoomsAs H q rs bs):EqN K H 2 (.ref p) (.ref q) true:=by
 obtain⟨a1,a2,a3⟩:=h1
 obtain⟨b1,b2,b3⟩:=h2
 refine EqN.seq (.inl ⟨SqL.of a1,SqL.of b1⟩) (by simp; omega) fun i x y e1 e2=>?_
 rw[List.getElem?_map]at e1 e2
 cases qa:as[i]? with
 | none=>rw[qa]at e1; cases e1
 | some a=>
  cases qb:bs[i]? with
  | none=>rw[qb]at e2; cases e2
  | some b=>
   rw[qa]at e1; rw[qb]at e2
   cases e1; cases e2
   have hi:i<rs.length:=by have:=(List.getElem?_eq_some_iff.mp qa).1; omega
   exact EqN.seqFlat (.inl ⟨SqL.of (a3 i a _ qa (List.getElem?_eq_getElem hi)),SqL.of (b3 i b _ qb (List.getElem?_eq_getElem hi))⟩) (xc _)
theorem vh{K:PySem.W.Frag}{pr L:Addr}{g:TG}{te:TE}{nT:Nat}{σ : L2.St}{Q:VK}{H:Hp}{rs:List (List (Option Nat))}{as:List Addr}(hR:RoomsAs H pr rs as)(hn:rs.length≤60)(hL:H L=none)
  (hs:∀ (a:Addr) (xs:List V) (H':Hp) (C:VK),H' a=some (.lst xs)→(∀ l,H' l=none→C (.ref l) (upd H' l (.lst xs)))→g (.ref a) (σ++List.replicate nT none) H' fun σ2 H2=>te σ2 H2 C)
  (q:∀ H' bs,Same H H'→RoomsAs H' L rs bs→(∀ b∈bs,H b=none∧b≠L)→bs.Nodup→Q (.ref L) H'):fw (kz K pr) g jS te nT σ L Q (upd H L (.lst [])):=by
 obtain⟨h1,h2,h3⟩:=hR
 refine uN (xs:=as.map V.ref) (fun i ys H'=>∃ bs:List Addr,Same H H'∧H' L=some (.lst ys)∧ys=bs.map V.ref∧bs.length=i∧(∀ b∈bs,H b=none∧b≠L∧∃ o,H' b=some o)∧bs.Nodup∧∀ (j:Nat) b x,bs[j]? = some b→rs[j]? = some x→H' b=some (.lst (x.map b8)))
  ⟨[],ah hL _,af,rfl,rfl,by simp,List.nodup_nil,by simp⟩ (fun i ys H' _ h=>by obtain⟨_,sm,_⟩:=h; exact SqL.of (sm _ _ h1)) ?_ ?_
 ·rintro i ys H' x hx hi ⟨bs,sm,hl,rfl,hb,hbn,hnd,hbx⟩
  rw[List.getElem?_map]at hx
  cases qa:as[i]? with
  | none=>rw[qa]at hx; cases hx
  | some a=>
   rw[qa]at hx; cases hx
   have hi':i<rs.length:=by have:=(List.getElem?_eq_some_iff.mp qa).1; omega
   have ha:=h3 i a _ qa (List.getElem?_eq_getElem hi');have e:=hs a _ H' (f_ (as.map V.ref).length i (fun i ys H'=>∃ bs:List Addr,Same H H'∧H' L=some (.lst ys)∧ys=bs.map V.ref∧bs.length=i∧(∀ b∈bs,H b=none∧b≠L∧∃ o,H' b=some o)∧bs.Nodup∧∀ (j:Nat) b x,bs[j]? = some b→rs[j]? = some x→H' b=some (.lst (x.map b8))) L (bs.map V.ref)) (sm _ _ ha) ?_
   ·have e2:(h_ (as.map V.ref).length i (fun i ys H'=>∃ bs:List Addr,Same H H'∧H' L=some (.lst ys)∧ys=bs.map V.ref∧bs.length=i∧(∀ b∈bs,H b=none∧b≠L∧∃ o,H' b=some o)∧bs.Nodup∧∀ (j:Nat) b x,bs[j]? = some b→rs[j]? = some x→H' b=some (.lst (x.map b8))) L (bs.map V.ref) te)=fun σ2 H2=>te σ2 H2 (f_ (as.map V.ref).length i (fun i ys H'=>∃ bs:List Addr,Same H H'∧H' L=some (.lst ys)∧ys=bs.map V.ref∧bs.length=i∧(∀ b∈bs,H b=none∧b≠L∧∃ o,H' b=some o)∧bs.Nodup∧∀ (j:Nat) b x,bs[j]? = some b→rs[j]? = some x→H' b=some (.lst (x.map b8))) L (bs.map V.ref)):=by
     funext σ2 H2; exact j9
    rw[e2]; exact e
   ·intro l hl0
    have nl:l≠L:=by
     rintro rfl
     rw[hl]at hl0; cases hl0
    have hl':upd H' l (.lst ((rs[i]).map b8)) L=some (.lst (bs.map V.ref)):=by rw[ax (Ne.symm nl)]; exact hl
    refine iA hi (by rw[List.length_map]; exact hb) (by rw[List.length_map,h2]; exact aR (by omega)) hl' ⟨bs++[l],(sm.trans (ah hl0 _)).upd hL _,af,by rw[List.map_append]; rfl,by simp[hb],?_,?_,?_⟩
    ·intro b hb'
     rcases List.mem_append.mp hb' with z | z
     ·obtain⟨z1,z2,o,z3⟩:=hbn b z
      exact⟨z1,z2,o,by rw[ax z2]; exact(ah hl0 _) _ _ z3⟩
     ·rw[List.mem_singleton.mp z]
      exact⟨sm.free hl0,nl,_,by rw[ax nl]; exact af⟩
    ·rw[List.nodup_append]
     refine⟨hnd,by simp,fun b hb' c hc=>?_⟩
     rw[List.mem_singleton.mp hc];rintro rfl
     obtain⟨_,_,o,z⟩:=hbn b hb'
     rw[hl0]at z; cases z
    ·intro j b x e1 e2
     rcases Nat.lt_or_ge j bs.length with z | z
     ·rw[List.getElem?_append_left z]at e1
      have q1:=hbx j b x e1 e2;have q2:=(hbn b (List.mem_of_getElem? e1)).2.1;rw[ax q2]; exact(ah hl0 _) _ _ q1
     ·rw[List.getElem?_append_right z]at e1
      have hj:j - bs.length=0:=by
       have:=(List.getElem?_eq_some_iff.mp e1).1
       simp at this; omega
      rw[hj]at e1
      have e1':l=b:=by simpa using e1
      subst e1';have hji:j=i:=by omega
      subst hji;rw[List.getElem?_eq_getElem hi']at e2
      cases e2;rw[ax nl]; exact af
 ·rintro ys H' ⟨bs,sm,hl,rfl,hb,hbn,hnd,hbx⟩
  exact q H' bs sm ⟨hl,by rw[hb,List.length_map,h2],hbx⟩ (fun b z=>⟨(hbn b z).1,(hbn b z).2.1⟩) hnd
section
variable{P:Program}{w:World}{K:PySem.W.Frag}{mg:Str→Option Value}{base:Heap}
def step(r:Rl)(k:Nat)(y:Str):Option Nat:=if y∈r.ws then (r.rs.getD k []).getD (r.ws.idxOf y) none else some k
def after(r:Rl):Nat→List Str→Option Nat
 | k,[]=>some k
 | k,y::ys=>match step r k y with
  | none=>none
  | some k'=>after r k' ys
theorem tJ{r:Rl}{k j:Nat}{y:Str}(ok:eZ r)(hk:k<r.rs.length)(h:step r k y=some j):j<r.rs.length:=by
 unfold step at h
 by_cases hy:y∈r.ws
 ·rw[if_pos hy,List.getD_eq_getElem?_getD (l:=r.rs),List.getElem?_eq_getElem hk]at h
  have hx:=ok.row r.rs[k] (List.getElem_mem hk);have hj:r.ws.idxOf y<(r.rs[k]).length:=by rw[hx.1]; exact List.idxOf_lt_length_iff.mpr hy
  have h':(r.rs[k]).getD (r.ws.idxOf y) none=some j:=h
  rw[List.getD_eq_getElem?_getD,List.getElem?_eq_getElem hj]at h'
  have h'':(r.rs[k])[r.ws.idxOf y]=some j:=h'
  exact hx.2 j (h'' ▸ List.getElem_mem hj)
 ·rw[if_neg hy]at h
  cases h; exact hk
def oF:Sp:=fun vs H Q _=>∃ (p:Addr) (r:Rl) (k:Nat) (y:Str),vs=[.ref p,.int k,.str y]∧RuleAt H p r∧eZ r∧k<r.rs.length∧Q (b8 (step r k y)) H
def xj(K:PySem.W.Frag):Sp:=fun vs H Q _=>∃ (p b:Addr) (r:Rl) (j:Nat) (ys:List Str),vs=[.ref p,.int j,.ref b]∧RuleAt H p r∧eZ r∧j<r.rs.length∧SqL K H b (ys.map V.str)∧Q (b8 (after r j ys)) H
theorem sP{r:Rl}{k:Nat}{y:Str}{x:List (Option Nat)}(ok:eZ r)(hx:r.rs[k]? = some x)(hy:y∈r.ws):(x.map b8)[r.ws.idxOf y]? = some (b8 (step r k y)):=by
 have hj:r.ws.idxOf y<x.length:=by rw[(ok.row x (List.mem_of_getElem? hx)).1]; exact List.idxOf_lt_length_iff.mpr hy
 rw[List.getElem?_map,List.getElem?_eq_getElem hj];show some (b8 x[r.ws.idxOf y])=_
 unfold step;rw[if_pos hy,List.getD_eq_getElem?_getD (l:=r.rs),hx];show _=some (b8 (x.getD (r.ws.idxOf y) none))
 rw[List.getD_eq_getElem?_getD,List.getElem?_eq_getElem hj]; rfl
theorem Bo(D:DefAt K mg "next_room" cg):aE P w K mg base 1 "next_room" ["rule", "room", "text"] oF:=by
 refine D.cal sc_next_room (fun _ _ _ _ _ _ us hl=>match us,hl with | [_,_,_],_=>rfl) (fun vs H Q E h=>by obtain⟨p,r,k,y,rfl,_⟩:=h; rfl) (fun f cdv A outer s H vs Q E hr h=>?_)
 obtain⟨p,r,k,y,rfl,hR,ok,hk,q⟩:=h
 obtain⟨pw,pr,as,h1,h2,h3,h4,h5⟩:=hR
 refine⟨_,(ai (au 3 sc_next_room.nd (am (aw K) (pv 0) ac (fun _ _=>rfl)))
   (ai (bj (aB (i7 K) (pv 2) (pv 3) (by with_unfolding_all rfl)) (aj (az (pv 1))) aY)
   (aj (az (am (aw K) (am (aw K) (am (aw K) (pv 0) ac (fun _ _=>rfl)) (pv 1) (fun _ _=>rfl)) (bV K PySem.F.plainAttrs_list PySem.F.slot_list_index PySem.F.type_list_index (m_ K) (pv 3) (aa (pv 2) ae)) (fun _ _=>rfl)))))),?_⟩
 walk_at "rd1";refine⟨_,_,.inr (SqT.of h1),rfl,?_⟩
 walk_at "nx";refine⟨_,.inl (SqL.of h2),rfl,mq _,?_⟩
 rw[sj];refine bd (fun c=>?_) (fun c=>?_)
 ·have hy:y∉r.ws:=by simpa using c
  have e:step r k y=some k:=by unfold step; rw[if_neg hy]
  rw[e]at q; exact q
 ·have hy:y∈r.ws:=by simpa using c
  obtain⟨b,hb⟩ : ∃ b,as[k]? = some b:=⟨as[k],List.getElem?_eq_getElem (by omega)⟩
  obtain⟨x,hx⟩ : ∃ x,r.rs[k]? = some x:=⟨_,List.getElem?_eq_getElem hk⟩
  walk_at "nx";refine⟨_,_,.inr (SqT.of h1),rfl,?_⟩
  walk_at "rd1";refine⟨_,_,.inl (SqL.of h3),(jh (by omega) (by simpa using hb)),?_⟩
  walk_at "rd1";refine⟨⟨_,SqL.of h2⟩,_,SqL.of h2,hy,?_⟩
  exact⟨_,_,.inl (SqL.of (h5 k b x hb hx)),(aq (sP ok hx hy)),q⟩
theorem kO{r:Rl}{k i:Nat}{ys:List Str}{y:Str}(h:ys[i]? = some y):after r k (ys.drop i)=match step r k y with
  | none=>none
  | some k'=>after r k' (ys.drop (i+1)):=by
 have hi:=(List.getElem?_eq_some_iff.mp h);obtain⟨hi,e⟩:=hi
 rw[List.drop_eq_getElem_cons hi,e]
 rfl
theorem oB(D:DefAt K mg "room_from" bW) (c_next_room:aE P w K mg base 1 "next_room" ["rule", "room", "text"] oF):aE P w K mg base 2 "room_from" ["rule", "room", "row"] (xj K):=by
 refine D.cal sc_room_from (fun _ _ _ _ _ _ us hl=>match us,hl with | [_,_,_],_=>rfl) (fun vs H Q E h=>by obtain⟨p,b,r,j,ys,rfl,_⟩:=h; rfl) (fun f cdv A outer s H vs Q E hr h=>?_)
 obtain⟨p,b,r,j,ys,rfl,hR,ok,hj,hb,q⟩:=h
 refine⟨_,(ai (b_ PassesOwn.never rfl (cX K (pv 2)) (bg 3 sc_room_from.nd) (ai (au 1 sc_room_from.nd (ay c_next_room hr (aa (pv 0) (aa (pv 1) (aa (pv 3) ae)))))
   (aj (bj (aB dY (pv 1) cZ (aA _)) (aj (az cZ)) aY))))
   (aj (az (pv 1)))),?_⟩
 walk_at "rd1";refine⟨⟨_,hb⟩,?_⟩
 refine cS (xs:=ys.map V.str) (fun i σ H'=>∃ (k:Nat) (o:Option V),σ=[some (.ref p),some (.int k),some (.ref b),o]∧H=H'∧k<r.rs.length∧after r j ys=after r k (ys.drop i)) ⟨j,none,rfl,rfl,hj,rfl⟩ (fun i σ H' _ h=>by obtain⟨_,_,_,rfl,_⟩:=h; exact hb) ?_ ?_
 ·rintro i x σ H' hx ⟨k,o,rfl,rfl,hk,e⟩
  rw[List.getElem?_map]at hx
  cases qy:ys[i]? with
  | none=>rw[qy]at hx; cases hx
  | some y=>
   rw[qy]at hx; cases hx
   rw[kO qy]at e
   walk_at "rd1";refine⟨p,r,k,y,rfl,hR,ok,hk,?_⟩
   cases hst:step r k y with
   | none=>
    rw[hst]at e
    walk_at "nx";refine bd (fun c=>?_) (fun c=>?_)
    ·rw[e]at q; exact q
    ·exact absurd rfl c
   | some k'=>
    rw[hst]at e
    have hk':=tJ ok hk hst;walk_at "nx";refine bd (fun c=>?_) (fun c=>?_)
    ·cases c
    ·exact⟨k',_,rfl,hk',e⟩
 ·rintro σ H' ⟨k,o,rfl,rfl,hk,e⟩
  rw[List.length_map,List.drop_length]at e
  walk_at "nx";have e':after r j ys=some k:=e
  rw[e']at q; exact q
end
theorem pB{H:Hp}{c:Addr}{R:List bi}{i:Nat}{r:bi}(h:ListR H c R)(e:R[i]? = some r):∃ (as:List Addr) (b:Addr),H c=some (.lst (as.map V.ref))∧as.length=R.length∧as[i]? = some b∧H b=some (.tup r):=by
 obtain⟨as,a1,a2⟩:=h
 have hl:=aM a2;have hi:=(List.getElem?_eq_some_iff.mp e).1;have hai:i<as.length:=by omega
 obtain⟨r',e1,e2⟩:=b7 a2 (List.getElem?_eq_getElem hai)
 rw[e]at e1
 cases e1;exact⟨as,_,a1,hl,List.getElem?_eq_getElem hai,e2⟩
theorem Im(n:Nat):gT (.int (n:Int)) [.int 2,.int 4]=decide (n=2∨n=4):=by
 show ((2:Int) == (n:Int)||((4:Int) == (n:Int)||false))=_
 by_cases a:n=2
 ·subst a; rfl
 ·by_cases b:n=4
  ·subst b; rfl
  ·rw[decide_eq_false (by omega),beq_eq_false_iff_ne.mpr (by omega),beq_eq_false_iff_ne.mpr (by omega)]; rfl
theorem Hd:(Str.empty++Str.ofString (toString (1:Int))++Str.ofString "." : Str)=("1." : Str):=by decide +kernel
theorem GO:(Str.empty++Str.ofString (toString (2:Int))++Str.ofString "." : Str)=("2." : Str):=by decide +kernel
theorem wK{K:PySem.W.Frag}{a:Addr}{xs:List V}{g:TG}{te:TE}{nT:Nat}{σ : L2.St}{D:Addr}{Q:VK}{H:Hp}{tc:TT}(Pv:Nat→List V→Hp→Prop)(h0:Pv 0 [] H)(hl:∀ i ys H,i≤xs.length→Pv i ys H→SqT K H a xs)
  (hs:∀ i ys H x,xs[i]? = some x→i<xs.length→Pv i ys H→g x (σ++List.replicate nT none) H (nI xs.length i Pv D ys tc te))
  (hd:∀ ys H,Pv xs.length ys H→Q (.ref D) H):fw (tu K a) g tc te nT σ D Q H:=by
 refine o8 xs.length Pv h0 (fun i ys H hi p=>⟨xs,xs[i],hl i ys H (Nat.le_of_lt hi) p,by simp[hi]⟩) (fun ys H p=>⟨xs,hl _ ys H (Nat.le_refl _) p,Nat.le_refl _⟩) (fun i ys H x H' hi p yl=>?_) hd
 obtain⟨rfl,y⟩:=yl
 exact hs i ys _ x (y xs (hl i ys _ (Nat.le_of_lt hi) p)) hi p
section
variable{P:Program}{w:World}{K:PySem.W.Frag}{mg:Str→Option Value}{base:Heap}
inductive SlR (N:Nat):bi→Prop
 | op (l s:Nat):s<N→SlR N [.str "open", iN l,iN s]
 | dd (l s:Nat) (x:Str):s<N→x.length≤20→SlR N [.str "do", iN l,iN s,.str x]
 | cp (l s t:Nat):s<N→t<N→SlR N [.str "copy", iN l,iN s,iN t]
 | dr (l s:Nat):s<N→SlR N [.str "drop", iN l,iN s]
 | ti (l s t:Nat):s<N→t<N→SlR N [.str "tie", iN l,iN s,iN t]
 | ts (l:Nat) (n:Int) (j:Nat):SlR N [.str "test", iN l,.int n,iN j]
 | jm (l j:Nat):SlR N [.str "jump", iN l,iN j]
 | en (l:Nat):SlR N [.str "end", iN l]
def cm(r:bi)(k:Nat):Nat:=match r.getD k .non with
 | .int j=>j.toNat
 | _=>0
def eD(r:bi):Str:=match r.getD 0 .non with
 | .str x=>x
 | _ => ""
def iI(r:bi):Str:=match r.getD 3 .non with
 | .str x=>x
 | _ => ""
theorem SlR.hd{N:Nat}{r:bi}(h:SlR N r):r[0]? = some (.str (eD r)):=by cases h <;> rfl
theorem SlR.s2{N:Nat}{r:bi}(h:SlR N r)(g:eD r∈(["open", "copy", "drop", "do", "tie"]:List Str)):r[2]? = some (.int (cm r 2:Nat))∧cm r 2<N:=by
 cases h with
 | op l s h | dr l s h=>exact⟨rfl,h⟩
 | dd l s x h _=>exact⟨rfl,h⟩
 | cp l s t h _ | ti l s t h _=>exact⟨rfl,h⟩
 | ts l n j=>exact absurd g (by show ¬ (("test" : Str)∈_); decide)
 | jm l j=>exact absurd g (by show ¬ (("jump" : Str)∈_); decide)
 | en l=>exact absurd g (by show ¬ (("end" : Str)∈_); decide)
theorem SlR.s3{N:Nat}{r:bi}(h:SlR N r)(g:eD r∈(["copy", "tie"]:List Str)):r[3]? = some (.int (cm r 3:Nat))∧cm r 3<N:=by
 cases h with
 | cp l s t _ h | ti l s t _ h=>exact⟨rfl,h⟩
 | op l s h=>exact absurd g (by show ¬ (("open" : Str)∈_); decide)
 | dr l s h=>exact absurd g (by show ¬ (("drop" : Str)∈_); decide)
 | dd l s x h _=>exact absurd g (by show ¬ (("do" : Str)∈_); decide)
 | ts l n j=>exact absurd g (by show ¬ (("test" : Str)∈_); decide)
 | jm l j=>exact absurd g (by show ¬ (("jump" : Str)∈_); decide)
 | en l=>exact absurd g (by show ¬ (("end" : Str)∈_); decide)
theorem SlR.wd{N:Nat}{r:bi}(h:SlR N r)(g:eD r = "do"):r[3]? = some (.str (iI r))∧(iI r).length≤20:=by
 cases h with
 | dd l s x _ h=>exact⟨rfl,h⟩
 | op l s h=>exact absurd g (by show ¬ (("open" : Str)=_); decide)
 | dr l s h=>exact absurd g (by show ¬ (("drop" : Str)=_); decide)
 | cp l s t _ h=>exact absurd g (by show ¬ (("copy" : Str)=_); decide)
 | ti l s t _ h=>exact absurd g (by show ¬ (("tie" : Str)=_); decide)
 | ts l n j=>exact absurd g (by show ¬ (("test" : Str)=_); decide)
 | jm l j=>exact absurd g (by show ¬ (("jump" : Str)=_); decide)
 | en l=>exact absurd g (by show ¬ (("end" : Str)=_); decide)
def gE(r:bi)(n:Nat):Nat:=if eD r = "copy" ∧ bN n (cm r 3)=true then qA n (cm r 2) else if eD r∈(["open", "copy", "drop"]:List Str) then nG n (cm r 2) else n
def oQ:Sp:=fun vs H Q _=>∃ s n:Nat,vs=[.int (s:Int),.int (n:Int)]∧Q (.bl (bN n s)) H
theorem AY(D:DefAt K mg "is_in" eK):aE P w K mg base 1 "is_in" ["slot", "held"] oQ:=by
 refine D.cal (k:=0) y8 (fun _ _ _ _ _ _ us hl=>match us,hl with | [_,_],_=>rfl) (fun vs H Q E h=>by obtain⟨_,_,rfl,_⟩:=h; rfl) (fun f cdv A outer s0 H vs Q E hr h=>?_)
 obtain⟨s,n,rfl,q⟩:=h
 refine⟨_,(aj (az (ck aT (ak jb (ak p_ (pv 1) (pv 0)) ac) ac (aA _)))),?_⟩
 walk_at "rd1";refine⟨by omega,?_⟩
 rw[Int.toNat_natCast,D9];have e:decide ((if bN n s=true then (1:Int) else 0)=1)=bN n s:=by cases bN n s <;> decide
 rw[e]; exact q
def mr:Sp:=fun vs H Q _=>∃ s n:Nat,vs=[.int (s:Int),.int (n:Int)]∧s≤1000000∧Q (.int (nG n s:Nat)) H
theorem uX(D:DefAt K mg "without" dA):aE P w K mg base 1 "without" ["slot", "held"] mr:=by
 refine D.cal (k:=0) va (fun _ _ _ _ _ _ us hl=>match us,hl with | [_,_],_=>rfl) (fun vs H Q E h=>by obtain⟨_,_,rfl,_⟩:=h; rfl) (fun f cdv A outer s0 H vs Q E hr h=>?_)
 obtain⟨s,n,rfl,hs,q⟩:=h
 refine⟨_,(aj (az (ak jb (pv 1) (d_ D4 (ak i0 ac (pv 0)))))),?_⟩
 walk_at "rd1";refine⟨⟨by omega,by omega,by decide⟩,?_⟩
 rw[Int.toNat_natCast,show (1:Int) * 2 ^ s=((2 ^ s:Nat):Int) by push_cast; omega,qX]
 exact q
def xl:Sp:=fun vs H Q _=>∃ (b:Addr) (r:bi) (n N:Nat),vs=[.ref b,.int (n:Int)]∧bc H b r∧SlR N r∧N≤1000000∧∀ H':Hp,Same H H'→Q (.int (gE r n:Nat)) H'
theorem AI(D:DefAt K mg "held_behind" b4) (c_is_in:aE P w K mg base 1 "is_in" ["slot", "held"] oQ) (c_without:aE P w K mg base 1 "without" ["slot", "held"] mr):aE P w K mg base 2 "held_behind" ["row", "held"] xl:=by
 refine D.cal (k:=1) kW (fun _ _ _ _ _ _ us hl=>match us,hl with | [_,_],_=>rfl) (fun vs H Q E h=>by obtain⟨_,_,_,_,rfl,_⟩:=h; rfl) (fun f cdv A outer s0 H vs Q E hr h=>?_)
 obtain⟨b,r,n,N,rfl,hb,hk,hN,q⟩:=h
 refine⟨_,(ai (bj (PW.pt' (cB (aB aT (am (aw K) (pv 0) ac (fun _ _=>rfl)) av (aA _)) (cT (dj (ay c_is_in hr (aa (am (aw K) (pv 0) ac (fun _ _=>rfl)) (aa (pv 1) ae))))))) (aj (az (ak Eu (pv 1) (ak i0 ac (am (aw K) (pv 0) ac (fun _ _=>rfl)))))) aY)
   (ai (bj (aB (i8 K) (am (aw K) (pv 0) ac (fun _ _=>rfl)) (aU (aa av (aa av (aa av ae)))) (by with_unfolding_all rfl)) (aj (az (ay c_without hr (aa (am (aw K) (pv 0) ac (fun _ _=>rfl)) (aa (pv 1) ae))))) aY)
   (aj (az (pv 1))))),?_⟩
 walk_at "rd1";refine⟨_,_,.inr (SqT.of hb),aq (j:=0) hk.hd,?_⟩
 walk_at "rd1";refine bd (fun c=>?_) (fun c=>?_)
 ·obtain⟨h2,l2⟩:=hk.s2 (by rw[c]; decide)
  obtain⟨h3,l3⟩:=hk.s3 (by rw[c]; decide)
  refine⟨_,_,.inr (SqT.of hb),aq (j:=3) h3,?_⟩
  refine⟨cm r 3,n,rfl,_,rfl,bd (fun d=>?_) (fun d=>?_)⟩
  ·refine⟨_,_,.inr (SqT.of hb),aq (j:=2) h2,?_⟩
   walk_at "rd1";refine⟨⟨by omega,by omega,by decide⟩,?_⟩
   have q1:=q H (fun _ _ z=>z)
   unfold gE at q1;rw[if_pos ⟨c,d⟩]at q1
   rw[Int.toNat_natCast,show (1:Int) * 2 ^ cm r 2=((2 ^ cm r 2:Nat):Int) by push_cast; omega]
   show Q (V.int (PySem.Builtin.bitOr (n:Int) ((2 ^ cm r 2:Nat):Int))) H
   rw[C5];exact q1
  ·have cc:¬ (eD r = "copy" ∧ bN n (cm r 3)=true):=fun z=>d z.2
   walk_at "nx";refine⟨_,_,.inr (SqT.of hb),aq (j:=0) hk.hd,by decide,fun p hp=>?_⟩
   have s1:=ah hp (.tup [V.str "open", .str "copy", .str "drop"]);refine⟨_,.inr (SqT.of af),rfl,rfl,?_⟩
   have hb1:=s1 _ _ hb;generalize upd H p (.tup [V.str "open", .str "copy", .str "drop"])=H1 at s1 hb1 ⊢;rw[show [V.str "open", .str "copy", .str "drop"]=(["open", "copy", "drop"]:List Str).map V.str from rfl,eW];have q1:=q H1 s1;unfold gE at q1;rw[if_neg cc]at q1
   refine bd (fun e=>?_) (fun e=>?_)
   ·have e:=of_decide_eq_true e
    rw[if_pos e]at q1
    obtain⟨h2,l2⟩:=hk.s2 (by simp only[List.mem_cons,List.not_mem_nil,or_false]at e ⊢; rcases e with e | e | e <;> simp[e])
    exact⟨_,_,.inr (SqT.of hb1),aq (j:=2) h2,cm r 2,n,rfl,by omega,q1⟩
   ·rw[if_neg (fun z=>e (decide_eq_true z))]at q1
    walk_at "nx";exact q1
 ·have cc:¬ (eD r = "copy" ∧ bN n (cm r 3)=true):=fun z=>c z.1
  walk_at "nx";refine⟨_,_,.inr (SqT.of hb),aq (j:=0) hk.hd,by decide,fun p hp=>?_⟩
  have s1:=ah hp (.tup [V.str "open", .str "copy", .str "drop"]);refine⟨_,.inr (SqT.of af),rfl,rfl,?_⟩
  have hb1:=s1 _ _ hb;generalize upd H p (.tup [V.str "open", .str "copy", .str "drop"])=H1 at s1 hb1 ⊢;rw[show [V.str "open", .str "copy", .str "drop"]=(["open", "copy", "drop"]:List Str).map V.str from rfl,eW];have q1:=q H1 s1;unfold gE at q1;rw[if_neg cc]at q1
  refine bd (fun e=>?_) (fun e=>?_)
  ·have e:=of_decide_eq_true e
   rw[if_pos e]at q1
   obtain⟨h2,l2⟩:=hk.s2 (by simp only[List.mem_cons,List.not_mem_nil,or_false]at e ⊢; rcases e with e | e | e <;> simp[e])
   exact⟨_,_,.inr (SqT.of hb1),aq (j:=2) h2,cm r 2,n,rfl,by omega,q1⟩
  ·rw[if_neg (fun z=>e (decide_eq_true z))]at q1
   walk_at "nx";exact q1
def fo(H:Hp)(t:Addr)(ts:List Nat):Prop:=H t=some (.tup (ts.map iN))
def nE:Sp:=fun vs H Q _=>∃ (t:Addr) (ts:List Nat),vs=[.ref t]∧fo H t ts∧Q (.bl (decide (2<ts.length))) H
theorem Dh(D:DefAt K mg "is_of_two" cR) (z_len:mg "len" = none):aE P w K mg base 1 "is_of_two" ["token"] nE:=by
 refine D.cal (k:=0) pK (fun _ _ _ _ _ _ us hl=>match us,hl with | [_],_=>rfl) (fun vs H Q E h=>by obtain⟨_,_,rfl,_⟩:=h; rfl) (fun f cdv A outer s0 H vs Q E hr h=>?_)
 obtain⟨t,ts,rfl,ht,q⟩:=h
 refine⟨_,(aj (az (ck kq (bH (bb K) z_len bR (aa (pv 0) ae)) ac (aA _)))),?_⟩
 walk_at "rd1";refine⟨_,.inr (SqT.of ht),?_⟩
 walk_at "rd1";rw[List.length_map,show decide ((ts.length:Int)>2)=decide (2<ts.length) from decide_eq_decide.mpr (by omega)]
 exact q
def uZ:Sp:=fun vs H Q _=>∃ (t:Addr) (ts:List Nat),vs=[.ref t]∧fo H t ts∧∀ H':Hp,Same H H'→Q (.bl (decide (ts.length=2∨ts.length=4))) H'
theorem Co(D:DefAt K mg "has_room" c_) (z_len:mg "len" = none):aE P w K mg base 1 "has_room" ["token"] uZ:=by
 refine D.cal (k:=0) qZ (fun _ _ _ _ _ _ us hl=>match us,hl with | [_],_=>rfl) (fun vs H Q E h=>by obtain⟨_,_,rfl,_⟩:=h; rfl) (fun f cdv A outer s0 H vs Q E hr h=>?_)
 obtain⟨t,ts,rfl,ht,q⟩:=h
 refine⟨_,(aj (az (ck (i8 K) (bH (bb K) z_len bR (aa (pv 0) ae)) (aU (aa ac (aa ac ae))) (by with_unfolding_all rfl)))),?_⟩
 walk_at "rd1";refine⟨_,.inr (SqT.of ht),by decide,fun p hp=>?_⟩
 refine⟨_,.inr (SqT.of af),rfl,rfl,?_⟩
 rw[List.length_map,Im];exact q _ (ah hp _)
def BG(r:bi):List Nat→List Str
 | [n,_]=>if bN n (cm r 2)=true then [iI r] else []
 | n::m::_=>(if bN n (cm r 2)=true then [("1." : Str)++iI r] else [])++(if bN m (cm r 2)=true then [("2." : Str)++iI r] else [])
 | _=>[]
def Ke:List Nat→List Str
 | [_,_]=>["end"]
 | _::_::o::_=>if o=1 then ["1.end", "2.end"] else ["2.end", "1.end"]
 | _=>[]
def fB(r:bi)(ts:List Nat):List Str:=if eD r = "do" then BG r ts else if eD r = "end" then Ke ts else []
inductive jG:List Nat→Nat→Prop
 | h1 (n k:Nat):jG [n,k] k
 | tie (n m o k:Nat):jG [n,m,o,k] k
def v_:Sp:=fun vs H Q _=>∃ (b t:Addr) (r:bi) (ts:List Nat) (k N:Nat),vs=[.ref b,.ref t]∧bc H b r∧SlR N r∧eD r = "do" ∧ fo H t ts∧jG ts k∧∀ (L:Addr) (H':Hp),Same H H'→H L=none→H' L=some (.lst ((BG r ts).map V.str))→Q (.ref L) H'
theorem AW(D:DefAt K mg "texts_done" aW) (c_is_in:aE P w K mg base 1 "is_in" ["slot", "held"] oQ) (c_is_of_two:aE P w K mg base 1 "is_of_two" ["token"] nE):aE P w K mg base 2 "texts_done" ["row", "token"] v_:=by
 refine D.cal (k:=1) sc_texts_done (fun _ _ _ _ _ _ us hl=>match us,hl with | [_,_],_=>rfl) (fun vs H Q E h=>by obtain⟨_,_,_,_,_,_,rfl,_⟩:=h; rfl) (fun f cdv A outer s0 H vs Q E hr h=>?_)
 obtain⟨b,t,r,ts,k,N,rfl,hb,hk,hd,ht,htk,q⟩:=h
 refine⟨_,(ai (au 2 sc_texts_done.nd (am (aw K) (pv 0) ac (fun _ _=>rfl)) (hx:=Jy))
   (ai (au 3 sc_texts_done.nd (am (aw K) (pv 0) ac (fun _ _=>rfl)) (hx:=K5))
   (ai (bj (gk (dj (ay c_is_of_two hr (aa (pv 1 (hv:=EW)) ae)))) (aj (az (fE (dj (ay c_is_in hr (aa (pv 2 (hv:=KN)) (aa (am (aw K) (pv 1 (hv:=EW)) ac (fun _ _=>rfl)) ae)))) (aS (aa (pv 3 (hv:=JC)) ae)) (aS ae)))) aY)
   (aj (az (fc (CompSc.to (fsc:=(defScope aW)) (N:=["row", "token", "slot", "word"]) (N0:=["row", "token", "slot", "word"]) (T:=["side"]) ⟨by decide +kernel,by decide +kernel,by decide +kernel,by decide +kernel,by decide +kernel,by decide +kernel,by decide +kernel⟩ rfl rfl) rfl ((gi K) (aU (aa ac (aa ac ae)))) (fun _ _ _ _=>(bg 4 (show (["row", "token", "slot", "word", "side"]:List Str).Nodup from by decide +kernel) (hx:=(gS (defScope aW) (by decide +kernel))) (hf:=jN (defScope aW) (by decide +kernel)))) (dD (show (["row", "token", "slot", "word"]:List Str).length≤4 from by decide)) (fun _ _ _ _=>(n9 (dj (ay c_is_in hr (aa (pv 2 (hv:=(cY (defScope aW) (by decide +kernel)))) (aa (am (aw K) (pv 1 (hv:=(cY (defScope aW) (by decide +kernel)))) (ak jg (pv 4 (hv:=(cY (defScope aW) (by decide +kernel)))) ac) (fun _ _=>rfl)) ae)) (hg:=(oh (defScope aW) (by decide +kernel))))))) (fun _ _ _ _=>(A5 (lv (wY (pv 4 (hv:=(cY (defScope aW) (by decide +kernel))))) (lv av (lv (wY (pv 3 (hv:=(cY (defScope aW) (by decide +kernel))))) DT))))))))))),?_⟩
 obtain⟨h2,l2⟩:=hk.s2 (by rw[hd]; decide)
 obtain⟨h3,l3⟩:=hk.wd hd
 walk_at "rd1";refine⟨_,_,.inr (SqT.of hb),aq (j:=2) h2,?_⟩
 walk_at "nx";refine⟨_,_,.inr (SqT.of hb),aq (j:=3) h3,?_⟩
 walk_at "nx";refine⟨t,_,rfl,ht,_,rfl,?_⟩
 cases htk with
 | h1 n k=>
  rw[if_pos (by simp)]
  refine⟨_,_,.inr (SqT.of ht),rfl,?_⟩
  refine⟨cm r 2,n,rfl,_,rfl,bd (fun c=>?_) (fun c=>?_)⟩
  ·refine⟨by decide,fun p hp=>q p _ (ah hp _) hp ?_⟩
   show _=some (HO.lst ((if bN n (cm r 2)=true then [iI r] else []).map V.str))
   rw[if_pos c];exact af
  ·refine⟨by decide,fun p hp=>q p _ (ah hp _) hp ?_⟩
   show _=some (HO.lst ((if bN n (cm r 2)=true then [iI r] else []).map V.str))
   rw[if_neg c];exact af
 | tie n m o k=>
  rw[if_neg (by simp)]
  walk_at "nx";refine⟨by decide,fun p hp=>?_⟩
  have s1:=ah hp (.tup [V.int 1,V.int 2]);have e1:upd H p (.tup [V.int 1,V.int 2]) p=some (.tup [V.int 1,V.int 2]):=af
  generalize upd H p (.tup [V.int 1,V.int 2])=H1 at s1 e1 ⊢;refine⟨⟨_,SqT.of e1⟩,fun L hL=>?_⟩
  refine wK (xs:=[V.int 1,V.int 2]) (fun i ys H'=>Same H1 H'∧H' L=some (.lst ys)∧ys.length≤i∧ys=((if bN n (cm r 2)=true∧1≤i then [("1." : Str)++iI r] else [])++(if bN m (cm r 2)=true∧2≤i then [("2." : Str)++iI r] else [])).map V.str)
   ⟨ah hL _,af,Nat.le_refl _,by simp⟩ (fun i ys H' _ hh=>SqT.of (hh.1 _ _ e1)) ?_ ?_
  ·rintro i ys H' v hv hi ⟨sm,hl,hyl,hys⟩
   have ht1:=sm _ _ (s1 _ _ ht);have hi2:i=0∨i=1:=by have:i<2:=hi; omega
   rcases hi2 with rfl | rfl
   ·cases hv
    walk_at "rd1";refine⟨_,_,.inr (SqT.of ht1),rfl,?_⟩
    refine⟨cm r 2,n,rfl,_,rfl,bd (fun c=>?_) (fun c=>?_)⟩
    ·rw[Hd]
     have hz:("1." : Str).length=2:=by decide +kernel
     refine⟨by decide,by decide +kernel,by rw[hz]; exact aR (by decide),aR (by omega),by rw[Str.length_append,hz]; exact aR (by omega),by rw[Str.length_append,hz]; exact aR (by omega),?_⟩
     have hy0:ys=[]:=by cases ys with
      | nil=>rfl
      | cons _ _=>simp at hyl
     subst hy0;exact qO (by decide) (by simp) (aR (by decide)) hl ⟨sm.upd hL _,af,by simp,by simp[c]⟩
    ·exact uv (by decide) ⟨sm,hl,by omega,by rw[hys]; simp[c]⟩
   ·cases hv
    walk_at "rd1";refine⟨_,_,.inr (SqT.of ht1),rfl,?_⟩
    refine⟨cm r 2,m,rfl,_,rfl,bd (fun c=>?_) (fun c=>?_)⟩
    ·rw[GO]
     have hz:("2." : Str).length=2:=by decide +kernel
     refine⟨by decide,by decide +kernel,by rw[hz]; exact aR (by decide),aR (by omega),by rw[Str.length_append,hz]; exact aR (by omega),by rw[Str.length_append,hz]; exact aR (by omega),?_⟩
     exact qO (by decide) hyl (aR (by decide)) hl ⟨sm.upd hL _,af,by rw[List.length_append]; simp; omega,by rw[hys]; simp[c]⟩
    ·exact uv (by decide) ⟨sm,hl,by omega,by rw[hys]; simp[c]⟩
  ·rintro ys H' ⟨sm,hl,hyl,hys⟩
   refine q L H' (s1.trans sm) (s1.free hL) ?_
   rw[hl,hys];unfold BG;simp
def z_:Sp:=fun vs H Q _=>∃ (b t:Addr) (r:bi) (ts:List Nat) (k N:Nat),vs=[.ref b,.ref t]∧bc H b r∧SlR N r∧fo H t ts∧jG ts k∧∀ (L:Addr) (H':Hp),Same H H'→H L=none→H' L=some (.lst ((fB r ts).map V.str))→Q (.ref L) H'
theorem xV(D:DefAt K mg "texts_at" cI) (c_texts_done:aE P w K mg base 2 "texts_done" ["row", "token"] v_) (c_is_of_two:aE P w K mg base 1 "is_of_two" ["token"] nE):aE P w K mg base 3 "texts_at" ["row", "token"] z_:=by
 refine D.cal (k:=2) qS (fun _ _ _ _ _ _ us hl=>match us,hl with | [_,_],_=>rfl) (fun vs H Q E h=>by obtain⟨_,_,_,_,_,_,rfl,_⟩:=h; rfl) (fun f cdv A outer s0 H vs Q E hr h=>?_)
 obtain⟨b,t,r,ts,k,N,rfl,hb,hk,ht,htk,q⟩:=h
 refine⟨_,(ai (bj (aB aT (am (aw K) (pv 0) ac (fun _ _=>rfl)) av (aA _)) (aj (az (ay c_texts_done hr (aa (pv 0) (aa (pv 1) ae))))) aY)
   (ai (bj (aB oy (am (aw K) (pv 0) ac (fun _ _=>rfl)) av (aA _)) (aj (az (aS ae))) aY)
   (ai (bj (gk (dj (ay c_is_of_two hr (aa (pv 1) ae)))) (aj (az (aS (aa av ae)))) aY)
   (aj (az (fE (aB aT (am (aw K) (pv 1) ac (fun _ _=>rfl)) ac (aA _)) (aS (aa av (aa av ae))) (aS (aa av (aa av ae))))))))),?_⟩
 unfold fB at q;walk_at "rd1";refine⟨_,_,.inr (SqT.of hb),aq (j:=0) hk.hd,?_⟩
 walk_at "rd1";refine bd (fun c=>?_) (fun c=>?_)
 ·rw[if_pos c]at q
  exact⟨b,t,r,ts,k,N,rfl,hb,hk,c,ht,htk,q⟩
 ·rw[if_neg c]at q
  walk_at "nx";refine⟨_,_,.inr (SqT.of hb),aq (j:=0) hk.hd,?_⟩
  walk_at "rd1";refine bd (fun d=>?_) (fun d=>?_)
  ·rw[if_neg (by simpa using d)]at q
   exact⟨by decide,fun p hp=>q p _ (ah hp _) hp af⟩
  ·rw[if_pos (by simpa using d)]at q
   walk_at "nx";refine⟨t,_,rfl,ht,_,rfl,?_⟩
   cases htk with
   | h1 n k=>
    rw[if_pos (by simp)]
    exact⟨by decide,fun p hp=>q p _ (ah hp _) hp af⟩
   | tie n m o k=>
    rw[if_neg (by simp)]
    walk_at "nx";refine⟨_,_,.inr (SqT.of ht),rfl,?_⟩
    rw[show iN o=V.int (o:Int) from rfl];walk_at "rd1";have q':∀ (L:Addr) (H':Hp),Same H H'→H L=none→H' L=some (.lst (((if o=1 then ["1.end", "2.end"] else ["2.end", "1.end"]):List Str).map V.str))→Q (.ref L) H':=q
    refine bd (fun e=>?_) (fun e=>?_)
    ·rw[if_pos (by omega)]at q'
     exact⟨by decide,fun p hp=>q' p _ (ah hp _) hp af⟩
    ·rw[if_neg (by omega)]at q'
     exact⟨by decide,fun p hp=>q' p _ (ah hp _) hp af⟩
def hZ:Sp:=fun vs H Q _=>∃ (p b t:Addr) (rl:Rl) (r:bi) (ts:List Nat) (k N:Nat),vs=[.ref p,.ref b,.ref t]∧RuleAt H p rl∧eZ rl∧k<rl.rs.length∧bc H b r∧SlR N r∧fo H t ts∧jG ts k∧∀ H':Hp,Same H H'→Q (b8 (after rl k (fB r ts))) H'
theorem x6(D:DefAt K mg "room_behind" bU) (c_room_from:aE P w K mg base 2 "room_from" ["rule", "room", "row"] (xj K)) (c_texts_at:aE P w K mg base 3 "texts_at" ["row", "token"] z_):aE P w K mg base 4 "room_behind" ["rule", "row", "token"] hZ:=by
 refine D.cal (k:=3) lS (fun _ _ _ _ _ _ us hl=>match us,hl with | [_,_,_],_=>rfl) (fun vs H Q E h=>by obtain⟨_,_,_,_,_,_,_,_,rfl,_⟩:=h; rfl) (fun f cdv A outer s0 H vs Q E hr h=>?_)
 obtain⟨p,b,t,rl,r,ts,k,N,rfl,hR,ok,hkl,hb,hk,ht,htk,q⟩:=h
 refine⟨_,(aj (az (ay c_room_from hr (aa (pv 0) (aa (am (aw K) (pv 2) (d_ dI ac) (fun _ _=>rfl)) (aa (ay c_texts_at hr (aa (pv 1) (aa (pv 2) ae))) ae)))))),?_⟩
 walk_at "rd1";refine⟨_,_,.inr (SqT.of ht),(by cases htk <;> rfl:cC (ts.map iN) (-1)=some (.int (k:Int))),?_⟩
 refine⟨b,t,r,ts,k,N,rfl,hb,hk,ht,htk,fun L H1 s1 hL e1=>?_⟩
 exact⟨p,L,rl,k,_,rfl,hR.mono s1,ok,hkl,SqL.of e1,q H1 s1⟩
inductive fO (sd:Int) (Z:Nat):List Nat→Prop
 | h1 (n k:Nat):sd=1→k<Z→fO sd Z [n,k]
 | one (n:Nat):sd=2→fO sd Z [n]
 | two (n m o:Nat):sd=2→fO sd Z [n,m,o]
 | tie (n m o k:Nat):sd=2→k<Z→fO sd Z [n,m,o,k]
def gj(rl:Rl)(r:bi)(ts:List Nat):Bool:=if ts.length=2∨ts.length=4 then (after rl (ts.getLastD 0) (fB r ts)).isNone else false
def JO(rl:Rl)(r:bi):Bool:=decide (eD r = "open" ∧ rl.s=1)&&(step rl 0 "open").isNone
def TvAt(H:Hp)(v:V):Option (List Nat)→Prop
 | none=>v = .non
 | some ts=>∃ t,v = .ref t∧fo H t ts
def n6(rl:Rl)(r:bi):Option (List Nat)→Bool
 | none=>JO rl r
 | some ts=>gj rl r ts
def rH:Sp:=fun vs H Q _=>∃ (c p:Addr) (R:List bi) (rl:Rl) (r:bi) (i N:Nat) (v:V) (o:Option (List Nat)),vs=[.ref c,.ref p,.int (i:Int),v]∧ListR H c R∧R[i]? = some r∧RuleAt H p rl∧eZ rl∧(∀ ts,o=some ts→fO rl.s rl.rs.length ts)∧SlR N r∧TvAt H v o∧
 ∀ (u:Addr) (H':Hp) (x:V) (y:Option Nat),Same H H'→H' u=some (.tup [x,b8 y])→y.isNone=n6 rl r o→Q (.ref u) H'
theorem yq(D:DefAt K mg "rooms_at" bT) (c_next_room:aE P w K mg base 1 "next_room" ["rule", "room", "text"] oF) (c_has_room:aE P w K mg base 1 "has_room" ["token"] uZ) (c_room_behind:aE P w K mg base 4 "room_behind" ["rule", "row", "token"] hZ):aE P w K mg base 5 "rooms_at" ["code", "rule", "at", "token"] rH:=by
 refine D.cal (k:=4) sc_rooms_at (fun _ _ _ _ _ _ us hl=>match us,hl with | [_,_,_,_],_=>rfl) (fun vs H Q E h=>by obtain⟨_,_,_,_,_,_,_,_,_,rfl,_⟩:=h; rfl) (fun f cdv A outer s0 H vs Q E hr h=>?_)
 obtain⟨c,p,R,rl,r,i,N,v,o,rfl,hL,hri,hR,ok,hto,hk,hv,q⟩:=h
 refine⟨_,(ai (au 4 sc_rooms_at.nd (am (aw K) (pv 0) (pv 2) (fun _ _=>rfl)))
   (ai (bj (PW.pt' (cB (aB dY (pv 3) cZ (aA _)) (cB (aB aT (am (aw K) (pv 4) ac (fun _ _=>rfl)) av (aA _)) (cT (aB aT (am (aw K) (pv 1) ac (fun _ _=>rfl)) ac (aA _)))))) (aj (az (aU (aa ac (aa (ay c_next_room hr (aa (pv 1) (aa ac (aa av ae)))) ae))))) aY)
   (ai (bj (PW.pt' (nD (aB dY (pv 3) cZ (aA _)) (km (gk (dj (ay c_has_room hr (aa (pv 3) ae))))))) (aj (az (aU (aa ac (aa ac ae))))) aY)
   (aj (az (aU (aa (am (aw K) (pv 3) (d_ dI ac) (fun _ _=>rfl)) (aa (ay c_room_behind hr (aa (pv 1) (aa (pv 4) (aa (pv 3) ae)))) ae)))))))),?_⟩
 obtain⟨as,b,a1,al,ab,hb⟩:=pB hL hri
 have hat:cC (as.map V.ref) (i:Int)=some (.ref b):=aq (by rw[List.getElem?_map,ab]; rfl)
 obtain⟨pw,pr,bs,r1,r2,r3⟩:=id hR
 have hn0:=ok.n0;walk_at "rd1";refine⟨_,_,.inl (SqL.of a1),hat,?_⟩
 walk_at "nx"
 cases o with
 | none=>
  have hv:v = .non:=hv
  subst hv;rw[if_pos rfl];refine⟨_,_,.inr (SqT.of hb),aq (j:=0) hk.hd,?_⟩
  walk_at "rd1";refine bd (fun c1=>?_) (fun c1=>?_)
  ·refine⟨_,_,.inr (SqT.of r1),rfl,?_⟩
   walk_at "rd1";refine bd (fun c2=>?_) (fun c2=>?_)
   ·refine⟨p,rl,0, "open", rfl,hR,ok,by omega,by decide,fun u hu=>?_⟩
    refine q u _ (.int 0) (step rl 0 "open") (ah hu _) af ?_
    show _=(decide (eD r = "open" ∧ rl.s=1)&&(step rl 0 "open").isNone)
    rw[decide_eq_true ⟨c1,c2⟩,Bool.true_and]
   ·walk_at "nx"
    refine⟨by decide,fun u hu=>q u _ (.int 0) (some 0) (ah hu _) af ?_⟩
    show _=(decide (eD r = "open" ∧ rl.s=1)&&(step rl 0 "open").isNone)
    rw[decide_eq_false (fun z=>c2 z.2)]; rfl
  ·walk_at "nx"
   refine⟨by decide,fun u hu=>q u _ (.int 0) (some 0) (ah hu _) af ?_⟩
   show _=(decide (eD r = "open" ∧ rl.s=1)&&(step rl 0 "open").isNone)
   rw[decide_eq_false (fun z=>c1 z.1)]; rfl
 | some ts=>
  obtain⟨t,rfl,ht⟩:=hv
  have hta:=hto ts rfl;rw[if_neg (by simp)]
  walk_at "nx";rw[if_neg (by simp)]
  refine⟨t,ts,rfl,ht,fun H1 s1=>⟨_,rfl,?_⟩⟩
  have plain:∀ {k:Nat},jG ts k→k<rl.rs.length→j4 (nZ (uC (ee (kF (lY K) (eO 3) (AA (rU fun i=>V.int (-i)) (tC (V.int 1)))) (ee (jt hZ [] E0 (ee (eO 1) (ee (eO 4) (ee (eO 3) jR)))) jR)))) { nx:=fun x H'=>Q V.non H',rt:=Q } [some (.ref c),some (.ref p),some (.int (i:Int)),some (.ref t),some (.ref b)] H1:=fun {k} hk2 hkl=>by
   walk_at "nx";refine⟨_,_,.inr (SqT.of (s1 _ _ ht)),(by cases hk2 <;> rfl:cC (ts.map iN) (-1)=some (.int (k:Int))),?_⟩
   refine⟨p,b,t,rl,r,ts,k,N,rfl,hR.mono s1,ok,hkl,s1 _ _ hb,hk,s1 _ _ ht,hk2,fun H2 s2=>⟨by decide,fun u hu=>?_⟩⟩
   refine q u _ (.int (k:Int)) _ ((s1.trans s2).trans (ah hu _)) af ?_
   show _=gj rl r ts
   unfold gj
   cases hk2
   ·rw[if_pos (.inl rfl)]; rfl
   ·rw[if_pos (.inr rfl)]; rfl
  have none':(ts.length=2∨ts.length=4→False)→2≤sizeLine∧∀ (p:Addr),H1 p=none→Q (V.ref p) (upd H1 p (HO.tup [V.int 0,V.int 0])):=fun hz=>by
   refine⟨by decide,fun u hu=>q u _ (.int 0) (some 0) (s1.trans (ah hu _)) af ?_⟩
   show _=gj rl r ts
   unfold gj;rw[if_neg hz]; rfl
  cases hta with
  | h1 n k _ hkl=>rw[if_neg (by simp)]; exact plain (.h1 n k) hkl
  | one n _=>rw[if_pos (by simp)]; exact none' (by simp)
  | two n m o _=>rw[if_pos (by simp)]; exact none' (by simp)
  | tie n m o k _ hkl=>rw[if_neg (by simp)]; exact plain (.tie n m o k) hkl
def Ay:Sp:=fun vs H Q _=>∃ (c p:Addr) (R:List bi) (rl:Rl) (r:bi) (i N:Nat) (v:V) (o:Option (List Nat)),vs=[.ref c,.ref p,.int (i:Int),v]∧ListR H c R∧R[i]? = some r∧RuleAt H p rl∧eZ rl∧(∀ ts,o=some ts→fO rl.s rl.rs.length ts)∧SlR N r∧TvAt H v o∧∀ H':Hp,Same H H'→Q (.bl (n6 rl r o)) H'
theorem DU(D:DefAt K mg "breaks_at" cf) (c_rooms_at:aE P w K mg base 5 "rooms_at" ["code", "rule", "at", "token"] rH):aE P w K mg base 6 "breaks_at" ["code", "rule", "at", "token"] Ay:=by
 refine D.cal (k:=5) pG (fun _ _ _ _ _ _ us hl=>match us,hl with | [_,_,_,_],_=>rfl) (fun vs H Q E h=>by obtain⟨_,_,_,_,_,_,_,_,_,rfl,_⟩:=h; rfl) (fun f cdv A outer s0 H vs Q E hr h=>?_)
 obtain⟨c,p,R,rl,r,i,N,v,o,rfl,hL,hri,hR,ok,hto,hk,hv,q⟩:=h
 refine⟨_,(aj (az (ck dY (am (aw K) (ay c_rooms_at hr (aa (pv 0) (aa (pv 1) (aa (pv 2) (aa (pv 3) ae))))) ac (fun _ _=>rfl)) cZ (aA _)))),?_⟩
 walk_at "rd1";refine⟨c,p,R,rl,r,i,N,v,o,rfl,hL,hri,hR,ok,hto,hk,hv,fun u H1 x y s1 hu hy=>?_⟩
 refine⟨_,_,.inr (SqT.of hu),rfl,?_⟩
 walk_at "rd1"
 have e:decide (b8 y=V.non)=n6 rl r o:=by
  rw[← hy]
  cases y with
  | none=>rfl
  | some k=>exact decide_eq_false (by simp[b8])
 rw[e];exact q H1 s1
theorem xa(us:List Nat)(k:Nat):di ((us++[k]).map iN) none (some (-1))=us.map iN:=by
 unfold di;have h1:HT.sIx ((us++[k]).map iN).length 0 none=0:=rfl
 have h2:HT.sIx ((us++[k]).map iN).length ((us++[k]).map iN).length (some (-1))=us.length:=by
  rw[List.length_map,List.length_append,List.length_singleton];unfold HT.sIx;simp
  omega
 rw[h1,h2,List.drop_zero,Nat.sub_zero,List.map_append,List.take_left' (by rw[List.length_map])]
def Aq:Sp:=fun vs H Q _=>∃ (c p t:Addr) (R:List bi) (rl:Rl) (r:bi) (i N:Nat) (ts:List Nat),vs=[.ref c,.ref p,.int (i:Int),.ref t]∧ListR H c R∧R[i]? = some r∧RuleAt H p rl∧eZ rl∧fO rl.s rl.rs.length ts∧SlR N r∧N≤1000000∧eD r ≠ "end" ∧ fo H t ts∧∀ (v:V) (H':Hp),Same H H'→decide (v = .non)=gj rl r ts→Q v H'
theorem Dp(D:DefAt K mg "behind_at" aN) (z_tuple:mg "tuple" = none) (c_is_of_two:aE P w K mg base 1 "is_of_two" ["token"] nE) (c_has_room:aE P w K mg base 1 "has_room" ["token"] uZ) (c_held_behind:aE P w K mg base 2 "held_behind" ["row", "held"] xl) (c_room_behind:aE P w K mg base 4 "room_behind" ["rule", "row", "token"] hZ):aE P w K mg base 5 "behind_at" ["code", "rule", "at", "token"] Aq:=by
 refine D.cal (k:=4) sc_behind_at (fun _ _ _ _ _ _ us hl=>match us,hl with | [_,_,_,_],_=>rfl) (fun vs H Q E h=>by obtain⟨_,_,_,_,_,_,_,_,_,rfl,_⟩:=h; rfl) (fun f cdv A outer s0 H vs Q E hr h=>?_)
 obtain⟨c,p,t,R,rl,r,i,N,ts,rfl,hL,hri,hR,ok,hts,hk,hN,hne,ht,q⟩:=h
 refine⟨_,(ai (au 4 sc_behind_at.nd (am (aw K) (pv 0) (pv 2) (fun _ _=>rfl)) (hx:=Km))
   (ai (bj (aB aT (am (aw K) (pv 4 (hv:=E3)) ac (fun _ _=>rfl)) av (aA _)) (aj (az cZ)) aY)
   (ai (au 5 sc_behind_at.nd (fE (dj (ay c_is_of_two hr (aa (pv 3) ae))) ac ac))
   (ai (au 6 sc_behind_at.nd (ak (eV K) (dy (mY K) z_tuple qI (aa (fc (CompSc.to (fsc:=(defScope aN)) (N:=["code", "rule", "at", "token", "row", "count", "behind", "room"]) (N0:=["code", "rule", "at", "token", "row", "count", "behind", "room"]) (T:=["held"]) ⟨by decide +kernel,by decide +kernel,by decide +kernel,by decide +kernel,by decide +kernel,by decide +kernel,by decide +kernel⟩ rfl rfl) rfl ((gi K) (dF (eI K) (pv 3) eJ (dL (pv 5)))) (fun _ _ _ _=>(bg 8 (show (["code", "rule", "at", "token", "row", "count", "behind", "room", "held"]:List Str).Nodup from by decide +kernel) (hx:=(gS (defScope aN) (by decide +kernel))) (hf:=jN (defScope aN) (by decide +kernel)))) (dD (show (["code", "rule", "at", "token", "row", "count", "behind", "room"]:List Str).length≤8 from by decide)) (fun _ _ _ _=>eX) (fun _ _ _ _=>(ay c_held_behind hr (aa (pv 4 (hv:=(cY (defScope aN) (by decide +kernel)))) (aa (pv 8 (hv:=(cY (defScope aN) (by decide +kernel)))) ae)) (hg:=(oh (defScope aN) (by decide +kernel)))))) ae)) (dF (eI K) (pv 3) (dL (pv 5)) eJ)))
   (ai (bj (gk (dj (ay c_has_room hr (aa (pv 3) ae)))) (aj (az (pv 6))) aY)
   (ai (au 7 sc_behind_at.nd (ay c_room_behind hr (aa (pv 1) (aa (pv 4 (hv:=E3)) (aa (pv 3) ae)))))
   (aj (az (fE (aB dY (pv 7) cZ (aA _)) cZ (ak (eV K) (dF (eI K) (pv 6) eJ (dL (d_ dI ac))) (aU (aa (pv 7) ae)))))))))))),?_⟩
 obtain⟨as,b,a1,al,ab,hb⟩:=pB hL hri
 have hat:cC (as.map V.ref) (i:Int)=some (.ref b):=aq (by rw[List.getElem?_map,ab]; rfl)
 walk_at "rd1";refine⟨_,_,.inl (SqL.of a1),hat,?_⟩
 walk_at "nx";refine⟨_,_,.inr (SqT.of hb),aq (j:=0) hk.hd,?_⟩
 walk_at "rd1";refine bd (fun cc=>?_) (fun cc=>?_)
 ·exact absurd cc hne
 refine gm (fun σ' H'=>H=H'∧∃ cn:Nat,σ'=[some (.ref c),some (.ref p),some (.int (i:Int)),some (.ref t),some (.ref b),some (.int (cn:Int)),none,none]∧cn=if 2<ts.length then 2 else 1) (fun k hkk=>?_) ?_
 ·walk_at "rd1"
  refine⟨t,ts,rfl,ht,_,rfl,bd (fun d=>?_) (fun d=>?_)⟩
  ·exact hkk _ _ ⟨rfl,2,rfl,by rw[if_pos (of_decide_eq_true d)]⟩
  ·exact hkk _ _ ⟨rfl,1,rfl,by rw[if_neg (fun z=>d (decide_eq_true z))]⟩
 rintro σ' H' ⟨rfl,cn,rfl,hcn⟩
 have hcn2:cn≤ts.length∧1≤cn∧cn≤2:=by
  cases hts
  ·rw[if_neg (by simp)]at hcn; subst hcn; simp
  ·rw[if_neg (by simp)]at hcn; subst hcn; simp
  ·rw[if_pos (by simp)]at hcn; subst hcn; simp
  ·rw[if_pos (by simp)]at hcn; subst hcn; simp
 refine gm (fun σ' H'=>∃ v:Addr,σ'=[some (.ref c),some (.ref p),some (.int (i:Int)),some (.ref t),some (.ref b),some (.int (cn:Int)),some (.ref v),none]∧Same H H'∧H v=none∧fo H' v ((ts.take cn).map (gE r)++ts.drop cn)) (fun k hkk=>?_) ?_
 ·walk_at "rd1"
  refine eY (SqT.of ht) (fun p1 H1 s1 hp1=>?_)
  rw[sQ,← List.map_take]at hp1
  refine⟨p1,rfl,⟨_,hp1⟩,fun L hL=>?_⟩
  refine iO (xs:=(ts.take cn).map iN) (fun i ys H'=>Same H1 H'∧H' L=some (.lst ys)∧ys=(((ts.take cn).take i).map (gE r)).map iN) ⟨ah hL _,af,rfl⟩ (fun i ys H' _ hh=>hp1.same hh.1) ?_ ?_
  ·rintro i ys H' v hv hi ⟨sm,hl,rfl⟩
   rw[List.length_map]at hi
   rw[List.getElem?_map,List.getElem?_eq_getElem hi]at hv
   cases hv;walk_at "rd1";refine⟨b,r,(ts.take cn)[i],N,rfl,sm _ _ (s1 _ _ hb),hk,hN,fun H2 s2=>?_⟩
   refine iA (by rw[List.length_map]; exact hi) (by rw[List.length_map,List.length_map,List.length_take]; omega) (by rw[List.length_map,List.length_take]; exact aR (by omega)) (s2 _ _ hl) ⟨(sm.trans s2).upd hL _,af,?_⟩
   rw[List.take_add_one,List.getElem?_eq_getElem hi,List.map_append,List.map_append]; rfl
  rintro ys H2 ⟨s2,e2,rfl⟩
  rw[List.length_map,List.take_length]at e2
  walk_at "rd1";refine⟨_,.inl ⟨SqL.of e2,fun t2 ht2=>?_⟩⟩
  have s3:=ah ht2 (.tup (((ts.take cn).map (gE r)).map iN));have e3:upd H2 t2 (.tup (((ts.take cn).map (gE r)).map iN)) t2=some (.tup (((ts.take cn).map (gE r)).map iN)):=af
  generalize upd H2 t2 (.tup (((ts.take cn).map (gE r)).map iN))=H3 at s3 e3 ⊢;have s12:=s1.trans s2;have s13:=s12.trans s3;refine eY (SqT.of (s13 _ _ ht)) (fun p4 H4 s4 hp4=>?_)
  rw[gK,← List.map_drop]at hp4
  walk_at "rd1"
  have hul:((ts.take cn).map (gE r)).map iN≠[]:=fun z=>by
   have:=congrArg List.length z
   rw[List.length_map,List.length_map,List.length_take,List.length_nil]at this
   omega
  have htl:ts.length≤4:=by cases hts <;> simp
  refine⟨_,_,SqT.of (s4 _ _ e3),hp4,hul,by rw[List.length_map,List.length_map,List.length_map,List.length_take,List.length_drop]; exact aR (by omega),fun hz=>?_,fun _ t5 ht5=>?_⟩
  ·have hd0:ts.drop cn=[]:=List.map_eq_nil_iff.mp hz
   refine hkk _ _ ⟨t2,rfl,s13.trans s4,s12.free ht2,?_⟩
   rw[hd0,List.append_nil];exact s4 _ _ e3
  ·refine hkk _ _ ⟨t5,rfl,(s13.trans s4).trans (ah ht5 _),(s13.trans s4).free ht5,?_⟩
   show upd _ _ _ _=_
   rw[af,List.map_append]
 rintro σ' H5 ⟨v,rfl,s5,hv,e5⟩
 walk_at "nx";refine⟨t,ts,rfl,s5 _ _ ht,fun H6 s6=>⟨_,rfl,?_⟩⟩
 have s56:=s5.trans s6
 have fin:∀ {k:Nat} (us:List Nat),jG ts k→k<rl.rs.length→fo H6 v (us++[k])→1≤us.length→us.length≤3→j4 (uW (lX (jt hZ [] E0 (ee (eO 1) (ee (eO 4) (ee (eO 3) jR)))) (fZ 7)) (nZ (Cf (um (kF uy (eO 7) (tC V.non))) (tC V.non) (kF (nN K) (Cc (t0 K) (eO 6) ly (ug (AA (rU fun i=>V.int (-i)) (tC (V.int 1))))) (uC (ee (eO 7) jR)))))) { nx:=fun x H'=>Q V.non H',rt:=Q } [some (.ref c),some (.ref p),some (.int (i:Int)),some (.ref t),some (.ref b),some (.int (cn:Int)),some (.ref v),none] H6:=fun {k} us htk hkl hv6 hu1 hu3=>by
  walk_at "nx";refine⟨p,b,t,rl,r,ts,k,N,rfl,hR.mono s56,ok,hkl,s56 _ _ hb,hk,s56 _ _ ht,htk,fun H7 s7=>?_⟩
  have hbr:gj rl r ts=(after rl k (fB r ts)).isNone:=by
   unfold gj
   cases htk
   ·rw[if_pos (.inl rfl)]; rfl
   ·rw[if_pos (.inr rfl)]; rfl
  have e7:fo H7 v (us++[k]):=s7 _ _ hv6
  cases ha:after rl k (fB r ts) with
  | none=>
   walk_at "nx";rw[if_pos (show b8 none=V.non from rfl)];exact q .non H7 (s56.trans s7) (by rw[hbr,ha]; rfl)
  | some j=>
   walk_at "nx";rw[if_neg (by simp[b8])]
   refine eY (SqT.of e7) (fun p8 H8 s8 hp8=>?_)
   rw[xa]at hp8
   refine⟨by decide,fun t9 ht9=>?_⟩
   have s9:=ah ht9 (.tup [b8 (some j)]);have e9:upd H8 t9 (.tup [b8 (some j)]) t9=some (.tup [b8 (some j)]):=af
   generalize upd H8 t9 (.tup [b8 (some j)])=H9 at s9 e9 ⊢;walk_at "rd1";refine⟨_,_,hp8.same s9,SqT.of e9,fun z=>?_,by rw[List.length_map]; exact aR (by simp; omega),fun hz=>absurd hz (by simp),fun _ u hu=>?_⟩
   ·have:=congrArg List.length z
    rw[List.length_map,List.length_nil]at this
    omega
   have s10:=s56.trans (s7.trans (s8.trans s9));exact q (.ref u) _ (s10.trans (ah hu _)) (by rw[hbr,ha]; exact decide_eq_false (by simp))
 cases hts with
 | h1 n k _ hkl=>
  rw[if_neg (by simp)]at hcn; subst hcn
  rw[if_neg (by simp)]
  exact fin [gE r n] (.h1 n k) hkl (s6 _ _ e5) (by simp) (by simp)
 | one n _=>
  rw[if_pos (by simp)]
  exact q (.ref v) H6 s56 (by unfold gj; rw[if_neg (by simp)]; exact decide_eq_false (by simp))
 | two n m o _=>
  rw[if_pos (by simp)]
  exact q (.ref v) H6 s56 (by unfold gj; rw[if_neg (by simp)]; exact decide_eq_false (by simp))
 | tie n m o k _ hkl=>
  rw[if_pos (by simp)]at hcn; subst hcn
  rw[if_neg (by simp)]
  exact fin [gE r n,gE r m,o] (.tie n m o k) hkl (s6 _ _ e5) (by simp) (by simp)
end
def jJ:List Nat→Prop
 | n::m::_::_=>∀ s,¬ (bN n s=true∧bN m s=true)
 | _=>True
section
variable{P:Program}{w:World}{K:PySem.W.Frag}{mg:Str→Option Value}{base:Heap}
def EL:List V→Hp→VK→Prop:=fun xs H Q=>∃ i j k,xs=[.int i,.int j,.int k]∧Q (.int (if j>i then (if k>j then k else j) else (if k>i then k else i))) H
theorem wo{X:Cx}(hc:X.calm=true:=by rfl):CallR X (.builtin "max") EL:=by
 unfold CallR;intro pins s σ H xs us Q I r h
 obtain⟨i,j,k,rfl,q⟩:=h
 cases r with
 | cons r1 r2=>
  obtain⟨u,w',rfl,⟨t',rfl⟩,⟨t2,rfl⟩⟩:=j_ r2
  obtain⟨t,rfl⟩:=r1
  refine max_three_ints (I.ok.hd hc) fun h' tk kk=>⟨_,H,I.kept kk,?_,q⟩
  by_cases hj:j>i
  ·rw[if_pos hj,if_pos hj]
   by_cases h2:k>j
   ·rw[if_pos h2,if_pos h2]; exact⟨_,rfl⟩
   ·rw[if_neg h2,if_neg h2]; exact⟨_,rfl⟩
  ·rw[if_neg hj,if_neg hj]
   by_cases h2:k>i
   ·rw[if_pos h2,if_pos h2]; exact⟨_,rfl⟩
   ·rw[if_neg h2,if_neg h2]; exact⟨_,rfl⟩
def Eo(i j:Int):Prop:=0<j∧j.natAbs.log2<9000
theorem zu{X:Cx}:OpR X (binaryOp .FloorDiv) (rI Eo fun i j=>.int (i / j)):=qw fun i j _ _ _ _ _ hc q=>by
 have h1:(0:Int)<j:=hc.1
 exact floordiv_int (by omega) (by rw[Int.fdiv_eq_ediv_of_nonneg i (by omega)]; exact q) (.inl (PyProof.noPylong_of_log2 hc.2))
theorem qP(s:Nat):(1:Int) * 2 ^ (Int.toNat (s:Int))=((2 ^ s:Nat):Int):=by rw[Int.toNat_natCast]; push_cast; omega
def w6:Sp:=fun vs H Q _=>∃ n s:Nat,vs=[.int (n:Int),.int (s:Int)]∧s<9000∧Q (.bl (bN n s)) H
theorem Bw(D:DefAt K mg "_law_has" dB):aE P w K mg base 1 "_law_has" ["_law_held", "_law_slot"] w6:=by
 refine D.cal (k:=0) tZ (fun _ _ _ _ _ _ us hl=>match us,hl with | [_,_],_=>rfl) (fun vs H Q E h=>by obtain⟨_,_,rfl,_⟩:=h; rfl) (fun f cdv A outer s0 H vs Q E hr h=>?_)
 obtain⟨n,s,rfl,hs,q⟩:=h
 refine⟨_,(aj (az (ck aT (ak bo (ak zu (pv 0) (ak i0 ac (pv 1))) ac) ac (aA _)))),?_⟩
 walk_at "rd1";have hp:=Nat.two_pow_pos s;refine⟨⟨by omega,by omega,by decide⟩,?_⟩
 rw[qP];refine⟨⟨by omega,by rw[Int.natAbs_natCast,Nat.log2_two_pow]; exact hs⟩,by decide,?_⟩
 have e:decide ((n:Int) / ((2 ^ s:Nat):Int) % 2=1)=bN n s:=by
  rw[lQ];have:(n:Int) / ((2 ^ s:Nat):Int) % 2=((n / 2 ^ s % 2:Nat):Int):=by push_cast; rfl
  rw[this];exact decide_eq_decide.mpr (by omega)
 rw[e]; exact q
def lO:Sp:=fun vs H Q _=>∃ (p:Addr) (r:Rl) (k:Nat) (y:Str),vs=[.ref p,.int k,.str y]∧RuleAt H p r∧eZ r∧k<r.rs.length∧Q (b8 (step r k y)) H
theorem zn(D:DefAt K mg "_law_next" cQ):aE P w K mg base 1 "_law_next" ["_law_rule_here", "_law_room_here", "_law_text"] lO:=by
 refine D.cal qT (fun _ _ _ _ _ _ us hl=>match us,hl with | [_,_,_],_=>rfl) (fun vs H Q E h=>by obtain⟨p,r,k,y,rfl,_⟩:=h; rfl) (fun f cdv A outer s H vs Q E hr h=>?_)
 obtain⟨p,r,k,y,rfl,hR,ok,hk,q⟩:=h
 obtain⟨pw,pr,as,h1,h2,h3,h4,h5⟩:=hR
 refine⟨_,(ai (bj (aB (i7 K) (pv 2) (am (aw K) (pv 0) ac (fun _ _=>rfl)) (by with_unfolding_all rfl)) (aj (az (pv 1))) aY)
   (aj (az (am (aw K) (am (aw K) (am (aw K) (pv 0) ac (fun _ _=>rfl)) (pv 1) (fun _ _=>rfl)) (bV K PySem.F.plainAttrs_list PySem.F.slot_list_index PySem.F.type_list_index (m_ K) (am (aw K) (pv 0) ac (fun _ _=>rfl)) (aa (pv 2) ae)) (fun _ _=>rfl))))),?_⟩
 walk_at "rd1";refine⟨_,_,.inr (SqT.of h1),rfl,?_⟩
 walk_at "rd1";refine⟨_,.inl (SqL.of h2),rfl,mq _,?_⟩
 rw[sj];refine bd (fun c=>?_) (fun c=>?_)
 ·have hy:y∉r.ws:=by simpa using c
  have e:step r k y=some k:=by unfold step; rw[if_neg hy]
  rw[e]at q; exact q
 ·have hy:y∈r.ws:=by simpa using c
  obtain⟨b,hb⟩ : ∃ b,as[k]? = some b:=⟨as[k],List.getElem?_eq_getElem (by omega)⟩
  obtain⟨x,hx⟩ : ∃ x,r.rs[k]? = some x:=⟨_,List.getElem?_eq_getElem hk⟩
  walk_at "nx";refine⟨_,_,.inr (SqT.of h1),rfl,?_⟩
  walk_at "rd1";refine⟨_,_,.inl (SqL.of h3),(jh (by omega) (by simpa using hb)),?_⟩
  walk_at "rd1";refine⟨_,_,.inr (SqT.of h1),rfl,?_⟩
  walk_at "rd1";refine⟨⟨_,SqL.of h2⟩,_,SqL.of h2,hy,?_⟩
  exact⟨_,_,.inl (SqL.of (h5 k b x hb hx)),(aq (sP ok hx hy)),q⟩
def oK:Sp:=fun vs H Q _=>∃ (c:Addr) (R:List bi) (N:Nat),vs=[.ref c]∧ListR H c R∧(∀ r∈R,SlR N r)∧∀ (M:Nat) (H':Hp),Same H H'→M≤N→Q (.int (M:Int)) H'
theorem wb(D:DefAt K mg "_law_slots" b6) (z_max:mg "max" = none):aE P w K mg base 1 "_law_slots" ["_law_code_here"] oK:=by
 refine D.cal (k:=0) sc_law_slots (fun _ _ _ _ _ _ us hl=>match us,hl with | [_],_=>rfl) (fun vs H Q E h=>by obtain⟨_,_,_,rfl,_⟩:=h; rfl) (fun f cdv A outer s0 H vs Q E hr h=>?_)
 obtain⟨c,R,N,rfl,hL,hk,q⟩:=h
 refine⟨_,(ai (au 1 sc_law_slots.nd ac)
   (ai (b_ PassesOwn.never rfl (cX K (pv 0)) (bg 2 sc_law_slots.nd) (ai (bj (aB (i8 K) (am (aw K) (pv 2) ac (fun _ _=>rfl)) (aU (aa av (aa av (aa av ae)))) (by with_unfolding_all rfl)) (aj (au 1 sc_law_slots.nd (bH vV z_max wV (aa (pv 1) (aa (ak aC (am (aw K) (pv 2) ac (fun _ _=>rfl)) ac) ae))))) aY)
   (aj (bj (aB (i8 K) (am (aw K) (pv 2) ac (fun _ _=>rfl)) (aU (aa av (aa av ae))) (by with_unfolding_all rfl)) (aj (au 1 sc_law_slots.nd (bH wo z_max wV (aa (pv 1) (aa (ak aC (am (aw K) (pv 2) ac (fun _ _=>rfl)) ac) (aa (ak aC (am (aw K) (pv 2) ac (fun _ _=>rfl)) ac) ae)))))) aY))))
   (aj (az (pv 1))))),?_⟩
 obtain⟨as,a1,a2⟩:=id hL
 have hl:=aM a2;walk_at "rd1";walk_at "nx";refine⟨⟨_,SqL.of a1⟩,?_⟩
 refine cS (xs:=as.map V.ref) (fun i σ H'=>∃ (M:Nat) (o2:Option V),σ=[some (.ref c),some (.int (M:Int)),o2]∧Same H H'∧M≤N) ⟨0,none,rfl,fun _ _ z=>z,Nat.zero_le _⟩ (fun i σ H' _ hh=>by obtain⟨_,_,_,z,_⟩:=hh; exact SqL.of (z _ _ a1)) ?_ ?_
 ·rintro i v σ H' hv ⟨M,o2,rfl,sm,hM⟩
  have hi:i<as.length:=by have:=(List.getElem?_eq_some_iff.mp hv).1; simpa using this
  rw[List.getElem?_map,List.getElem?_eq_getElem hi]at hv
  cases hv;obtain⟨r,hr1,hr2⟩:=b7 a2 (List.getElem?_eq_getElem hi)
  have hk1:=hk r (List.mem_of_getElem? hr1);have hb:=sm _ _ hr2;have hr2':H as[i]=some (.tup r):=hr2
  generalize as[i]=b at hb hr2' ⊢;refine gm (fun σ' H'=>∃ M:Nat,σ'=[some (.ref c),some (.int (M:Int)),some (.ref b)]∧Same H H'∧M≤N) (fun k hkk=>?_) ?_
  ·walk_at "rd1"
   refine⟨_,_,.inr (SqT.of hb),aq (j:=0) hk1.hd,by decide,fun p hp=>?_⟩
   have s1:=ah hp (.tup [V.str "open", .str "do", .str "drop"]);refine⟨_,.inr (SqT.of af),rfl,rfl,?_⟩
   have hb1:=s1 _ _ hb;generalize upd H' p (.tup [V.str "open", .str "do", .str "drop"])=H1 at s1 hb1 ⊢;rw[show [V.str "open", .str "do", .str "drop"]=(["open", "do", "drop"]:List Str).map V.str from rfl,eW];refine bd (fun e=>?_) (fun e=>?_)
   ·have e:=of_decide_eq_true e
    obtain⟨h2,l2⟩:=hk1.s2 (by simp only[List.mem_cons,List.not_mem_nil,or_false]at e ⊢; rcases e with e | e | e <;> simp[e])
    refine⟨_,_,.inr (SqT.of hb1),aq (j:=2) h2,?_⟩
    walk_at "rd1"
    have e:∃ M':Nat,(if (cm r 2:Int)+1>(M:Int) then (cm r 2:Int)+1 else (M:Int))=(M':Int)∧M'≤N:=by
     split
     ·exact⟨cm r 2+1,by push_cast; rfl,l2⟩
     ·exact⟨M,rfl,hM⟩
    obtain⟨M',e,hM'⟩:=e
    rw[e];exact hkk _ _ ⟨M',rfl,sm.trans s1,hM'⟩
   ·exact hkk _ _ ⟨M,rfl,sm.trans s1,hM⟩
  rintro σ' H2 ⟨M1,rfl,s2,hM1⟩
  have hb2:=s2 _ _ hr2';walk_at "nx";refine⟨_,_,.inr (SqT.of hb2),aq (j:=0) hk1.hd,by decide,fun p hp=>?_⟩
  have s3:=ah hp (.tup [V.str "copy", .str "tie"]);refine⟨_,.inr (SqT.of af),rfl,rfl,?_⟩
  have hb3:=s3 _ _ hb2;generalize upd H2 p (.tup [V.str "copy", .str "tie"])=H3 at s3 hb3 ⊢;rw[show [V.str "copy", .str "tie"]=(["copy", "tie"]:List Str).map V.str from rfl,eW];refine bd (fun e=>?_) (fun e=>?_)
  ·have e:=of_decide_eq_true e
   obtain⟨h2,l2⟩:=hk1.s2 (by simp only[List.mem_cons,List.not_mem_nil,or_false]at e ⊢; rcases e with e | e <;> simp[e])
   obtain⟨h3,l3⟩:=hk1.s3 e
   refine⟨_,_,.inr (SqT.of hb3),aq (j:=2) h2,?_⟩
   walk_at "rd1";refine⟨_,_,.inr (SqT.of hb3),aq (j:=3) h3,?_⟩
   walk_at "rd1";refine⟨_,_,_,rfl,?_⟩
   have e:∃ M':Nat,(if (cm r 2:Int)+1>(M1:Int) then (if (cm r 3:Int)+1>(cm r 2:Int)+1 then (cm r 3:Int)+1 else (cm r 2:Int)+1) else (if (cm r 3:Int)+1>(M1:Int) then (cm r 3:Int)+1 else (M1:Int)))=(M':Int)∧M'≤N:=by
    split
    ·split
     ·exact⟨cm r 3+1,by push_cast; rfl,l3⟩
     ·exact⟨cm r 2+1,by push_cast; rfl,l2⟩
    ·split
     ·exact⟨cm r 3+1,by push_cast; rfl,l3⟩
     ·exact⟨M1,rfl,hM1⟩
   obtain⟨M',e,hM'⟩:=e
   rw[e];exact⟨M',_,rfl,s2.trans s3,hM'⟩
  ·exact⟨M1,_,rfl,s2.trans s3,hM1⟩
 ·rintro σ H' ⟨M,o2,rfl,sm,hM⟩
  walk_at "nx";exact q M H' sm hM
theorem rR{n i:Nat}(h:n<2 ^ i)(s:Nat):bN (n+2 ^ i) s=(bN n s||decide (i=s)):=by
 have hb:bN n i=false:=Nat.testBit_lt_two_pow h
 have e:n+2 ^ i=n ||| 2 ^ i:=by
  rw[xF]; unfold qA; rw[if_neg (by rw[hb]; decide)]
 rw[e];unfold bN;rw[Nat.testBit_or,Nat.testBit_two_pow]
theorem rE{n i s:Nat}(h:n<2 ^ i)(hs:i=s):bN n s=false:=by subst hs; exact Nat.testBit_lt_two_pow h
theorem zA{n m i:Nat}(hn:n<2 ^ i)(hm:m<2 ^ i)(hd:∀ s,¬ (bN n s=true∧bN m s=true))(x:Int):∃ n' m':Nat,(n:Int)+((2 ^ i:Nat):Int) * (if x=1 then 1 else 0)=(n':Int)∧(m:Int)+((2 ^ i:Nat):Int) * (if x=2 then 1 else 0)=(m':Int)∧n'<2 ^ (i+1)∧m'<2 ^ (i+1)∧∀ s,¬ (bN n' s=true∧bN m' s=true):=by
 have h2:2 ^ (i+1)=2 ^ i+2 ^ i:=by rw[Nat.pow_succ]; omega
 by_cases a:x=1
 ·have b:¬ x=2:=by omega
  rw[if_pos a,if_neg b];refine⟨n+2 ^ i,m,by push_cast; omega,by omega,by omega,by omega,fun s z=>?_⟩
  rw[rR hn]at z
  by_cases c:i=s
  ·rw[rE hm c]at z; exact absurd z.2 (by decide)
  ·rw[decide_eq_false c,Bool.or_false]at z; exact hd s z
 ·rw[if_neg a]
  by_cases b:x=2
  ·rw[if_pos b]
   refine⟨n,m+2 ^ i,by omega,by push_cast; omega,by omega,by omega,fun s z=>?_⟩
   rw[rR hm]at z
   by_cases c:i=s
   ·rw[rE hn c]at z; exact absurd z.1 (by decide)
   ·rw[decide_eq_false c,Bool.or_false]at z; exact hd s z
  ·rw[if_neg b]
   exact⟨n,m,by omega,by omega,by omega,by omega,hd⟩
def pe:Sp:=fun vs H Q _=>∃ (c:Int) (M:Nat),vs=[.int c,.int (M:Int)]∧M≤9000∧∀ (t:Addr) (H':Hp) (n m o:Nat),Same H H'→H t=none→fo H' t [n,m,o]→(∀ s,¬ (bN n s=true∧bN m s=true))→Q (.ref t) H'
theorem Bm(D:DefAt K mg "_law_pair" bF) (z_int:mg "int" = none) (z_range:mg "range" = none):aE P w K mg base 1 "_law_pair" ["_law_cell", "_law_slots_here"] pe:=by
 refine D.cal (k:=0) sc_law_pair (fun _ _ _ _ _ _ us hl=>match us,hl with | [_,_],_=>rfl) (fun vs H Q E h=>by obtain⟨_,_,rfl,_⟩:=h; rfl) (fun f cdv A outer s0 H vs Q E hr h=>?_)
 obtain⟨c,M,rfl,hM,q⟩:=h
 refine⟨_,(ai (au 2 sc_law_pair.nd (ak bo (ak cU (pv 0) ac) (ak aC (ak jd ac ac) ac)))
   (ai (au 3 sc_law_pair.nd ac)
   (ai (au 4 sc_law_pair.nd ac)
   (ai (b_ PassesOwn.never rfl (de G_ z_range (aa (pv 1) ae)) (bg 5 sc_law_pair.nd) (ai (au 3 sc_law_pair.nd (ak aC (pv 3) (ak cU (ak i0 ac (pv 5)) (dy fQ z_int jj (aa (ck aT (ak bo (pv 2) ac) ac (aA _)) ae)))))
   (ai (au 4 sc_law_pair.nd (ak aC (pv 4) (ak cU (ak i0 ac (pv 5)) (dy fQ z_int jj (aa (ck aT (ak bo (pv 2) ac) ac (aA _)) ae)))))
   (aj (au 2 sc_law_pair.nd (ak cM (pv 2) ac))))))
   (aj (az (aU (aa (pv 3) (aa (pv 4) (aa (ak aC ac (ak bo (pv 2) ac)) ae)))))))))),?_⟩
 walk_at "rd1";refine⟨.inr ⟨by decide,by decide⟩,⟨by decide,by decide,by decide⟩,by decide,?_⟩
 generalize c * 16807 % (10 ^ Int.toNat 12+39)=rest
 walk_at "nx";walk_at "nx";walk_at "nx";refine⟨by omega,by omega,?_⟩
 rw[Int.toNat_natCast]
 refine dR (fun i σ H'=>∃ (n m:Nat) (r1:Int) (o5:Option V),σ=[some (.int c),some (.int (M:Int)),some (.int r1),some (.int (n:Int)),some (.int (m:Int)),o5]∧H=H'∧n<2 ^ i∧m<2 ^ i∧∀ s,¬ (bN n s=true∧bN m s=true))
  ⟨0,0,rest,none,rfl,rfl,by decide,by decide,fun s z=>by rw[show bN 0 s=false from Nat.zero_testBit s]at z; exact absurd z.1 (by decide)⟩ ?_ ?_
 ·rintro i σ H' hi ⟨n,m,r1,o5,rfl,rfl,hn,hm,hd⟩
  rw[Int.zero_add];walk_at "rd1";obtain⟨n',m',en,em,hn',hm',hd'⟩:=zA hn hm hd (r1 % 3)
  refine⟨⟨by omega,by omega,by decide⟩,by decide,.inr (by split <;> decide),?_⟩
  rw[qP,en];walk_at "nx";refine⟨⟨by omega,by omega,by decide⟩,by decide,.inr (by split <;> decide),?_⟩
  rw[qP,em];walk_at "nx";exact⟨⟨by decide,by decide⟩,n',m',_,_,rfl,hn',hm',hd'⟩
 ·rintro σ H' ⟨n,m,r1,o5,rfl,rfl,hn,hm,hd⟩
  walk_at "nx";have ho:∃ o:Nat,1+r1 % 2=(o:Int):=⟨(1+r1 % 2).toNat,by omega⟩
  obtain⟨o,eo⟩:=ho
  rw[eo];exact⟨by decide,by decide,fun t ht=>q t _ n m o (ah ht _) ht af hd⟩
theorem zF{kvs:List (List aK × V)}{k:List aK}{v:V}{p:List aK × V}(h:p∈cK kvs k v):p.1=k∨∃ q∈kvs,q.1=p.1:=by
 unfold cK at h;split at h
 ·obtain⟨q,hq,e⟩:=List.mem_map.mp h
  refine .inr ⟨q,hq,?_⟩
  rw[← e]; split <;> rfl
 ·rcases List.mem_append.mp h with z | z
  ·exact .inr ⟨p,z,rfl⟩
  ·rw[List.mem_singleton.mp z]; exact .inl rfl
theorem xX(kvs:List (List aK × V))(k:List aK)(v:V):(cK kvs k v).length≤kvs.length+1:=by
 unfold cK;split
 ·rw[List.length_map]; omega
 ·rw[List.length_append]; simp
def E_(sd:Int)(Z:Nat)(k:List aK):Prop:=∃ ts:List Nat,k.map kV=ts.map iN∧fO sd Z ts∧jJ ts
def v4:Sp:=fun vs H Q _=>∃ (c:Int) (p:Addr) (rl:Rl) (M:Nat),vs=[.int c,.ref p,.int (M:Int)]∧M≤9000∧RuleAt H p rl∧eZ rl∧∀ (L:Addr) (H':Hp) (bs:List Addr),Same H H'→H L=none→H' L=some (.lst (bs.map V.ref))→bs.length≤6→(∀ b∈bs,∃ ts,fo H' b ts∧fO rl.s rl.rs.length ts∧jJ ts)→Q (.ref L) H'
theorem AL(D:DefAt K mg "_law_tokens" aV) (z_range:mg "range" = none) (z_len:mg "len" = none) (z_list:mg "list" = none) (c_law_pair:aE P w K mg base 1 "_law_pair" ["_law_cell", "_law_slots_here"] pe):aE P w K mg base 2 "_law_tokens" ["_law_cell", "_law_rule_here", "_law_slots_here"] v4:=by
 refine D.cal (k:=1) sc_law_tokens (fun _ _ _ _ _ _ us hl=>match us,hl with | [_,_,_],_=>rfl) (fun vs H Q E h=>by obtain⟨_,_,_,_,rfl,_⟩:=h; rfl) (fun f cdv A outer s0 H vs Q E hr h=>?_)
 obtain⟨c,p,rl,M,rfl,hM,hR,ok,q⟩:=h
 refine⟨_,(ai (au 3 sc_law_tokens.nd (ak bo (pv 0) ac))
   (ai (au 4 sc_law_tokens.nd zK)
   (ai (b_ PassesOwn.never rfl (de Iv z_range (aa (ak bo (pv 0) ac) ae)) (bg 5 sc_law_tokens.nd) (ai (au 3 sc_law_tokens.nd (ak bo (ak aC (ak aC (ak cU (pv 3) (pv 3)) (ak cU ac (pv 3))) (pv 5)) ac))
   (ai (au 6 sc_law_tokens.nd (ay c_law_pair hr (aa (pv 3) (aa (pv 2) ae))))
   (ai (au 7 sc_law_tokens.nd (ak bo (ak cM (pv 3) ac) (bH (bb K) z_len bR (aa (am (aw K) (pv 1) ac (fun _ _=>rfl)) ae))))
   (aj (bj (aB aT (am (aw K) (pv 1) ac (fun _ _=>rfl)) ac (aA _)) (aj (gU fm (jc (pv 4) (aU (aa (am (aw K) (pv 6) ac (fun _ _=>rfl)) (aa (pv 7) ae))) (xh hr)))) (aj (gU fm (jc (pv 4) (am (aw K) (aS (aa (dF (eI K) (pv 6) eJ (dL ac)) (aa (pv 6) (aa (ak (eV K) (pv 6) (aU (aa (pv 7) ae))) (aa (pv 6) ae))))) (ak bo (pv 3) ac) (fun _ _=>rfl)) (xh hr))))))))))
   (aj (az (dy (ve hr) z_list hJ (aa (pv 4) ae))))))),?_⟩
 obtain⟨pw,pr,as,r1,r2,r3⟩:=id hR
 have hn0:=ok.n0;have hbl:=r3.2.1;have hs:=ok.s;walk_at "rd1";refine⟨by decide,?_⟩
 have hnum:∃ x:Nat,c % 2147483647=(x:Int)∧x<2147483647:=⟨(c % 2147483647).toNat,by omega,by omega⟩
 obtain⟨x0,ex0,hx0⟩:=hnum
 rw[ex0];walk_at "nx";intro d hd
 have s1:=ah hd (.dT []);have e1:upd H d (.dT []) d=some (.dT []):=af
 generalize upd H d (.dT [])=H1 at s1 e1 ⊢;walk_at "nx";refine⟨by decide,by omega,by omega,?_⟩
 have hn7:∃ z:Nat,c % 7=(z:Int)∧z≤6:=⟨(c % 7).toNat,by omega,by omega⟩
 obtain⟨z7,ez7,hz7⟩:=hn7
 rw[ez7,Int.toNat_natCast]
 refine dR (fun i σ H'=>∃ (x:Nat) (kvs:List (List aK × V)) (o5 o6 o7:Option V),σ=[some (.int c),some (.ref p),some (.int (M:Int)),some (.int (x:Int)),some (.ref d),o5,o6,o7]∧x<2147483647∧Same H H'∧H' d=some (.dT kvs)∧kvs.length≤i∧∀ q∈kvs,E_ rl.s rl.rs.length q.1)
  ⟨x0,[],none,none,none,rfl,hx0,s1,e1,Nat.le_refl _,by simp⟩ ?_ ?_
 ·rintro i σ H' hi ⟨x,kvs,o5,o6,o7,rfl,hx,sm,hdk,hkl,hkk⟩
  walk_at "rd1";refine⟨.inl ⟨by omega,by omega⟩,.inl ⟨by decide,by decide⟩,by decide,?_⟩
  have hnum:∃ y:Nat,((x:Int) * x+48271 * x+(0+(i:Int))) % 2147483647=(y:Int)∧y<2147483647:=⟨_,(Int.toNat_of_nonneg (Int.emod_nonneg _ (by decide))).symm,by have:=Int.emod_lt_of_pos ((x:Int) * x+48271 * x+(0+(i:Int))) (show (0:Int)<2147483647 by decide); omega⟩
  obtain⟨y,ey,hy⟩:=hnum
  rw[ey];walk_at "nx";refine⟨(y:Int),M,rfl,hM,fun tp H2 n m o s2 htp etp hdj=>?_⟩
  have sm2:=sm.trans s2;have hdk2:=s2 _ _ hdk;walk_at "nx";refine⟨⟨by decide,by decide⟩,_,_,.inr (SqT.of (sm2 _ _ r1)),rfl,?_⟩
  walk_at "rd1";refine⟨_,.inl (SqL.of (sm2 _ _ r3.1)),?_⟩
  rw[List.length_map,hbl]
  have hrm:∃ rm:Nat,(y:Int) / 3 % (rl.rs.length:Int)=(rm:Int)∧rm<rl.rs.length:=by
   have a1:=Int.emod_nonneg ((y:Int) / 3) (show (rl.rs.length:Int)≠0 by omega)
   have a2:=Int.emod_lt_of_pos ((y:Int) / 3) (show (0:Int)<(rl.rs.length:Int) by omega)
   exact⟨_,(Int.toNat_of_nonneg a1).symm,by omega⟩
  obtain⟨rm,erm,hrm⟩:=hrm
  rw[erm];walk_at "rd1";refine⟨by omega,?_⟩
  have put:∀ (u:Addr) (ts:List Nat) (H3:Hp) (o5 o6 o7:Option V),Same H2 H3→fo H3 u ts→fO rl.s rl.rs.length ts→jJ ts→xg (.ref d) (.ref u) (.bl true) H3 fun H4=>∃ (x:Nat) (kvs:List (List aK × V)) (p5 p6 p7:Option V),[some (V.int c),some (.ref p),some (.int (M:Int)),some (.int (y:Int)),some (.ref d),o5,o6,o7]=[some (V.int c),some (.ref p),some (.int (M:Int)),some (.int (x:Int)),some (.ref d),p5,p6,p7]∧x<2147483647∧Same H H4∧H4 d=some (.dT kvs)∧kvs.length≤i+1∧∀ q∈kvs,E_ rl.s rl.rs.length q.1:=fun u ts H3 o5 o6 o7 s3 hu hta hdt=>by
   have ek:(ts.map fun (n:Nat)=>(Sum.inl (n:Int):aK)).map kV=ts.map iN:=by rw[List.map_map]; rfl
   refine⟨d,u,kvs,ts.map fun (n:Nat)=>(Sum.inl (n:Int):aK),rfl,rfl,s3 _ _ hdk2,by rw[ek]; exact hu,b9 (by omega),y,_,o5,o6,o7,rfl,hy,(sm2.trans s3).upd hd _,af,?_,fun q hq=>?_⟩
   ·have:=xX kvs (ts.map fun (n:Nat)=>(Sum.inl (n:Int):aK)) (.bl true)
    omega
   ·rcases zF hq with e | ⟨q',hq',e⟩
    ·rw[e]; exact⟨ts,ek,hta,hdt⟩
    ·rw[← e]; exact hkk q' hq'
  walk_at "nx";refine⟨_,_,.inr (SqT.of (sm2 _ _ r1)),rfl,?_⟩
  walk_at "rd1";refine bd (fun c1=>?_) (fun c1=>?_)
  ·refine⟨_,_,.inr (SqT.of etp),rfl,by decide,fun t1 ht1=>?_⟩
   exact put t1 [n,rm] _ _ _ _ (ah ht1 _) af (.h1 n rm c1 hrm) trivial
  ·have c2:rl.s=2:=hs.resolve_left c1
   refine⟨tp,_,rfl,SqT.of etp,fun hw=>absurd hw (show ¬ (HT.sIx 3 0 none=0∧HT.sIx 3 3 (some 1)=3) by decide),fun _ t1 ht1=>?_⟩
   rw[show di ([n,m,o].map iN) none (some 1)=[n].map iN from rfl];have s3:=ah ht1 (.tup ([n].map iN));have e3:fo (upd H2 t1 (.tup ([n].map iN))) t1 [n]:=af
   generalize upd H2 t1 (.tup ([n].map iN))=H3 at s3 e3 ⊢;refine⟨by decide,fun t2 ht2=>?_⟩
   have s4:=ah ht2 (.tup [V.int (rm:Int)]);have e4:upd H3 t2 (.tup [V.int (rm:Int)]) t2=some (.tup ([rm].map iN)):=af
   generalize upd H3 t2 (.tup [V.int (rm:Int)])=H4 at s4 e4 ⊢;have s24:=s3.trans s4;refine⟨_,_,SqT.of (s24 _ _ etp),SqT.of e4,by simp,aR (by simp),fun hz=>absurd hz (by simp),fun _ t3 ht3=>?_⟩
   have s5:=ah ht3 (.tup ([n,m,o].map iN++[rm].map iN));have e5:fo (upd H4 t3 (.tup ([n,m,o].map iN++[rm].map iN))) t3 [n,m,o,rm]:=af
   generalize upd H4 t3 (.tup ([n,m,o].map iN++[rm].map iN))=H5 at s5 e5 ⊢;refine⟨by decide,fun t4 ht4=>⟨by decide,?_⟩⟩
   have s6:=ah ht4 (.lst [.ref t1,.ref tp,.ref t3,.ref tp]);have e6:upd H5 t4 (.lst [.ref t1,.ref tp,.ref t3,.ref tp]) t4=some (.lst [.ref t1,.ref tp,.ref t3,.ref tp]):=af
   generalize upd H5 t4 (.lst [.ref t1,.ref tp,.ref t3,.ref tp])=H6 at s6 e6 ⊢;have s26:=s24.trans (s5.trans s6);have hx4:∃ z:Nat,(y:Int) % 4=(z:Int)∧z<4:=⟨y % 4,by omega,by omega⟩
   obtain⟨z,ez,hz⟩:=hx4
   rw[ez];have hz4:z=0∨z=1∨z=2∨z=3:=by omega
   rcases hz4 with rfl | rfl | rfl | rfl
   ·exact⟨_,_,.inl (SqL.of e6),aq (j:=0) rfl,put t1 [n] _ _ _ _ s26 ((s4.trans (s5.trans s6)) _ _ e3) (.one n c2) trivial⟩
   ·exact⟨_,_,.inl (SqL.of e6),aq (j:=1) rfl,put tp [n,m,o] _ _ _ _ s26 (s26 _ _ etp) (.two n m o c2) hdj⟩
   ·exact⟨_,_,.inl (SqL.of e6),aq (j:=2) rfl,put t3 [n,m,o,rm] _ _ _ _ s26 (s6 _ _ e5) (.tie n m o rm c2 hrm) hdj⟩
   ·exact⟨_,_,.inl (SqL.of e6),aq (j:=3) rfl,put tp [n,m,o] _ _ _ _ s26 (s26 _ _ etp) (.two n m o c2) hdj⟩
 ·rintro σ H' ⟨x,kvs,o5,o6,o7,rfl,hx,sm,hdk,hkl,hkk⟩
  walk_at "nx";rw[wu];refine⟨kvs,hdk,by omega,fun L bs hL hb=>?_⟩
  refine q L _ bs (sm.trans (ah hL _)) (sm.free hL) af (by rw[← Paired.length hb]; omega) (fun b hbm=>?_)
  obtain⟨j,hj,rfl⟩:=List.mem_iff_getElem.mp hbm
  have hkj:j<kvs.length:=by rw[Paired.length hb]; exact hj
  have hp:=ip hb (List.getElem?_eq_getElem hkj) (List.getElem?_eq_getElem hj);obtain⟨ts,e1,e2,e3⟩:=hkk _ (List.getElem_mem hkj)
  rw[e1]at hp
  exact⟨ts,(ah hL _) _ _ hp,e2,e3⟩
def oY:Sp:=fun vs H Q _=>∃ (b t:Addr) (r:bi) (sd:Int) (ts:List Nat) (k N Z:Nat),vs=[.ref b,.ref t,.int sd]∧bc H b r∧SlR N r∧N≤9000∧fo H t ts∧fO sd Z ts∧jG ts k∧jJ ts∧∀ (L:Addr) (H':Hp),Same H H'→H L=none→H' L=some (.lst ((fB r ts).map V.str))→Q (.ref L) H'
theorem wz(D:DefAt K mg "_law_texts" cw) (c_law_has:aE P w K mg base 1 "_law_has" ["_law_held", "_law_slot"] w6):aE P w K mg base 2 "_law_texts" ["_law_row", "_law_token", "_law_sides"] oY:=by
 refine D.cal (k:=1) oX (fun _ _ _ _ _ _ us hl=>match us,hl with | [_,_,_],_=>rfl) (fun vs H Q E h=>by obtain⟨_,_,_,_,_,_,_,_,rfl,_⟩:=h; rfl) (fun f cdv A outer s0 H vs Q E hr h=>?_)
 obtain⟨b,t,r,sd,ts,k,N,Z,rfl,hb,hk,hN,ht,hta,htk,hdj,q⟩:=h
 refine⟨_,(ai (bj (PW.pt' (cB (aB aT (am (aw K) (pv 0) ac (fun _ _=>rfl)) av (aA _)) (cT (aB aT (pv 2) ac (aA _))))) (aj (az (aS (aa av ae)))) aY)
   (ai (bj (PW.pt' (cB (aB aT (am (aw K) (pv 0) ac (fun _ _=>rfl)) av (aA _)) (cT (aB aT (am (aw K) (pv 1) ac (fun _ _=>rfl)) ac (aA _))))) (aj (az (aS (aa av (aa av ae))))) aY)
   (ai (bj (aB aT (am (aw K) (pv 0) ac (fun _ _=>rfl)) av (aA _)) (aj (az (aS (aa av (aa av ae))))) aY)
   (ai (bj (PW.pt' (cB (aB aT (am (aw K) (pv 0) ac (fun _ _=>rfl)) av (aA _)) (cB (aB aT (pv 2) ac (aA _)) (cT (dj (ay c_law_has hr (aa (am (aw K) (pv 1) ac (fun _ _=>rfl)) (aa (am (aw K) (pv 0) ac (fun _ _=>rfl)) ae)))))))) (aj (az (aS (aa (am (aw K) (pv 0) ac (fun _ _=>rfl)) ae)))) aY)
   (ai (bj (PW.pt' (cB (aB aT (am (aw K) (pv 0) ac (fun _ _=>rfl)) av (aA _)) (cB (aB aT (pv 2) ac (aA _)) (cT (dj (ay c_law_has hr (aa (am (aw K) (pv 1) ac (fun _ _=>rfl)) (aa (am (aw K) (pv 0) ac (fun _ _=>rfl)) ae)))))))) (aj (az (aS (aa (ak aC av (am (aw K) (pv 0) ac (fun _ _=>rfl))) ae)))) aY)
   (ai (bj (PW.pt' (cB (aB aT (am (aw K) (pv 0) ac (fun _ _=>rfl)) av (aA _)) (cB (aB aT (pv 2) ac (aA _)) (cT (dj (ay c_law_has hr (aa (am (aw K) (pv 1) ac (fun _ _=>rfl)) (aa (am (aw K) (pv 0) ac (fun _ _=>rfl)) ae)))))))) (aj (az (aS (aa (ak aC av (am (aw K) (pv 0) ac (fun _ _=>rfl))) ae)))) aY)
   (aj (az (aS ae))))))))),?_⟩
 walk_at "rd1";refine⟨_,_,.inr (SqT.of hb),aq (j:=0) hk.hd,?_⟩
 walk_at "rd1";unfold fB at q
 cases htk with
 | h1 n k=>
  have hs1:sd=1:=by cases hta with
   | h1 _ _ h _=>exact h
  subst hs1
  by_cases ce:eD r = "end"
  ·have cd:¬ eD r = "do" := fun z=>absurd (ce.symm.trans z) (by decide)
   rw[if_neg cd,if_pos ce]at q
   rw[if_pos ce,if_pos rfl];exact⟨by decide,fun p hp=>q p _ (ah hp _) hp af⟩
  rw[if_neg ce];walk_at "nx";refine⟨_,_,.inr (SqT.of hb),aq (j:=0) hk.hd,?_⟩
  walk_at "rd1";rw[if_neg ce];walk_at "nx";refine⟨_,_,.inr (SqT.of hb),aq (j:=0) hk.hd,?_⟩
  walk_at "rd1";rw[if_neg ce];walk_at "nx";refine⟨_,_,.inr (SqT.of hb),aq (j:=0) hk.hd,?_⟩
  walk_at "rd1"
  by_cases cd:eD r = "do"
  ·obtain⟨h2,l2⟩:=hk.s2 (by rw[cd]; decide)
   obtain⟨h3,l3⟩:=hk.wd cd
   rw[if_pos cd]at q
   have q':∀ (L:Addr) (H':Hp),Same H H'→H L=none→H' L=some (.lst ((if bN n (cm r 2)=true then [iI r] else []).map V.str))→Q (.ref L) H':=q
   rw[if_pos cd];refine⟨_,_,.inr (SqT.of ht),rfl,_,_,.inr (SqT.of hb),aq (j:=2) h2,n,cm r 2,rfl,by omega,_,rfl,bd (fun d=>?_) (fun d=>?_)⟩
   ·rw[if_pos d]at q'
    refine⟨_,_,.inr (SqT.of hb),aq (j:=3) h3,by decide,fun p hp=>q' p _ (ah hp _) hp af⟩
   ·rw[if_neg d]at q'
    walk_at "nx";refine⟨_,_,.inr (SqT.of hb),aq (j:=0) hk.hd,?_⟩
    walk_at "rd1";rw[if_pos cd,if_neg (by decide)]
    walk_at "nx";refine⟨_,_,.inr (SqT.of hb),aq (j:=0) hk.hd,?_⟩
    walk_at "rd1";rw[if_pos cd,if_neg (by decide)]
    walk_at "nx";exact⟨by decide,fun p hp=>q' p _ (ah hp _) hp af⟩
  ·rw[if_neg cd,if_neg ce]at q
   rw[if_neg cd];walk_at "nx";refine⟨_,_,.inr (SqT.of hb),aq (j:=0) hk.hd,?_⟩
   walk_at "rd1";rw[if_neg cd];walk_at "nx";refine⟨_,_,.inr (SqT.of hb),aq (j:=0) hk.hd,?_⟩
   walk_at "rd1";rw[if_neg cd];walk_at "nx";exact⟨by decide,fun p hp=>q p _ (ah hp _) hp af⟩
 | tie n m o k=>
  have hs2:sd=2:=by cases hta with
   | tie _ _ _ _ h _=>exact h
  subst hs2
  by_cases ce:eD r = "end"
  ·have cd:¬ eD r = "do" := fun z=>absurd (ce.symm.trans z) (by decide)
   rw[if_neg cd,if_pos ce]at q
   have q':∀ (L:Addr) (H':Hp),Same H H'→H L=none→H' L=some (.lst (((if o=1 then ["1.end", "2.end"] else ["2.end", "1.end"]):List Str).map V.str))→Q (.ref L) H':=q
   rw[if_pos ce,if_neg (by decide)]
   walk_at "nx";refine⟨_,_,.inr (SqT.of hb),aq (j:=0) hk.hd,?_⟩
   walk_at "rd1";rw[if_pos ce];refine⟨_,_,.inr (SqT.of ht),rfl,?_⟩
   rw[show iN o=V.int (o:Int) from rfl];walk_at "rd1";refine bd (fun e=>?_) (fun e=>?_)
   ·rw[if_pos (by omega)]at q'
    exact⟨by decide,fun p hp=>q' p _ (ah hp _) hp af⟩
   ·rw[if_neg (by omega)]at q'
    walk_at "nx";refine⟨_,_,.inr (SqT.of hb),aq (j:=0) hk.hd,?_⟩
    walk_at "rd1";rw[if_pos ce];exact⟨by decide,fun p hp=>q' p _ (ah hp _) hp af⟩
  rw[if_neg ce];walk_at "nx";refine⟨_,_,.inr (SqT.of hb),aq (j:=0) hk.hd,?_⟩
  walk_at "rd1";rw[if_neg ce];walk_at "nx";refine⟨_,_,.inr (SqT.of hb),aq (j:=0) hk.hd,?_⟩
  walk_at "rd1";rw[if_neg ce];walk_at "nx";refine⟨_,_,.inr (SqT.of hb),aq (j:=0) hk.hd,?_⟩
  walk_at "rd1"
  by_cases cd:eD r = "do"
  ·obtain⟨h2,l2⟩:=hk.s2 (by rw[cd]; decide)
   obtain⟨h3,l3⟩:=hk.wd cd
   rw[if_pos cd]at q
   have q':∀ (L:Addr) (H':Hp),Same H H'→H L=none→H' L=some (.lst (((if bN n (cm r 2)=true then [("1." : Str)++iI r] else [])++(if bN m (cm r 2)=true then [("2." : Str)++iI r] else [])).map V.str))→Q (.ref L) H':=q
   rw[if_pos cd,if_neg (by decide)]
   walk_at "nx";refine⟨_,_,.inr (SqT.of hb),aq (j:=0) hk.hd,?_⟩
   walk_at "rd1";rw[if_pos cd];refine⟨_,_,.inr (SqT.of ht),rfl,_,_,.inr (SqT.of hb),aq (j:=2) h2,n,cm r 2,rfl,by omega,_,rfl,bd (fun d=>?_) (fun d=>?_)⟩
   ·have d2:¬ bN m (cm r 2)=true:=fun z=>hdj _ ⟨d,z⟩
    rw[if_pos d,if_neg d2]at q'
    refine⟨_,_,.inr (SqT.of hb),aq (j:=3) h3,?_⟩
    walk_at "rd1";refine⟨by rw[show (("1." : Str).length)=2 by decide +kernel]; exact aR (by omega),by decide,fun p hp=>q' p _ (ah hp _) hp af⟩
   ·rw[if_neg d]at q'
    walk_at "nx";refine⟨_,_,.inr (SqT.of hb),aq (j:=0) hk.hd,?_⟩
    walk_at "rd1";rw[if_pos cd];refine⟨_,_,.inr (SqT.of ht),rfl,_,_,.inr (SqT.of hb),aq (j:=2) h2,m,cm r 2,rfl,by omega,_,rfl,bd (fun d2=>?_) (fun d2=>?_)⟩
    ·rw[if_pos d2]at q'
     refine⟨_,_,.inr (SqT.of hb),aq (j:=3) h3,?_⟩
     walk_at "rd1";refine⟨by rw[show (("2." : Str).length)=2 by decide +kernel]; exact aR (by omega),by decide,fun p hp=>q' p _ (ah hp _) hp af⟩
    ·rw[if_neg d2]at q'
     walk_at "nx";exact⟨by decide,fun p hp=>q' p _ (ah hp _) hp af⟩
  ·rw[if_neg cd,if_neg ce]at q
   rw[if_neg cd];walk_at "nx";refine⟨_,_,.inr (SqT.of hb),aq (j:=0) hk.hd,?_⟩
   walk_at "rd1";rw[if_neg cd];walk_at "nx";refine⟨_,_,.inr (SqT.of hb),aq (j:=0) hk.hd,?_⟩
   walk_at "rd1";rw[if_neg cd];walk_at "nx";exact⟨by decide,fun p hp=>q p _ (ah hp _) hp af⟩
def lJ:Sp:=fun vs H Q _=>∃ (p b t:Addr) (rl:Rl) (r:bi) (ts:List Nat) (k N:Nat),vs=[.ref p,.ref b,.ref t]∧RuleAt H p rl∧eZ rl∧k<rl.rs.length∧bc H b r∧SlR N r∧N≤9000∧fo H t ts∧fO rl.s rl.rs.length ts∧jG ts k∧jJ ts∧∀ H':Hp,Same H H'→Q (b8 (after rl k (fB r ts))) H'
def vm(rl:Rl):Option Nat→List Str→Option Nat
 | none,_=>none
 | some k,ys=>after rl k ys
theorem yS{rl:Rl}{o:Option Nat}{i:Nat}{ys:List Str}{y:Str}(h:ys[i]? = some y):vm rl o (ys.drop i)=vm rl (o.bind fun k=>step rl k y) (ys.drop (i+1)):=by
 cases o with
 | none=>rfl
 | some k=>
  show after rl k (ys.drop i)=vm rl (step rl k y) (ys.drop (i+1))
  rw[kO h]
  cases step rl k y <;> rfl
theorem zO(D:DefAt K mg "_law_room" bS) (c_law_texts:aE P w K mg base 2 "_law_texts" ["_law_row", "_law_token", "_law_sides"] oY) (c_law_next:aE P w K mg base 1 "_law_next" ["_law_rule_here", "_law_room_here", "_law_text"] lO):aE P w K mg base 3 "_law_room" ["_law_rule_here", "_law_row", "_law_token"] lJ:=by
 refine D.cal (k:=2) sc_law_room (fun _ _ _ _ _ _ us hl=>match us,hl with | [_,_,_],_=>rfl) (fun vs H Q E h=>by obtain⟨_,_,_,_,_,_,_,_,rfl,_⟩:=h; rfl) (fun f cdv A outer s0 H vs Q E hr h=>?_)
 obtain⟨p,b,t,rl,r,ts,k,N,rfl,hR,ok,hkl,hb,hk,hN,ht,hta,htk,hdj,q⟩:=h
 refine⟨_,(ai (au 3 sc_law_room.nd (am (aw K) (pv 2) (d_ dI ac) (fun _ _=>rfl)))
   (ai (b_ PassesOwn.never rfl (cX K (ay c_law_texts hr (aa (pv 1) (aa (pv 2) (aa (am (aw K) (pv 0) ac (fun _ _=>rfl)) ae))))) (bg 4 sc_law_room.nd) (aj (bj (aB zR (pv 3) cZ (aA _)) (aj (au 3 sc_law_room.nd (ay c_law_next hr (aa (pv 0) (aa (pv 3) (aa (pv 4) ae)))))) aY)))
   (aj (az (pv 3))))),?_⟩
 obtain⟨pw,pr,as,r1,r2,r3⟩:=id hR
 walk_at "rd1";refine⟨_,_,.inr (SqT.of ht),(by cases htk <;> rfl:cC (ts.map iN) (-1)=some (.int (k:Int))),?_⟩
 walk_at "nx";refine⟨_,_,.inr (SqT.of r1),rfl,b,t,r,rl.s,ts,k,N,rl.rs.length,rfl,hb,hk,hN,ht,hta,htk,hdj,fun L H1 s1 hL e1=>?_⟩
 refine⟨L,rfl,⟨_,SqL.of e1⟩,?_⟩
 refine cS (xs:=(fB r ts).map V.str) (fun i σ H'=>∃ (o:Option Nat) (o4:Option V),σ=[some (.ref p),some (.ref b),some (.ref t),some (b8 o),o4]∧H1=H'∧(∀ j,o=some j→j<rl.rs.length)∧after rl k (fB r ts)=vm rl o ((fB r ts).drop i)) ⟨some k,none,rfl,rfl,fun j e=>by cases e; exact hkl,rfl⟩ (fun i σ H' _ h=>by obtain⟨_,_,_,rfl,_⟩:=h; exact SqL.of e1) ?_ ?_
 ·rintro i v σ H' hv ⟨o,o4,rfl,rfl,ho,he⟩
  rw[List.getElem?_map]at hv
  cases hy:(fB r ts)[i]? with
  | none=>rw[hy]at hv; cases hv
  | some y=>
   rw[hy]at hv; cases hv
   rw[yS hy]at he
   walk_at "rd1"
   cases o with
   | none=>
    rw[if_neg (by simp[b8])]
    exact⟨none,_,rfl,(fun j e=>nomatch e),he⟩
   | some j=>
    rw[if_pos (by simp[b8])]
    exact⟨p,rl,j,y,rfl,hR.mono s1,ok,ho j rfl,step rl j y,_,rfl,rfl,fun j' e=>tJ ok (ho j rfl) e,he⟩
 ·rintro σ H' ⟨o,o4,rfl,rfl,ho,he⟩
  rw[List.length_map,List.drop_length]at he
  walk_at "nx";have e':after rl k (fB r ts)=o:=by rw[he]; cases o <;> rfl
  rw[← e'];exact q H1 s1
def rD:Sp:=fun vs H Q _=>∃ (p b:Addr) (v:V) (rl:Rl) (r:bi) (o:Option (List Nat)) (N:Nat),vs=[.ref p,.ref b,v]∧RuleAt H p rl∧eZ rl∧bc H b r∧SlR N r∧N≤9000∧(∀ ts,o=some ts→fO rl.s rl.rs.length ts∧jJ ts)∧TvAt H v o∧∀ H':Hp,Same H H'→Q (.bl (n6 rl r o)) H'
theorem yG(D:DefAt K mg "_law_due" cA) (z_len:mg "len" = none) (c_law_room:aE P w K mg base 3 "_law_room" ["_law_rule_here", "_law_row", "_law_token"] lJ) (c_law_next:aE P w K mg base 1 "_law_next" ["_law_rule_here", "_law_room_here", "_law_text"] lO):aE P w K mg base 4 "_law_due" ["_law_rule_here", "_law_row", "_law_token"] rD:=by
 refine D.cal (k:=3) vc (fun _ _ _ _ _ _ us hl=>match us,hl with | [_,_,_],_=>rfl) (fun vs H Q E h=>by obtain⟨_,_,_,_,_,_,_,rfl,_⟩:=h; rfl) (fun f cdv A outer s0 H vs Q E hr h=>?_)
 obtain⟨p,b,v,rl,r,o,N,rfl,hR,ok,hb,hk,hN,hto,hv,q⟩:=h
 refine⟨_,(ai (bj (aB dY (pv 2) cZ (aA _)) (aj (az (kC (ck aT (am (aw K) (pv 1) ac (fun _ _=>rfl)) av (aA _)) (kC (ck aT (am (aw K) (pv 0) ac (fun _ _=>rfl)) ac (aA _)) (w4 (ck dY (ay c_law_next hr (aa (pv 0) (aa ac (aa av ae)))) cZ (aA _))))))) aY)
   (ai (bj (PW.pt' (cB (aB aT (am (aw K) (pv 0) ac (fun _ _=>rfl)) ac (aA _)) (cT (aB wc (bH (bb K) z_len bR (aa (pv 2) ae)) ac (aA _))))) (aj (az fm)) aY)
   (aj (az (ck dY (ay c_law_room hr (aa (pv 0) (aa (pv 1) (aa (pv 2) ae)))) cZ (aA _)))))),?_⟩
 obtain⟨pw,pr,as,r1,r2,r3⟩:=id hR
 have hn0:=ok.n0;have hs:=ok.s;have q0:=q H (fun _ _ z=>z)
 walk_at "rd1"
 cases o with
 | none=>
  have hv:v = .non:=hv
  subst hv;rw[if_pos rfl];have q1:Q (.bl (decide (eD r = "open" ∧ rl.s=1)&&(step rl 0 "open").isNone)) H:=q0
  refine⟨_,_,.inr (SqT.of hb),aq (j:=0) hk.hd,?_⟩
  walk_at "rd1";refine bd (fun c1=>?_) (fun c1=>?_)
  ·refine⟨_,_,.inr (SqT.of r1),rfl,?_⟩
   walk_at "rd1";refine bd (fun c2=>?_) (fun c2=>?_)
   ·rw[decide_eq_true ⟨c1,c2⟩,Bool.true_and]at q1
    refine⟨p,rl,0, "open", rfl,hR,ok,by omega,?_⟩
    have e:decide (b8 (step rl 0 "open")=V.non)=(step rl 0 "open").isNone:=by
     cases step rl 0 "open" with
     | none=>rfl
     | some k=>exact decide_eq_false (by simp[b8])
    show Q (V.bl (decide (b8 (step rl 0 "open")=V.non))) H
    rw[e]; exact q1
   ·rw[decide_eq_false (fun z=>c2 z.2)]at q1
    exact q1
  ·rw[decide_eq_false (fun z=>c1 z.1)]at q1
   exact q1
 | some ts=>
  obtain⟨t,rfl,ht⟩:=hv
  obtain⟨hta,hdj⟩:=hto ts rfl
  rw[if_neg (by simp)]
  walk_at "nx";refine⟨_,_,.inr (SqT.of r1),rfl,?_⟩
  walk_at "rd1"
  have fin:∀ {k:Nat},jG ts k→k<rl.rs.length→j4 (nZ (kF uy (jt lJ [] E0 (ee (eO 0) (ee (eO 1) (ee (eO 2) jR)))) (tC V.non))) { nx:=fun x H'=>Q V.non H',rt:=Q } [some (.ref p),some (.ref b),some (.ref t)] H:=fun {k} htk hkl=>by
   walk_at "nx";refine⟨p,b,t,rl,r,ts,k,N,rfl,hR,ok,hkl,hb,hk,hN,ht,hta,htk,hdj,fun H1 s1=>?_⟩
   have q1:=q H1 s1
   have hbr:n6 rl r (some ts)=(after rl k (fB r ts)).isNone:=by
    show gj rl r ts=_
    unfold gj
    cases htk
    ·rw[if_pos (.inl rfl)]; rfl
    ·rw[if_pos (.inr rfl)]; rfl
   rw[hbr]at q1
   walk_at "rd1"
   have e:decide (b8 (after rl k (fB r ts))=V.non)=(after rl k (fB r ts)).isNone:=by
    cases after rl k (fB r ts) with
    | none=>rfl
    | some k=>exact decide_eq_false (by simp[b8])
   rw[e]; exact q1
  have hno:(ts.length=2∨ts.length=4→False)→Q (.bl false) H:=fun hz=>by
   have e:n6 rl r (some ts)=false:=by
    show gj rl r ts=false
    unfold gj; rw[if_neg hz]
   rw[e]at q0; exact q0
  cases hta with
  | h1 n k h hkl=>rw[if_neg (by omega)]; exact fin (.h1 n k) hkl
  | one n h=>rw[if_pos h]; exact⟨_,.inr (SqT.of ht),by rw[if_pos (by simp)]; exact hno (by simp)⟩
  | two n m o h=>rw[if_pos h]; exact⟨_,.inr (SqT.of ht),by rw[if_pos (by simp)]; exact hno (by simp)⟩
  | tie n m o k h hkl=>rw[if_pos h]; exact⟨_,.inr (SqT.of ht),by rw[if_neg (by simp)]; exact fin (.tie n m o k) hkl⟩
def mi:Sp:=fun vs H Q _=>∃ (c p:Addr) (v:V) (R:List bi) (rl:Rl) (r:bi) (i N:Nat) (o:Option (List Nat)),vs=[.ref c,.ref p,.int (i:Int),v]∧ListR H c R∧R[i]? = some r∧RuleAt H p rl∧eZ rl∧SlR N r∧N≤9000∧(∀ ts,o=some ts→fO rl.s rl.rs.length ts∧jJ ts)∧TvAt H v o∧∀ H':Hp,Same H H'→Q (.bl true) H'
theorem TvAt.mono{H H':Hp}{v:V}{o:Option (List Nat)}(h:TvAt H v o)(s:Same H H'):TvAt H' v o:=by
 cases o with
 | none=>exact h
 | some ts=>obtain⟨t,e,ht⟩:=h; exact⟨t,e,s _ _ ht⟩
theorem u3(D:DefAt K mg "_law_right" bC) (z_isinstance:mg "isinstance" = none) (z_bool:mg "bool" = none) (c_law_due:aE P w K mg base 4 "_law_due" ["_law_rule_here", "_law_row", "_law_token"] rD) (c_breaks_at:aE P w K mg base 6 "breaks_at" ["code", "rule", "at", "token"] Ay) (c_behind_at:aE P w K mg base 5 "behind_at" ["code", "rule", "at", "token"] Aq):aE P w K mg base 7 "_law_right" ["_law_code_here", "_law_rule_here", "_law_at", "_law_token"] mi:=by
 refine D.cal (k:=6) sc_law_right (fun _ _ _ _ _ _ us hl=>match us,hl with | [_,_,_,_],_=>rfl) (fun vs H Q E h=>by obtain⟨_,_,_,_,_,_,_,_,_,rfl,_⟩:=h; rfl) (fun f cdv A outer s0 H vs Q E hr h=>?_)
 obtain⟨c,p,v,R,rl,r,i,N,o,rfl,hL,hri,hR,ok,hk,hN,hto,hv,q⟩:=h
 refine⟨_,(ai (au 4 sc_law_right.nd (ay c_breaks_at hr (aa (pv 0) (aa (pv 1) (aa (pv 2) (aa (pv 3) ae))))))
   (ai (bj (PW.pt' (nD (gk (dj (bH yN z_isinstance nt (aa (pv 4) (aa (CG z_bool AF) ae))))) (km (aB oy (pv 4) (ay c_law_due hr (aa (pv 1) (aa (am (aw K) (pv 0) (pv 2) (fun _ _=>rfl)) (aa (pv 3) ae)))) (aA _))))) (aj (az fm)) aY)
   (ai (bj (PW.pt' (nD (aB dY (pv 3) cZ (aA _)) (km (aB aT (am (aw K) (am (aw K) (pv 0) (pv 2) (fun _ _=>rfl)) ac (fun _ _=>rfl)) av (aA _))))) (aj (az fm)) aY)
   (aj (az (ck aT (ck dY (ay c_behind_at hr (aa (pv 0) (aa (pv 1) (aa (pv 2) (aa (pv 3) ae))))) cZ (aA _)) (pv 4) (aA _))))))),?_⟩
 obtain⟨as,b,a1,al,ab,hb⟩:=pB hL hri
 have hat:cC (as.map V.ref) (i:Int)=some (.ref b):=aq (by rw[List.getElem?_map,ab]; rfl)
 walk_at "rd1";refine⟨c,p,R,rl,r,i,N,v,o,rfl,hL,hri,hR,ok,fun ts e=>(hto ts e).1,hk,hv,fun H1 s1=>?_⟩
 walk_at "nx";refine⟨"bool", rfl,by decide,?_⟩
 rw[if_neg (by decide)]
 refine⟨_,_,.inl (SqL.of (s1 _ _ a1)),hat,p,b,v,rl,r,o,N,rfl,hR.mono s1,ok,s1 _ _ hb,hk,hN,hto,hv.mono s1,fun H2 s2=>?_⟩
 have s12:=s1.trans s2;generalize hbr:n6 rl r o=br
 walk_at "rd1";rw[if_neg (by cases br <;> decide)]
 walk_at "nx"
 cases o with
 | none=>
  have hv:v = .non:=hv
  rw[if_pos hv];exact q H2 s12
 | some ts=>
  obtain⟨t,rfl,ht⟩:=hv
  obtain⟨hta,hdj⟩:=hto ts rfl
  rw[if_neg (by simp)]
  refine⟨_,_,.inl (SqL.of (s12 _ _ a1)),hat,?_⟩
  walk_at "rd1";refine⟨_,_,.inr (SqT.of (s12 _ _ hb)),aq (j:=0) hk.hd,?_⟩
  walk_at "rd1";refine bd (fun ce=>?_) (fun ce=>?_)
  ·exact q H2 s12
  ·walk_at "nx"
   refine⟨c,p,t,R,rl,r,i,N,ts,rfl,hL.mono s12,hri,hR.mono s12,ok,hta,hk,by omega,ce,s12 _ _ ht,fun v' H3 s3 hv'=>?_⟩
   have e:gj rl r ts=br:=hbr
   rw[e]at hv'
   walk_at "rd1";rw[hv',show (br == br)=true from by cases br <;> rfl]
   exact q H3 (s12.trans s3)
def RoomsTo(H:Hp)(rp:Addr)(n z i:Nat)(as:List Addr)(rows:List (List (Option Nat))):Prop:=H rp=some (.lst (as.map V.ref))∧as.length=i∧rows.length=i∧(∀ (j:Nat) b x,as[j]? = some b→rows[j]? = some x→H b=some (.lst (x.map b8))∧b≠rp)∧∀ x∈rows,x.length=n∧∀ k,some k∈x→k<z
theorem RoomsTo.push{H H':Hp}{rp L:Addr}{n z i:Nat}{as:List Addr}{rows:List (List (Option Nat))}{x:List (Option Nat)}(h:RoomsTo H rp n z i as rows)(sm:Same H H')(hL:H L=none)(hx:H' L=some (.lst (x.map b8)))(hn:x.length=n)(hk:∀ k,some k∈x→k<z) :
  RoomsTo (upd H' rp (.lst (as.map V.ref++[.ref L]))) rp n z (i+1) (as++[L]) (rows++[x]):=by
 obtain⟨hl,h1,h2,h3,h4⟩:=h
 have nL:L≠rp:=Ne.symm (aF hl hL)
 refine⟨by rw[af,List.map_append]; rfl,by simp[h1],by simp[h2],fun j b y e1 e2=>?_,ik h4 ⟨hn,hk⟩⟩
 rcases Nat.lt_or_ge j i with z' | z'
 ·rw[List.getElem?_append_left (by omega)]at e1 e2
  obtain⟨q1,q2⟩:=h3 j b y e1 e2
  exact⟨by rw[ax q2]; exact sm _ _ q1,q2⟩
 ·rw[List.getElem?_append_right (by omega)]at e1 e2
  have hj0:j - as.length=0:=by
   have:=(List.getElem?_eq_some_iff.mp e1).1
   simp at this; omega
  have hj1:j - rows.length=0:=by omega
  rw[hj0]at e1
  rw[hj1]at e2
  have e1':L=b:=by simpa using e1
  have e2':x=y:=by simpa using e2
  subst e1' e2';exact⟨by rw[ax nL]; exact hx,nL⟩
theorem RoomsTo.rule{H H':Hp}{rp wp tp:Addr}{n z:Nat}{as:List Addr}{rows:List (List (Option Nat))}{ws:List Str}{sd:Int}(h:RoomsTo H rp n z z as rows)(sm:Same H H')(hw:H wp=some (.lst (ws.map V.str)))(ht:H' tp=some (.tup [.int sd,.ref wp,.ref rp]))(hsd:sd=1∨sd=2)(hn:ws.length=n)(n16:n≤16)(z0:1≤z)(z1:z≤60)(hlw:∀ x∈ws,x.length≤30) :
  RuleAt H' tp ⟨sd,ws,rows⟩∧eZ ⟨sd,ws,rows⟩:=by
 obtain⟨hl,h1,h2,h3,h4⟩:=h
 refine⟨⟨wp,rp,as,ht,sm _ _ hw,sm _ _ hl,by show as.length=rows.length; omega,fun j b x e1 e2=>sm _ _ (h3 j b x e1 e2).1⟩,hsd,by show ws.length≤16; omega,by show 1≤rows.length; omega,by show rows.length≤60; omega,fun x hx=>?_,hlw⟩
 obtain⟨x1,x2⟩:=h4 x hx
 exact⟨by show x.length=ws.length; omega,fun k hk=>by have:=x2 k hk; show k<rows.length; omega⟩
theorem zN(l:List Int)(c:Int)(n:Nat)(h:l.length=n)(hn:0<n)(hb:∀ x∈l,0<x∧x<100):∃ v,cC (l.map V.int) (c % (n:Int))=some (.int v)∧0<v∧v<100:=by
 have a1:=Int.emod_nonneg c (show (n:Int)≠0 by omega)
 have a2:=Int.emod_lt_of_pos c (show (0:Int)<n by omega)
 obtain⟨v,hv,_⟩:=wA (xs:=l) (i:=c % (n:Int)) a1 (by omega)
 exact⟨v,jh a1 hv,hb v (List.mem_of_getElem? hv)⟩
theorem Bl(mx:Int){z:Nat}(hz:1≤z):∃ k:Nat,mx % (z:Int)=(k:Int)∧k<z:=by
 have a1:=Int.emod_nonneg mx (show (z:Int)≠0 by omega)
 have a2:=Int.emod_lt_of_pos mx (show (0:Int)<z by omega)
 exact⟨(mx % (z:Int)).toNat,by omega,by omega⟩
theorem nS{x:List (Option Nat)}{z:Nat}{o:Option Nat}(h:∀ k,some k∈x→k<z)(ho:∀ k,o=some k→k<z):∀ k,some k∈x++[o]→k<z:=fun k hk=>by
 rcases List.mem_append.mp hk with g | g
 ·exact h k g
 ·exact ho k (List.mem_singleton.mp g).symm
def p9:Sp:=fun vs H Q _=>∃ (cp wp:Addr) (cs:List Int) (ss:List Str) (m:Nat) (sd:Int),vs=[.ref cp,.int sd,.ref wp,.int (m:Int)]∧(sd=1∨sd=2)∧H cp=some (.lst (cs.map V.int))∧cs.length=6∧H wp=some (.lst (ss.map V.str))∧ss.length≤8∧(∀ x∈ss,x.length≤20)∧1≤m∧m≤60∧∀ (p:Addr) (H':Hp) (r:Rl),Same H H'→H p=none→RuleAt H' p r→eZ r→r.s=sd→Q (.ref p) H'
theorem xk(D:DefAt K mg "_law_rule" aJ) (z_range:mg "range" = none) (z_len:mg "len" = none) (z_sorted:mg "sorted" = none) (z_set:mg "set" = none):aE P w K mg base 1 "_law_rule" ["_law_cells", "_law_sides", "_law_words_here", "_law_most"] p9:=by
 refine D.cal (k:=0) sc_law_rule (fun _ _ _ _ _ _ us hl=>match us,hl with | [_,_,_,_],_=>rfl) (fun vs H Q E h=>by obtain⟨_,_,_,_,_,_,rfl,_⟩:=h; rfl) (fun f cdv A outer s H vs Q E hr h=>?_)
 obtain⟨cp,wp,cs,ss,m,sd,rfl,hsd,hc,hcl,hS,hss,hsl',m0,m1,q⟩:=h
 refine⟨_,(ai (au 4 sc_law_rule.nd (aS ae))
   (ai (b_ PassesOwn.never rfl (de C3 z_range (aa (bH (bb K) z_len bR (aa (pv 2) ae)) ae)) (bg 5 sc_law_rule.nd) (ai (au 6 sc_law_rule.nd (ak p_ (ak bo (am (aw K) (pv 0) ac (fun _ _=>rfl)) ac) (pv 5)))
   (ai (bj (PW.pt' (cB (aB aT (pv 1) ac (aA _)) (cT (aB aT (ak jb (pv 6) ac) ac (aA _))))) (aj (bJ (bV K PySem.F.plainAttrs_list PySem.F.slot_list_append PySem.F.type_list_append bP (pv 4) (aa (am (aw K) (pv 2) (pv 5) (fun _ _=>rfl)) ae)))) aY)
   (ai (bj (PW.pt' (cB (aB aT (pv 1) ac (aA _)) (cT (aB aT (ak jb (pv 6) ac) ac (aA _))))) (aj (bJ (bV K PySem.F.plainAttrs_list PySem.F.slot_list_append PySem.F.type_list_append bP (pv 4) (aa (ak aC av (am (aw K) (pv 2) (pv 5) (fun _ _=>rfl))) ae)))) aY)
   (aj (bj (PW.pt' (cB (aB aT (pv 1) ac (aA _)) (cT (aB aT (ak jb (ak p_ (pv 6) ac) ac) ac (aA _))))) (aj (bJ (bV K PySem.F.plainAttrs_list PySem.F.slot_list_append PySem.F.type_list_append bP (pv 4) (aa (ak aC av (am (aw K) (pv 2) (pv 5) (fun _ _=>rfl))) ae)))) aY))))))
   (ai (au 4 sc_law_rule.nd (bH (lf w hr) z_sorted xL (aa (dy (q8 K w hr) z_set De (aa (pv 4) ae)) ae)))
   (ai (au 7 sc_law_rule.nd (ak aC ac (ak bo (am (aw K) (pv 0) ac (fun _ _=>rfl)) (pv 3))))
   (ai (au 8 sc_law_rule.nd (am (aw K) (aS (aa ac (aa ac (aa ac (aa ac ae))))) (ak bo (ak cM (am (aw K) (pv 0) ac (fun _ _=>rfl)) ac) ac) (fun _ _=>rfl)))
   (ai (au 9 sc_law_rule.nd (aS ae))
   (ai (b_ PassesOwn.never rfl (de C3 z_range (aa (pv 7) ae)) (bg 5 sc_law_rule.nd) (ai (au 10 sc_law_rule.nd (ak bo (ak cU (am (aw K) (pv 0) (ak aC ac (ak bo (pv 5) ac)) (fun _ _=>rfl)) (ak aC ac (ak cU ac (pv 5)))) (ak jd ac ac)))
   (ai (au 11 sc_law_rule.nd (aS ae))
   (ai (b_ PassesOwn.never rfl (cX K (pv 4)) (bg 12 sc_law_rule.nd) (ai (au 13 sc_law_rule.nd (ak bo (pv 10) ac))
   (ai (au 10 sc_law_rule.nd (ak cM (pv 10) ac))
   (aj (bj (aB aT (ak bo (pv 13) (pv 8)) ac (aA _)) (aj (bJ (bV K PySem.F.plainAttrs_list PySem.F.slot_list_append PySem.F.type_list_append bP (pv 11) (aa cZ ae)))) (aj (bJ (bV K PySem.F.plainAttrs_list PySem.F.slot_list_append PySem.F.type_list_append bP (pv 11) (aa (ak bo (ak cM (pv 13) (pv 8)) (pv 7)) ae)))))))))
   (aj (bJ (bV K PySem.F.plainAttrs_list PySem.F.slot_list_append PySem.F.type_list_append bP (pv 9) (aa (pv 11) ae))))))))
   (aj (az (aU (aa (pv 1) (aa (pv 4) (aa (pv 9) ae))))))))))))),?_⟩
 have hcAt:∀ j:Nat,j<6→∃ v:Int,(cs.map V.int)[j]? = some (.int v):=fun j hj=>⟨cs[j],by rw[List.getElem?_map,List.getElem?_eq_getElem (by omega)]; rfl⟩
 obtain⟨c0,hc0⟩:=hcAt 0 (by decide)
 obtain⟨c1,hc1⟩:=hcAt 1 (by decide)
 walk_at "rd1";refine⟨by decide,fun tp htp=>?_⟩
 have s1:=ah htp (.lst []);have e1:upd H tp (.lst []) tp=some (.lst (([]:List Str).map V.str)):=af
 generalize upd H tp (.lst [])=H1 at s1 e1 ⊢;walk_at "nx";refine⟨_,.inl (SqL.of (s1 _ _ hS)),?_⟩
 rw[List.length_map];refine⟨by omega,by omega,?_⟩
 rw[Int.toNat_natCast]
 refine dR (fun i σ H'=>∃ (ts:List Str) (o4 o5:Option V),σ=[some (.ref cp),some (.int sd),some (.ref wp),some (.int (m:Int)),some (.ref tp),o4,o5,none,none,none,none,none,none,none]∧Same H H'∧H' tp=some (.lst (ts.map V.str))∧ts.length≤2 * i∧∀ x∈ts,x.length≤30)
  ⟨[],none,none,rfl,s1,e1,Nat.le_refl _,by simp⟩ ?_ ?_
 ·rintro i σ H' hi ⟨ts,o4,o5,rfl,sm,hl,htl,htm⟩
  walk_at "rd1";refine⟨_,_,.inl (SqL.of (sm _ _ hc)),aq (j:=0) hc0,?_⟩
  walk_at "rd1";refine⟨by decide,by omega,?_⟩
  generalize c0 % 65536 / 2 ^ (0+(i:Int)).toNat=bt
  have hw0:=hsl' _ (List.getElem_mem hi);refine gm (fun σ' H'=>∃ (ts:List Str),σ'=[some (.ref cp),some (.int sd),some (.ref wp),some (.int (m:Int)),some (.ref tp),some (.int (0+(i:Int))),some (.int bt),none,none,none,none,none,none,none]∧Same H H'∧H' tp=some (.lst (ts.map V.str))∧ts.length≤2 * i+1∧(sd=2→ts.length≤2 * i)∧∀ x∈ts,x.length≤30) (fun k hk=>?_) ?_
  ·walk_at "rd1"
   refine bd (fun c1=>bd (fun c=>?_) (fun c=>?_)) (fun c1=>?_)
   ·refine⟨⟨_,SqL.of hl⟩,_,_,.inl (SqL.of (sm _ _ hS)),by rw[Int.zero_add]; exact aq (v:=.str ss[i]) (by rw[List.getElem?_map,List.getElem?_eq_getElem hi]; rfl),?_⟩
    refine⟨_,hl,by rw[List.length_map]; exact b9 (by omega),?_⟩
    exact hk _ _ ⟨ts++[ss[i]],rfl,sm.upd htp _,by rw[af,List.map_append]; rfl,by rw[List.length_append,List.length_singleton]; omega,fun h=>by omega,ik htm (by omega)⟩
   ·exact hk _ _ ⟨ts,rfl,sm,hl,by omega,fun _=>htl,htm⟩
   ·exact hk _ _ ⟨ts,rfl,sm,hl,by omega,fun _=>htl,htm⟩
  rintro σ' H' ⟨ts,rfl,sm,hl,htl,htl2,htm⟩
  refine gm (fun σ' H'=>∃ (ts:List Str),σ'=[some (.ref cp),some (.int sd),some (.ref wp),some (.int (m:Int)),some (.ref tp),some (.int (0+(i:Int))),some (.int bt),none,none,none,none,none,none,none]∧Same H H'∧H' tp=some (.lst (ts.map V.str))∧ts.length≤2 * i+1∧∀ x∈ts,x.length≤30) (fun k hk=>?_) ?_
  ·walk_at "rd1"
   refine bd (fun c1=>bd (fun c=>?_) (fun c=>?_)) (fun c1=>?_)
   ·have:=htl2 c1
    refine⟨⟨_,SqL.of hl⟩,_,_,.inl (SqL.of (sm _ _ hS)),by rw[Int.zero_add]; exact aq (v:=.str ss[i]) (by rw[List.getElem?_map,List.getElem?_eq_getElem hi]; rfl),?_⟩
    walk_at "rd1";have hz:("1." : Str).length=2:=by decide +kernel
    refine⟨by rw[hz]; exact aR (by omega),_,hl,by rw[List.length_map]; exact b9 (by omega),?_⟩
    exact hk _ _ ⟨ts++[("1." : Str)++ss[i]],rfl,sm.upd htp _,by rw[af,List.map_append]; rfl,by rw[List.length_append,List.length_singleton]; omega,ik htm (by rw[Str.length_append,hz]; omega)⟩
   ·exact hk _ _ ⟨ts,rfl,sm,hl,by omega,htm⟩
   ·exact hk _ _ ⟨ts,rfl,sm,hl,by omega,htm⟩
  rintro σ' H' ⟨ts,rfl,sm,hl,htl,htm⟩
  walk_at "nx";refine bd (fun c1=>⟨by decide,bd (fun c=>?_) (fun c=>?_)⟩) (fun c1=>?_)
  ·refine⟨⟨_,SqL.of hl⟩,_,_,.inl (SqL.of (sm _ _ hS)),by rw[Int.zero_add]; exact aq (v:=.str ss[i]) (by rw[List.getElem?_map,List.getElem?_eq_getElem hi]; rfl),?_⟩
   walk_at "rd1";have hz:("2." : Str).length=2:=by decide +kernel
   refine⟨by rw[hz]; exact aR (by omega),_,hl,by rw[List.length_map]; exact b9 (by omega),?_⟩
   exact⟨ts++[("2." : Str)++ss[i]],_,_,rfl,sm.upd htp _,by rw[af,List.map_append]; rfl,by rw[List.length_append,List.length_singleton]; omega,ik htm (by rw[Str.length_append,hz]; omega)⟩
  ·exact⟨ts,_,_,rfl,sm,hl,by omega,htm⟩
  ·exact⟨ts,_,_,rfl,sm,hl,by omega,htm⟩
 rintro σ H2 ⟨ts0,o4,o5,rfl,s2,e2,htl,htm⟩
 walk_at "nx";refine⟨tp,ts0,rfl,SqL.of e2,by omega,fun sl ds hsl hnd hmem hdl=>?_⟩
 have s3:=ah hsl (fL w sl ds);have e3:upd H2 sl (fL w sl ds) sl=some (fL w sl ds):=af
 generalize upd H2 sl (fL w sl ds)=H3 at s3 e3 ⊢;refine⟨sl,ds,rfl,e3,by omega,fun xp ts hxp hperm _=>?_⟩
 have hts:ts.length≤16:=by rw[hperm.length_eq]; omega
 have htb:∀ x∈ts,x.length≤30:=fun x hx=>htm x ((hmem x).mp (hperm.mem_iff.mp hx))
 have s4:=ah hxp (.lst (ts.map V.str));have e4:upd H3 xp (.lst (ts.map V.str)) xp=some (.lst (ts.map V.str)):=af
 generalize upd H3 xp (.lst (ts.map V.str))=H4 at s4 e4 ⊢;have s24:=s2.trans (s3.trans s4);clear hperm hmem hdl htm htl e3 e2;walk_at "nx";refine⟨_,_,.inl (SqL.of (s24 _ _ hc)),aq (j:=1) hc1,?_⟩
 walk_at "rd1"
 have hz0:∃ z:Nat,1+c1 % (m:Int)=(z:Int)∧1≤z∧z≤60:=by
  have a1:=Int.emod_nonneg c1 (show (m:Int)≠0 by omega)
  have a2:=Int.emod_lt_of_pos c1 (show (0:Int)<m by omega)
  exact⟨(1+c1 % (m:Int)).toNat,by omega,by omega,by omega⟩
 obtain⟨z,ez,z0,z1⟩:=hz0
 refine⟨by omega,?_⟩
 rw[ez];walk_at "nx";refine⟨by decide,fun lp hlp=>?_⟩
 have s5:=ah hlp (.lst [V.int 2,V.int 3,V.int 5,V.int 11]);have e5:upd H4 lp (.lst [V.int 2,V.int 3,V.int 5,V.int 11]) lp=some (.lst [V.int 2,V.int 3,V.int 5,V.int 11]):=af
 generalize upd H4 lp (.lst [V.int 2,V.int 3,V.int 5,V.int 11])=H5 at s5 e5 ⊢;refine⟨_,_,.inl (SqL.of (s5 _ _ (s24 _ _ hc))),aq (j:=1) hc1,?_⟩
 walk_at "rd1";obtain⟨sh,hsh,sh0,sh1⟩:=zN [2,3,5,11] (c1 / 64) 4 rfl (by decide) (by decide)
 refine⟨⟨by decide,by decide⟩,by decide,_,_,.inl (SqL.of e5),hsh,?_⟩
 have s25:=s24.trans s5;have e4':=s5 _ _ e4;walk_at "nx";refine⟨by decide,fun rp hrp=>?_⟩
 have s6:=ah hrp (.lst []);have e6:upd H5 rp (.lst []) rp=some (.lst (([]:List Addr).map V.ref)):=af
 generalize upd H5 rp (.lst [])=H6 at s6 e6 ⊢;walk_at "nx";refine⟨by omega,by omega,?_⟩
 rw[Int.toNat_natCast]
 refine dR (fun i σ H'=>∃ (as:List Addr) (rows:List (List (Option Nat))) (o1 o2 o3 o4 o5 o6:Option V),σ=[some (.ref cp),some (.int sd),some (.ref wp),some (.int (m:Int)),some (.ref xp),o1,o2,some (.int (z:Int)),some (.int sh),some (.ref rp),o3,o4,o5,o6]∧Same H5 H'∧RoomsTo H' rp ts.length z i as rows)
  ⟨[],[],_,_,none,none,none,none,rfl,s6,⟨e6,rfl,rfl,by simp,by simp⟩⟩ ?_ ?_
 ·rintro i σ H' hi ⟨as,rows,o1,o2,o3,o4,o5,o6,rfl,sm,hRm⟩
  have hx4:∃ j:Nat,2+(0+(i:Int)) % 4=(j:Int)∧j<6:=⟨(2+(0+(i:Int)) % 4).toNat,by omega,by omega⟩
  obtain⟨j0,ej0,hj0⟩:=hx4
  obtain⟨cv,hcv⟩:=hcAt j0 hj0
  walk_at "rd1";rw[ej0];refine⟨by decide,_,_,.inl (SqL.of (sm _ _ (s25 _ _ hc))),aq hcv,?_⟩
  walk_at "rd1";refine⟨.inl ⟨by decide,by decide⟩,.inr ⟨by omega,by omega⟩,⟨by decide,by decide,by decide⟩,by decide,?_⟩
  generalize cv * (48271+10 * (0+(i:Int))) % 10 ^ Int.toNat 36=rest
  walk_at "nx";refine⟨by decide,fun L' hL'=>?_⟩
  have s7:=ah hL' (.lst []);have e7:upd H' L' (.lst []) L'=some (.lst (([]:List (Option Nat)).map b8)):=af
  generalize upd H' L' (.lst [])=H7 at s7 e7 ⊢;walk_at "nx";have e48:=(sm.trans s7) _ _ e4';refine⟨⟨_,SqL.of e48⟩,?_⟩
  refine cS (xs:=ts.map V.str) (fun j σ H5=>∃ (x:List (Option Nat)) (r1:Int) (o5 o6:Option V),σ=[some (.ref cp),some (.int sd),some (.ref wp),some (.int (m:Int)),some (.ref xp),some (.int (0+(i:Int))),o2,some (.int (z:Int)),some (.int sh),some (.ref rp),some (.int r1),some (.ref L'),o5,o6]∧Same H' H5∧H5 L'=some (.lst (x.map b8))∧x.length=j∧∀ k,some k∈x→k<z)
   ⟨[],rest,_,_,rfl,s7,e7,rfl,by simp⟩ (fun j σ H5 _ hh=>by obtain⟨_,_,_,_,_,z,_⟩:=hh; exact SqL.of (z _ _ (sm _ _ e4'))) ?_ ?_
  ·rintro j v σ H5 hv ⟨x,r1,o5,o6,rfl,sm5,hx,hxl,hxk⟩
   have hj:j<ts.length:=by have:=(List.getElem?_eq_some_iff.mp hv).1; simpa using this
   walk_at "rd1";refine⟨by decide,?_⟩
   walk_at "nx";refine⟨⟨by decide,by decide⟩,?_⟩
   walk_at "nx";refine⟨by omega,bd (fun _=>?_) (fun _=>?_)⟩
   ·refine⟨⟨_,SqL.of hx⟩,_,hx,by rw[List.length_map]; exact b9 (by omega),?_⟩
    exact⟨x++[none],_,_,_,rfl,sm5.upd hL' _,by rw[af,List.map_append]; rfl,iq hxl,nS hxk fun k e=>by cases e⟩
   ·obtain⟨k,ek,hk⟩:=Bl (r1 % 1000 / sh) z0
    refine⟨⟨_,SqL.of hx⟩,⟨by omega,by omega⟩,by omega,?_⟩
    rw[ek];refine⟨_,hx,by rw[List.length_map]; exact b9 (by omega),?_⟩
    exact⟨x++[some k],_,_,_,rfl,sm5.upd hL' _,by rw[af,List.map_append]; rfl,iq hxl,nS hxk fun k' e=>by cases e; exact hk⟩
  ·rintro σ H8 ⟨x,r1,o5,o6,rfl,sm8,hx,hxl,hxk⟩
   rw[List.length_map]at hxl
   walk_at "nx";refine⟨⟨_,SqL.of (sm8 _ _ hRm.1)⟩,_,sm8 _ _ hRm.1,by rw[List.length_map,hRm.2.1]; exact b9 (by omega),?_⟩
   exact⟨_,_,_,_,_,_,_,_,rfl,(sm.trans sm8).upd hrp _,hRm.push sm8 hL' hx hxl hxk⟩
 rintro σ H' ⟨as,rows,o1,o2,o3,o4,o5,o6,rfl,sm,hRm⟩
 walk_at "nx";refine⟨by decide,fun tq htq=>?_⟩
 have smt:=ah htq (.tup [.int sd,.ref xp,.ref rp]);obtain⟨hR,ok⟩:=hRm.rule smt (sm _ _ e4') af hsd rfl hts z0 z1 htb
 exact q tq _ ⟨sd,ts,rows⟩ ((s25.trans sm).trans smt) ((s25.trans sm).free htq) hR ok rfl
end
theorem sG(ks:List aK):∀ (i:Nat) (k:aK) (v:V),cr (gq ks i) k=some v→∃ n:Nat,v=iN n∧n<i
 | 0,_,_,h=>by cases h
 | i+1,k,v,h=>by
  rw[gJ,jQ]at h
  split at h
  ·exact⟨i,(Option.some.inj h).symm,by omega⟩
  ·obtain⟨n,h1,h2⟩:=sG ks i k v h
   exact⟨n,h1,by omega⟩
section
variable{kv:List (aK × V)}{N:Nat}
theorem vP(hk:∀ k,gC kv k→∃ n,bX kv k=iN n∧n<N){l:Nat}{ws:List Str}(px:fv ws)(pw:gn ws)(hn:∀ n∈ei ws,gC kv (.inr n)):SlR N (gY kv l ws):=by
 unfold gY;unfold ei at hn
 cases px with
 | dd u x=>
  obtain⟨n1,e1,f1⟩:=hk _ (hn x (by rw[if_pos (show ([("do" : Str),u,x]:List Str).headD "" = "do" from rfl)]; simp))
  rw[if_pos (show ([("do" : Str),u,x]:List Str).headD "" = "do" from rfl)];show SlR N [.str "do", iN l,bX kv (.inr x),.str u]
  rw[e1]; exact .dd _ _ _ f1 (pw.len u (by simp))
 | op x=>
  obtain⟨n1,e1,f1⟩:=hk _ (hn x (by rw[if_neg (show ¬ ([("open" : Str),x]:List Str).headD "" = "do" from (by decide +kernel:¬ ("open" : Str) = "do"))]; simp))
  rw[if_neg (show ¬ ([("open" : Str),x]:List Str).headD "" = "do" from (by decide +kernel:¬ ("open" : Str) = "do"))]
  show SlR N [.str "open", iN l,bX kv (.inr x)]
  rw[e1]; exact .op _ _ f1
 | dr x=>
  obtain⟨n1,e1,f1⟩:=hk _ (hn x (by rw[if_neg (show ¬ ([("drop" : Str),x]:List Str).headD "" = "do" from (by decide +kernel:¬ ("drop" : Str) = "do"))]; simp))
  rw[if_neg (show ¬ ([("drop" : Str),x]:List Str).headD "" = "do" from (by decide +kernel:¬ ("drop" : Str) = "do"))]
  show SlR N [.str "drop", iN l,bX kv (.inr x)]
  rw[e1]; exact .dr _ _ f1
 | cp x y=>
  obtain⟨n1,e1,f1⟩:=hk _ (hn x (by rw[if_neg (show ¬ ([("copy" : Str),x,y]:List Str).headD "" = "do" from (by decide +kernel:¬ ("copy" : Str) = "do"))]; simp))
  obtain⟨n2,e2,f2⟩:=hk _ (hn y (by rw[if_neg (show ¬ ([("copy" : Str),x,y]:List Str).headD "" = "do" from (by decide +kernel:¬ ("copy" : Str) = "do"))]; simp))
  rw[if_neg (show ¬ ([("copy" : Str),x,y]:List Str).headD "" = "do" from (by decide +kernel:¬ ("copy" : Str) = "do"))]
  show SlR N [.str "copy", iN l,bX kv (.inr x),bX kv (.inr y)]
  rw[e1,e2]; exact .cp _ _ _ f1 f2
 | ti x y=>
  obtain⟨n1,e1,f1⟩:=hk _ (hn x (by rw[if_neg (show ¬ ([("tie" : Str),x,y]:List Str).headD "" = "do" from (by decide +kernel:¬ ("tie" : Str) = "do"))]; simp))
  obtain⟨n2,e2,f2⟩:=hk _ (hn y (by rw[if_neg (show ¬ ([("tie" : Str),x,y]:List Str).headD "" = "do" from (by decide +kernel:¬ ("tie" : Str) = "do"))]; simp))
  rw[if_neg (show ¬ ([("tie" : Str),x,y]:List Str).headD "" = "do" from (by decide +kernel:¬ ("tie" : Str) = "do"))]
  show SlR N [.str "tie", iN l,bX kv (.inr x),bX kv (.inr y)]
  rw[e1,e2]; exact .ti _ _ _ f1 f2
theorem nP(hk:∀ k,gC kv k→∃ n,bX kv k=iN n∧n<N):∀ (d:Nat) (t:Bool) (a l:Nat) (T:List ap),dn d T→dN d T→er kv d l T→∀ r∈bM kv d t a l T,SlR N r
 | 0,_,_,_,_,h,_,_=>h.elim
 | d+1,t,a,l,T,hf,ho,hkl=>by
  have ih:=nP hk d
  have st:∀ (s:ap) (a l:Nat),ie (dn d) s→kn (dN d) s→lU kv (er kv d) (ar d) l s→∀ r∈im kv (bM kv d) (ar d) t a l s,SlR N r:=fun s a l hs ho hk' r hr=>by
   cases s with
   | plain ws=>rw[List.mem_singleton.mp hr]; exact vP hk hs.1 ho hk'.2
   | lend x y b=>
    obtain⟨k1,k2,k3,k4⟩:=hk'
    obtain⟨n1,e1,f1⟩:=hk _ k1
    obtain⟨n2,e2,f2⟩:=hk _ k2
    obtain⟨n3,e3,f3⟩:=hk _ k3
    rcases List.mem_append.mp hr with hr | hr
    ·rcases List.mem_append.mp hr with hr | hr
     ·simp only[List.mem_cons,List.not_mem_nil,or_false]at hr
      rcases hr with rfl | rfl | rfl
      ·rw[e3,e1]; exact .cp _ _ _ f3 f1
      ·rw[e3]; exact .dd _ _ _ f3 (by decide)
      ·rw[e2,e3]; exact .cp _ _ _ f2 f3
     ·exact ih t _ _ b hs.2.2 ho.2.2 k4 r hr
    ·simp only[List.mem_cons,List.not_mem_nil,or_false]at hr
     rcases hr with rfl | rfl | rfl
     ·rw[e3]; exact .dd _ _ _ f3 (by decide)
     ·rw[e2]; exact .dr _ _ f2
     ·rw[e3]; exact .dr _ _ f3
   | ite n b c=>
    rcases List.mem_append.mp hr with hr | hr
    ·rcases List.mem_append.mp hr with hr | hr
     ·rcases List.mem_append.mp hr with hr | hr
      ·rw[List.mem_singleton.mp hr]; exact .ts _ _ _
      ·exact ih t _ _ b hs.2.1 ho.2.1 hk'.1 r hr
     ·rw[List.mem_singleton.mp hr]; exact .jm _ _
    ·exact ih t _ _ c hs.2.2 ho.2.2 hk'.2 r hr
   | whl n b=>
    have lp:∀ a,r∈fN (bM kv d) (ar d) a l n b→SlR N r:=fun a hr=>by
     rcases List.mem_append.mp hr with hr | hr
     ·rcases List.mem_append.mp hr with hr | hr
      ·rw[List.mem_singleton.mp hr]; exact .ts _ _ _
      ·exact ih false _ _ b hs.2 ho.2 hk' r hr
     ·rw[List.mem_singleton.mp hr]; exact .jm _ _
    have hr':r∈ej (bM kv d) (ar d) t a l n b:=hr
    unfold ej at hr';split at hr'
    ·rcases List.mem_append.mp hr' with hr | hr
     ·rcases List.mem_append.mp hr with hr | hr
      ·rw[List.mem_singleton.mp hr]; exact .ts _ _ _
      ·exact ih true _ _ b hs.2 ho.2 hk' r hr
     ·exact lp _ hr
    ·exact lp _ hr'
  have go:∀ (T:List ap) (a l:Nat),(∀ s∈T,ie (dn d) s)→(∀ s∈T,kn (dN d) s)→(∀ z∈eP (bB (ar d)) l T,lU kv (er kv d) (ar d) z.1 z.2)→∀ r∈dw (im kv (bM kv d) (ar d) t) (bB (ar d)) a l T,SlR N r:=fun T=>by
   induction T with
   | nil=>intro a l _ _ _ r hr; cases hr
   | cons s T ihT=>
    intro a l hf ho hz r hr
    rcases List.mem_append.mp hr with hr | hr
    ·exact st s a l (hf s List.mem_cons_self) (ho s List.mem_cons_self) (hz _ List.mem_cons_self) r hr
    ·exact ihT _ _ (fun s hs=>hf s (List.mem_cons_of_mem _ hs)) (fun s hs=>ho s (List.mem_cons_of_mem _ hs)) (fun z h=>hz z (List.mem_cons_of_mem _ h)) r hr
  exact go T a l hf ho hkl
end
theorem zH{NM:List Str}{d:Nat}{t:Bool}{T:List ap}(hf:dn d T)(ho:dN d T)(hnm:r_ (fun n=>n∈NM) d T):∀ r∈ig NM d t T,SlR (NM.length+ar d T) r:=by
 have hl:(cE NM (d0 d T)).length≤NM.length+ar d T:=by
  unfold cE fP;rw[List.length_append,List.length_map,List.length_map];have:=List.length_filter_le (fun i=>gH ((d0 d T).getD i "")) (List.range (d0 d T).length)
  rw[List.length_range,hU]at this
  rw[hU];omega
 have hk:∀ k,gC (iG (cE NM (d0 d T))) k→∃ n,bX (iG (cE NM (d0 d T))) k=iN n∧n<NM.length+ar d T:=fun k h=>by
  obtain⟨n,e1,e2⟩:=sG _ _ k _ h
  exact⟨n,e1,by omega⟩
 intro r hr
 rcases List.mem_append.mp hr with hr | hr
 ·exact nP hk d t 0 0 T hf ho (lV d 0 T (fun i s e=>by rw[Nat.zero_add]; exact e) hnm) r hr
 ·rw[List.mem_singleton.mp hr]; exact .en _
theorem SlR.flat{N:Nat}{r:bi}(h:SlR N r):∀ v∈r,bQ v=true:=fun v hv=>by
 cases h <;> simp only[List.mem_cons,List.not_mem_nil,or_false]at hv
 ·rcases hv with rfl | rfl | rfl <;> rfl
 ·rcases hv with rfl | rfl | rfl | rfl <;> rfl
 ·rcases hv with rfl | rfl | rfl | rfl <;> rfl
 ·rcases hv with rfl | rfl | rfl <;> rfl
 ·rcases hv with rfl | rfl | rfl | rfl <;> rfl
 ·rcases hv with rfl | rfl | rfl | rfl <;> rfl
 ·rcases hv with rfl | rfl | rfl <;> rfl
 ·rcases hv with rfl | rfl <;> rfl
theorem Am{ws:List Str}(hww:∀ x∈ws,eC x):∀ x∈ws++(["open", "lend", "back", "end"]:List Str),eC x:=fun x hx=>by
 rcases List.mem_append.mp hx with hx | hx
 ·exact hww x hx
 ·simp only[List.mem_cons,List.not_mem_nil,or_false]at hx
  rcases hx with rfl | rfl | rfl | rfl <;> exact⟨by decide,by unfold e_; decide⟩
theorem AR{α : Type}(ns:List α)(p q:Nat):(ia ns (some (p:Int)) (some (q:Int))).length≤q - p:=by
 unfold ia;rw[List.length_take,List.length_drop];have h1:HT.sIx ns.length 0 (some (p:Int))=min p ns.length:=HT.sIx_nat _ _ p
 have h2:HT.sIx ns.length ns.length (some (q:Int))=min q ns.length:=HT.sIx_nat _ _ q
 rw[h1,h2];omega
section
variable{P:Program}{w:World}{K:PySem.W.Frag}{mg:Str→Option Value}{base:Heap}
theorem vR{j k:Nat}{x:Str}{ps:List Str}{sp:Sp}(c:aE P w K mg base j x ps sp)(h:j≤k):aE P w K mg base k x ps sp:=by
 obtain⟨f,fd,F,r⟩:=c.ex
 exact⟨f,fd,F.mono h,r⟩
theorem AN{k:Nat}{x:Str}{ps:List Str}{sp sp':Sp}(c:aE P w K mg base k x ps sp)(h:∀ vs H Q E,sp' vs H Q E→sp vs H Q E):aE P w K mg base k x ps sp':=by
 obtain⟨f,fd,F,r⟩:=c.ex
 exact⟨f,fd,F.imp h,r⟩
def NOt(H:Hp)(p:Addr)(NM:List Str):Prop:=∃ (T:List ap) (S:Addr→Prop),ProgAt S 10 H p T∧iL 10 T∧(cz 10 T).length≤1000∧((cz 10 T).flatMap bZ).length≤5000∧NM=fh ((cz 10 T).flatMap bZ)
theorem NOt.mono{H H':Hp}{p:Addr}{NM:List Str}(h:NOt H p NM)(s:Same H H'):NOt H' p NM:=by
 obtain⟨T,S,h1,h2⟩:=h
 exact⟨T,S,h1.mono s,h2⟩
theorem yP{k:Nat}(c:aE P w K mg base k "names_of" ["program"] ng):aE P w K mg base k "names_of" ["program"] (BX NOt):=AN c fun vs H Q E h=>by
 obtain⟨p,NM,rfl,⟨T,S,h1,h2,h3,h4,rfl⟩,q⟩:=h
 exact⟨p,T,S,rfl,h1,h2,h3,h4,q⟩
theorem yA{f:List ap→List ap}{g:List ap→Nat}(h:∀ b,(f b).length≤g b):∀ s:ap,(fj f s).length≤bB g s
 | .plain _=>by simp[fj,dM,bB]
 | .lend _ _ b=>by have:=h b; simp[fj,dM,bB]; omega
 | .ite _ b c=>by have:=h b; have:=h c; simp[fj,dM,bB]; omega
 | .whl _ b=>by have:=h b; simp[fj,dM,bB]; omega
theorem lW:∀ (d:Nat) (T:List ap),(cz d T).length≤ar d T
 | 0,_=>Nat.le_refl _
 | d+1,T=>by
  show (T.flatMap (fj (cz d))).length≤(T.map (bB (ar d))).sum
  induction T with
  | nil=>exact Nat.le_refl _
  | cons s T ih=>
   have:=yA (lW d) s
   rw[List.flatMap_cons,List.length_append,List.map_cons,List.sum_cons]; omega
theorem CD{g:List ap→Prop}:∀ {s:ap},fz g s→(bZ s).length≤2
 | .plain ws,h=>by cases (show fg ws from h) <;> simp[bZ] <;> split <;> simp
 | .lend _ _ _,_=>by simp[bZ]
 | .ite _ _ _,_=>by simp[bZ]
 | .whl _ _,_=>by simp[bZ]
theorem xS{d:Nat}{T:List ap}(h:iL d T):((cz d T).flatMap bZ).length≤2 * ar d T:=by
 have h1:=lW d T;have h2:=pP d h
 have go:∀ X:List ap,(∀ s∈X,∃ g:List ap→Prop,fz g s)→(X.flatMap bZ).length≤2 * X.length:=fun X=>by
  induction X with
  | nil=>intro _; exact Nat.le_refl _
  | cons s X ih=>
   intro hx
   obtain⟨g,hg⟩:=hx s List.mem_cons_self
   have:=CD hg
   have:=ih fun u hu=>hx u (List.mem_cons_of_mem _ hu)
   rw[List.flatMap_cons,List.length_append,List.length_cons]; omega
 have:=go _ h2
 omega
def mJ(K:PySem.W.Frag):Sp:=fun vs H Q _=>∃ (a:Addr) (ns:List Int),vs=[.ref a,.int 8,.int 3,.int 4]∧SqL K H a (ns.map V.int)∧∀ (cq:Addr) (H':Hp) (R:List bi) (N:Nat),Same H H'→H cq=none→ListR H' cq R→(∀ r∈R,SlR N r)→N≤9000→R.length≤40000→Q (.ref cq) H'
theorem ze(D:DefAt K mg "_law_code" aZ) (c_law_cell_at:aE P w K mg base 1 "_law_cell_at" ["_law_script", "_law_k"] (pC K)) (c_law_words:aE P w K mg base 1 "_law_words" ["_law_cell", "_law_many"] lN) (c_law_program:aE P w K mg base 3 "_law_program" ["_law_cells", "_law_names", "_law_words_here", "_law_lends", "_law_deep"] mX) (c_code_of:aE P w K mg base 35 "code_of" ["program"] (xR NOt 10)) (c_turned_code:aE P w K mg base 35 "turned_code" ["program"] (oP NOt 10)):aE P w K mg base 36 "_law_code" ["_law_script", "_law_start", "_law_lends", "_law_deep"] (mJ K):=by
 refine D.cal (k:=35) sc_law_code (fun _ _ _ _ _ _ us hl=>match us,hl with | [_,_,_,_],_=>rfl) (fun vs H Q E h=>by obtain⟨_,_,rfl,_⟩:=h; rfl) (fun f cdv A outer s H vs Q E hr h=>?_)
 obtain⟨a,ns,rfl,hS,q⟩:=h
 refine⟨_,(ai (au 4 sc_law_code.nd (ay c_law_cell_at hr (aa (pv 0) (aa ac ae))))
   (ai (au 5 sc_law_code.nd (ay c_law_cell_at hr (aa (pv 0) (aa ac ae))))
   (ai (au 6 sc_law_code.nd (ay c_law_words hr (aa (ak cM (pv 4) ac) (aa (ak aC ac (ak bo (pv 4) ac)) ae))))
   (ai (au 7 sc_law_code.nd (ak aC (ay c_law_words hr (aa (ak cM (pv 5) ac) (aa ac ae))) (aS (aa av (aa av (aa av (aa av ae)))))))
   (ai (au 8 sc_law_code.nd (ay c_law_program hr (aa (dF (y3 K) (pv 0) (dL (pv 1)) (dL (ak aC (pv 1) ac))) (aa (pv 6) (aa (pv 7) (aa (pv 2) (aa (pv 3) ae)))))))
   (ai (bj (aB aT (ak bo (pv 5) ac) ac (aA _)) (aj (az (ay c_turned_code hr (aa (pv 8) ae)))) aY)
   (aj (az (ay c_code_of hr (aa (pv 8) ae)))))))))),?_⟩
 walk_at "rd1";refine⟨a,ns,0,rfl,hS,by decide,?_⟩
 generalize ns.getD (Int.toNat 0) 0=c0
 walk_at "nx";refine⟨a,ns,1,rfl,hS,by decide,?_⟩
 generalize ns.getD (Int.toNat 1) 0=c1
 walk_at "nx";refine⟨⟨by decide,by decide⟩,by decide,?_⟩
 have hmz:∃ z:Nat,2+c0 % 3=(z:Int)∧2≤z∧z≤4:=⟨(2+c0 % 3).toNat,by omega,by omega,by omega⟩
 obtain⟨mz,emz,E5,Kd⟩:=hmz
 rw[emz];refine⟨c0 / 8,mz,rfl,by omega,fun np nm H1 s1 hnp e1 hnl hnw=>?_⟩
 walk_at "nx";refine⟨⟨by decide,by decide⟩,?_⟩
 refine⟨c1 / 2,2,rfl,by decide,fun wp ws H2 s2 hwp e2 hwl hww=>?_⟩
 walk_at "rd1";refine⟨by decide,fun x4 hx4=>?_⟩
 have s3:=ah hx4 (.lst [V.str "open", .str "lend", .str "back", .str "end"]);have e3:upd H2 x4 (.lst [V.str "open", .str "lend", .str "back", .str "end"]) x4=some (.lst ((["open", "lend", "back", "end"]:List Str).map V.str)):=af
 generalize upd H2 x4 (.lst [V.str "open", .str "lend", .str "back", .str "end"])=H3 at s3 e3 ⊢;refine⟨_,_,s3 _ _ e2,e3,by rw[List.length_map,List.length_map,hwl]; exact aR (by simp),fun wq hwq=>?_⟩
 have s4:=ah hwq (.lst (ws.map V.str++(["open", "lend", "back", "end"]:List Str).map V.str));have e4:upd H3 wq (.lst (ws.map V.str++(["open", "lend", "back", "end"]:List Str).map V.str)) wq=some (.lst ((ws++(["open", "lend", "back", "end"]:List Str)).map V.str)):=by rw[af,List.map_append]
 generalize upd H3 wq (.lst (ws.map V.str++(["open", "lend", "back", "end"]:List Str).map V.str))=H4 at s4 e4 ⊢;have hws':∀ x∈ws++(["open", "lend", "back", "end"]:List Str),eC x:=Am hww
 have hwl':(ws++(["open", "lend", "back", "end"]:List Str)).length=6:=by rw[List.length_append,hwl]; rfl
 generalize ws++(["open", "lend", "back", "end"]:List Str)=ws' at e4 hws' hwl';have s14:=s1.trans ((s2.trans s3).trans s4);walk_at "nx";refine⟨_,s14.seq hS,fun cp hcp=>?_⟩
 rw[Bt];have hcl:(ia ns (some 8) (some (8+20))).length≤20:=AR ns 8 28
 have s5:=ah hcp (.lst ((ia ns (some 8) (some (8+20))).map V.int));have e5:upd H4 cp (.lst ((ia ns (some 8) (some (8+20))).map V.int)) cp=some (.lst ((ia ns (some 8) (some (8+20))).map V.int)):=af
 generalize ia ns (some 8) (some (8+20))=cs at hcl s5 e5 ⊢;generalize upd H4 cp (.lst (cs.map V.int))=H5 at s5 e5 ⊢;refine⟨cp,np,wq,cs,nm,ws',rfl,e5,s5 _ _ ((s2.trans (s3.trans s4)) _ _ e1),s5 _ _ e4,hcl,by omega,by omega,by omega,by omega,hnw,hws',fun root H6 S T s6 hroot hP hfi hok hcnt=>?_⟩
 have okn:=ql hfi;have hpc:=lW 10 T;have hnf:=xS okn
 have hnl':(fh ((cz 10 T).flatMap bZ)).length≤1000:=by
  have:=g0 ((cz 10 T).flatMap bZ) []
  rw[List.length_nil]at this
  unfold fh; omega
 have cin:kQ NOt H6 root 10 T (fh ((cz 10 T).flatMap bZ)):=
  ⟨⟨_,hP⟩,hok,⟨_,_,hP,okn,by omega,by omega,rfl⟩,kR 10 hP hok,xJ 10 _ okn (fun n hn=>AS hn),by omega,hnl',by decide⟩
 have s16:=s14.trans (s5.trans s6)
 have fin:∀ (t:Bool) (cq:Addr) (H7:Hp),Same H6 H7→H6 cq=none→ListR H7 cq (ig (fh ((cz 10 T).flatMap bZ)) 10 t T)→Q (.ref cq) H7:=fun t cq H7 s7 hcq hC=>by
  refine q cq H7 _ ((fh ((cz 10 T).flatMap bZ)).length+ar 10 T) (s16.trans s7) (s16.free hcq) hC (zH hfi hok cin.nm) (by omega) ?_
  have:=dE (kv:=iG (cE (fh ((cz 10 T).flatMap bZ)) (d0 10 T))) (d:=10) (a:=0) (l:=0) (t:=t) (T:=T) (by omega) (by decide)
  unfold ig;rw[List.length_append,List.length_singleton];omega
 walk_at "nx";refine⟨by decide,bd (fun cc=>?_) (fun cc=>?_)⟩
 ·exact⟨root,T,_,rfl,cin,fin true⟩
 ·walk_at "nx"
  exact⟨root,T,_,rfl,cin,fin false⟩
theorem C8{f:Addr}{fd:FuncData}(F:Fun K "law" "law" aL f fd) (z_len:mg "len" = none) (z_range:mg "range" = none) (z_list:mg "list" = none) (z_int:mg "int" = none) (z_min:mg "min" = none) (c_law_cell_at:aE P w K mg base 1 "_law_cell_at" ["_law_script", "_law_k"] (pC K)) (c_law_words:aE P w K mg base 1 "_law_words" ["_law_cell", "_law_many"] lN) (c_law_rule:aE P w K mg base 1 "_law_rule" ["_law_cells", "_law_sides", "_law_words_here", "_law_most"] p9) (c_law_code:aE P w K mg base 36 "_law_code" ["_law_script", "_law_start", "_law_lends", "_law_deep"] (mJ K)) (c_law_slots:aE P w K mg base 1 "_law_slots" ["_law_code_here"] oK) (c_law_right:aE P w K mg base 7 "_law_right" ["_law_code_here", "_law_rule_here", "_law_at", "_law_token"] mi) (c_law_pair:aE P w K mg base 1 "_law_pair" ["_law_cell", "_law_slots_here"] pe) (c_law_tokens:aE P w K mg base 2 "_law_tokens" ["_law_cell", "_law_rule_here", "_law_slots_here"] v4):FnOk P w K mg base ja 37 f fd ["_law_script"] (nK K):=by
 refine F.ok sc_law (fun vs H Q E h=>by obtain⟨a,ns,rfl,_⟩:=h; rfl) (fun cdv A outer s H vs Q E hr h=>?_)
 obtain⟨a,ns,rfl,hS,hn,q⟩:=h
 refine⟨_,(ai (au 1 sc_law.nd (ay c_law_cell_at hr (aa (pv 0 (hv:=pD)) (aa ac ae))))
   (ai (au 2 sc_law.nd (ak aC (ay c_law_words hr (aa (ak cM (pv 1) ac) (aa ac ae))) (aS (aa av (aa av (aa av (aa av ae)))))))
   (ai (uI (CompSc.to (fsc:=(defScope aL)) (N:=["_law_script", "_law_second", "_law_words_here", "_law_cells", "_law_sides", "_law_rule_here", "_law_code_here", "_law_kept", "_law_slots_here", "_law_at", "_law_cell", "_law_tokens_here", "_law_pair_here", "_law_token"]) (N0:=["_law_script", "_law_second", "_law_words_here", "_law_cells", "_law_sides", "_law_rule_here", "_law_code_here", "_law_kept", "_law_slots_here", "_law_at", "_law_cell", "_law_tokens_here", "_law_pair_here", "_law_token"]) (T:=["_law_k"]) ⟨by decide +kernel,by decide +kernel,by decide +kernel,by decide +kernel,by decide +kernel,by decide +kernel,by decide +kernel⟩ rfl rfl) rfl sc_law.nd (i:=3) rfl KA (de yu z_range (aa ac ae)) (fun _ _ _ _=>(bg 14 (show (["_law_script", "_law_second", "_law_words_here", "_law_cells", "_law_sides", "_law_rule_here", "_law_code_here", "_law_kept", "_law_slots_here", "_law_at", "_law_cell", "_law_tokens_here", "_law_pair_here", "_law_token", "_law_k"]:List Str).Nodup from by decide +kernel) (hx:=(gS (defScope aL) (by decide +kernel))) (hf:=jN (defScope aL) (by decide +kernel)))) (dD (show (["_law_script", "_law_second", "_law_words_here", "_law_cells", "_law_sides", "_law_rule_here", "_law_code_here", "_law_kept", "_law_slots_here", "_law_at", "_law_cell", "_law_tokens_here", "_law_pair_here", "_law_token"]:List Str).length≤14 from by decide)) (fun _ _ _ _=>eX) (fun _ _ _ _=>(ay c_law_cell_at hr (aa (pv 0 (hv:=(cY (defScope aL) (by decide +kernel)))) (aa (ak aC ac (pv 14 (hv:=(cY (defScope aL) (by decide +kernel))))) ae)) (hg:=(oh (defScope aL) (by decide +kernel))))))
   (ai (au 4 sc_law.nd (ak aC ac (ak bo (ak cM (am (aw K) (pv 3) ac (fun _ _=>rfl)) ac) ac)))
   (ai (au 5 sc_law.nd (ay c_law_rule hr (aa (pv 3) (aa (pv 4) (aa (pv 2) (aa (am (aw K) (aS (aa ac (aa ac ae))) (dy fQ z_int jj (aa (ck aT (ak bo (ak cM (am (aw K) (pv 3) ac (fun _ _=>rfl)) ac) ac) ac (aA _)) ae)) (fun _ _=>rfl)) ae))))) (hx:=FV))
   (ai (au 6 sc_law.nd (ay c_law_code hr (aa (pv 0 (hv:=pD)) (aa ac (aa ac (aa ac ae))))))
   (ai (au 7 sc_law.nd (aS (aa (dy (ic K) z_list hJ (aa (pv 6) ae)) (aa (dy (ic K) z_list hJ (aa (am (aw K) (pv 5 (hv:=lR)) ac (fun _ _=>rfl)) ae)) (aa (fc (CompSc.to (fsc:=(defScope aL)) (N:=["_law_script", "_law_second", "_law_words_here", "_law_cells", "_law_sides", "_law_rule_here", "_law_code_here", "_law_kept", "_law_slots_here", "_law_at", "_law_cell", "_law_tokens_here", "_law_pair_here", "_law_token"]) (N0:=["_law_script", "_law_second", "_law_words_here", "_law_cells", "_law_sides", "_law_rule_here", "_law_code_here", "_law_kept", "_law_slots_here", "_law_at", "_law_cell", "_law_tokens_here", "_law_pair_here", "_law_token"]) (T:=["_law_room_here"]) ⟨by decide +kernel,by decide +kernel,by decide +kernel,by decide +kernel,by decide +kernel,by decide +kernel,by decide +kernel⟩ rfl rfl) rfl (cX K (am (aw K) (pv 5 (hv:=lR)) ac (fun _ _=>rfl))) (fun _ _ _ _=>(bg 14 (show (["_law_script", "_law_second", "_law_words_here", "_law_cells", "_law_sides", "_law_rule_here", "_law_code_here", "_law_kept", "_law_slots_here", "_law_at", "_law_cell", "_law_tokens_here", "_law_pair_here", "_law_token", "_law_room_here"]:List Str).Nodup from by decide +kernel) (hx:=(gS (defScope aL) (by decide +kernel))) (hf:=jN (defScope aL) (by decide +kernel)))) (dD (show (["_law_script", "_law_second", "_law_words_here", "_law_cells", "_law_sides", "_law_rule_here", "_law_code_here", "_law_kept", "_law_slots_here", "_law_at", "_law_cell", "_law_tokens_here", "_law_pair_here", "_law_token"]:List Str).length≤14 from by decide)) (fun _ _ _ _=>eX) (fun _ _ _ _=>(dy (ic K) z_list hJ (aa (pv 14 (hv:=(cY (defScope aL) (by decide +kernel)))) ae) (hg:=(oh (defScope aL) (by decide +kernel)))))) ae)))))
   (ai (au 8 sc_law.nd (ay c_law_slots hr (aa (pv 6) ae)))
   (ai (b_ PassesOwn.never rfl (de yu z_range (aa (bH (bb K) z_len bR (aa (am (aw K) (pv 7) ac (fun _ _=>rfl)) ae)) ae)) (bg 9 sc_law.nd) (ai (au 10 sc_law.nd (fE (aB (Bh K hr) (pv 0 (hv:=pD)) (aS ae) (aA _)) (am (aw K) (pv 0 (hv:=pD)) (ak bo (ak cU (pv 9) ac) (bH (bb K) z_len bR (aa (pv 0 (hv:=pD)) ae))) (fun _ _=>rfl)) (pv 9)))
   (ai (au 11 sc_law.nd (ak aC (aS (aa cZ ae)) (ay c_law_tokens hr (aa (ak cM (pv 10) ac) (aa (pv 5 (hv:=lR)) (aa (pv 8) ae))))))
   (ai (bj (PW.pt' (cB (aB aT (pv 4) ac (aA _)) (cT (aB aT (am (aw K) (am (aw K) (am (aw K) (pv 7) ac (fun _ _=>rfl)) (pv 9) (fun _ _=>rfl)) ac (fun _ _=>rfl)) av (aA _))))) (ai (au 12 sc_law.nd (dF (eI K) (ay c_law_pair hr (aa (pv 10) (aa (pv 8) ae))) eJ (dL ac)) (hx:=GZ))
   (aj (au 11 sc_law.nd (ak aC (pv 11) (fc (CompSc.to (fsc:=(defScope aL)) (N:=["_law_script", "_law_second", "_law_words_here", "_law_cells", "_law_sides", "_law_rule_here", "_law_code_here", "_law_kept", "_law_slots_here", "_law_at", "_law_cell", "_law_tokens_here", "_law_pair_here", "_law_token"]) (N0:=["_law_script", "_law_second", "_law_words_here", "_law_cells", "_law_sides", "_law_rule_here", "_law_code_here", "_law_kept", "_law_slots_here", "_law_at", "_law_cell", "_law_tokens_here", "_law_pair_here", "_law_token"]) (T:=["_law_k"]) ⟨by decide +kernel,by decide +kernel,by decide +kernel,by decide +kernel,by decide +kernel,by decide +kernel,by decide +kernel⟩ rfl rfl) rfl (de yu z_range (aa ac ae)) (fun _ _ _ _=>(bg 14 (show (["_law_script", "_law_second", "_law_words_here", "_law_cells", "_law_sides", "_law_rule_here", "_law_code_here", "_law_kept", "_law_slots_here", "_law_at", "_law_cell", "_law_tokens_here", "_law_pair_here", "_law_token", "_law_k"]:List Str).Nodup from by decide +kernel) (hx:=(gS (defScope aL) (by decide +kernel))) (hf:=jN (defScope aL) (by decide +kernel)))) (dD (show (["_law_script", "_law_second", "_law_words_here", "_law_cells", "_law_sides", "_law_rule_here", "_law_code_here", "_law_kept", "_law_slots_here", "_law_at", "_law_cell", "_law_tokens_here", "_law_pair_here", "_law_token"]:List Str).length≤14 from by decide)) (fun _ _ _ _=>eX) (fun _ _ _ _=>(ak (eV K) (pv 12 (hv:=(cY (defScope aL) (by decide +kernel)))) (aU (aa (ak aC ac (ak bo (pv 14 (hv:=(cY (defScope aL) (by decide +kernel)))) ac)) (aa (ak bo (ak cM (pv 14 (hv:=(cY (defScope aL) (by decide +kernel)))) ac) (bH (bb K) z_len bR (aa (am (aw K) (pv 5 (hv:=(cY (defScope aL) (by decide +kernel)))) ac (fun _ _=>rfl)) ae) (hg:=(oh (defScope aL) (by decide +kernel))))) ae)))))))))) aY)
   (aj (b_ PassesOwn.never rfl (cX K (pv 11)) (bg 13 sc_law.nd) (aj (bj (gk (dj (ay c_law_right hr (aa (pv 6) (aa (pv 5 (hv:=lR)) (aa (pv 9) (aa (pv 13) ae))))))) (aj (az fm)) aY))))))))
   (aj (az (kC (ck (lP K hr) (pv 6) (am (aw K) (pv 7) ac (fun _ _=>rfl)) (aA _)) (kC (ck (lP K hr) (am (aw K) (pv 5 (hv:=lR)) ac (fun _ _=>rfl)) (am (aw K) (pv 7) ac (fun _ _=>rfl)) (aA _)) (w4 (ck (lP K hr) (am (aw K) (pv 5 (hv:=lR)) ac (fun _ _=>rfl)) (am (aw K) (pv 7) ac (fun _ _=>rfl)) (aA _)))))))))))))))),?_⟩
 walk_at "rd1";refine⟨a,ns,1,rfl,hS,by decide,?_⟩
 generalize ns.getD (Int.toNat 1) 0=c1
 walk_at "nx";refine⟨⟨by decide,by decide⟩,?_⟩
 refine⟨c1 / 2,2,rfl,by decide,fun wp ws H2 s2 hwp e2 hwl hww=>?_⟩
 walk_at "rd1";refine⟨by decide,fun x4 hx4=>?_⟩
 have s3:=ah hx4 (.lst [V.str "open", .str "lend", .str "back", .str "end"]);have e3:upd H2 x4 (.lst [V.str "open", .str "lend", .str "back", .str "end"]) x4=some (.lst ((["open", "lend", "back", "end"]:List Str).map V.str)):=af
 generalize upd H2 x4 (.lst [V.str "open", .str "lend", .str "back", .str "end"])=H3 at s3 e3 ⊢;refine⟨_,_,s3 _ _ e2,e3,by rw[List.length_map,List.length_map,hwl]; exact aR (by simp),fun wq hwq=>?_⟩
 have s4:=ah hwq (.lst (ws.map V.str++(["open", "lend", "back", "end"]:List Str).map V.str));have e4:upd H3 wq (.lst (ws.map V.str++(["open", "lend", "back", "end"]:List Str).map V.str)) wq=some (.lst ((ws++(["open", "lend", "back", "end"]:List Str)).map V.str)):=by rw[af,List.map_append]
 generalize upd H3 wq (.lst (ws.map V.str++(["open", "lend", "back", "end"]:List Str).map V.str))=H4 at s4 e4 ⊢;have hws':∀ x∈ws++(["open", "lend", "back", "end"]:List Str),eC x:=Am hww
 have hwl':(ws++(["open", "lend", "back", "end"]:List Str)).length=6:=by rw[List.length_append,hwl]; rfl
 generalize ws++(["open", "lend", "back", "end"]:List Str)=ws' at e4 hws' hwl';have s14:=(s2.trans s3).trans s4;clear s2 s3 s4 e3 e2 hwl hww;have hS4:=s14.seq hS;walk_at "nx";refine⟨by decide,by decide,fun L hL=>?_⟩
 rw[show Int.toNat 6=6 from rfl];refine gR (fun j ys H'=>Same H4 H'∧H' L=some (.lst ys)∧∃ cs:List Int,ys=cs.map V.int∧cs.length=j) ⟨ah hL _,af,[],rfl,rfl⟩ ?_ ?_
 ·rintro j ys H' hj ⟨sm,hl,cs,rfl,hcl⟩
  walk_at "rd1";refine⟨a,ns,2+(0+(j:Int)),rfl,sm.seq hS4,by omega,?_⟩
  refine iA hj (by rw[List.length_map]; exact hcl) (aR (by omega)) hl ⟨sm.upd hL _,af,cs++[ns.getD (2+(0+(j:Int))).toNat 0],pc _ _,iq hcl⟩
 rintro ys H5 ⟨s5,e5,cs,rfl,hcl⟩
 have hL5:H L=none:=s14.free hL
 have s15:=s14.trans s5;walk_at "nx";obtain⟨k1,hk1'⟩ : ∃ k1:Int,(cs.map V.int)[1]? = some (.int k1):=⟨_,by rw[List.getElem?_map,List.getElem?_eq_getElem (show 1<cs.length by omega)]; rfl⟩
 refine⟨_,_,.inl (SqL.of e5),aq (j:=1) hk1',?_⟩
 walk_at "rd1";have hsd0:∃ sd:Int,1+k1 / 2048 % 2=sd∧(sd=1∨sd=2):=⟨_,rfl,by omega⟩
 obtain⟨sd,esd,hsd⟩:=hsd0
 refine⟨⟨by decide,by decide⟩,by decide,?_⟩
 rw[esd];walk_at "nx";refine⟨by decide,fun yp hyp=>?_⟩
 have s6:=ah hyp (.lst [V.int 4,V.int 60]);have e6:upd H5 yp (.lst [V.int 4,V.int 60]) yp=some (.lst [V.int 4,V.int 60]):=af
 generalize upd H5 yp (.lst [V.int 4,V.int 60])=H6 at s6 e6 ⊢;refine⟨_,_,.inl (SqL.of (s6 _ _ e5)),aq (j:=1) hk1',?_⟩
 walk_at "rd1"
 have hm:∃ m:Nat,cC [V.int 4,V.int 60] (if k1 / 256 % 8=5 then 1 else 0)=some (.int (m:Int))∧1≤m∧m≤60:=by
  split
  ·exact⟨60,rfl,by decide,by decide⟩
  ·exact⟨4,rfl,by decide,by decide⟩
 obtain⟨m,hm,m0,m1⟩:=hm
 refine⟨⟨by decide,by decide⟩,by decide,_,_,.inl (SqL.of e6),hm,?_⟩
 have s56:=s5.trans s6;refine⟨L,wq,cs,ws',m,sd,rfl,hsd,s6 _ _ e5,hcl,s56 _ _ e4,by omega,fun x hx=>(hws' x hx).1,m0,m1,fun p H7 rl s7 hp hR ok hrs=>?_⟩
 have s17:=(s14.trans s56).trans s7;clear hm e6 hyp e5 hcl hL hL5 e4 hws' hwl';walk_at "nx";refine⟨a,ns,rfl,s17.seq hS,fun cq H8 R N s8 hcq hC hSl hN hRl=>?_⟩
 have hR8:=hR.mono s8;have s18:=s17.trans s8;clear hR hp s7 s56 s6 s15 s14 s5 hS4;obtain⟨as,ea,eb⟩:=id hC
 have hl:=aM eb;obtain⟨pw,pr,bs,r1,r2,r3⟩:=id hR8
 walk_at "nx";refine⟨_,.inl (SqL.of ea),fun k0 hk0=>?_⟩
 have s9:=ah hk0 (.lst (as.map V.ref));have e9:upd H8 k0 (.lst (as.map V.ref)) k0=some (.lst (as.map V.ref)):=af
 generalize upd H8 k0 (.lst (as.map V.ref))=H9 at s9 e9 ⊢;refine⟨_,_,.inr (SqT.of (s9 _ _ r1)),rfl,?_⟩
 walk_at "rd1";refine⟨_,.inl (SqL.of (s9 _ _ r2)),fun k1' hk1=>?_⟩
 have s10:=ah hk1 (.lst (rl.ws.map V.str));have e10:upd H9 k1' (.lst (rl.ws.map V.str)) k1'=some (.lst (rl.ws.map V.str)):=af
 generalize upd H9 k1' (.lst (rl.ws.map V.str))=H10 at s10 e10 ⊢;have s8a:=s9.trans s10;have r3':=r3.mono s8a;refine⟨_,_,.inr (SqT.of (s8a _ _ r1)),rfl,?_⟩
 walk_at "rd1";refine⟨⟨_,SqL.of r3'.1⟩,fun M hM=>?_⟩
 refine vh r3' ok.n1 hM (fun a xs H' C z1 z2=>?_) (fun H11 ds s11 hB _ _=>?_)
 ·walk_at "rd1"
  exact⟨_,.inl (SqL.of z1),z2⟩
 walk_at "rd1";refine⟨by decide,fun kp hkp=>?_⟩
 have s12:=ah hkp (.lst [.ref k0,.ref k1',.ref M]);have e12:upd H11 kp (.lst [.ref k0,.ref k1',.ref M]) kp=some (.lst [.ref k0,.ref k1',.ref M]):=af
 generalize upd H11 kp (.lst [.ref k0,.ref k1',.ref M])=H12 at s12 e12 ⊢;have hB2:=hB.mono s12;have sb:=s11.trans s12;have e9b:=(s10.trans sb) _ _ e9;have e10b:=sb _ _ e10;have s8b:=s8a.trans sb;have hC2:=hC.mono s8b;have hR2:=hR8.mono s8b;have s1b:=s18.trans s8b;have hSb:=s1b.seq hS;have ea2:=s8b _ _ ea;have eb2:Paired (bc H12) as R:=Paired.imp' (fun _ _ z=>s8b _ _ z) eb
 clear hB r3' hR8 s9 s10 s11 s12 e9 e10 hC ea eb s8b s8a sb s17 s18 s1b r3 r2 r1 hM hk1 hk0 hkp;obtain⟨pw,pr,bs,r1,r2,r3⟩:=id hR2
 walk_at "nx";refine⟨cq,R,N,rfl,hC2,hSl,fun Ms H13 s13 hMs=>?_⟩
 walk_at "nx";refine⟨_,_,.inl (SqL.of (s13 _ _ e12)),rfl,?_⟩
 walk_at "rd1";refine⟨_,.inl (SqL.of (s13 _ _ e9b)),?_⟩
 rw[List.length_map,hl];refine⟨by omega,by omega,?_⟩
 rw[Int.toNat_natCast];refine dR (fun i σ H'=>∃ o9 o10 o11 o12 o13:Option V,σ=[some (.ref a),some (.int c1),some (.ref wq),some (.ref L),some (.int sd),some (.ref p),some (.ref cq),some (.ref kp),some (.int (Ms:Int)),o9,o10,o11,o12,o13]∧Same H12 H') ⟨_,_,_,_,_,rfl,s13⟩ ?_ ?_
 ·rintro i σ H' hi ⟨o9,o10,o11,o12,o13,rfl,sm⟩
  have hri:=List.getElem?_eq_getElem hi;have hsl:=hSl _ (List.getElem_mem hi);rw[Int.zero_add];refine gm (fun σ' H'=>∃ cell:Int,σ'=[some (.ref a),some (.int c1),some (.ref wq),some (.ref L),some (.int sd),some (.ref p),some (.ref cq),some (.ref kp),some (.int (Ms:Int)),some (.int (i:Int)),some (.int cell),o11,o12,o13]∧Same H12 H') (fun k hk=>?_) ?_
  ·walk_at "rd1"
   refine⟨by decide,fun ep hep=>?_⟩
   have s14:=ah hep (.lst []);refine⟨0,_,by decide,EqN.ints (ts:=[]) ((sm.trans s14).seq hSb) (SqL.of af),?_⟩
   generalize upd H' ep (.lst [])=H14 at s14 ⊢;have sm14:=sm.trans s14;refine bd (fun c=>?_) (fun c=>?_)
   ·have hne:0<ns.length:=by
     cases ns with
     | nil=>exact absurd c (by decide)
     | cons _ _=>simp
    refine⟨.inr ⟨by decide,by decide⟩,_,.inl (sm14.seq hSb),?_⟩
    rw[List.length_map];obtain⟨v,hv,_⟩:=wA (xs:=ns) (i:=(i:Int) * 5 % (ns.length:Int)) (Int.emod_nonneg _ (by omega)) (Int.emod_lt_of_pos _ (by omega))
    refine⟨by omega,_,_,.inl (sm14.seq hSb),jh (Int.emod_nonneg _ (by omega)) hv,?_⟩
    exact hk _ _ ⟨v,rfl,sm14⟩
   ·exact hk _ _ ⟨_,rfl,sm14⟩
  rintro σ' H14 ⟨cell,rfl,s14⟩
  walk_at "nx";refine⟨by decide,fun n1 hn1=>⟨⟨by decide,by decide⟩,?_⟩⟩
  have s15:=ah hn1 (.lst [V.non]);have e15:upd H14 n1 (.lst [V.non]) n1=some (.lst [V.non]):=af
  generalize upd H14 n1 (.lst [V.non])=H15 at s15 e15 ⊢;have sm15:=s14.trans s15;refine⟨cell / 3,p,rl,Ms,rfl,by omega,hR2.mono sm15,ok,fun T1 H16 bs s16 hT1 eT1 hbl6 hbt=>?_⟩
  walk_at "rd1";refine⟨_,_,s16 _ _ e15,eT1,by rw[List.length_map]; exact aR (by simp; omega),fun tq htq=>?_⟩
  have s17:=ah htq (.lst ([V.non]++bs.map V.ref));have e17:upd H16 tq (.lst ([V.non]++bs.map V.ref)) tq=some (.lst ([V.non]++bs.map V.ref)):=af
  have sm17:=sm15.trans (s16.trans s17)
  have hvs:∀ v∈[V.non]++bs.map V.ref,∃ o,TvAt (upd H16 tq (.lst ([V.non]++bs.map V.ref))) v o∧∀ ts,o=some ts→fO rl.s rl.rs.length ts∧jJ ts:=fun v hv=>by
   rcases List.mem_append.mp hv with h | h
   ·exact⟨none,List.mem_singleton.mp h,fun ts e=>nomatch e⟩
   ·obtain⟨b',hb',rfl⟩:=List.mem_map.mp h
    obtain⟨ts,h1,h2,h3⟩:=hbt b' hb'
    exact⟨some ts,⟨b',rfl,s17 _ _ h1⟩,fun ts' e=>by cases e; exact⟨h2,h3⟩⟩
  have hvl:([V.non]++bs.map V.ref).length≤7:=by simp; omega
  generalize upd H16 tq (.lst ([V.non]++bs.map V.ref))=H17 at s17 e17 sm17 hvs ⊢;generalize [V.non]++bs.map V.ref=vs at e17 hvs hvl;refine gm (fun σ' H'=>∃ (tq:Addr) (vs:List V) (o12:Option V),σ'=[some (.ref a),some (.int c1),some (.ref wq),some (.ref L),some (.int sd),some (.ref p),some (.ref cq),some (.ref kp),some (.int (Ms:Int)),some (.int (i:Int)),some (.int cell),some (.ref tq),o12,o13]∧Same H12 H'∧H' tq=some (.lst vs)∧∀ v∈vs,∃ o,TvAt H' v o∧∀ ts,o=some ts→fO rl.s rl.rs.length ts∧jJ ts) (fun k hk=>?_) ?_
  ·walk_at "rd1"
   refine bd (fun c2=>?_) (fun c2=>hk _ _ ⟨tq,vs,_,rfl,sm17,e17,hvs⟩)
   have hia:i<as.length:=by omega
   obtain⟨r',hr1,hr2⟩:=b7 eb2 (List.getElem?_eq_getElem hia)
   rw[hri]at hr1
   cases hr1;refine⟨_,_,.inl (SqL.of (sm17 _ _ e12)),rfl,?_⟩
   walk_at "rd1";refine⟨_,_,.inl (SqL.of (sm17 _ _ e9b)),aq (j:=i) (v:=.ref as[i]) (by rw[List.getElem?_map,List.getElem?_eq_getElem hia]; rfl),?_⟩
   walk_at "rd1";refine⟨_,_,.inr (SqT.of (sm17 _ _ hr2)),aq (j:=0) hsl.hd,?_⟩
   walk_at "rd1";refine bd (fun ce=>?_) (fun ce=>hk _ _ ⟨tq,vs,_,rfl,sm17,e17,hvs⟩)
   refine⟨cell,Ms,rfl,by omega,fun tp H18 n m o s18 htp etp hdj=>?_⟩
   refine⟨tp,_,rfl,SqT.of etp,fun hw=>absurd hw (show ¬ (HT.sIx 3 0 none=0∧HT.sIx 3 3 (some 2)=3) by decide),fun _ t1 ht1=>?_⟩
   rw[show di ([n,m,o].map iN) none (some 2)=[n,m].map iN from rfl];have s19:=ah ht1 (.tup ([n,m].map iN));have e19:upd H18 t1 (.tup ([n,m].map iN)) t1=some (.tup ([n,m].map iN)):=af
   generalize upd H18 t1 (.tup ([n,m].map iN))=H19 at s19 e19 ⊢;have sm19:=sm17.trans (s18.trans s19);have hbl:=r3.2.1;have hn0:=ok.n0;walk_at "nx";refine⟨by decide,by decide,fun C hC=>?_⟩
   rw[show Int.toNat 8=8 from rfl];refine gR (fun j ys H'=>Same H19 H'∧H' C=some (.lst ys)∧ys.length=j∧∀ v∈ys,∃ (t:Addr) (ts:List Nat),v = .ref t∧t≠C∧fo H' t ts∧fO rl.s rl.rs.length ts∧jJ ts) ⟨ah hC _,af,rfl,by simp⟩ ?_ ?_
   ·rintro j ys H20 hj ⟨s20,hC20,hyl,hys⟩
    have sm20:=sm19.trans s20;walk_at "rd1";refine⟨by decide,⟨by decide,by decide⟩,_,_,.inr (SqT.of (sm20 _ _ r1)),rfl,?_⟩
    walk_at "rd1";refine⟨_,.inl (SqL.of (sm20 _ _ r3.1)),?_⟩
    rw[List.length_map,hbl]
    have hrm:∃ rm:Nat,(0+(j:Int)) / 2 % (rl.rs.length:Int)=(rm:Int)∧rm<rl.rs.length:=by
     have a1:=Int.emod_nonneg ((0+(j:Int)) / 2) (show (rl.rs.length:Int)≠0 by omega)
     have a2:=Int.emod_lt_of_pos ((0+(j:Int)) / 2) (show (0:Int)<(rl.rs.length:Int) by omega)
     exact⟨_,(Int.toNat_of_nonneg a1).symm,by omega⟩
    obtain⟨rm,erm,hrm⟩:=hrm
    have hod:∃ od:Nat,1+(0+(j:Int)) % 2=(od:Int):=⟨(1+(0+(j:Int)) % 2).toNat,by omega⟩
    obtain⟨od,eod⟩:=hod
    walk_at "rd1";rw[erm,eod];refine⟨by omega,by decide,fun t2 ht2=>?_⟩
    have s21:=ah ht2 (.tup [V.int (od:Int),V.int (rm:Int)]);have e21:upd H20 t2 (.tup [V.int (od:Int),V.int (rm:Int)]) t2=some (.tup ([od,rm].map iN)):=af
    generalize upd H20 t2 (.tup [V.int (od:Int),V.int (rm:Int)])=H21 at s21 e21 ⊢;refine⟨_,_,SqT.of (s21 _ _ (s20 _ _ e19)),SqT.of e21,by simp,aR (by simp),fun hz=>absurd hz (by simp),fun _ t3 ht3=>?_⟩
    have s22:=ah ht3 (.tup ([n,m].map iN++[od,rm].map iN));have e22:fo (upd H21 t3 (.tup ([n,m].map iN++[od,rm].map iN))) t3 [n,m,od,rm]:=af
    generalize upd H21 t3 (.tup ([n,m].map iN++[od,rm].map iN))=H22 at s22 e22 ⊢;have n3C:t3≠C:=(aF (s21 _ _ hC20) ht3).symm
    have c22:=s22 _ _ (s21 _ _ hC20);refine iA hj hyl (aR (by decide)) c22 ⟨(s20.trans (s21.trans s22)).upd hC _,af,iq hyl,fun v hv=>?_⟩
    rcases List.mem_append.mp hv with h | h
    ·obtain⟨t,ts,rfl,hne,h1,h2,h3⟩:=hys v h
     exact⟨t,ts,rfl,hne,by show upd _ _ _ _=_; rw[ax hne]; exact(s21.trans s22) _ _ h1,h2,h3⟩
    ·rw[List.mem_singleton.mp h]
     exact⟨t3,_,rfl,n3C,by show upd _ _ _ _=_; rw[ax n3C]; exact e22,.tie n m od rm (hrs.trans c2) hrm,hdj⟩
   rintro ys H20 ⟨s20,hC20,hyl,hys⟩
   walk_at "rd1";refine⟨_,_,s20 _ _ ((s18.trans s19) _ _ e17),hC20,aR (by omega),fun t5 ht5=>?_⟩
   refine hk _ _ ⟨t5,vs++ys,_,rfl,(sm19.trans s20).trans (ah ht5 _),af,fun v hv=>?_⟩
   rcases List.mem_append.mp hv with h | h
   ·obtain⟨o',h1,h2⟩:=hvs v h
    exact⟨o',h1.mono ((s18.trans s19).trans (s20.trans (ah ht5 _))),h2⟩
   ·obtain⟨t,ts,rfl,_,h1,h2,h3⟩:=hys v h
    exact⟨some ts,⟨t,rfl,(ah ht5 _) _ _ h1⟩,fun ts' e=>by cases e; exact⟨h2,h3⟩⟩
  rintro σ' H18 ⟨tq,vs,o12,rfl,sm18,e18,hvs⟩
  walk_at "nx";refine⟨⟨_,SqL.of e18⟩,?_⟩
  refine cS (xs:=vs) (fun j σ H'=>∃ o13:Option V,σ=[some (.ref a),some (.int c1),some (.ref wq),some (.ref L),some (.int sd),some (.ref p),some (.ref cq),some (.ref kp),some (.int (Ms:Int)),some (.int (i:Int)),some (.int cell),some (.ref tq),o12,o13]∧Same H18 H') ⟨_,rfl,fun _ _ z=>z⟩ (fun j σ H' _ hh=>by obtain⟨_,_,z⟩:=hh; exact SqL.of (z _ _ e18)) ?_ ?_
  ·rintro j v σ H19 hv ⟨o13,rfl,s19⟩
   obtain⟨o,hv1,hv2⟩:=hvs v (List.mem_of_getElem? hv)
   have sm19:=sm18.trans s19;walk_at "rd1";refine⟨cq,p,v,R,rl,R[i],i,N,o,rfl,hC2.mono sm19,hri,hR2.mono sm19,ok,hsl,hN,hv2,hv1.mono s19,fun H20 s20=>⟨_,rfl,?_⟩⟩
   rw[if_neg (by decide)]
   exact⟨_,rfl,s19.trans s20⟩
  ·rintro σ H19 ⟨o13,rfl,s19⟩
   exact⟨_,_,_,_,_,rfl,sm18.trans s19⟩
 ·rintro σ H' ⟨o9,o10,o11,o12,o13,rfl,sm⟩
  walk_at "nx";refine⟨_,_,.inl (SqL.of (sm _ _ e12)),rfl,?_⟩
  walk_at "rd1";have ea3:=sm _ _ ea2;have eb3:Paired (bc H') as R:=Paired.imp' (fun _ _ z=>sm _ _ z) eb2
  refine⟨1,true,by decide,EqN.seq (.inl ⟨SqL.of ea3,SqL.of (sm _ _ e9b)⟩) rfl (fun i x y e1 e2=>?_),?_⟩
  ·rw[e1]at e2
   cases e2;have hi:i<as.length:=by have:=(List.getElem?_eq_some_iff.mp e1).1; simpa using this
   rw[List.getElem?_map,List.getElem?_eq_getElem hi]at e1
   cases e1;obtain⟨r,hr1,hr2⟩:=b7 eb3 (List.getElem?_eq_getElem hi)
   exact EqN.seqFlat (.inr ⟨SqT.of hr2,SqT.of hr2⟩) (hSl r (List.mem_of_getElem? hr1)).flat
  rw[if_pos rfl];refine⟨_,_,.inr (SqT.of (sm _ _ r1)),rfl,_,_,.inl (SqL.of (sm _ _ e12)),rfl,?_⟩
  walk_at "rd1";refine⟨0,true,by decide,EqN.seqFlat (.inl ⟨SqL.of (sm _ _ r2),SqL.of (sm _ _ e10b)⟩) (xD _),?_⟩
  rw[if_pos rfl];refine⟨_,_,.inr (SqT.of (sm _ _ r1)),rfl,_,_,.inl (SqL.of (sm _ _ e12)),rfl,?_⟩
  walk_at "rd1";exact⟨1,true,by decide,zL (r3.mono sm) (hB2.mono sm),q H'⟩
end
theorem yE{K:PySem.W.Frag}{a0 a1 a2 a3 a4 a5 a6 a7:Addr}(q0:∀ H:Hp,SqT K H a0 [.str "name"]) (q1:∀ H:Hp,SqT K H a1 [.str "word", .str "name"]) (q2:∀ H:Hp,SqT K H a2 [.str "name", .str "name"]) (q3:∀ H:Hp,SqT K H a3 [.str "name"]) (q4:∀ H:Hp,SqT K H a4 [.str "name", .str "name"]) (q5:∀ H:Hp,SqT K H a5 [.str "name", .str "name", .str "steps"]) (q6:∀ H:Hp,SqT K H a6 [.str "bound", .str "steps", .str "steps"]) (q7:∀ H:Hp,SqT K H a7 [.str "bound", .str "steps"]) :
  ∀ kind ks,(kind,ks)∈dW→∃ a,cr [(("open" : Str),V.ref a0),(("do" : Str),V.ref a1),(("copy" : Str),V.ref a2),(("drop" : Str),V.ref a3),(("tie" : Str),V.ref a4),(("lend" : Str),V.ref a5),(("if" : Str),V.ref a6),(("while" : Str),V.ref a7)] kind=some (.ref a)∧∀ H:Hp,SqT K H a (ks.map V.str):=by
 intro kind ks h
 simp only[dW,List.mem_cons,Prod.mk.injEq,List.mem_nil_iff,or_false]at h
 rcases h with ⟨rfl,rfl⟩ | ⟨rfl,rfl⟩ | ⟨rfl,rfl⟩ | ⟨rfl,rfl⟩ | ⟨rfl,rfl⟩ | ⟨rfl,rfl⟩ | ⟨rfl,rfl⟩ | ⟨rfl,rfl⟩
 ·exact⟨a0,rfl,q0⟩
 ·exact⟨a1,rfl,q1⟩
 ·exact⟨a2,rfl,q2⟩
 ·exact⟨a3,rfl,q3⟩
 ·exact⟨a4,rfl,q4⟩
 ·exact⟨a5,rfl,q5⟩
 ·exact⟨a6,rfl,q6⟩
 ·exact⟨a7,rfl,q7⟩
theorem all_mk{l:PySem.W.OpenLaw}{w:World}{K:PySem.W.Frag}{h:Heap}{mg:Str→Option Value}{fa:Addr}(X:K.In h)(G:h.Ns mainGlobals mg)(hfa:mg "law" = some (.ref fa))
  {f0:Addr} {od0 an0:Option Addr} {sl0:Array (Option Value)} {oc0 kV0 dc0 pm0 cd0 ct0:Value} {f1:Addr} {od1 an1:Option Addr} {sl1:Array (Option Value)} {oc1 kV1 dc1 pm1 cd1 ct1:Value} {f2:Addr} {od2 an2:Option Addr} {sl2:Array (Option Value)} {oc2 kV2 dc2 pm2 cd2 ct2:Value} {f3:Addr} {od3 an3:Option Addr} {sl3:Array (Option Value)} {oc3 kV3 dc3 pm3 cd3 ct3:Value} {f4:Addr} {od4 an4:Option Addr} {sl4:Array (Option Value)} {oc4 kV4 dc4 pm4 cd4 ct4:Value} {f5:Addr} {od5 an5:Option Addr} {sl5:Array (Option Value)} {oc5 kV5 dc5 pm5 cd5 ct5:Value} {f6:Addr} {od6 an6:Option Addr} {sl6:Array (Option Value)} {oc6 kV6 dc6 pm6 cd6 ct6:Value} {f7:Addr} {od7 an7:Option Addr} {sl7:Array (Option Value)} {oc7 kV7 dc7 pm7 cd7 ct7:Value} {f8:Addr} {od8 an8:Option Addr} {sl8:Array (Option Value)} {oc8 kV8 dc8 pm8 cd8 ct8:Value} {f9:Addr} {od9 an9:Option Addr} {sl9:Array (Option Value)} {oc9 kV9 dc9 pm9 cd9 ct9:Value} {f10:Addr} {od10 an10:Option Addr} {sl10:Array (Option Value)} {oc10 kV10 dc10 pm10 cd10 ct10:Value} {f11:Addr} {od11 an11:Option Addr} {sl11:Array (Option Value)} {oc11 kV11 dc11 pm11 cd11 ct11:Value} {f12:Addr} {od12 an12:Option Addr} {sl12:Array (Option Value)} {oc12 kV12 dc12 pm12 cd12 ct12:Value} {f13:Addr} {od13 an13:Option Addr} {sl13:Array (Option Value)} {oc13 kV13 dc13 pm13 cd13 ct13:Value} {f14:Addr} {od14 an14:Option Addr} {sl14:Array (Option Value)} {oc14 kV14 dc14 pm14 cd14 ct14:Value} {f15:Addr} {od15 an15:Option Addr} {sl15:Array (Option Value)} {oc15 kV15 dc15 pm15 cd15 ct15:Value} {f16:Addr} {od16 an16:Option Addr} {sl16:Array (Option Value)} {oc16 kV16 dc16 pm16 cd16 ct16:Value} {f17:Addr} {od17 an17:Option Addr} {sl17:Array (Option Value)} {oc17 kV17 dc17 pm17 cd17 ct17:Value} {f18:Addr} {od18 an18:Option Addr} {sl18:Array (Option Value)} {oc18 kV18 dc18 pm18 cd18 ct18:Value} {f19:Addr} {od19 an19:Option Addr} {sl19:Array (Option Value)} {oc19 kV19 dc19 pm19 cd19 ct19:Value} {f20:Addr} {od20 an20:Option Addr} {sl20:Array (Option Value)} {oc20 kV20 dc20 pm20 cd20 ct20:Value} {f21:Addr} {od21 an21:Option Addr} {sl21:Array (Option Value)} {oc21 kV21 dc21 pm21 cd21 ct21:Value} {f22:Addr} {od22 an22:Option Addr} {sl22:Array (Option Value)} {oc22 kV22 dc22 pm22 cd22 ct22:Value} {f23:Addr} {od23 an23:Option Addr} {sl23:Array (Option Value)} {oc23 kV23 dc23 pm23 cd23 ct23:Value} {f24:Addr} {od24 an24:Option Addr} {sl24:Array (Option Value)} {oc24 kV24 dc24 pm24 cd24 ct24:Value} {f25:Addr} {od25 an25:Option Addr} {sl25:Array (Option Value)} {oc25 kV25 dc25 pm25 cd25 ct25:Value} {f26:Addr} {od26 an26:Option Addr} {sl26:Array (Option Value)} {oc26 kV26 dc26 pm26 cd26 ct26:Value} {f27:Addr} {od27 an27:Option Addr} {sl27:Array (Option Value)} {oc27 kV27 dc27 pm27 cd27 ct27:Value} {f28:Addr} {od28 an28:Option Addr} {sl28:Array (Option Value)} {oc28 kV28 dc28 pm28 cd28 ct28:Value} {f29:Addr} {od29 an29:Option Addr} {sl29:Array (Option Value)} {oc29 kV29 dc29 pm29 cd29 ct29:Value} {f30:Addr} {od30 an30:Option Addr} {sl30:Array (Option Value)} {oc30 kV30 dc30 pm30 cd30 ct30:Value} {f31:Addr} {od31 an31:Option Addr} {sl31:Array (Option Value)} {oc31 kV31 dc31 pm31 cd31 ct31:Value} {f32:Addr} {od32 an32:Option Addr} {sl32:Array (Option Value)} {oc32 kV32 dc32 pm32 cd32 ct32:Value} {f33:Addr} {od33 an33:Option Addr} {sl33:Array (Option Value)} {oc33 kV33 dc33 pm33 cd33 ct33:Value} {f34:Addr} {od34 an34:Option Addr} {sl34:Array (Option Value)} {oc34 kV34 dc34 pm34 cd34 ct34:Value} {f35:Addr} {od35 an35:Option Addr} {sl35:Array (Option Value)} {oc35 kV35 dc35 pm35 cd35 ct35:Value} {f36:Addr} {od36 an36:Option Addr} {sl36:Array (Option Value)} {oc36 kV36 dc36 pm36 cd36 ct36:Value} {f37:Addr} {od37 an37:Option Addr} {sl37:Array (Option Value)} {oc37 kV37 dc37 pm37 cd37 ct37:Value} {f38:Addr} {od38 an38:Option Addr} {sl38:Array (Option Value)} {oc38 kV38 dc38 pm38 cd38 ct38:Value} {f39:Addr} {od39 an39:Option Addr} {sl39:Array (Option Value)} {oc39 kV39 dc39 pm39 cd39 ct39:Value} {f40:Addr} {od40 an40:Option Addr} {sl40:Array (Option Value)} {oc40 kV40 dc40 pm40 cd40 ct40:Value} {f41:Addr} {od41 an41:Option Addr} {sl41:Array (Option Value)} {oc41 kV41 dc41 pm41 cd41 ct41:Value} {f42:Addr} {od42 an42:Option Addr} {sl42:Array (Option Value)} {oc42 kV42 dc42 pm42 cd42 ct42:Value} {f43:Addr} {od43 an43:Option Addr} {sl43:Array (Option Value)} {oc43 kV43 dc43 pm43 cd43 ct43:Value} {f44:Addr} {od44 an44:Option Addr} {sl44:Array (Option Value)} {oc44 kV44 dc44 pm44 cd44 ct44:Value} {f45:Addr} {od45 an45:Option Addr} {sl45:Array (Option Value)} {oc45 kV45 dc45 pm45 cd45 ct45:Value} {f46:Addr} {od46 an46:Option Addr} {sl46:Array (Option Value)} {oc46 kV46 dc46 pm46 cd46 ct46:Value} {f47:Addr} {od47 an47:Option Addr} {sl47:Array (Option Value)} {oc47 kV47 dc47 pm47 cd47 ct47:Value} {f48:Addr} {od48 an48:Option Addr} {sl48:Array (Option Value)} {oc48 kV48 dc48 pm48 cd48 ct48:Value} {f49:Addr} {od49 an49:Option Addr} {sl49:Array (Option Value)} {oc49 kV49 dc49 pm49 cd49 ct49:Value} {f50:Addr} {od50 an50:Option Addr} {sl50:Array (Option Value)} {oc50 kV50 dc50 pm50 cd50 ct50:Value} {f51:Addr} {od51 an51:Option Addr} {sl51:Array (Option Value)} {oc51 kV51 dc51 pm51 cd51 ct51:Value} {C_NumberedStep:Addr} {fNumberedStep___init__:Addr} {odNumberedStep___init__ anNumberedStep___init__:Option Addr} {slNumberedStep___init__:Array (Option Value)} {ocNumberedStep___init__ kVNumberedStep___init__ dcNumberedStep___init__ pmNumberedStep___init__ cdNumberedStep___init__ ctNumberedStep___init__:Value} {d_PARTS:Addr} {n_PARTS:Nat} {k_PARTS_0:Tok} {a_PARTS_0:Addr} {od_PARTS_0:Option Addr} {m_PARTS_0:Nat} {sl_PARTS_0:Array (Option Value)} {k_PARTS_0_0:Tok} {k_PARTS_1:Tok} {a_PARTS_1:Addr} {od_PARTS_1:Option Addr} {m_PARTS_1:Nat} {sl_PARTS_1:Array (Option Value)} {k_PARTS_1_0:Tok} {k_PARTS_1_1:Tok} {k_PARTS_2:Tok} {a_PARTS_2:Addr} {od_PARTS_2:Option Addr} {m_PARTS_2:Nat} {sl_PARTS_2:Array (Option Value)} {k_PARTS_2_0:Tok} {k_PARTS_2_1:Tok} {k_PARTS_3:Tok} {a_PARTS_3:Addr} {od_PARTS_3:Option Addr} {m_PARTS_3:Nat} {sl_PARTS_3:Array (Option Value)} {k_PARTS_3_0:Tok} {k_PARTS_4:Tok} {a_PARTS_4:Addr} {od_PARTS_4:Option Addr} {m_PARTS_4:Nat} {sl_PARTS_4:Array (Option Value)} {k_PARTS_4_0:Tok} {k_PARTS_4_1:Tok} {k_PARTS_5:Tok} {a_PARTS_5:Addr} {od_PARTS_5:Option Addr} {m_PARTS_5:Nat} {sl_PARTS_5:Array (Option Value)} {k_PARTS_5_0:Tok} {k_PARTS_5_1:Tok} {k_PARTS_5_2:Tok} {k_PARTS_6:Tok} {a_PARTS_6:Addr} {od_PARTS_6:Option Addr} {m_PARTS_6:Nat} {sl_PARTS_6:Array (Option Value)} {k_PARTS_6_0:Tok} {k_PARTS_6_1:Tok} {k_PARTS_6_2:Tok} {k_PARTS_7:Tok} {a_PARTS_7:Addr} {od_PARTS_7:Option Addr} {m_PARTS_7:Nat} {sl_PARTS_7:Array (Option Value)} {k_PARTS_7_0:Tok} {k_PARTS_7_1:Tok} {d_CLOSERS:Addr} {n_CLOSERS:Nat} {k_CLOSERS_0:Tok} {a_CLOSERS_0:Addr} {od_CLOSERS_0:Option Addr} {m_CLOSERS_0:Nat} {sl_CLOSERS_0:Array (Option Value)} {k_CLOSERS_0_0:Tok} {k_CLOSERS_1:Tok} {a_CLOSERS_1:Addr} {od_CLOSERS_1:Option Addr} {m_CLOSERS_1:Nat} {sl_CLOSERS_1:Array (Option Value)} {k_CLOSERS_1_0:Tok} {k_CLOSERS_1_1:Tok} {k_CLOSERS_2:Tok} {a_CLOSERS_2:Addr} {od_CLOSERS_2:Option Addr} {m_CLOSERS_2:Nat} {sl_CLOSERS_2:Array (Option Value)} {k_CLOSERS_2_0:Tok}
  (a0:PySem.W.nsIn K mainGlobals "next_room" = some (some (.ref f0))) (l0:K.lookup f0=some ⟨oc0,od0,.func (PySem.W.fnOf "next_room" "next_room" (defArgs cg) (defBody cg) (defScope cg) .none kV0 dc0 pm0 an0 cd0 ct0),sl0⟩) (c0:PySem.W.codeIn K cd0 "next_room" = true) (k0:PySem.W.keepIn K (.ref f0)=true)
  (a1:PySem.W.nsIn K mainGlobals "room_from" = some (some (.ref f1))) (l1:K.lookup f1=some ⟨oc1,od1,.func (PySem.W.fnOf "room_from" "room_from" (defArgs bW) (defBody bW) (defScope bW) .none kV1 dc1 pm1 an1 cd1 ct1),sl1⟩) (c1:PySem.W.codeIn K cd1 "room_from" = true) (k1:PySem.W.keepIn K (.ref f1)=true)
  (a2:PySem.W.nsIn K mainGlobals "is_in" = some (some (.ref f2))) (l2:K.lookup f2=some ⟨oc2,od2,.func (PySem.W.fnOf "is_in" "is_in" (defArgs eK) (defBody eK) (defScope eK) .none kV2 dc2 pm2 an2 cd2 ct2),sl2⟩) (c2:PySem.W.codeIn K cd2 "is_in" = true) (k2:PySem.W.keepIn K (.ref f2)=true)
  (a3:PySem.W.nsIn K mainGlobals "without" = some (some (.ref f3))) (l3:K.lookup f3=some ⟨oc3,od3,.func (PySem.W.fnOf "without" "without" (defArgs dA) (defBody dA) (defScope dA) .none kV3 dc3 pm3 an3 cd3 ct3),sl3⟩) (c3:PySem.W.codeIn K cd3 "without" = true) (k3:PySem.W.keepIn K (.ref f3)=true)
  (a4:PySem.W.nsIn K mainGlobals "held_behind" = some (some (.ref f4))) (l4:K.lookup f4=some ⟨oc4,od4,.func (PySem.W.fnOf "held_behind" "held_behind" (defArgs b4) (defBody b4) (defScope b4) .none kV4 dc4 pm4 an4 cd4 ct4),sl4⟩) (c4:PySem.W.codeIn K cd4 "held_behind" = true) (k4:PySem.W.keepIn K (.ref f4)=true)
  (a5:PySem.W.nsIn K mainGlobals "is_of_two" = some (some (.ref f5))) (l5:K.lookup f5=some ⟨oc5,od5,.func (PySem.W.fnOf "is_of_two" "is_of_two" (defArgs cR) (defBody cR) (defScope cR) .none kV5 dc5 pm5 an5 cd5 ct5),sl5⟩) (c5:PySem.W.codeIn K cd5 "is_of_two" = true) (k5:PySem.W.keepIn K (.ref f5)=true)
  (a6:PySem.W.nsIn K mainGlobals "has_room" = some (some (.ref f6))) (l6:K.lookup f6=some ⟨oc6,od6,.func (PySem.W.fnOf "has_room" "has_room" (defArgs c_) (defBody c_) (defScope c_) .none kV6 dc6 pm6 an6 cd6 ct6),sl6⟩) (c6:PySem.W.codeIn K cd6 "has_room" = true) (k6:PySem.W.keepIn K (.ref f6)=true)
  (a7:PySem.W.nsIn K mainGlobals "texts_done" = some (some (.ref f7))) (l7:K.lookup f7=some ⟨oc7,od7,.func (PySem.W.fnOf "texts_done" "texts_done" (defArgs aW) (defBody aW) (defScope aW) .none kV7 dc7 pm7 an7 cd7 ct7),sl7⟩) (c7:PySem.W.codeIn K cd7 "texts_done" = true) (k7:PySem.W.keepIn K (.ref f7)=true)
  (a8:PySem.W.nsIn K mainGlobals "texts_at" = some (some (.ref f8))) (l8:K.lookup f8=some ⟨oc8,od8,.func (PySem.W.fnOf "texts_at" "texts_at" (defArgs cI) (defBody cI) (defScope cI) .none kV8 dc8 pm8 an8 cd8 ct8),sl8⟩) (c8:PySem.W.codeIn K cd8 "texts_at" = true) (k8:PySem.W.keepIn K (.ref f8)=true)
  (a9:PySem.W.nsIn K mainGlobals "room_behind" = some (some (.ref f9))) (l9:K.lookup f9=some ⟨oc9,od9,.func (PySem.W.fnOf "room_behind" "room_behind" (defArgs bU) (defBody bU) (defScope bU) .none kV9 dc9 pm9 an9 cd9 ct9),sl9⟩) (c9:PySem.W.codeIn K cd9 "room_behind" = true) (k9:PySem.W.keepIn K (.ref f9)=true)
  (a10:PySem.W.nsIn K mainGlobals "behind_at" = some (some (.ref f10))) (l10:K.lookup f10=some ⟨oc10,od10,.func (PySem.W.fnOf "behind_at" "behind_at" (defArgs aN) (defBody aN) (defScope aN) .none kV10 dc10 pm10 an10 cd10 ct10),sl10⟩) (c10:PySem.W.codeIn K cd10 "behind_at" = true) (k10:PySem.W.keepIn K (.ref f10)=true)
  (a11:PySem.W.nsIn K mainGlobals "rooms_at" = some (some (.ref f11))) (l11:K.lookup f11=some ⟨oc11,od11,.func (PySem.W.fnOf "rooms_at" "rooms_at" (defArgs bT) (defBody bT) (defScope bT) .none kV11 dc11 pm11 an11 cd11 ct11),sl11⟩) (c11:PySem.W.codeIn K cd11 "rooms_at" = true) (k11:PySem.W.keepIn K (.ref f11)=true)
  (a12:PySem.W.nsIn K mainGlobals "breaks_at" = some (some (.ref f12))) (l12:K.lookup f12=some ⟨oc12,od12,.func (PySem.W.fnOf "breaks_at" "breaks_at" (defArgs cf) (defBody cf) (defScope cf) .none kV12 dc12 pm12 an12 cd12 ct12),sl12⟩) (c12:PySem.W.codeIn K cd12 "breaks_at" = true) (k12:PySem.W.keepIn K (.ref f12)=true)
  (a13:PySem.W.nsIn K mainGlobals "closers_of" = some (some (.ref f13))) (l13:K.lookup f13=some ⟨oc13,od13,.func (PySem.W.fnOf "closers_of" "closers_of" (defArgs cF) (defBody cF) (defScope cF) .none kV13 dc13 pm13 an13 cd13 ct13),sl13⟩) (c13:PySem.W.codeIn K cd13 "closers_of" = true) (k13:PySem.W.keepIn K (.ref f13)=true)
  (a14:PySem.W.nsIn K mainGlobals "head_of" = some (some (.ref f14))) (l14:K.lookup f14=some ⟨oc14,od14,.func (PySem.W.fnOf "head_of" "head_of" (defArgs dc) (defBody dc) (defScope dc) .none kV14 dc14 pm14 an14 cd14 ct14),sl14⟩) (c14:PySem.W.codeIn K cd14 "head_of" = true) (k14:PySem.W.keepIn K (.ref f14)=true)
  (a15:PySem.W.nsIn K mainGlobals "blocks_of" = some (some (.ref f15))) (l15:K.lookup f15=some ⟨oc15,od15,.func (PySem.W.fnOf "blocks_of" "blocks_of" (defArgs cD) (defBody cD) (defScope cD) .none kV15 dc15 pm15 an15 cd15 ct15),sl15⟩) (c15:PySem.W.codeIn K cd15 "blocks_of" = true) (k15:PySem.W.keepIn K (.ref f15)=true)
  (a16:PySem.W.nsIn K mainGlobals "steps_within" = some (some (.ref f16))) (l16:K.lookup f16=some ⟨oc16,od16,.func (PySem.W.fnOf "steps_within" "steps_within" (defArgs bm) (defBody bm) (defScope bm) .none kV16 dc16 pm16 an16 cd16 ct16),sl16⟩) (c16:PySem.W.codeIn K cd16 "steps_within" = true) (k16:PySem.W.keepIn K (.ref f16)=true)
  (a17:PySem.W.nsIn K mainGlobals "names_in" = some (some (.ref f17))) (l17:K.lookup f17=some ⟨oc17,od17,.func (PySem.W.fnOf "names_in" "names_in" (defArgs bE) (defBody bE) (defScope bE) .none kV17 dc17 pm17 an17 cd17 ct17),sl17⟩) (c17:PySem.W.codeIn K cd17 "names_in" = true) (k17:PySem.W.keepIn K (.ref f17)=true)
  (a18:PySem.W.nsIn K mainGlobals "names_of" = some (some (.ref f18))) (l18:K.lookup f18=some ⟨oc18,od18,.func (PySem.W.fnOf "names_of" "names_of" (defArgs cN) (defBody cN) (defScope cN) .none kV18 dc18 pm18 an18 cd18 ct18),sl18⟩) (c18:PySem.W.codeIn K cd18 "names_of" = true) (k18:PySem.W.keepIn K (.ref f18)=true)
  (a19:PySem.W.nsIn K mainGlobals "lines_of" = some (some (.ref f19))) (l19:K.lookup f19=some ⟨oc19,od19,.func (PySem.W.fnOf "lines_of" "lines_of" (defArgs a_) (defBody a_) (defScope a_) .none kV19 dc19 pm19 an19 cd19 ct19),sl19⟩) (c19:PySem.W.codeIn K cd19 "lines_of" = true) (k19:PySem.W.keepIn K (.ref f19)=true)
  (a20:PySem.W.nsIn K mainGlobals "line_behind" = some (some (.ref f20))) (l20:K.lookup f20=some ⟨oc20,od20,.func (PySem.W.fnOf "line_behind" "line_behind" (defArgs cj) (defBody cj) (defScope cj) .none kV20 dc20 pm20 an20 cd20 ct20),sl20⟩) (c20:PySem.W.codeIn K cd20 "line_behind" = true) (k20:PySem.W.keepIn K (.ref f20)=true)
  (a21:PySem.W.nsIn K mainGlobals "numbered_step" = some (some (.ref f21))) (l21:K.lookup f21=some ⟨oc21,od21,.func (PySem.W.fnOf "numbered_step" "numbered_step" (defArgs aH) (defBody aH) (defScope aH) .none kV21 dc21 pm21 an21 cd21 ct21),sl21⟩) (c21:PySem.W.codeIn K cd21 "numbered_step" = true) (k21:PySem.W.keepIn K (.ref f21)=true)
  (a22:PySem.W.nsIn K mainGlobals "numbered_steps" = some (some (.ref f22))) (l22:K.lookup f22=some ⟨oc22,od22,.func (PySem.W.fnOf "numbered_steps" "numbered_steps" (defArgs bf) (defBody bf) (defScope bf) .none kV22 dc22 pm22 an22 cd22 ct22),sl22⟩) (c22:PySem.W.codeIn K cd22 "numbered_steps" = true) (k22:PySem.W.keepIn K (.ref f22)=true)
  (a23:PySem.W.nsIn K mainGlobals "lend_lines" = some (some (.ref f23))) (l23:K.lookup f23=some ⟨oc23,od23,.func (PySem.W.fnOf "lend_lines" "lend_lines" (defArgs bz) (defBody bz) (defScope bz) .none kV23 dc23 pm23 an23 cd23 ct23),sl23⟩) (c23:PySem.W.codeIn K cd23 "lend_lines" = true) (k23:PySem.W.keepIn K (.ref f23)=true)
  (a24:PySem.W.nsIn K mainGlobals "slots_of" = some (some (.ref f24))) (l24:K.lookup f24=some ⟨oc24,od24,.func (PySem.W.fnOf "slots_of" "slots_of" (defArgs bO) (defBody bO) (defScope bO) .none kV24 dc24 pm24 an24 cd24 ct24),sl24⟩) (c24:PySem.W.codeIn K cd24 "slots_of" = true) (k24:PySem.W.keepIn K (.ref f24)=true)
  (a25:PySem.W.nsIn K mainGlobals "simple_row" = some (some (.ref f25))) (l25:K.lookup f25=some ⟨oc25,od25,.func (PySem.W.fnOf "simple_row" "simple_row" (defArgs bq) (defBody bq) (defScope bq) .none kV25 dc25 pm25 an25 cd25 ct25),sl25⟩) (c25:PySem.W.codeIn K cd25 "simple_row" = true) (k25:PySem.W.keepIn K (.ref f25)=true)
  (a26:PySem.W.nsIn K mainGlobals "lend_rows" = some (some (.ref f26))) (l26:K.lookup f26=some ⟨oc26,od26,.func (PySem.W.fnOf "lend_rows" "lend_rows" (defArgs aQ) (defBody aQ) (defScope aQ) .none kV26 dc26 pm26 an26 cd26 ct26),sl26⟩) (c26:PySem.W.codeIn K cd26 "lend_rows" = true) (k26:PySem.W.keepIn K (.ref f26)=true)
  (a27:PySem.W.nsIn K mainGlobals "if_rows" = some (some (.ref f27))) (l27:K.lookup f27=some ⟨oc27,od27,.func (PySem.W.fnOf "if_rows" "if_rows" (defArgs bu) (defBody bu) (defScope bu) .none kV27 dc27 pm27 an27 cd27 ct27),sl27⟩) (c27:PySem.W.codeIn K cd27 "if_rows" = true) (k27:PySem.W.keepIn K (.ref f27)=true)
  (a28:PySem.W.nsIn K mainGlobals "loop_rows" = some (some (.ref f28))) (l28:K.lookup f28=some ⟨oc28,od28,.func (PySem.W.fnOf "loop_rows" "loop_rows" (defArgs bG) (defBody bG) (defScope bG) .none kV28 dc28 pm28 an28 cd28 ct28),sl28⟩) (c28:PySem.W.codeIn K cd28 "loop_rows" = true) (k28:PySem.W.keepIn K (.ref f28)=true)
  (a29:PySem.W.nsIn K mainGlobals "while_rows" = some (some (.ref f29))) (l29:K.lookup f29=some ⟨oc29,od29,.func (PySem.W.fnOf "while_rows" "while_rows" (defArgs ba) (defBody ba) (defScope ba) .none kV29 dc29 pm29 an29 cd29 ct29),sl29⟩) (c29:PySem.W.codeIn K cd29 "while_rows" = true) (k29:PySem.W.keepIn K (.ref f29)=true)
  (a30:PySem.W.nsIn K mainGlobals "rows_of" = some (some (.ref f30))) (l30:K.lookup f30=some ⟨oc30,od30,.func (PySem.W.fnOf "rows_of" "rows_of" (defArgs bD) (defBody bD) (defScope bD) .none kV30 dc30 pm30 an30 cd30 ct30),sl30⟩) (c30:PySem.W.codeIn K cd30 "rows_of" = true) (k30:PySem.W.keepIn K (.ref f30)=true)
  (a31:PySem.W.nsIn K mainGlobals "rows_and_end" = some (some (.ref f31))) (l31:K.lookup f31=some ⟨oc31,od31,.func (PySem.W.fnOf "rows_and_end" "rows_and_end" (defArgs bv) (defBody bv) (defScope bv) .none kV31 dc31 pm31 an31 cd31 ct31),sl31⟩) (c31:PySem.W.codeIn K cd31 "rows_and_end" = true) (k31:PySem.W.keepIn K (.ref f31)=true)
  (a32:PySem.W.nsIn K mainGlobals "code_of" = some (some (.ref f32))) (l32:K.lookup f32=some ⟨oc32,od32,.func (PySem.W.fnOf "code_of" "code_of" (defArgs dz) (defBody dz) (defScope dz) .none kV32 dc32 pm32 an32 cd32 ct32),sl32⟩) (c32:PySem.W.codeIn K cd32 "code_of" = true) (k32:PySem.W.keepIn K (.ref f32)=true)
  (a33:PySem.W.nsIn K mainGlobals "turned_code" = some (some (.ref f33))) (l33:K.lookup f33=some ⟨oc33,od33,.func (PySem.W.fnOf "turned_code" "turned_code" (defArgs cy) (defBody cy) (defScope cy) .none kV33 dc33 pm33 an33 cd33 ct33),sl33⟩) (c33:PySem.W.codeIn K cd33 "turned_code" = true) (k33:PySem.W.keepIn K (.ref f33)=true)
  (a34:PySem.W.nsIn K mainGlobals "_law_cell_at" = some (some (.ref f34))) (l34:K.lookup f34=some ⟨oc34,od34,.func (PySem.W.fnOf "_law_cell_at" "_law_cell_at" (defArgs ci) (defBody ci) (defScope ci) .none kV34 dc34 pm34 an34 cd34 ct34),sl34⟩) (c34:PySem.W.codeIn K cd34 "_law_cell_at" = true) (k34:PySem.W.keepIn K (.ref f34)=true)
  (a35:PySem.W.nsIn K mainGlobals "_law_words" = some (some (.ref f35))) (l35:K.lookup f35=some ⟨oc35,od35,.func (PySem.W.fnOf "_law_words" "_law_words" (defArgs aI) (defBody aI) (defScope aI) .none kV35 dc35 pm35 an35 cd35 ct35),sl35⟩) (c35:PySem.W.codeIn K cd35 "_law_words" = true) (k35:PySem.W.keepIn K (.ref f35)=true)
  (a36:PySem.W.nsIn K mainGlobals "_law_step" = some (some (.ref f36))) (l36:K.lookup f36=some ⟨oc36,od36,.func (PySem.W.fnOf "_law_step" "_law_step" (defArgs bw) (defBody bw) (defScope bw) .none kV36 dc36 pm36 an36 cd36 ct36),sl36⟩) (c36:PySem.W.codeIn K cd36 "_law_step" = true) (k36:PySem.W.keepIn K (.ref f36)=true)
  (a37:PySem.W.nsIn K mainGlobals "_law_put" = some (some (.ref f37))) (l37:K.lookup f37=some ⟨oc37,od37,.func (PySem.W.fnOf "_law_put" "_law_put" (defArgs dC) (defBody dC) (defScope dC) .none kV37 dc37 pm37 an37 cd37 ct37),sl37⟩) (c37:PySem.W.codeIn K cd37 "_law_put" = true) (k37:PySem.W.keepIn K (.ref f37)=true)
  (a38:PySem.W.nsIn K mainGlobals "_law_close" = some (some (.ref f38))) (l38:K.lookup f38=some ⟨oc38,od38,.func (PySem.W.fnOf "_law_close" "_law_close" (defArgs bL) (defBody bL) (defScope bL) .none kV38 dc38 pm38 an38 cd38 ct38),sl38⟩) (c38:PySem.W.codeIn K cd38 "_law_close" = true) (k38:PySem.W.keepIn K (.ref f38)=true)
  (a39:PySem.W.nsIn K mainGlobals "_law_program" = some (some (.ref f39))) (l39:K.lookup f39=some ⟨oc39,od39,.func (PySem.W.fnOf "_law_program" "_law_program" (defArgs aO) (defBody aO) (defScope aO) .none kV39 dc39 pm39 an39 cd39 ct39),sl39⟩) (c39:PySem.W.codeIn K cd39 "_law_program" = true) (k39:PySem.W.keepIn K (.ref f39)=true)
  (a40:PySem.W.nsIn K mainGlobals "_law_rule" = some (some (.ref f40))) (l40:K.lookup f40=some ⟨oc40,od40,.func (PySem.W.fnOf "_law_rule" "_law_rule" (defArgs aJ) (defBody aJ) (defScope aJ) .none kV40 dc40 pm40 an40 cd40 ct40),sl40⟩) (c40:PySem.W.codeIn K cd40 "_law_rule" = true) (k40:PySem.W.keepIn K (.ref f40)=true)
  (a41:PySem.W.nsIn K mainGlobals "_law_slots" = some (some (.ref f41))) (l41:K.lookup f41=some ⟨oc41,od41,.func (PySem.W.fnOf "_law_slots" "_law_slots" (defArgs b6) (defBody b6) (defScope b6) .none kV41 dc41 pm41 an41 cd41 ct41),sl41⟩) (c41:PySem.W.codeIn K cd41 "_law_slots" = true) (k41:PySem.W.keepIn K (.ref f41)=true)
  (a42:PySem.W.nsIn K mainGlobals "_law_has" = some (some (.ref f42))) (l42:K.lookup f42=some ⟨oc42,od42,.func (PySem.W.fnOf "_law_has" "_law_has" (defArgs dB) (defBody dB) (defScope dB) .none kV42 dc42 pm42 an42 cd42 ct42),sl42⟩) (c42:PySem.W.codeIn K cd42 "_law_has" = true) (k42:PySem.W.keepIn K (.ref f42)=true)
  (a43:PySem.W.nsIn K mainGlobals "_law_next" = some (some (.ref f43))) (l43:K.lookup f43=some ⟨oc43,od43,.func (PySem.W.fnOf "_law_next" "_law_next" (defArgs cQ) (defBody cQ) (defScope cQ) .none kV43 dc43 pm43 an43 cd43 ct43),sl43⟩) (c43:PySem.W.codeIn K cd43 "_law_next" = true) (k43:PySem.W.keepIn K (.ref f43)=true)
  (a44:PySem.W.nsIn K mainGlobals "_law_code" = some (some (.ref f44))) (l44:K.lookup f44=some ⟨oc44,od44,.func (PySem.W.fnOf "_law_code" "_law_code" (defArgs aZ) (defBody aZ) (defScope aZ) .none kV44 dc44 pm44 an44 cd44 ct44),sl44⟩) (c44:PySem.W.codeIn K cd44 "_law_code" = true) (k44:PySem.W.keepIn K (.ref f44)=true)
  (a45:PySem.W.nsIn K mainGlobals "_law_pair" = some (some (.ref f45))) (l45:K.lookup f45=some ⟨oc45,od45,.func (PySem.W.fnOf "_law_pair" "_law_pair" (defArgs bF) (defBody bF) (defScope bF) .none kV45 dc45 pm45 an45 cd45 ct45),sl45⟩) (c45:PySem.W.codeIn K cd45 "_law_pair" = true) (k45:PySem.W.keepIn K (.ref f45)=true)
  (a46:PySem.W.nsIn K mainGlobals "_law_tokens" = some (some (.ref f46))) (l46:K.lookup f46=some ⟨oc46,od46,.func (PySem.W.fnOf "_law_tokens" "_law_tokens" (defArgs aV) (defBody aV) (defScope aV) .none kV46 dc46 pm46 an46 cd46 ct46),sl46⟩) (c46:PySem.W.codeIn K cd46 "_law_tokens" = true) (k46:PySem.W.keepIn K (.ref f46)=true)
  (a47:PySem.W.nsIn K mainGlobals "_law_texts" = some (some (.ref f47))) (l47:K.lookup f47=some ⟨oc47,od47,.func (PySem.W.fnOf "_law_texts" "_law_texts" (defArgs cw) (defBody cw) (defScope cw) .none kV47 dc47 pm47 an47 cd47 ct47),sl47⟩) (c47:PySem.W.codeIn K cd47 "_law_texts" = true) (k47:PySem.W.keepIn K (.ref f47)=true)
  (a48:PySem.W.nsIn K mainGlobals "_law_room" = some (some (.ref f48))) (l48:K.lookup f48=some ⟨oc48,od48,.func (PySem.W.fnOf "_law_room" "_law_room" (defArgs bS) (defBody bS) (defScope bS) .none kV48 dc48 pm48 an48 cd48 ct48),sl48⟩) (c48:PySem.W.codeIn K cd48 "_law_room" = true) (k48:PySem.W.keepIn K (.ref f48)=true)
  (a49:PySem.W.nsIn K mainGlobals "_law_due" = some (some (.ref f49))) (l49:K.lookup f49=some ⟨oc49,od49,.func (PySem.W.fnOf "_law_due" "_law_due" (defArgs cA) (defBody cA) (defScope cA) .none kV49 dc49 pm49 an49 cd49 ct49),sl49⟩) (c49:PySem.W.codeIn K cd49 "_law_due" = true) (k49:PySem.W.keepIn K (.ref f49)=true)
  (a50:PySem.W.nsIn K mainGlobals "_law_right" = some (some (.ref f50))) (l50:K.lookup f50=some ⟨oc50,od50,.func (PySem.W.fnOf "_law_right" "_law_right" (defArgs bC) (defBody bC) (defScope bC) .none kV50 dc50 pm50 an50 cd50 ct50),sl50⟩) (c50:PySem.W.codeIn K cd50 "_law_right" = true) (k50:PySem.W.keepIn K (.ref f50)=true)
  (a51:PySem.W.nsIn K mainGlobals "law" = some (some (.ref f51))) (l51:K.lookup f51=some ⟨oc51,od51,.func (PySem.W.fnOf "law" "law" (defArgs aL) (defBody aL) (defScope aL) .none kV51 dc51 pm51 an51 cd51 ct51),sl51⟩) (c51:PySem.W.codeIn K cd51 "law" = true) (k51:PySem.W.keepIn K (.ref f51)=true)
  (y_isinstance:PySem.W.nsIn K mainGlobals "isinstance" = some none)
  (y_str:PySem.W.nsIn K mainGlobals "str" = some none)
  (y_int:PySem.W.nsIn K mainGlobals "int" = some none)
  (y_bool:PySem.W.nsIn K mainGlobals "bool" = some none)
  (y_tuple:PySem.W.nsIn K mainGlobals "tuple" = some none)
  (y_len:PySem.W.nsIn K mainGlobals "len" = some none)
  (y_range:PySem.W.nsIn K mainGlobals "range" = some none)
  (y_list:PySem.W.nsIn K mainGlobals "list" = some none)
  (y_zip:PySem.W.nsIn K mainGlobals "zip" = some none)
  (y_enumerate:PySem.W.nsIn K mainGlobals "enumerate" = some none)
  (y_sorted:PySem.W.nsIn K mainGlobals "sorted" = some none)
  (y_set:PySem.W.nsIn K mainGlobals "set" = some none)
  (y_max:PySem.W.nsIn K mainGlobals "max" = some none)
  (y_min:PySem.W.nsIn K mainGlobals "min" = some none)
  (n_NumberedStep:PySem.W.nsIn K mainGlobals "NumberedStep" = some (some (.ref C_NumberedStep))) (pg_NumberedStep:PySem.W.plainGet K C_NumberedStep Str.empty=true) (hd_NumberedStep:PySem.W.hasDictIn K C_NumberedStep=true) (po_NumberedStep:PySem.W.plainOver K C_NumberedStep=true) (sa_NumberedStep:PySem.W.findIn K (.ref C_NumberedStep) "__setattr__" = some (some (.builtin "object.__setattr__"))) (mk_NumberedStep:PySem.W.makesIn K C_NumberedStep=true) (kc_NumberedStep:PySem.W.keepIn K (.ref C_NumberedStep)=true)
  (nf_kind:PySem.W.findIn K (.ref C_NumberedStep) "kind" = some none)
  (nf_parts:PySem.W.findIn K (.ref C_NumberedStep) "parts" = some none)
  (nf_lines:PySem.W.findIn K (.ref C_NumberedStep) "lines" = some none)
  (nf_blocks:PySem.W.findIn K (.ref C_NumberedStep) "blocks" = some none)
  (aNumberedStep___init__:PySem.W.findIn K (.ref C_NumberedStep) "__init__" = some (some (.ref fNumberedStep___init__))) (iNumberedStep___init__:PySem.W.isFn K (.ref fNumberedStep___init__)=true) (lNumberedStep___init__:K.lookup fNumberedStep___init__=some ⟨ocNumberedStep___init__,odNumberedStep___init__,.func (PySem.W.fnOf "__init__" "NumberedStep.__init__" (defArgs aX) (defBody aX) (defScope aX) .none kVNumberedStep___init__ dcNumberedStep___init__ pmNumberedStep___init__ anNumberedStep___init__ cdNumberedStep___init__ ctNumberedStep___init__),slNumberedStep___init__⟩) (cNumberedStep___init__:PySem.W.codeIn K cdNumberedStep___init__ "NumberedStep.__init__" = true) (kNumberedStep___init__:PySem.W.keepIn K (.ref fNumberedStep___init__)=true)
  (h_PARTS:PySem.W.nsIn K mainGlobals "PARTS" = some (some (.ref d_PARTS)))
  (ld_PARTS:K.lookup d_PARTS=some ⟨.type "dict", none,.dict #[⟨PyData.keyHash w.params "open", .str "open" k_PARTS_0,.ref a_PARTS_0⟩,⟨PyData.keyHash w.params "do", .str "do" k_PARTS_1,.ref a_PARTS_1⟩,⟨PyData.keyHash w.params "copy", .str "copy" k_PARTS_2,.ref a_PARTS_2⟩,⟨PyData.keyHash w.params "drop", .str "drop" k_PARTS_3,.ref a_PARTS_3⟩,⟨PyData.keyHash w.params "tie", .str "tie" k_PARTS_4,.ref a_PARTS_4⟩,⟨PyData.keyHash w.params "lend", .str "lend" k_PARTS_5,.ref a_PARTS_5⟩,⟨PyData.keyHash w.params "if", .str "if" k_PARTS_6,.ref a_PARTS_6⟩,⟨PyData.keyHash w.params "while", .str "while" k_PARTS_7,.ref a_PARTS_7⟩] n_PARTS,#[]⟩)
  (la_PARTS_0:K.lookup a_PARTS_0=some ⟨.type "tuple", od_PARTS_0,.seq #[.str "name" k_PARTS_0_0] m_PARTS_0,sl_PARTS_0⟩)
  (la_PARTS_1:K.lookup a_PARTS_1=some ⟨.type "tuple", od_PARTS_1,.seq #[.str "word" k_PARTS_1_0,.str "name" k_PARTS_1_1] m_PARTS_1,sl_PARTS_1⟩)
  (la_PARTS_2:K.lookup a_PARTS_2=some ⟨.type "tuple", od_PARTS_2,.seq #[.str "name" k_PARTS_2_0,.str "name" k_PARTS_2_1] m_PARTS_2,sl_PARTS_2⟩)
  (la_PARTS_3:K.lookup a_PARTS_3=some ⟨.type "tuple", od_PARTS_3,.seq #[.str "name" k_PARTS_3_0] m_PARTS_3,sl_PARTS_3⟩)
  (la_PARTS_4:K.lookup a_PARTS_4=some ⟨.type "tuple", od_PARTS_4,.seq #[.str "name" k_PARTS_4_0,.str "name" k_PARTS_4_1] m_PARTS_4,sl_PARTS_4⟩)
  (la_PARTS_5:K.lookup a_PARTS_5=some ⟨.type "tuple", od_PARTS_5,.seq #[.str "name" k_PARTS_5_0,.str "name" k_PARTS_5_1,.str "steps" k_PARTS_5_2] m_PARTS_5,sl_PARTS_5⟩)
  (la_PARTS_6:K.lookup a_PARTS_6=some ⟨.type "tuple", od_PARTS_6,.seq #[.str "bound" k_PARTS_6_0,.str "steps" k_PARTS_6_1,.str "steps" k_PARTS_6_2] m_PARTS_6,sl_PARTS_6⟩)
  (la_PARTS_7:K.lookup a_PARTS_7=some ⟨.type "tuple", od_PARTS_7,.seq #[.str "bound" k_PARTS_7_0,.str "steps" k_PARTS_7_1] m_PARTS_7,sl_PARTS_7⟩)
  (dz_PARTS:(d_PARTS == sysModules)=false)
  (h_CLOSERS:PySem.W.nsIn K mainGlobals "CLOSERS" = some (some (.ref d_CLOSERS)))
  (ld_CLOSERS:K.lookup d_CLOSERS=some ⟨.type "dict", none,.dict #[⟨PyData.keyHash w.params "lend", .str "lend" k_CLOSERS_0,.ref a_CLOSERS_0⟩,⟨PyData.keyHash w.params "if", .str "if" k_CLOSERS_1,.ref a_CLOSERS_1⟩,⟨PyData.keyHash w.params "while", .str "while" k_CLOSERS_2,.ref a_CLOSERS_2⟩] n_CLOSERS,#[]⟩)
  (la_CLOSERS_0:K.lookup a_CLOSERS_0=some ⟨.type "tuple", od_CLOSERS_0,.seq #[.str "back" k_CLOSERS_0_0] m_CLOSERS_0,sl_CLOSERS_0⟩)
  (la_CLOSERS_1:K.lookup a_CLOSERS_1=some ⟨.type "tuple", od_CLOSERS_1,.seq #[.str "else" k_CLOSERS_1_0,.str "fi" k_CLOSERS_1_1] m_CLOSERS_1,sl_CLOSERS_1⟩)
  (la_CLOSERS_2:K.lookup a_CLOSERS_2=some ⟨.type "tuple", od_CLOSERS_2,.seq #[.str "done" k_CLOSERS_2_0] m_CLOSERS_2,sl_CLOSERS_2⟩)
  (dz_CLOSERS:(d_CLOSERS == sysModules)=false) :
  ∃ fd:FuncData,(∀ (s:Shared) (v:Value),BindsTo s fd ⟨[v],[]⟩ [("_law_script", v)])∧∀ base:Heap,K.In base→base.Ns mainGlobals mg→FnOk l.prog w K mg base ja 37 fa fd ["_law_script"] (nK K):=by
 have e:=hfa.symm.trans (PySem.W.mg_of X G a51)
 cases e;have D_next_room:DefAt K mg "next_room" cg:=⟨f0,_,aP (st:=cg) l0 c0 k0,PySem.W.mg_of X G a0⟩
 have D_room_from:DefAt K mg "room_from" bW:=⟨f1,_,aP (st:=bW) l1 c1 k1,PySem.W.mg_of X G a1⟩
 have D_is_in:DefAt K mg "is_in" eK:=⟨f2,_,aP (st:=eK) l2 c2 k2,PySem.W.mg_of X G a2⟩
 have D_without:DefAt K mg "without" dA:=⟨f3,_,aP (st:=dA) l3 c3 k3,PySem.W.mg_of X G a3⟩
 have D_held_behind:DefAt K mg "held_behind" b4:=⟨f4,_,aP (st:=b4) l4 c4 k4,PySem.W.mg_of X G a4⟩
 have D_is_of_two:DefAt K mg "is_of_two" cR:=⟨f5,_,aP (st:=cR) l5 c5 k5,PySem.W.mg_of X G a5⟩
 have D_has_room:DefAt K mg "has_room" c_:=⟨f6,_,aP (st:=c_) l6 c6 k6,PySem.W.mg_of X G a6⟩
 have D_texts_done:DefAt K mg "texts_done" aW:=⟨f7,_,aP (st:=aW) l7 c7 k7,PySem.W.mg_of X G a7⟩
 have D_texts_at:DefAt K mg "texts_at" cI:=⟨f8,_,aP (st:=cI) l8 c8 k8,PySem.W.mg_of X G a8⟩
 have D_room_behind:DefAt K mg "room_behind" bU:=⟨f9,_,aP (st:=bU) l9 c9 k9,PySem.W.mg_of X G a9⟩
 have D_behind_at:DefAt K mg "behind_at" aN:=⟨f10,_,aP (st:=aN) l10 c10 k10,PySem.W.mg_of X G a10⟩
 have D_rooms_at:DefAt K mg "rooms_at" bT:=⟨f11,_,aP (st:=bT) l11 c11 k11,PySem.W.mg_of X G a11⟩
 have D_breaks_at:DefAt K mg "breaks_at" cf:=⟨f12,_,aP (st:=cf) l12 c12 k12,PySem.W.mg_of X G a12⟩
 have D_closers_of:DefAt K mg "closers_of" cF:=⟨f13,_,aP (st:=cF) l13 c13 k13,PySem.W.mg_of X G a13⟩
 have D_head_of:DefAt K mg "head_of" dc:=⟨f14,_,aP (st:=dc) l14 c14 k14,PySem.W.mg_of X G a14⟩
 have D_blocks_of:DefAt K mg "blocks_of" cD:=⟨f15,_,aP (st:=cD) l15 c15 k15,PySem.W.mg_of X G a15⟩
 have D_steps_within:DefAt K mg "steps_within" bm:=⟨f16,_,aP (st:=bm) l16 c16 k16,PySem.W.mg_of X G a16⟩
 have D_names_in:DefAt K mg "names_in" bE:=⟨f17,_,aP (st:=bE) l17 c17 k17,PySem.W.mg_of X G a17⟩
 have D_names_of:DefAt K mg "names_of" cN:=⟨f18,_,aP (st:=cN) l18 c18 k18,PySem.W.mg_of X G a18⟩
 have D_lines_of:DefAt K mg "lines_of" a_:=⟨f19,_,aP (st:=a_) l19 c19 k19,PySem.W.mg_of X G a19⟩
 have D_line_behind:DefAt K mg "line_behind" cj:=⟨f20,_,aP (st:=cj) l20 c20 k20,PySem.W.mg_of X G a20⟩
 have D_numbered_step:DefAt K mg "numbered_step" aH:=⟨f21,_,aP (st:=aH) l21 c21 k21,PySem.W.mg_of X G a21⟩
 have D_numbered_steps:DefAt K mg "numbered_steps" bf:=⟨f22,_,aP (st:=bf) l22 c22 k22,PySem.W.mg_of X G a22⟩
 have D_lend_lines:DefAt K mg "lend_lines" bz:=⟨f23,_,aP (st:=bz) l23 c23 k23,PySem.W.mg_of X G a23⟩
 have D_slots_of:DefAt K mg "slots_of" bO:=⟨f24,_,aP (st:=bO) l24 c24 k24,PySem.W.mg_of X G a24⟩
 have D_simple_row:DefAt K mg "simple_row" bq:=⟨f25,_,aP (st:=bq) l25 c25 k25,PySem.W.mg_of X G a25⟩
 have D_lend_rows:DefAt K mg "lend_rows" aQ:=⟨f26,_,aP (st:=aQ) l26 c26 k26,PySem.W.mg_of X G a26⟩
 have D_if_rows:DefAt K mg "if_rows" bu:=⟨f27,_,aP (st:=bu) l27 c27 k27,PySem.W.mg_of X G a27⟩
 have D_loop_rows:DefAt K mg "loop_rows" bG:=⟨f28,_,aP (st:=bG) l28 c28 k28,PySem.W.mg_of X G a28⟩
 have D_while_rows:DefAt K mg "while_rows" ba:=⟨f29,_,aP (st:=ba) l29 c29 k29,PySem.W.mg_of X G a29⟩
 have D_rows_of:DefAt K mg "rows_of" bD:=⟨f30,_,aP (st:=bD) l30 c30 k30,PySem.W.mg_of X G a30⟩
 have D_rows_and_end:DefAt K mg "rows_and_end" bv:=⟨f31,_,aP (st:=bv) l31 c31 k31,PySem.W.mg_of X G a31⟩
 have D_code_of:DefAt K mg "code_of" dz:=⟨f32,_,aP (st:=dz) l32 c32 k32,PySem.W.mg_of X G a32⟩
 have D_turned_code:DefAt K mg "turned_code" cy:=⟨f33,_,aP (st:=cy) l33 c33 k33,PySem.W.mg_of X G a33⟩
 have D_law_cell_at:DefAt K mg "_law_cell_at" ci:=⟨f34,_,aP (st:=ci) l34 c34 k34,PySem.W.mg_of X G a34⟩
 have D_law_words:DefAt K mg "_law_words" aI:=⟨f35,_,aP (st:=aI) l35 c35 k35,PySem.W.mg_of X G a35⟩
 have D_law_step:DefAt K mg "_law_step" bw:=⟨f36,_,aP (st:=bw) l36 c36 k36,PySem.W.mg_of X G a36⟩
 have D_law_put:DefAt K mg "_law_put" dC:=⟨f37,_,aP (st:=dC) l37 c37 k37,PySem.W.mg_of X G a37⟩
 have D_law_close:DefAt K mg "_law_close" bL:=⟨f38,_,aP (st:=bL) l38 c38 k38,PySem.W.mg_of X G a38⟩
 have D_law_program:DefAt K mg "_law_program" aO:=⟨f39,_,aP (st:=aO) l39 c39 k39,PySem.W.mg_of X G a39⟩
 have D_law_rule:DefAt K mg "_law_rule" aJ:=⟨f40,_,aP (st:=aJ) l40 c40 k40,PySem.W.mg_of X G a40⟩
 have D_law_slots:DefAt K mg "_law_slots" b6:=⟨f41,_,aP (st:=b6) l41 c41 k41,PySem.W.mg_of X G a41⟩
 have D_law_has:DefAt K mg "_law_has" dB:=⟨f42,_,aP (st:=dB) l42 c42 k42,PySem.W.mg_of X G a42⟩
 have D_law_next:DefAt K mg "_law_next" cQ:=⟨f43,_,aP (st:=cQ) l43 c43 k43,PySem.W.mg_of X G a43⟩
 have D_law_code:DefAt K mg "_law_code" aZ:=⟨f44,_,aP (st:=aZ) l44 c44 k44,PySem.W.mg_of X G a44⟩
 have D_law_pair:DefAt K mg "_law_pair" bF:=⟨f45,_,aP (st:=bF) l45 c45 k45,PySem.W.mg_of X G a45⟩
 have D_law_tokens:DefAt K mg "_law_tokens" aV:=⟨f46,_,aP (st:=aV) l46 c46 k46,PySem.W.mg_of X G a46⟩
 have D_law_texts:DefAt K mg "_law_texts" cw:=⟨f47,_,aP (st:=cw) l47 c47 k47,PySem.W.mg_of X G a47⟩
 have D_law_room:DefAt K mg "_law_room" bS:=⟨f48,_,aP (st:=bS) l48 c48 k48,PySem.W.mg_of X G a48⟩
 have D_law_due:DefAt K mg "_law_due" cA:=⟨f49,_,aP (st:=cA) l49 c49 k49,PySem.W.mg_of X G a49⟩
 have D_law_right:DefAt K mg "_law_right" bC:=⟨f50,_,aP (st:=bC) l50 c50 k50,PySem.W.mg_of X G a50⟩
 have z_isinstance:mg "isinstance" = none:=PySem.W.mg_none_of X G y_isinstance
 have z_str:mg "str" = none:=PySem.W.mg_none_of X G y_str
 have z_int:mg "int" = none:=PySem.W.mg_none_of X G y_int
 have z_bool:mg "bool" = none:=PySem.W.mg_none_of X G y_bool
 have z_tuple:mg "tuple" = none:=PySem.W.mg_none_of X G y_tuple
 have z_len:mg "len" = none:=PySem.W.mg_none_of X G y_len
 have z_range:mg "range" = none:=PySem.W.mg_none_of X G y_range
 have z_list:mg "list" = none:=PySem.W.mg_none_of X G y_list
 have z_zip:mg "zip" = none:=PySem.W.mg_none_of X G y_zip
 have z_enumerate:mg "enumerate" = none:=PySem.W.mg_none_of X G y_enumerate
 have z_sorted:mg "sorted" = none:=PySem.W.mg_none_of X G y_sorted
 have z_set:mg "set" = none:=PySem.W.mg_none_of X G y_set
 have z_max:mg "max" = none:=PySem.W.mg_none_of X G y_max
 have z_min:mg "min" = none:=PySem.W.mg_none_of X G y_min
 have cl_NumberedStep:Cls K C_NumberedStep:=⟨pg_NumberedStep,hd_NumberedStep,po_NumberedStep,sa_NumberedStep⟩
 have a_kind:Fl K C_NumberedStep "kind" := ⟨cl_NumberedStep,nf_kind⟩
 have a_parts:Fl K C_NumberedStep "parts" := ⟨cl_NumberedStep,nf_parts⟩
 have a_lines:Fl K C_NumberedStep "lines" := ⟨cl_NumberedStep,nf_lines⟩
 have a_blocks:Fl K C_NumberedStep "blocks" := ⟨cl_NumberedStep,nf_blocks⟩
 have D_NumberedStep:MakeAt K mg "NumberedStep" C_NumberedStep "NumberedStep.__init__" aX:=⟨fNumberedStep___init__,_,aP (st:=aX) lNumberedStep___init__ cNumberedStep___init__ kNumberedStep___init__,⟨mk_NumberedStep,aNumberedStep___init__,iNumberedStep___init__,kc_NumberedStep⟩,PySem.W.mg_of X G n_NumberedStep⟩
 have g_PARTS:mg "PARTS" = some (.ref d_PARTS):=PySem.W.mg_of X G h_PARTS
 have m_PARTS:ModD w K d_PARTS [("open", .ref a_PARTS_0),("do", .ref a_PARTS_1),("copy", .ref a_PARTS_2),("drop", .ref a_PARTS_3),("tie", .ref a_PARTS_4),("lend", .ref a_PARTS_5),("if", .ref a_PARTS_6),("while", .ref a_PARTS_7)]:=⟨dz_PARTS,(show (["open", "do", "copy", "drop", "tie", "lend", "if", "while"]:List Str).Nodup from by decide),_,[⟨PyData.keyHash w.params "open", .str "open" k_PARTS_0,.ref a_PARTS_0⟩,⟨PyData.keyHash w.params "do", .str "do" k_PARTS_1,.ref a_PARTS_1⟩,⟨PyData.keyHash w.params "copy", .str "copy" k_PARTS_2,.ref a_PARTS_2⟩,⟨PyData.keyHash w.params "drop", .str "drop" k_PARTS_3,.ref a_PARTS_3⟩,⟨PyData.keyHash w.params "tie", .str "tie" k_PARTS_4,.ref a_PARTS_4⟩,⟨PyData.keyHash w.params "lend", .str "lend" k_PARTS_5,.ref a_PARTS_5⟩,⟨PyData.keyHash w.params "if", .str "if" k_PARTS_6,.ref a_PARTS_6⟩,⟨PyData.keyHash w.params "while", .str "while" k_PARTS_7,.ref a_PARTS_7⟩],n_PARTS,ld_PARTS,⟨rfl,rfl,rfl⟩,rfl,.cons rfl (.cons rfl (.cons rfl (.cons rfl (.cons rfl (.cons rfl (.cons rfl (.cons rfl (.nil))))))))⟩
 have q_PARTS_0:∀ H:Hp,SqT K H a_PARTS_0 [.str "name"]:=fun H=>.inr ⟨_,_,_,la_PARTS_0,rfl,rfl,aR (show 1≤1000000 from by decide),.cons ⟨_,rfl⟩ (.nil)⟩
 have q_PARTS_1:∀ H:Hp,SqT K H a_PARTS_1 [.str "word", .str "name"]:=fun H=>.inr ⟨_,_,_,la_PARTS_1,rfl,rfl,aR (show 2≤1000000 from by decide),.cons ⟨_,rfl⟩ (.cons ⟨_,rfl⟩ (.nil))⟩
 have q_PARTS_2:∀ H:Hp,SqT K H a_PARTS_2 [.str "name", .str "name"]:=fun H=>.inr ⟨_,_,_,la_PARTS_2,rfl,rfl,aR (show 2≤1000000 from by decide),.cons ⟨_,rfl⟩ (.cons ⟨_,rfl⟩ (.nil))⟩
 have q_PARTS_3:∀ H:Hp,SqT K H a_PARTS_3 [.str "name"]:=fun H=>.inr ⟨_,_,_,la_PARTS_3,rfl,rfl,aR (show 1≤1000000 from by decide),.cons ⟨_,rfl⟩ (.nil)⟩
 have q_PARTS_4:∀ H:Hp,SqT K H a_PARTS_4 [.str "name", .str "name"]:=fun H=>.inr ⟨_,_,_,la_PARTS_4,rfl,rfl,aR (show 2≤1000000 from by decide),.cons ⟨_,rfl⟩ (.cons ⟨_,rfl⟩ (.nil))⟩
 have q_PARTS_5:∀ H:Hp,SqT K H a_PARTS_5 [.str "name", .str "name", .str "steps"]:=fun H=>.inr ⟨_,_,_,la_PARTS_5,rfl,rfl,aR (show 3≤1000000 from by decide),.cons ⟨_,rfl⟩ (.cons ⟨_,rfl⟩ (.cons ⟨_,rfl⟩ (.nil)))⟩
 have q_PARTS_6:∀ H:Hp,SqT K H a_PARTS_6 [.str "bound", .str "steps", .str "steps"]:=fun H=>.inr ⟨_,_,_,la_PARTS_6,rfl,rfl,aR (show 3≤1000000 from by decide),.cons ⟨_,rfl⟩ (.cons ⟨_,rfl⟩ (.cons ⟨_,rfl⟩ (.nil)))⟩
 have q_PARTS_7:∀ H:Hp,SqT K H a_PARTS_7 [.str "bound", .str "steps"]:=fun H=>.inr ⟨_,_,_,la_PARTS_7,rfl,rfl,aR (show 2≤1000000 from by decide),.cons ⟨_,rfl⟩ (.cons ⟨_,rfl⟩ (.nil))⟩
 have g_CLOSERS:mg "CLOSERS" = some (.ref d_CLOSERS):=PySem.W.mg_of X G h_CLOSERS
 have m_CLOSERS:ModD w K d_CLOSERS [("lend", .ref a_CLOSERS_0),("if", .ref a_CLOSERS_1),("while", .ref a_CLOSERS_2)]:=⟨dz_CLOSERS,(show (["lend", "if", "while"]:List Str).Nodup from by decide),_,[⟨PyData.keyHash w.params "lend", .str "lend" k_CLOSERS_0,.ref a_CLOSERS_0⟩,⟨PyData.keyHash w.params "if", .str "if" k_CLOSERS_1,.ref a_CLOSERS_1⟩,⟨PyData.keyHash w.params "while", .str "while" k_CLOSERS_2,.ref a_CLOSERS_2⟩],n_CLOSERS,ld_CLOSERS,⟨rfl,rfl,rfl⟩,rfl,.cons rfl (.cons rfl (.cons rfl (.nil)))⟩
 have q_CLOSERS_0:∀ H:Hp,SqT K H a_CLOSERS_0 [.str "back"]:=fun H=>.inr ⟨_,_,_,la_CLOSERS_0,rfl,rfl,aR (show 1≤1000000 from by decide),.cons ⟨_,rfl⟩ (.nil)⟩
 have q_CLOSERS_1:∀ H:Hp,SqT K H a_CLOSERS_1 [.str "else", .str "fi"]:=fun H=>.inr ⟨_,_,_,la_CLOSERS_1,rfl,rfl,aR (show 2≤1000000 from by decide),.cons ⟨_,rfl⟩ (.cons ⟨_,rfl⟩ (.nil))⟩
 have q_CLOSERS_2:∀ H:Hp,SqT K H a_CLOSERS_2 [.str "done"]:=fun H=>.inr ⟨_,_,_,la_CLOSERS_2,rfl,rfl,aR (show 1≤1000000 from by decide),.cons ⟨_,rfl⟩ (.nil)⟩
 have F:=aP (st:=aL) l51 c51 k51;refine⟨PySem.W.fnOf "law" "law" (defArgs aL) (defBody aL) (defScope aL) .none kV51 dc51 pm51 an51 cd51 ct51,fun s v=>.of_eq rfl,fun base _ _=>?_⟩
 have c1:=BA (P:=l.prog) (w:=w) (base:=base) D_law_cell_at z_len;have d1:=tU (P:=l.prog) (w:=w) (base:=base) D_closers_of g_CLOSERS m_CLOSERS q_CLOSERS_0 q_CLOSERS_1 q_CLOSERS_2;have d2:=AE D_head_of z_len d1;have d3:=wm D_blocks_of z_len d2;have d4:=mj D_steps_within d3 10;have d5:=vN (P:=l.prog) (w:=w) (base:=base) D_names_in z_zip z_list g_PARTS m_PARTS (yE q_PARTS_0 q_PARTS_1 q_PARTS_2 q_PARTS_3 q_PARTS_4 q_PARTS_5 q_PARTS_6 q_PARTS_7);have d6:=yP (uS D_names_of d5 d4);have d7:=pJ D_lines_of z_str z_zip d1 d2 d3 10;have d8:=qj D_lend_lines z_enumerate d7;have d9:=y_ (NO:=NOt) NOt.mono D_slots_of z_enumerate (vR d6 (k:=15) (by decide)) d8
 have k0:=yB (P:=l.prog) (w:=w) (base:=base) D_NumberedStep a_kind a_parts a_lines a_blocks;have b0:=xC (P:=l.prog) (w:=w) (base:=base) D_line_behind z_len a_lines;have n0:=rK D_numbered_step D_numbered_steps d2 d3 b0 k0 10;have r0:=rV (P:=l.prog) (w:=w) (base:=base) D_rows_of D_lend_rows D_if_rows D_loop_rows D_while_rows D_simple_row z_len z_tuple a_kind a_parts a_lines a_blocks 10;have r1:=uQ (NO:=NOt) (d:=10) (k:=33) NOt.mono D_rows_and_end (by decide) n0 r0 (vR d9 (by decide)) b0 (by decide) (by decide)
 have r2:=wQ D_turned_code r1;have r3:=A0 D_code_of r1;have pu:=DR (P:=l.prog) (w:=w) (base:=base) D_law_put;have pg:=ui D_law_program z_len z_int (AO D_law_step z_len) pu (zC D_law_close pu);have ii:=AY (P:=l.prog) (w:=w) (base:=base) D_is_in;have tw:=Dh (P:=l.prog) (w:=w) (base:=base) D_is_of_two z_len;have ha:=Co (P:=l.prog) (w:=w) (base:=base) D_has_room z_len;have hb:=AI D_held_behind ii (uX D_without);have tx:=xV D_texts_at (AW D_texts_done ii tw) tw;have nr:=Bo (P:=l.prog) (w:=w) (base:=base) D_next_room;have rb:=x6 D_room_behind (oB D_room_from nr) tx;have bh:=Dp D_behind_at z_tuple tw ha hb rb;have bk:=DU D_breaks_at (yq D_rooms_at nr ha rb);have lh:=Bw (P:=l.prog) (w:=w) (base:=base) D_law_has;have ln:=zn (P:=l.prog) (w:=w) (base:=base) D_law_next;have du:=yG D_law_due z_len (zO D_law_room (wz D_law_texts lh) ln) ln;have rg:=u3 D_law_right z_isinstance z_bool du bk bh;have wd:=yk (P:=l.prog) (w:=w) (base:=base) D_law_words z_range z_int;have pa:=Bm (P:=l.prog) (w:=w) (base:=base) D_law_pair z_int z_range;exact C8 F z_len z_range z_list z_int z_min c1 wd (xk D_law_rule z_range z_len z_sorted z_set) (ze D_law_code c1 wd pg r3 r2) (wb D_law_slots z_max) rg pa (AL D_law_tokens z_range z_len z_list pa)
theorem walk{l:PySem.W.OpenLaw}{q:Program}{loose:List Str}{XP:(Str→Option Value)→Heap→Prop}{YP:World→Heap→Prop}{d:DefRec}{K:Params→PySem.W.Frag}(hn:l.most=some 63)(hdf:d.params.defaults=[])
  (hY:∀ (w:World) (h:Heap),YP w h→(K w.params).In h)
  (F:∀ (w:World) (mg:Str→Option Value) (fa:Addr) (h:Heap),(K w.params).In h→h.Ns mainGlobals mg→mg d.name=some (.ref fa)→
   ∃ fd:FuncData,(∀ (s:Shared) (u:Value),BindsTo s fd ⟨[u],[]⟩ [("_law_script", u)])∧∀ base:Heap,(K w.params).In base→base.Ns mainGlobals mg→FnOk l.prog w (K w.params) mg base ja 37 fa fd ["_law_script"] (nK (K w.params))) :
  PySem.W.WalkO q loose XP YP l.row.toRowW d [] (fun f vs=>PySem.call f vs):=
 L2.walk_of (n:=63) (k:=37) (x := "_law_script") (CX:=fun _=>ja) (sp:=fun w=>nK (K w.params)) hn (by decide) hdf ⟨rfl,by decide,by decide⟩ hY F (fun _ _ a ns hl _ hS=>⟨a,ns,rfl,hS,hl,fun _=>rfl⟩) fun _ _ _ _ _ z=>z
end K54
end
open PySem PySem.W PyProof.Rows
set_option maxRecDepth 100000 in
set_option maxHeartbeats 0 in
theorem PySem.Challenge.cw_usewarden_k54_which_break_holds : PySem.Challenge.rw_usewarden_k54_which_break.Holds := by
 w_on
 refine holds_law (by decide +kernel) fun said=>?_
 refine holds_open (q:=K54.qq) (loose:=K54.loo) (Xt:=K54.xt) (XP:=XL K54.qq []) (Yf:=Hook.obs (kHook K54.KK K54.kk K54.kk_eq)) (Ya:=Hook.val (kHook K54.KK K54.kk K54.kk_eq)) (YP:=Hook.says (kHook K54.KK K54.kk K54.kk_eq)) (N:=4382) K54.hl (Hook.of (kHook K54.KK K54.kk K54.kk_eq)) (Hook.keeps (kHook K54.KK K54.kk K54.kk_eq)) (fun s e=>xl_of s (Bool.and_eq_true_iff.mp e).1) XL.keeps (by rfl) (by rfl) (by rfl) (fun s e=>recFacts_of (Bool.and_eq_true_iff.mp e).2) (by rfl) said (by decide +kernel) ⟨rfl,rfl,rfl,rfl,rfl,by decide +kernel⟩ ?hw ?hc
 (case hw=>w_witness2)
 k_fill
 refine K54.walk (l:=PySem.Challenge.rw_usewarden_k54_which_break) rfl rfl (fun w h Y=>PySem.W.kIn_of Y) ?F
 case F=>
  intro w mg fa h KX G hmg
  refine' K54.all_mk KX G hmg ?a0 ?l0 ?c0 ?k0 ?a1 ?l1 ?c1 ?k1 ?a2 ?l2 ?c2 ?k2 ?a3 ?l3 ?c3 ?k3 ?a4 ?l4 ?c4 ?k4 ?a5 ?l5 ?c5 ?k5 ?a6 ?l6 ?c6 ?k6 ?a7 ?l7 ?c7 ?k7 ?a8 ?l8 ?c8 ?k8 ?a9 ?l9 ?c9 ?k9 ?a10 ?l10 ?c10 ?k10 ?a11 ?l11 ?c11 ?k11 ?a12 ?l12 ?c12 ?k12 ?a13 ?l13 ?c13 ?k13 ?a14 ?l14 ?c14 ?k14 ?a15 ?l15 ?c15 ?k15 ?a16 ?l16 ?c16 ?k16 ?a17 ?l17 ?c17 ?k17 ?a18 ?l18 ?c18 ?k18 ?a19 ?l19 ?c19 ?k19 ?a20 ?l20 ?c20 ?k20 ?a21 ?l21 ?c21 ?k21 ?a22 ?l22 ?c22 ?k22 ?a23 ?l23 ?c23 ?k23 ?a24 ?l24 ?c24 ?k24 ?a25 ?l25 ?c25 ?k25 ?a26 ?l26 ?c26 ?k26 ?a27 ?l27 ?c27 ?k27 ?a28 ?l28 ?c28 ?k28 ?a29 ?l29 ?c29 ?k29 ?a30 ?l30 ?c30 ?k30 ?a31 ?l31 ?c31 ?k31 ?a32 ?l32 ?c32 ?k32 ?a33 ?l33 ?c33 ?k33 ?a34 ?l34 ?c34 ?k34 ?a35 ?l35 ?c35 ?k35 ?a36 ?l36 ?c36 ?k36 ?a37 ?l37 ?c37 ?k37 ?a38 ?l38 ?c38 ?k38 ?a39 ?l39 ?c39 ?k39 ?a40 ?l40 ?c40 ?k40 ?a41 ?l41 ?c41 ?k41 ?a42 ?l42 ?c42 ?k42 ?a43 ?l43 ?c43 ?k43 ?a44 ?l44 ?c44 ?k44 ?a45 ?l45 ?c45 ?k45 ?a46 ?l46 ?c46 ?k46 ?a47 ?l47 ?c47 ?k47 ?a48 ?l48 ?c48 ?k48 ?a49 ?l49 ?c49 ?k49 ?a50 ?l50 ?c50 ?k50 ?a51 ?l51 ?c51 ?k51 ?y_isinstance ?y_str ?y_int ?y_bool ?y_tuple ?y_len ?y_range ?y_list ?y_zip ?y_enumerate ?y_sorted ?y_set ?y_max ?y_min ?n_NumberedStep ?pg_NumberedStep ?hd_NumberedStep ?po_NumberedStep ?sa_NumberedStep ?mk_NumberedStep ?kc_NumberedStep ?nf_kind ?nf_parts ?nf_lines ?nf_blocks ?aNumberedStep___init__ ?iNumberedStep___init__ ?lNumberedStep___init__ ?cNumberedStep___init__ ?kNumberedStep___init__ ?h_PARTS ?ld_PARTS ?la_PARTS_0 ?la_PARTS_1 ?la_PARTS_2 ?la_PARTS_3 ?la_PARTS_4 ?la_PARTS_5 ?la_PARTS_6 ?la_PARTS_7 ?dz_PARTS ?h_CLOSERS ?ld_CLOSERS ?la_CLOSERS_0 ?la_CLOSERS_1 ?la_CLOSERS_2 ?dz_CLOSERS
  (case a0=>k_is)
  (case l0=>k_is)
  (case c0=>k_is)
  (case k0=>k_is)
  (case a1=>k_is)
  (case l1=>k_is)
  (case c1=>k_is)
  (case k1=>k_is)
  (case a2=>k_is)
  (case l2=>k_is)
  (case c2=>k_is)
  (case k2=>k_is)
  (case a3=>k_is)
  (case l3=>k_is)
  (case c3=>k_is)
  (case k3=>k_is)
  (case a4=>k_is)
  (case l4=>k_is)
  (case c4=>k_is)
  (case k4=>k_is)
  (case a5=>k_is)
  (case l5=>k_is)
  (case c5=>k_is)
  (case k5=>k_is)
  (case a6=>k_is)
  (case l6=>k_is)
  (case c6=>k_is)
  (case k6=>k_is)
  (case a7=>k_is)
  (case l7=>k_is)
  (case c7=>k_is)
  (case k7=>k_is)
  (case a8=>k_is)
  (case l8=>k_is)
  (case c8=>k_is)
  (case k8=>k_is)
  (case a9=>k_is)
  (case l9=>k_is)
  (case c9=>k_is)
  (case k9=>k_is)
  (case a10=>k_is)
  (case l10=>k_is)
  (case c10=>k_is)
  (case k10=>k_is)
  (case a11=>k_is)
  (case l11=>k_is)
  (case c11=>k_is)
  (case k11=>k_is)
  (case a12=>k_is)
  (case l12=>k_is)
  (case c12=>k_is)
  (case k12=>k_is)
  (case a13=>k_is)
  (case l13=>k_is)
  (case c13=>k_is)
  (case k13=>k_is)
  (case a14=>k_is)
  (case l14=>k_is)
  (case c14=>k_is)
  (case k14=>k_is)
  (case a15=>k_is)
  (case l15=>k_is)
  (case c15=>k_is)
  (case k15=>k_is)
  (case a16=>k_is)
  (case l16=>k_is)
  (case c16=>k_is)
  (case k16=>k_is)
  (case a17=>k_is)
  (case l17=>k_is)
  (case c17=>k_is)
  (case k17=>k_is)
  (case a18=>k_is)
  (case l18=>k_is)
  (case c18=>k_is)
  (case k18=>k_is)
  (case a19=>k_is)
  (case l19=>k_is)
  (case c19=>k_is)
  (case k19=>k_is)
  (case a20=>k_is)
  (case l20=>k_is)
  (case c20=>k_is)
  (case k20=>k_is)
  (case a21=>k_is)
  (case l21=>k_is)
  (case c21=>k_is)
  (case k21=>k_is)
  (case a22=>k_is)
  (case l22=>k_is)
  (case c22=>k_is)
  (case k22=>k_is)
  (case a23=>k_is)
  (case l23=>k_is)
  (case c23=>k_is)
  (case k23=>k_is)
  (case a24=>k_is)
  (case l24=>k_is)
  (case c24=>k_is)
  (case k24=>k_is)
  (case a25=>k_is)
  (case l25=>k_is)
  (case c25=>k_is)
  (case k25=>k_is)
  (case a26=>k_is)
  (case l26=>k_is)
  (case c26=>k_is)
  (case k26=>k_is)
  (case a27=>k_is)
  (case l27=>k_is)
  (case c27=>k_is)
  (case k27=>k_is)
  (case a28=>k_is)
  (case l28=>k_is)
  (case c28=>k_is)
  (case k28=>k_is)
  (case a29=>k_is)
  (case l29=>k_is)
  (case c29=>k_is)
  (case k29=>k_is)
  (case a30=>k_is)
  (case l30=>k_is)
  (case c30=>k_is)
  (case k30=>k_is)
  (case a31=>k_is)
  (case l31=>k_is)
  (case c31=>k_is)
  (case k31=>k_is)
  (case a32=>k_is)
  (case l32=>k_is)
  (case c32=>k_is)
  (case k32=>k_is)
  (case a33=>k_is)
  (case l33=>k_is)
  (case c33=>k_is)
  (case k33=>k_is)
  (case a34=>k_is)
  (case l34=>k_is)
  (case c34=>k_is)
  (case k34=>k_is)
  (case a35=>k_is)
  (case l35=>k_is)
  (case c35=>k_is)
  (case k35=>k_is)
  (case a36=>k_is)
  (case l36=>k_is)
  (case c36=>k_is)
  (case k36=>k_is)
  (case a37=>k_is)
  (case l37=>k_is)
  (case c37=>k_is)
  (case k37=>k_is)
  (case a38=>k_is)
  (case l38=>k_is)
  (case c38=>k_is)
  (case k38=>k_is)
  (case a39=>k_is)
  (case l39=>k_is)
  (case c39=>k_is)
  (case k39=>k_is)
  (case a40=>k_is)
  (case l40=>k_is)
  (case c40=>k_is)
  (case k40=>k_is)
  (case a41=>k_is)
  (case l41=>k_is)
  (case c41=>k_is)
  (case k41=>k_is)
  (case a42=>k_is)
  (case l42=>k_is)
  (case c42=>k_is)
  (case k42=>k_is)
  (case a43=>k_is)
  (case l43=>k_is)
  (case c43=>k_is)
  (case k43=>k_is)
  (case a44=>k_is)
  (case l44=>k_is)
  (case c44=>k_is)
  (case k44=>k_is)
  (case a45=>k_is)
  (case l45=>k_is)
  (case c45=>k_is)
  (case k45=>k_is)
  (case a46=>k_is)
  (case l46=>k_is)
  (case c46=>k_is)
  (case k46=>k_is)
  (case a47=>k_is)
  (case l47=>k_is)
  (case c47=>k_is)
  (case k47=>k_is)
  (case a48=>k_is)
  (case l48=>k_is)
  (case c48=>k_is)
  (case k48=>k_is)
  (case a49=>k_is)
  (case l49=>k_is)
  (case c49=>k_is)
  (case k49=>k_is)
  (case a50=>k_is)
  (case l50=>k_is)
  (case c50=>k_is)
  (case k50=>k_is)
  (case a51=>k_is)
  (case l51=>k_is)
  (case c51=>k_is)
  (case k51=>k_is)
  (case y_isinstance=>k_is)
  (case y_str=>k_is)
  (case y_int=>k_is)
  (case y_bool=>k_is)
  (case y_tuple=>k_is)
  (case y_len=>k_is)
  (case y_range=>k_is)
  (case y_list=>k_is)
  (case y_zip=>k_is)
  (case y_enumerate=>k_is)
  (case y_sorted=>k_is)
  (case y_set=>k_is)
  (case y_max=>k_is)
  (case y_min=>k_is)
  (case n_NumberedStep=>k_is)
  (case pg_NumberedStep=>k_is)
  (case hd_NumberedStep=>k_is)
  (case po_NumberedStep=>k_is)
  (case sa_NumberedStep=>k_is)
  (case mk_NumberedStep=>k_is)
  (case kc_NumberedStep=>k_is)
  (case nf_kind=>k_is)
  (case nf_parts=>k_is)
  (case nf_lines=>k_is)
  (case nf_blocks=>k_is)
  (case aNumberedStep___init__=>k_is)
  (case iNumberedStep___init__=>k_is)
  (case lNumberedStep___init__=>k_is)
  (case cNumberedStep___init__=>k_is)
  (case kNumberedStep___init__=>k_is)
  (case h_PARTS=>k_is)
  (case ld_PARTS=>k_is)
  (case la_PARTS_0=>k_is)
  (case la_PARTS_1=>k_is)
  (case la_PARTS_2=>k_is)
  (case la_PARTS_3=>k_is)
  (case la_PARTS_4=>k_is)
  (case la_PARTS_5=>k_is)
  (case la_PARTS_6=>k_is)
  (case la_PARTS_7=>k_is)
  (case dz_PARTS=>decide)
  (case h_CLOSERS=>k_is)
  (case ld_CLOSERS=>k_is)
  (case la_CLOSERS_0=>k_is)
  (case la_CLOSERS_1=>k_is)
  (case la_CLOSERS_2=>k_is)
  (case dz_CLOSERS=>decide)
#print axioms PySem.Challenge.cw_usewarden_k54_which_break_holds
